/- The solver's pure side: the types of what is joined. -/
import Derived.Test.YtiiokkllmchohaaGreatT13
import Derived.Test.YtiiokkllmchohaaGreatT14
/- SolV -/
namespace Go.Proofs.YtiiokkllmchohaaGreat
open Go.RowKit

theorem chain_lt (p : List LClass) : ∀ (f : Nat) (c : Int) (x : Nat), x ∈ chain p f c → x < p.length
  | 0, _, _, h => by simp [chain] at h
  | f + 1, c, x, h => by
    unfold chain at h
    split at h
    · simp at h
    · cases hp : p[c.toNat]? with
      | none => rw [hp] at h; simp at h
      | some y =>
        rw [hp] at h
        rcases List.mem_cons.1 h with rfl | h
        · exact (List.getElem?_eq_some_iff.1 hp).1
        · exact chain_lt p f _ x h
theorem joinB_ok (p : List LClass) (a b : Int) (hb : tyOk p.length b) : tyOk p.length (joinB p a b) := by
  unfold joinB
  split
  · exact hb
  · split
    · unfold upB
      split
      · rename_i c hc
        have := chain_lt p _ _ c (List.mem_of_find?_eq_some hc)
        exact ⟨by omega, by omega⟩
      · exact ⟨by omega, by omega⟩
    · exact ⟨by omega, by omega⟩
theorem getD_ok {n : Nat} {l : List Int} (h : ∀ x ∈ l, tyOk n x) (i : Nat) : tyOk n (l.getD i 0) := by
  rw [List.getD_eq_getElem?_getD]
  cases e : l[i]? with
  | none => exact ⟨by simp, by simp; omega⟩
  | some x => exact h x (List.mem_of_getElem? e)
theorem set_ok {n : Nat} {l : List Int} (h : ∀ x ∈ l, tyOk n x) (i : Nat) {t : Int} (ht : tyOk n t) : ∀ x ∈ l.set i t, tyOk n x := fun x hx => by
  rcases List.mem_or_eq_of_mem_set hx with h' | rfl
  · exact h x h'
  · exact ht
theorem joinK_ok {p : List LClass} {s t : TSt} (hs : ∀ x ∈ s.loc, tyOk p.length x) (ht : ∀ x ∈ t.loc, tyOk p.length x) : ∀ k, ∀ x ∈ (joinK p s t k).loc, tyOk p.length x
  | 0 => hs
  | k + 1 => set_ok (joinK_ok hs ht k) k (joinB_ok p _ _ (getD_ok ht k))
theorem joinT_loc (p : List LClass) (s t : TSt) : ∀ k, (joinT p s t k).loc = (joinK p s t 8).loc
  | 0 => rfl
  | k + 1 => joinT_loc p s t k
theorem joinT_ok {p : List LClass} {s t : TSt} (hs : ∀ x ∈ s.stk, tyOk p.length x) (ht : ∀ x ∈ t.stk, tyOk p.length x) : ∀ k, ∀ x ∈ (joinT p s t k).stk, tyOk p.length x
  | 0 => by
    show ∀ x ∈ (joinK p s t 8).stk, _
    rw [joinK_stk]; exact hs
  | k + 1 => set_ok (joinT_ok hs ht k) k (joinB_ok p _ _ (getD_ok ht k))
theorem joinS_ty {p : List LClass} {k : Int} {s t : TSt} (hs : TyS p.length k s) (ht : TyS p.length k t) : TyS p.length k (joinS p s t) := by
  refine ⟨?_, joinT_ok hs.2.1 ht.2.1 _, ?_⟩
  · show ∀ x ∈ (joinT p s t _).loc, _
    rw [joinT_loc]; exact joinK_ok hs.1 ht.1 8
  · show ((joinT p s t _).stk.length : Int) ≤ k
    rw [joinT_len]; exact hs.2.2
def SvTy (p : List LClass) (k : Int) (s : SvSt) : Prop := ∀ x ∈ s.st, TyS p.length k x
theorem SvTy.get {p : List LClass} {k : Int} {s : SvSt} (h : SvTy p k s) {i : Nat} (hi : i < s.st.length) : TyS p.length k (s.st.getD i zeroS) := by
  rw [List.getD_eq_getElem?_getD, List.getElem?_eq_getElem hi]
  exact h _ (List.getElem_mem hi)
theorem SvTy.put {p : List LClass} {k : Int} {s : SvSt} (h : SvTy p k s) (i : Nat) {g : TSt} (hg : TyS p.length k g) : SvTy p k (putP s i g) := fun x hx => by
  rcases List.mem_or_eq_of_mem_set hx with h' | rfl
  · exact h x h'
  · exact hg
theorem SvTy.reach {p : List LClass} {k : Int} {s s' : SvSt} (h : SvTy p k s) {i : Nat} (hi : i < s.st.length) {g : TSt} (hg : TyS p.length k g) (e : reachP p i g s = some s') : SvTy p k s' := by
  unfold reachP at e
  split at e
  · split at e
    · obtain rfl := Option.some.inj e; exact h
    · split at e
      · obtain rfl := Option.some.inj e; exact h.put i (joinS_ty (h.get hi) hg)
      · cases e
  · obtain rfl := Option.some.inj e; exact h.put i hg
theorem sv0_ty (p : List LClass) {k : Int} (hk : 0 ≤ k) : SvTy p k sv0 := fun x hx => by
  obtain rfl := List.eq_of_mem_replicate hx
  refine ⟨fun x hx => ?_, fun x hx => (by cases hx), by simpa [zeroS] using hk⟩
  obtain rfl := List.eq_of_mem_replicate hx
  exact ⟨by omega, by omega⟩
end Go.Proofs.YtiiokkllmchohaaGreat
/- The solver's pure side: where an instruction goes on; what a round keeps. -/
namespace Go.Proofs.YtiiokkllmchohaaGreat
open Go.RowKit

theorem jump_in {p : List LClass} {m : LMeth} {i : LIns} (h : insB p m i = true) (hj : jumpsB i = true) : 0 ≤ i.a ∧ i.a < (m.code.length : Int) := by
  unfold jumpsB at hj
  have ho : i.op = 7 ∨ i.op = 8 ∨ i.op = 18 := by simpa [or_assoc] using hj
  unfold insB at h
  rw [if_neg (by rcases ho with e | e | e <;> rw [e] <;> decide), if_neg (by rcases ho with e | e | e <;> rw [e] <;> decide), if_pos ho] at h
  have := (Bool.and_eq_true_iff.1 h).1
  unfold placeB at this
  simpa using this
theorem onward_in {p : List LClass} {m : LMeth} {pc : Nat} (hpc : pc < m.code.length) (hi : ∀ i ∈ m.code, insB p m i = true) {s n : TSt} (hn : nextS p m pc s = some n) : ∀ y ∈ onwardL (insAt m pc) pc, 0 ≤ y.1 ∧ y.1 < (m.code.length : Int) := by
  have he : endB m pc = false := by
    unfold nextS at hn
    cases hd : doS p m (insAt m pc) s with
    | none => rw [hd] at hn; cases hn
    | some x =>
      rw [hd] at hn
      cases he : endB m pc with
      | false => rfl
      | true => simp [he] at hn
  intro y hy
  have hne : y.1 ≠ (m.code.length : Int) := fun e => by
    have : endB m pc = true := by
      unfold endB
      exact List.any_eq_true.2 ⟨y, hy, by simpa using e⟩
    rw [he] at this; cases this
  have hX : insB p m (insAt m pc) = true := by
    unfold insAt
    rw [List.getElem?_eq_getElem hpc]
    exact hi _ (List.getElem_mem hpc)
  unfold onwardL at hy
  rcases List.mem_append.1 hy with h | h
  · split at h
    · rename_i hj
      obtain rfl := List.mem_singleton.1 h
      exact jump_in hX hj
    · cases h
  · split at h
    · obtain rfl := List.mem_singleton.1 h
      dsimp only at hne ⊢
      omega
    · cases h
end Go.Proofs.YtiiokkllmchohaaGreat
/- The pass: what must be below a frame. -/
namespace Go.Proofs.YtiiokkllmchohaaGreat
open Go.RowKit Go.Shelf
attribute [local go_sem ↓] Go.wp_at_zero Go.wp_at_succ
attribute [local go_sem] frz_drew

def MustR (b : Bool) (w w' : World) (e : Ending) : Prop := (b = true → e = .returned (.tuple #[])) ∧ (b = false → e = .panicked (refC 5)) ∧ Below w.heap.size w w'
set_option maxHeartbeats 1000000 in
set_option maxRecDepth 100000 in
theorem must_below (p : List LClass) (vc : Value) (s t : TSt) (cs ds : List Value) (w : World) (hp : RProg w vc p) (hs : SupOk p p.length) (hz : p.length ≤ 4194304) (hS : StC s cs) (hT : StC t ds) (k k' : Int) (ts : TyS p.length k s) (tt : TyS p.length k' t) :
    Calls Tryz.prog 101 #[.agg #[vc], .agg cs.toArray, .agg ds.toArray] w fun e w' => MustR (belowS p s t) w w' e := by
  have HP := hide hp
  have sl := hS.len
  have tl := hT.len
  obtain ⟨pa, _, _, pcap, rfl, _⟩ := hp
  have hbel : Below w.heap.size w (((w.alloc (.cells #[.slice pa p.length pcap] 24)).alloc (.cells cs.toArray 130)).alloc (.cells ds.toArray 130)) := ((box_below w _).alloc (by simp) _).alloc (by simp; omega) _
  have B1 : Blk (((w.alloc (.cells #[.slice pa p.length pcap] 24)).alloc (.cells cs.toArray 130)).alloc (.cells ds.toArray 130)) (w.heap.size + 1) 130 cs := by
    have := Blk.new (w.alloc (.cells #[.slice pa p.length pcap] 24)) cs.toArray 130
    rw [World.size_alloc] at this
    exact this.alloc _
  have B2 : Blk (((w.alloc (.cells #[.slice pa p.length pcap] 24)).alloc (.cells cs.toArray 130)).alloc (.cells ds.toArray 130)) (w.heap.size + 1 + 1) 130 ds := by
    have := Blk.new ((w.alloc (.cells #[.slice pa p.length pcap] 24)).alloc (.cells cs.toArray 130)) ds.toArray 130
    rw [World.size_alloc, World.size_alloc] at this
    exact this
  have HRP := hide (prog_keep (Keeps.of_below hbel) (unhide HP))
  go_enter Tryz.func101, Tryz.ntmps101
  go_wp2_with (first
    | refine wpList_load_blk aggSt B1 0 cs sl (fun j v e => by simpa using e) (.tmp 4) rfl rfl rfl ?_
    | refine wpList_load_blk aggSt B2 0 ds tl (fun j v e => by simpa using e) (.tmp 5) rfl rfl rfl ?_)
  refine (st_below p _ s t cs ds _ (unhide HRP) hs hz hS hT ts.1 ts.2.1 tt.1 tt.2.1).mono ?_
  rintro e w1 ⟨rfl, hb1⟩
  have hbw := hbel.trans (hb1.mono hbel.size)
  cases hq : belowS p s t with
  | true =>
    have HQ := hide hq
    clear hq
    go_wp2_with fail
    go_end0
    exact ⟨fun _ => rfl, fun e => (by rw [unhide HQ] at e; cases e), hbw⟩
  | false =>
    have HQ := hide hq
    clear hq
    go_wp2_with (go_at_call 140; refine (code_giveUp _ _).mono ?_; rintro e w' ⟨rfl, rfl⟩)
    exact ⟨rfl, fun e => (by rw [unhide HQ] at e; cases e), fun _ => rfl, hbw⟩

set_option maxHeartbeats 1000000 in
set_option maxRecDepth 100000 in
theorem must_framed (p : List LClass) (vc : Value) (m : LMeth) (va vco vf : Value) (pc : Int) (s : TSt) (cs : List Value) (w : World) (hp : RProg w vc p) (hs : SupOk p p.length) (hz : p.length ≤ 4194304) (hv : GVals w.cell? m va vco vf) (hF : FrOk p m) (h40 : m.frames.length ≤ 40) (hS : StC s cs) (k : Int) (ts : TyS p.length k s) :
    Calls Tryz.prog 104 #[.agg #[vc], methV m va vco vf, .int .i64 pc, .agg cs.toArray] w fun e w' => MustR (frOk p m s pc) w w' e := by
  have HP := hide hp
  have HV := hide hv
  have sl := hS.len
  unfold methV
  obtain ⟨hva, hvc, hvf⟩ := hv
  obtain ⟨aa, _, _, acap, rfl, _⟩ := hva
  obtain ⟨ca, _, _, ccap, rfl, _⟩ := hvc
  obtain ⟨fa, _, _, fcap, rfl, _⟩ := hvf
  obtain ⟨pa, _, _, pcap, rfl, _⟩ := hp
  have hbel : Below w.heap.size w (((w.alloc (.cells #[.slice pa p.length pcap] 24)).alloc (.cells #[.int .i64 m.slot, .slice aa m.args.length acap, .int .i64 m.ret, .int .i64 m.locals, .int .i64 m.stack, .slice ca m.code.length ccap, .slice fa m.frames.length fcap] 63)).alloc (.cells cs.toArray 130)) := ((box_below w _).alloc (by simp) _).alloc (by simp; omega) _
  have B0 : Blk (((w.alloc (.cells #[.slice pa p.length pcap] 24)).alloc (.cells #[.int .i64 m.slot, .slice aa m.args.length acap, .int .i64 m.ret, .int .i64 m.locals, .int .i64 m.stack, .slice ca m.code.length ccap, .slice fa m.frames.length fcap] 63)).alloc (.cells cs.toArray 130)) w.heap.size 24 [.slice pa p.length pcap] := ((Blk.new w _ _).alloc _).alloc _
  have B2 : Blk (((w.alloc (.cells #[.slice pa p.length pcap] 24)).alloc (.cells #[.int .i64 m.slot, .slice aa m.args.length acap, .int .i64 m.ret, .int .i64 m.locals, .int .i64 m.stack, .slice ca m.code.length ccap, .slice fa m.frames.length fcap] 63)).alloc (.cells cs.toArray 130)) (w.heap.size + 1 + 1) 130 cs := by
    have := Blk.new ((w.alloc (.cells #[.slice pa p.length pcap] 24)).alloc (.cells #[.int .i64 m.slot, .slice aa m.args.length acap, .int .i64 m.ret, .int .i64 m.locals, .int .i64 m.stack, .slice ca m.code.length ccap, .slice fa m.frames.length fcap] 63)) cs.toArray 130
    rw [World.size_alloc, World.size_alloc] at this
    exact this
  have HVW := hide (GVals.keep (Keeps.of_below hbel) (unhide HV))
  go_enter Tryz.func104, Tryz.ntmps104
  go_wp2_with fail
  refine (pass_frameAt p m _ _ _ pc _ (unhide HVW) hF h40).mono ?_
  rintro e w1 ⟨rfl, hb1⟩
  replace B0 := B0.below hb1 B0.lt
  replace B2 := B2.below hb1 B2.lt
  have hbw := hbel.trans (hb1.mono hbel.size)
  clear hb1 hbel HVW
  unfold frameV
  cases hf : frameAtS m pc with
  | none =>
    have HN : Hid (frOk p m s pc = false) := by show _ = _; unfold frOk; rw [hf]
    clear hf
    dsimp only
    go_wp2_with (first
      | (refine wpList_store_blk aggSt (Blk.new _ _ _) 0 zero17 rfl (by simp) zero17_one (.tmp 8) (.tmp 14) rfl rfl rfl rfl ?_; intro w2 hB2 hM2 hs2)
      | (go_at_call 140; refine (code_giveUp _ _).mono ?_; rintro e w' ⟨rfl, rfl⟩))
    refine ⟨rfl, fun e => (by rw [unhide HN] at e; cases e), fun _ => rfl, ?_⟩
    have hb2 := (box_below w1 _).trans (hM2.below (by simp) (fun k hk e => by omega))
    exact hbw.trans (hb2.mono hbw.size)
  | some t =>
    have HN : Hid (frOk p m s pc = belowS p s t) := by show _ = _; unfold frOk; rw [hf]
    obtain ⟨f, hfm, rfl⟩ := frameAtS_mem hf
    obtain ⟨f1, f2, ft⟩ := hF f hfm
    have hok := okS_told f1 f2
    clear hf
    dsimp only
    go_wp2_with (first
      | (refine wpList_store_blk aggSt (Blk.new _ _ _) 0 _ (stCells_len hok) (by simp) (StC_cells hok).one (.tmp 8) (.tmp 14) rfl rfl rfl rfl ?_; intro w2 hB2 hM2 hs2; rw [putAt_all (by rw [stCells_len hok]; rfl)] at hB2; have hb2 := (box_below w1 _).trans (hM2.below (by simp) (fun k hk e => by omega)); have C2 := B2.below hb2 B2.lt; have c0 : w2.cell? ⟨w.heap.size, 0, none⟩ = some (.slice pa p.length pcap) := (B0.below hb2 B0.lt).cell 0)
      | refine wpList_load_blk aggSt C2 0 cs sl (fun j v e => by simpa using e) (.tmp 7) rfl rfl rfl ?_
      | refine wpList_load_blk aggSt hB2 0 _ (stCells_len hok) (fun j v e => by simpa using e) (.tmp 8) rfl rfl rfl ?_)
    have hbw2 := hbw.trans (hb2.mono hbw.size)
    have HRP := hide (prog_keep (Keeps.of_below hbw2) (unhide HP))
    refine (must_below p _ s (toldS f) cs _ _ (unhide HRP) hs hz hS (StC_cells hok) _ _ ts ft).mono ?_
    rintro e w3 ⟨h1, h2, hb3⟩
    have hbw3 := hbw2.trans (hb3.mono hbw2.size)
    cases hq : belowS p s (toldS f) with
    | true =>
      obtain rfl := h1 hq
      have HN' : Hid (frOk p m s pc = true) := by show _ = _; rw [unhide HN, hq]
      clear hq h1 h2
      go_wp2_with fail
      go_end0
      exact ⟨fun _ => rfl, fun e => (by rw [unhide HN'] at e; cases e), hbw3⟩
    | false =>
      obtain rfl := h2 hq
      have HN' : Hid (frOk p m s pc = false) := by show _ = _; rw [unhide HN, hq]
      clear hq h1 h2
      go_wp2_with fail
      exact ⟨rfl, fun e => (by rw [unhide HN'] at e; cases e), fun _ => rfl, hbw3⟩
end Go.Proofs.YtiiokkllmchohaaGreat
/- The pass. -/
namespace Go.Proofs.YtiiokkllmchohaaGreat
open Go.RowKit Go.Shelf
attribute [local go_sem ↓] Go.wp_at_zero Go.wp_at_succ
attribute [local go_sem] frz_drew
attribute [local go_sem] Oper.semAt_some

section
variable {P : Program} {f : FuncId} {Q : Exit → Act → World → Prop} {a : Act} {w : World}
theorem wpF_mid {x y : Code} {J : Act → World → Prop} (h2 : ∀ a w, J a w → wpF P f y Q a w) (h1 : wpF P f x (Exit.then J Q) a w) : wpF P f (x.seq y) Q a w :=
  wpF_seq (wpF_mono h1 fun e _ _ h => match e, h with
    | .normal, h => h2 _ _ h
    | .exit _, h => h
    | .goto _, h => h
    | .ret, h => h
    | .panic _, h => h
    | .outgrown, h => h)
theorem wpF_mid4 {r4 r5 x y z : Code} {J : Act → World → Prop} (h2 : ∀ a w, J a w → wpF P f z Q a w)
    (h1 : wpF P f r4 (Exit.then (wpF P f r5 (Exit.then (wpF P f x (Exit.then (wpF P f y (Exit.then J Q)) Q)) Q)) Q) a w) : wpF P f (r4.seq (r5.seq (x.seq (y.seq z)))) Q a w :=
  wpF_mid (fun _ _ h => wpF_mid (fun _ _ h => wpF_mid (fun _ _ h => wpF_mid h2 h) h) h) h1
end
def markOf (D : Nat) : Deferred := { target := .collected D, args := #[] }
theorem marks_leave {P : Program} {fn : Func} {tmps : Array Value} {R : Ending → World → Prop} {u : FrameMode} (hu : u ≠ .run) (B : Nat) : ∀ (ds : List Nat) (V : World), ds.Nodup → (∀ D ∈ ds, V.heap[D]? = some (.deferred (some []))) → (∀ D ∈ ds, B ≤ D) →
    (∀ V', Below B V V' → LeavesIn Fence.wide 0 P fn tmps R [] u V') → LeavesInM Fence.wide 0 P fn tmps R (ds.map markOf) u V
  | [], V, _, _, _, h => h V (Below.refl _ _)
  | D :: ds, V, hn, hk, hB, h => ⟨hu, .inl ⟨D, V.putObj D (.deferred none), rfl, run_takeDeferred (hk D (by simp)), marks_leave hu B ds _ (List.nodup_cons.1 hn).2
      (fun E hE => (World.putObj_heap_other (fun e => (List.nodup_cons.1 hn).1 (by rw [← e]; exact hE))).trans (hk E (by simp [hE]))) (fun E hE => hB E (by simp [hE]))
      (fun V' hV => h V' ((below_putObj (Below.refl B V) (hB D (by simp)) _).trans (hV)))⟩⟩

structure PassI (w V : World) (p : List LClass) (m : LMeth) (bh ba : Nat) (vp : Value) (mc : List Value) (ds : List Nat) (h : Option TSt) : Prop where
  bel : Below w.heap.size w V
  bp : Blk V w.heap.size 24 [vp]
  bm : Blk V (w.heap.size + 1) 63 mc
  hd : ∃ cs, cs.length = 17 ∧ Blk V bh 130 cs ∧ ∀ s, h = some s → StC s cs ∧ TyS p.length m.stack s
  at_ : Blk V ba 4 [.bool h.isSome]
  mks : ∀ D ∈ ds, V.heap[D]? = some (.deferred (some []))
  lo : ∀ D ∈ ds, w.heap.size ≤ D
  nd : ds.Nodup
theorem heap_below {B : Nat} {V V' : World} {ds : List Nat} (h : Below B V V') (hB : V.heap.size ≤ B) (hm : ∀ D ∈ ds, V.heap[D]? = some (.deferred (some []))) : ∀ D ∈ ds, V'.heap[D]? = some (.deferred (some [])) :=
  fun D hD => (h.block D (by have := (Array.getElem?_eq_some_iff.1 (hm D hD)).1; omega)).trans (hm D hD)
theorem PassI.below {w V V' : World} {p : List LClass} {m : LMeth} {bh ba : Nat} {vp : Value} {mc : List Value} {ds : List Nat} {h : Option TSt} (i : PassI w V p m bh ba vp mc ds h) (b : Below V.heap.size V V') : PassI w V' p m bh ba vp mc ds h := by
  obtain ⟨cs, h1, h2, h3⟩ := i.hd
  exact ⟨i.bel.trans (b.mono i.bel.size), i.bp.below b i.bp.lt, i.bm.below b i.bm.lt, ⟨cs, h1, h2.below b h2.lt, h3⟩, i.at_.below b i.at_.lt, heap_below b (Nat.le_refl _) i.mks, i.lo, i.nd⟩
def PassR (b : Bool) (w w' : World) (e : Ending) : Prop := MustR b w w' e
theorem pass_leave {P : Program} {fn : Func} {tmps : Array Value} {w V : World} {p : List LClass} {m : LMeth} {bh ba : Nat} {vp : Value} {mc : List Value} {ds : List Nat} {h : Option TSt} {b : Bool} (i : PassI w V p m bh ba vp mc ds h) (hb : b = true) (hr : fn.results = #[]) :
    marksPost P fn (fun e w' => PassR b w w' e) .normal { tmps := tmps, defers := ds.map markOf } V :=
  marks_leave (by simp) w.heap.size ds V i.nd i.mks i.lo (fun V' hV => ⟨_, results_none hr _ _ _, fun _ => rfl, fun e => (by rw [hb] at e; cases e), i.bel.trans hV⟩)
theorem pass_quit {P : Program} {fn : Func} {tmps : Array Value} {w V : World} {ds : List Nat} {b : Bool} (hV : Below w.heap.size w V) (nd : ds.Nodup) (mk : ∀ D ∈ ds, V.heap[D]? = some (.deferred (some []))) (lo : ∀ D ∈ ds, w.heap.size ≤ D) (hb : b = false) :
    marksPost P fn (fun e w' => PassR b w w' e) (.panic (refC 5)) { tmps := tmps, defers := ds.map markOf } V :=
  marks_leave (by simp) w.heap.size ds V nd mk lo (fun V' hV' => ⟨fun e => (by rw [hb] at e; cases e), fun _ => rfl, hV.trans hV'⟩)

theorem passK_none {p : List LClass} {c : Int} {m : LMeth} {k : Nat} (h : passK p c m k = none) : ∀ n, k ≤ n → passK p c m n = none := by
  intro n hn
  induction n with
  | zero => obtain rfl : k = 0 := by omega
            exact h
  | succ n ih =>
    rcases Nat.lt_or_ge n k with h1 | h1
    · obtain rfl : k = n + 1 := by omega
      exact h
    · unfold passK
      rw [ih h1]; rfl
theorem passB_no {p : List LClass} {c : Int} {m : LMeth} {k : Nat} {h : Option TSt} (hk : k < m.code.length) (h1 : passK p c m k = some h) (h2 : stepS p m k h = none) : passB p c m = false := by
  unfold passB
  rw [passK_none (k := k + 1) (by unfold passK; rw [h1]; exact h2) _ (by omega)]; rfl

theorem wpListIn_load_blk {F : Fence} {N : Nat} {P : Program} {ty : TypeId} {n : Nat} (h : AggOk P ty n) {w : World} {g : Nat} {t : TypeId} {cur : List Value} (hB : Blk w g t cur) (off : Nat) (vs : List Value) (hl : vs.length = n) (hv : ∀ j v, vs[j]? = some v → cur[off + j]? = some v)
    {ops : Array Oper} {rest : List Oper} {o : Oper} {a : Act} {Q : Exit → Act → World → Prop} (x : Operand) (hgd : o.guard = none) (ho : o.op = .load ty x) (hx : a.eval x = .pointer (some ⟨g, off, none⟩))
    (hK : wpListIn F N P ops Q rest (a.put o.dst (.agg vs.toArray)) w) : wpListIn F N P ops Q (o :: rest) a w := by
  refine wpListIn_plain hgd fun K hK' => ?_
  unfold Oper.wpIn
  refine ⟨by simp [Oper.about, ho], ?_⟩
  rw [Oper.semAt_plain F _ _ (by rw [ho]; intro c hc'; cases hc'), exec_load_blk h hB off vs hl hv ho hx]
  exact hK' _ _ hK
theorem mark_ne {V : World} {D g : Nat} {t : TypeId} {cs : List Value} {x : Option (List Deferred)} (h1 : V.heap[D]? = some (.deferred x)) (h2 : Blk V g t cs) : D ≠ g := by
  rintro rfl
  unfold Blk at h2
  rw [h1] at h2
  cases h2
section
variable {w V V' : World} {p : List LClass} {m : LMeth} {bh ba : Nat} {vp : Value} {mc : List Value} {ds : List Nat} {h : Option TSt}
theorem PassI.put (i : PassI w V p m bh ba vp mc ds h) (hwb : w.heap.size + 1 < bh) (hab : bh < ba) (hm : Mods (fun j => j = bh) V V') {cs : List Value} (hB : Blk V' bh 130 cs) (hl : cs.length = 17) (h' : Option TSt) (hs : ∀ s, h' = some s → StC s cs ∧ TyS p.length m.stack s) :
    PassI w (V'.setCell ⟨ba, 0, none⟩ (.bool h'.isSome)) p m bh ba vp mc ds h' := by
  obtain ⟨cs0, _, hB0, _⟩ := i.hd
  have A := (i.at_.mods hm (by omega)).setCell 0 (.bool h'.isSome)
  refine ⟨(i.bel.trans (hm.below i.bel.size (fun k hk e => by omega))).setCell (p := ⟨ba, 0, none⟩) (by dsimp only; omega) _, (i.bp.mods hm (by omega)).setCell_ne (by dsimp only; omega) _, (i.bm.mods hm (by omega)).setCell_ne (by dsimp only; omega) _,
    ⟨cs, hl, hB.setCell_ne (by dsimp only; omega) _, hs⟩, A, fun D hD => ?_, i.lo, i.nd⟩
  have hk := i.mks D hD
  have h1 := (hm.block D (Array.getElem?_eq_some_iff.1 hk).1 (mark_ne hk hB0)).trans hk
  have h2 := mark_ne hk i.at_
  exact (Below.heap_setCell _ _ _ _ h2).trans h1
theorem PassI.modsN {w5 : World} {h5 : Option TSt} (i : PassI w V p m bh ba vp mc ds h) (j : PassI w w5 p m bh ba vp mc ds h5) (hm : Mods (fun k => w5.heap.size ≤ k) V V') : PassI w V' p m bh ba vp mc ds h := by
  obtain ⟨cs, h1, h2, h3⟩ := i.hd
  obtain ⟨_, _, g2, _⟩ := j.hd
  have l1 := j.bp.lt
  have l2 := j.bm.lt
  have l3 := g2.lt
  have l4 := j.at_.lt
  exact ⟨i.bel.trans (hm.below i.bel.size (fun k hk e => by omega)), i.bp.mods hm (by omega), i.bm.mods hm (by omega), ⟨cs, h1, h2.mods hm (by omega), h3⟩, i.at_.mods hm (by omega),
    fun D hD => (hm.block D (Array.getElem?_eq_some_iff.1 (i.mks D hD)).1 (by have := (Array.getElem?_eq_some_iff.1 (j.mks D hD)).1; omega)).trans (i.mks D hD), i.lo, i.nd⟩
theorem PassI.mark {w5 : World} {h5 : Option TSt} (i : PassI w V p m bh ba vp mc ds h) (j : PassI w w5 p m bh ba vp mc ds h5) {D : Nat} (hk : V.heap[D]? = some (.deferred (some []))) (hD : w5.heap.size ≤ D) : PassI w V p m bh ba vp mc (D :: ds) h := by
  refine ⟨i.bel, i.bp, i.bm, i.hd, i.at_, fun E hE => ?_, fun E hE => ?_, List.nodup_cons.2 ⟨fun hE => ?_, i.nd⟩⟩
  · rcases List.mem_cons.1 hE with rfl | h
    · exact hk
    · exact i.mks E h
  · rcases List.mem_cons.1 hE with rfl | h
    · have := j.bp.lt; omega
    · exact i.lo E h
  · have := (Array.getElem?_eq_some_iff.1 (j.mks D hE)).1; omega
end
theorem any_falls (i : LIns) (pc : Nat) : (onwardL i pc).any (fun y => !y.2) = fallsB i := by
  unfold onwardL
  cases jumpsB i <;> cases fallsB i <;> rfl
end Go.Proofs.YtiiokkllmchohaaGreat
/- The solver: reach, whole; goOn. -/
namespace Go.Proofs.YtiiokkllmchohaaGreat
open Go.RowKit Go.Shelf
attribute [local go_sem ↓] Go.wp_at_zero Go.wp_at_succ
attribute [local go_sem] frz_drew
attribute [local go_sem] Oper.semAt_some

def SvR (p : List LClass) (k : Int) (r : Option SvSt) (bs : Nat) (vp : Value) (mc : List Value) (w w' : World) (e : Ending) : Prop :=
  (∀ s', r = some s' → e = .returned (.tuple #[]) ∧ SvAt w' bs vp mc s' ∧ SvTy p k s') ∧ (r = none → e = .panicked (refC 5)) ∧ Mods (fun k => k = bs) w w'
theorem SvR.yes {p : List LClass} {k : Int} {r : Option SvSt} {s' : SvSt} {bs : Nat} {vp : Value} {mc : List Value} {w w' : World} {e : Ending} (hr : r = some s') (he : e = .returned (.tuple #[])) (hS : SvAt w' bs vp mc s') (hT : SvTy p k s') (hM : Mods (fun k => k = bs) w w') : SvR p k r bs vp mc w w' e :=
  ⟨fun s2 e2 => (by rw [hr] at e2; obtain rfl := Option.some.inj e2; exact ⟨he, hS, hT⟩), fun e2 => (by rw [hr] at e2; cases e2), hM⟩
theorem SvR.no {p : List LClass} {k : Int} {r : Option SvSt} {bs : Nat} {vp : Value} {mc : List Value} {w w' : World} (hr : r = none) (hM : Mods (fun k => k = bs) w w') : SvR p k r bs vp mc w w' (.panicked (refC 5)) :=
  ⟨fun s2 e2 => (by rw [hr] at e2; cases e2), fun _ => rfl, hM⟩
theorem sv_reach (p : List LClass) (i : Nat) (g : TSt) (c : List Value) (w : World) (bs : Nat) (vp : Value) (mc : List Value) (s : SvSt) (h : SvAt w bs vp mc s) (hm : mc.length = 7) (hi : i < 40) (hg : StC g c) (hp : RProg w vp p) (hs : SupOk p p.length) (hz : p.length ≤ 4194304)
    (k : Int) (tg : TyS p.length k g) (ti : SvTy p k s) :
    Calls Tryz.prog 78 #[.pointer (some ⟨bs, 0, none⟩), .int .i64 (i : Int), .agg c.toArray] w fun e w' => SvR p k (reachP p i g s) bs vp mc w w' e := by
  have hl : i < s.st.length := by obtain ⟨_, hC, _⟩ := h; rw [hC.l1]; exact hi
  cases hre : s.re.getD i false with
  | false =>
    have hr : reachP p i g s = some (putP s i g) := by unfold reachP; rw [hre]; rfl
    refine (sv_reach_new i g c w bs vp mc s h hm hi hg hre).mono ?_
    rintro e w' ⟨h1, h2, h3⟩
    exact SvR.yes hr h1 h2 (ti.reach hl tg hr) h3
  | true =>
    cases hb : belowS p g (s.st.getD i zeroS) with
    | true =>
      have hr : reachP p i g s = some s := by unfold reachP; rw [if_pos hre, if_pos hb]
      refine (sv_reach_below p i g c w bs vp mc s h hm hi hg hre hp hs hz k k tg (ti.get hl) hb).mono ?_
      rintro e w' ⟨h1, h2, h3⟩
      exact SvR.yes hr h1 h2 (ti.reach hl tg hr) h3
    | false =>
      refine (sv_reach_join p i g c w bs vp mc s h hm hi hg hre hp hs hz k k tg (ti.get hl) hb).mono ?_
      rintro e w' ⟨h1, h2, h3⟩
      by_cases hq : (s.st.getD i zeroS).stk.length = g.stk.length
      · have hr : reachP p i g s = some (putP s i (joinS p (s.st.getD i zeroS) g)) := by unfold reachP; rw [if_pos hre, if_neg (by rw [hb]; decide), if_pos hq]
        exact SvR.yes hr (h1 hq).1 (h1 hq).2 (ti.reach hl tg hr) h3
      · have hr : reachP p i g s = none := by unfold reachP; rw [if_pos hre, if_neg (by rw [hb]; decide), if_neg hq]
        obtain rfl := h2 hq
        exact SvR.no hr h3

def outQ (K : Act → World → Prop) (R : Ending → World → Prop) : Exit → Act → World → Prop
  | .normal, a, w => K a w
  | .panic c, a, w => a.defers = [] ∧ R (.panicked c) w
  | _, _, _ => False
theorem wpF_seq_out {P : Program} {f : FuncId} {fn : Func} {R : Ending → World → Prop} {a : Act} {w : World} {x y : Code} (h : x.wp P (outQ (wpF P f y (marksPost P fn R)) R) a w) : wpF P f (Code.seq x y) (marksPost P fn R) a w := by
  refine wpF_seq_wp (Code.wp_mono ?_ h)
  intro e a w hq
  cases e with
  | normal => exact hq
  | panic c =>
    obtain ⟨hd, hR⟩ := hq
    obtain ⟨tmps, defers⟩ := a
    obtain rfl : defers = [] := hd
    exact hR
  | ret => exact hq.elim
  | exit id => exact hq.elim
  | goto l => exact hq.elim
  | outgrown => exact hq.elim
def methCs (m : LMeth) (va vco vf : Value) : List Value := [.int .i64 m.slot, va, .int .i64 m.ret, .int .i64 m.locals, .int .i64 m.stack, vco, vf]
def GoI (p : List LClass) (k : Int) (n : TSt) (outs : List (Int × Bool)) (s : SvSt) (bs b2 b4 : Nat) (vp : Value) (mc cn : List Value) (w : World) (sz : Nat) (xs : List (Int × Bool)) (V : World) : Prop :=
  ∃ s1, SvAt V bs vp mc s1 ∧ SvTy p k s1 ∧ reachAll p n xs s1 = reachAll p n outs s ∧ (∃ dn, outs = dn ++ xs) ∧ Mods (fun k => k = bs) w V ∧ sz ≤ V.heap.size ∧ Blk V b4 130 cn ∧ Blk V b2 208 [.pointer (some ⟨bs, 0, none⟩)]
theorem SvAt.mods {S : Nat → Prop} {w w' : World} {bs : Nat} {vp : Value} {mc : List Value} {s : SvSt} (h : SvAt w bs vp mc s) (m : Mods S w w') (hb : ¬ S bs) : SvAt w' bs vp mc s := by
  obtain ⟨css, hC, hB⟩ := h
  exact ⟨css, hC, hB.mods m hb⟩
theorem GoI.own {p : List LClass} {k : Int} {n : TSt} {outs : List (Int × Bool)} {s : SvSt} {bs b2 b4 : Nat} {vp : Value} {mc cn : List Value} {w : World} {sz : Nat} {xs : List (Int × Bool)} {V V' : World} (h : GoI p k n outs s bs b2 b4 vp mc cn w sz xs V) (hm : Mods (fun k => sz ≤ k) V V') (h1 : bs < sz) (h2 : b2 < sz) (h4 : b4 < sz) (hw : w.heap.size ≤ sz) : GoI p k n outs s bs b2 b4 vp mc cn w sz xs V' := by
  obtain ⟨s1, hA, hT, hR, hd, hM, hz, hB4, hB2⟩ := h
  exact ⟨s1, hA.mods hm (by omega), hT, hR, hd, hM.trans hm (fun k hk e => by omega), Nat.le_trans hz hm.size, hB4.mods hm (by omega), hB2.mods hm (by omega)⟩
set_option maxHeartbeats 1000000 in
set_option maxRecDepth 100000 in
theorem sv_goOn (p : List LClass) (vp : Value) (m : LMeth) (va vco vf : Value) (i : Nat) (w0 w : World) (bs : Nat) (s : SvSt) (h : SvAt w bs vp (methCs m va vco vf) s) (hp : RProg w0 vp p) (hv : GVals w0.cell? m va vco vf) (hbw : Below w0.heap.size w0 w) (hbs : w0.heap.size ≤ bs)
    (hi : i < m.code.length) (h40 : m.code.length ≤ 40) (T : SvTy p m.stack s) (G : Good p) (M : MOk p m) (hins : ∀ i ∈ m.code, insB p m i = true) :
    Calls Tryz.prog 145 #[.pointer (some ⟨bs, 0, none⟩), .int .i64 (i : Int)] w fun e w' => SvR p m.stack (goOnP p m i s) bs vp (methCs m va vco vf) w w' e := by
  have HP := hide hp
  have HV := hide hv
  obtain ⟨css, hC, hB⟩ := h
  have hs40 : i < 40 := by omega
  have hz : p.length ≤ 4194304 := Nat.le_trans (szProg_len p) G.sz
  have hil : i < s.st.length := by rw [hC.l1]; omega
  have hcl : i < css.length := by rw [hC.lc]; omega
  have hgi : StC (s.st.getD i zeroS) css[i] := by
    have e : s.st.getD i zeroS = s.st[i] := by rw [List.getD_eq_getElem?_getD, List.getElem?_eq_getElem hil]; rfl
    rw [e]
    exact hC.cs i _ _ (List.getElem?_eq_getElem hil) (List.getElem?_eq_getElem hcl)
  have hTi := T.get hil
  have HG0 : Hid (goOnP p m i s = (nextS p m i (s.st.getD i zeroS)).bind fun n => reachAll p n (onwardL (insAt m i) i) s) := rfl
  obtain ⟨pa, _, _, pcap, rfl, _⟩ := hp
  obtain ⟨hva, hvc, hvf⟩ := hv
  obtain ⟨aa, _, _, acap, rfl, _⟩ := hva
  obtain ⟨fa, _, _, fcap, rfl, _⟩ := hvf
  obtain ⟨ca, cb, off, ccap, rfl, hccap, hca, hcr⟩ := sl_open hvc
  obtain rfl := hca (ne_nil_of_lt hi)
  have hX := hcr i hi
  have hIA : insAt m i = m.code[i] := by unfold insAt; rw [List.getElem?_eq_getElem hi]; rfl
  have hsv := fun j v (e : css[i][j]? = some v) => sv_state (vp := .slice pa p.length pcap) hC (show (methCs m (.slice aa m.args.length acap) (.slice (some ⟨cb, off, none⟩) m.code.length ccap) (.slice fa m.frames.length fcap)).length = 7 from rfl) (List.getElem?_eq_getElem hcl) j v e
  have hli := hgi.len
  generalize css[i] = ci at *
  generalize s.st.getD i zeroS = u at *
  generalize m.code[i] = x at *
  obtain ⟨x0, x1, x2⟩ := hX
  clear hcr hvc
  have HM := hide M
  have HI := hide hins
  have i0 : (0 : Int) ≤ (i : Int) := by omega
  have i40 : (i : Int) < 40 := by omega
  have i41 : (i : Int) < (m.code.length : Int) := by omega
  refine calls_of_wpF Tryz.func145 rfl ?_
  simp only [Tryz.ntmps145, List.size_toArray, List.length_cons, List.length_nil, Nat.reduceAdd, Nat.reduceSub, Array.replicate_succ, Array.replicate_zero, List.push_toArray, List.append_toArray, List.nil_append, List.cons_append]
  refine wpF_seq_wp ?_
  go_wp2_with fail
  have hbs' := hB.lt
  have A0 := hB.alloc (.cells #[.pointer (some ⟨bs, 0, none⟩)] 208)
  have A1 := Blk.new w #[.pointer (some ⟨bs, 0, none⟩)] 208
  have hb1 := box_below w (.cells #[.pointer (some ⟨bs, 0, none⟩)] 208)
  generalize w.alloc _ = W at *
  have hbW : Below w0.heap.size w0 W := hbw.trans (hb1.mono hbw.size)
  have a2 : W.cell? ⟨w.heap.size, 0, none⟩ = some (.pointer (some ⟨bs, 0, none⟩)) := A1.cell 0
  have k0 : W.cell? ⟨bs, 0, none⟩ = some (.slice pa p.length pcap) := A0.cell 0
  have m0 : W.cell? ⟨bs, 1, none⟩ = some (.int .i64 m.slot) := A0.cell 1
  have m1 : W.cell? ⟨bs, 2, none⟩ = some (.slice aa m.args.length acap) := A0.cell 2
  have m2 : W.cell? ⟨bs, 3, none⟩ = some (.int .i64 m.ret) := A0.cell 3
  have m3 : W.cell? ⟨bs, 4, none⟩ = some (.int .i64 m.locals) := A0.cell 4
  have m4 : W.cell? ⟨bs, 5, none⟩ = some (.int .i64 m.stack) := A0.cell 5
  have m5 : W.cell? ⟨bs, 6, none⟩ = some (.slice (some ⟨cb, off, none⟩) m.code.length ccap) := A0.cell 6
  have m6 : W.cell? ⟨bs, 7, none⟩ = some (.slice fa m.frames.length fcap) := A0.cell 7
  refine wpF_seq_out ?_
  refine wp_region_held_drew (S := (fun w' => Blk w' bs 134 (svCells (.slice pa p.length pcap) (methCs m (.slice aa m.args.length acap) (.slice (some ⟨cb, off, none⟩) m.code.length ccap) (.slice fa m.frames.length fcap)) css s) ∧ w'.cell? ⟨w.heap.size, 0, none⟩ = some (.pointer (some ⟨bs, 0, none⟩)) ∧ w'.cell? ⟨bs, 0, none⟩ = some (.slice pa p.length pcap) ∧ w'.cell? ⟨bs, 1, none⟩ = some (.int .i64 m.slot) ∧ w'.cell? ⟨bs, 2, none⟩ = some (.slice aa m.args.length acap) ∧ w'.cell? ⟨bs, 3, none⟩ = some (.int .i64 m.ret) ∧ w'.cell? ⟨bs, 4, none⟩ = some (.int .i64 m.locals) ∧ w'.cell? ⟨bs, 5, none⟩ = some (.int .i64 m.stack) ∧ w'.cell? ⟨bs, 6, none⟩ = some (.slice (some ⟨cb, off, none⟩) m.code.length ccap) ∧ w'.cell? ⟨bs, 7, none⟩ = some (.slice fa m.frames.length fcap))) (by kernel_rfl) ?_ (fun hHeld => ?_)
  · exact ⟨A0, a2, k0, m0, m1, m2, m3, m4, m5, m6⟩
  refine take_x (some 6) 0 rfl rfl ?_
  try simp only [Act.put, List.setIfInBounds_toArray, List.set_cons_zero, List.set_cons_succ]
  refine take_x (some 7) 1 rfl rfl ?_
  try simp only [Act.put, List.setIfInBounds_toArray, List.set_cons_zero, List.set_cons_succ]
  refine take_x (some 8) 2 rfl rfl ?_
  try simp only [Act.put, List.setIfInBounds_toArray, List.set_cons_zero, List.set_cons_succ]
  refine take_x (some 9) 3 rfl rfl ?_
  try simp only [Act.put, List.setIfInBounds_toArray, List.set_cons_zero, List.set_cons_succ]
  refine take_x (some 10) 4 rfl rfl ?_
  try simp only [Act.put, List.setIfInBounds_toArray, List.set_cons_zero, List.set_cons_succ]
  refine take_x (some 11) 5 rfl rfl ?_
  try simp only [Act.put, List.setIfInBounds_toArray, List.set_cons_zero, List.set_cons_succ]
  refine take_x (some 12) 6 rfl rfl ?_
  try simp only [Act.put, List.setIfInBounds_toArray, List.set_cons_zero, List.set_cons_succ]
  refine take_x (some 13) 7 rfl rfl ?_
  try simp only [Act.put, List.setIfInBounds_toArray, List.set_cons_zero, List.set_cons_succ]
  refine take_x (some 14) 8 rfl rfl ?_
  try simp only [Act.put, List.setIfInBounds_toArray, List.set_cons_zero, List.set_cons_succ]
  refine take_x (some 15) 9 rfl rfl ?_
  try simp only [Act.put, List.setIfInBounds_toArray, List.set_cons_zero, List.set_cons_succ]
  refine take_x (some 16) 10 rfl rfl ?_
  try simp only [Act.put, List.setIfInBounds_toArray, List.set_cons_zero, List.set_cons_succ]
  refine take_x (some 17) 11 rfl rfl ?_
  try simp only [Act.put, List.setIfInBounds_toArray, List.set_cons_zero, List.set_cons_succ]
  refine take_x (some 18) 12 rfl rfl ?_
  try simp only [Act.put, List.setIfInBounds_toArray, List.set_cons_zero, List.set_cons_succ]
  refine take_x (some 19) 13 rfl rfl ?_
  try simp only [Act.put, List.setIfInBounds_toArray, List.set_cons_zero, List.set_cons_succ]
  refine take_d (some 20) (i := 14) (v := .agg ci.toArray) rfl rfl (by kernel_rfl) (by kernel_rfl) (by kernel_rfl) (fun _ _ _ h => h) (Or.inl ⟨by rfl, fun w' hSw => exec_load_blk aggSt hSw.1 (8 + i * 17) ci hli hsv rfl rfl⟩) (by assumption) ?_
  try simp only [Act.put, List.setIfInBounds_toArray, List.set_cons_zero, List.set_cons_succ]
  have HGV := hide (GVals.keep (Keeps.of_below hbW) (unhide HV))
  have HRP := hide (prog_keep (Keeps.of_below hbW) (unhide HP))
  have hold : ∀ U, Below W.heap.size W U → (Blk U bs 134 (svCells (.slice pa p.length pcap) (methCs m (.slice aa m.args.length acap) (.slice (some ⟨cb, off, none⟩) m.code.length ccap) (.slice fa m.frames.length fcap)) css s) ∧ U.cell? ⟨w.heap.size, 0, none⟩ = some (.pointer (some ⟨bs, 0, none⟩)) ∧ U.cell? ⟨bs, 0, none⟩ = some (.slice pa p.length pcap) ∧ U.cell? ⟨bs, 1, none⟩ = some (.int .i64 m.slot) ∧ U.cell? ⟨bs, 2, none⟩ = some (.slice aa m.args.length acap) ∧ U.cell? ⟨bs, 3, none⟩ = some (.int .i64 m.ret) ∧ U.cell? ⟨bs, 4, none⟩ = some (.int .i64 m.locals) ∧ U.cell? ⟨bs, 5, none⟩ = some (.int .i64 m.stack) ∧ U.cell? ⟨bs, 6, none⟩ = some (.slice (some ⟨cb, off, none⟩) m.code.length ccap) ∧ U.cell? ⟨bs, 7, none⟩ = some (.slice fa m.frames.length fcap)) := fun U hU =>
    have k := Keeps.of_below hU
    ⟨A0.below hU A0.lt, k _ _ a2, k _ _ k0, k _ _ m0, k _ _ m1, k _ _ m2, k _ _ m3, k _ _ m4, k _ _ m5, k _ _ m6⟩
  have HO := hide hold
  clear hold
  cases hn : nextS p m i u with
  | none =>
    have HN : Hid (goOnP p m i s = none) := by show _ = _; rw [unhide HG0, hn]; rfl
    refine wpAnyH_ready (rs := [15, 16]) (by kernel_rfl) (by simp) ?_
    refine AllReadyH.cons rfl (fun K hK => ?_) (AllReadyH.cons rfl (fun K hK => ?_) AllReadyH.nil)
    · go_simp
      refine (fit_next p _ m _ _ _ i u ci _ (prog_keep (Keeps.of_below ((Below.refl _ _).drew)) (unhide HRP)) (GVals.keep (Keeps.of_below ((Below.refl _ _).drew)) (unhide HGV)) hi h40 hgi hTi G (unhide HM) (unhide HI)).mono ?_
      rintro e w2 ⟨_, h2, hb2⟩
      obtain rfl := h2 hn
      have hb2' : Below W.heap.size W w2 := ⟨hb2.os, hb2.tape, hb2.output, hb2.size, hb2.block⟩
      have HF := hide (bnone (S := fun k => k = bs) (hb1.trans (hb2'.mono hb1.size)))
      clear hn h2 hb2 hb2'
      go_wp2_with fail
      exact ⟨rfl, SvR.no (unhide HN) (unhide HF)⟩
    · go_simp
      have hz1 := box_below W.drew (.cells zero17.toArray 130)
      have hz2 : Below W.heap.size W (W.drew.alloc (.cells zero17.toArray 130)) := ⟨hz1.os, hz1.tape, hz1.output, hz1.size, hz1.block⟩
      refine hK.out _ _ ((unhide HO) _ hz2) (fun hHeld => ?_)
      clear hK K
      try simp only [Act.put, List.setIfInBounds_toArray, List.set_cons_zero, List.set_cons_succ]
      refine wpAnyH_ready (rs := [15]) (by kernel_rfl) (by simp) ?_
      refine AllReadyH.cons rfl (fun K hK => ?_) AllReadyH.nil
      go_simp
      refine (fit_next p _ m _ _ _ i u ci _ (prog_keep (Keeps.of_below hz2) (unhide HRP)) (GVals.keep (Keeps.of_below hz2) (unhide HGV)) hi h40 hgi hTi G (unhide HM) (unhide HI)).mono ?_
      rintro e w2 ⟨_, h2, hb2⟩
      obtain rfl := h2 hn
      have HF := hide (bnone (S := fun k => k = bs) (hb1.trans ((hz2.trans (hb2.mono (by simp))).mono hb1.size)))
      clear hn h2 hb2
      go_wp2_with fail
      exact ⟨rfl, SvR.no (unhide HN) (unhide HF)⟩
  | some n =>
    have HN : Hid (goOnP p m i s = reachAll p n (onwardL x i) s) := by show _ = _; rw [unhide HG0, hn, hIA]; rfl
    have hin := onward_in hi (unhide HI) hn
    rw [hIA] at hin
    refine wpAnyH_ready (rs := [15, 16]) (by kernel_rfl) (by simp) ?_
    refine AllReadyH.cons rfl (fun K hK => ?_) (AllReadyH.cons rfl (fun K hK => ?_) AllReadyH.nil)
    · go_simp
      refine (fit_next p _ m _ _ _ i u ci _ (prog_keep (Keeps.of_below ((Below.refl _ _).drew)) (unhide HRP)) (GVals.keep (Keeps.of_below ((Below.refl _ _).drew)) (unhide HGV)) hi h40 hgi hTi G (unhide HM) (unhide HI)).mono ?_
      rintro e w2 ⟨h1, _, hb2⟩
      obtain ⟨cn, rfl, hN, hNT⟩ := h1 n hn
      have hb2' : Below W.heap.size W w2 := ⟨hb2.os, hb2.tape, hb2.output, hb2.size, hb2.block⟩
      clear hb2 h1 hn
      go_wp2_with fail
      refine hK.out _ _ ((unhide HO) _ hb2') (fun hHeld => ?_)
      clear hK K
      try simp only [Act.put, List.setIfInBounds_toArray, List.set_cons_zero, List.set_cons_succ]
      refine wpAnyH_ready (rs := [16]) (by kernel_rfl) (by simp) ?_
      refine AllReadyH.cons rfl (fun K hK => ?_) AllReadyH.nil
      go_simp
      generalize hV : w2.alloc _ = V
      have hbV : Below W.heap.size W V := by rw [← hV]; exact hb2'.alloc hb2'.size _
      have B4 : Blk V w2.heap.size 130 zero17 := by rw [← hV]; exact Blk.new w2 zero17.toArray 130
      have hz2 := hb2'.size
      clear hV
      refine hK.out _ _ ((unhide HO) _ hbV) (fun hHeld => ?_)
      clear hK K
      try simp only [Act.put, List.setIfInBounds_toArray, List.set_cons_zero, List.set_cons_succ]
      obtain ⟨b4, hb4⟩ : ∃ b, b = w2.heap.size := ⟨_, rfl⟩
      have hb4' : W.heap.size ≤ b4 := by omega
      rw [← hb4] at B4 ⊢
      clear hb4 hb2' hz2 hHeld
      refine wpAnyH_ready (rs := [17]) (by kernel_rfl) (by simp) ?_
      refine AllReadyH.cons rfl (fun K hK => ?_) AllReadyH.nil
      refine wp_store_blk aggSt B4 0 cn hN.len (by simp [zero17]) hN.one (.tmp 4) (.tmp 21) rfl rfl rfl ?_
      intro w3 hB3 hM3 hs3
      rw [putAt_all (by rw [hN.len]; rfl)] at hB3
      have hb3 : Below W.heap.size W w3 := hbV.trans (hM3.below hbV.size (fun k hk e => by omega))
      refine hK.out _ _ ((unhide HO) _ hb3) (fun hHeld => ?_)
      clear hK K
      try simp only [Act.put]
      refine wpAnyH_done (by kernel_rfl) ?_ _
      have HH := hide ((unhide HO) _ hb3)
      have hbw3 := hb1.trans (hb3.mono hb1.size)
      have B2 := A1.below hb3 A1.lt
      have a2' : w3.cell? ⟨w.heap.size, 0, none⟩ = some (.pointer (some ⟨bs, 0, none⟩)) := B2.cell 0
      have BS3 := A0.below hb3 A0.lt
      have m5' : w3.cell? ⟨bs, 6, none⟩ = some (.slice (some ⟨cb, off, none⟩) m.code.length ccap) := BS3.cell 6
      clear hHeld B4 hbV hs3 hM3 hb1 m0 m1 m2 m3 m4 m6 k0 a2 m5 HH HO
      show wpF _ _ _ _ _ _
      refine wpF_seq_wp ?_
      go_wp2_with fail
      refine (flow_onward _ _ _ _ _).mono ?_
      rintro e w4 ⟨rfl, hw4⟩
      have hb4w : Below w3.heap.size w3 w4 := by rw [hw4]; exact box2_below _ _ _
      have o1 : w4.cell? ⟨w3.heap.size, 0, none⟩ = some (.slice (some ⟨cb, off, none⟩) m.code.length ccap) := by rw [hw4]; exact box2_fst _ _ _ _ 0
      have o2 : w4.cell? ⟨w3.heap.size + 1, 0, none⟩ = some (.int .i64 (i : Int)) := by rw [hw4]; exact box2_snd _ _ _ _ 0
      clear hw4
      have C2 := B2.below hb4w B2.lt
      have C4 := hB3.below hb4w hB3.lt
      have CS := BS3.below hb4w BS3.lt
      have hbw4 := hbw3.trans (hb4w.mono hbw3.size)
      have hbv4 := hbw.trans (hbw4.mono hbw.size)
      have z0 := Keeps.of_below hbv4 _ _ x0
      have z1 := Keeps.of_below hbv4 _ _ x1
      have z2 := Keeps.of_below hbv4 _ _ x2
      have l3 := BS3.lt
      have HSeq := hide (onward_seq x i m.code.length ccap cb off w3.heap.size (w3.heap.size + 1) (fun k => k = bs) w4 hi (by omega) o1 o2 ⟨z0, z1, z2⟩ (by omega) (fun k e => by have := CS.lt; omega))
      have HI0 : Hid (GoI p m.stack n (onwardL x i) s bs w.heap.size b4 (.slice pa p.length pcap) (methCs m (.slice aa m.args.length acap) (.slice (some ⟨cb, off, none⟩) m.code.length ccap) (.slice fa m.frames.length fcap)) cn w w4.heap.size (onwardL x i) w4) :=
        ⟨s, ⟨css, hC, CS⟩, T, rfl, ⟨[], rfl⟩, bnone hbw4, Nat.le_refl _, C4, C2⟩
      have lb4 := hB3.lt
      have lw := B2.lt
      clear a2' m5' o1 o2
      go_wp2_with fail
      refine wpF_block ?_
      refine wpF_range Tryz.func145 (gf := 158) (lb := #[.pointer (some ⟨w3.heap.size, 0, none⟩), .pointer (some ⟨w3.heap.size + 1, 0, none⟩)]) rfl (enters_of Tryz.func158 (by kernel_rfl) rfl) (unhide HSeq) rfl (fun k e => by have := CS.lt; omega)
        (GoI p m.stack n (onwardL x i) s bs w.heap.size b4 (.slice pa p.length pcap) (methCs m (.slice aa m.args.length acap) (.slice (some ⟨cb, off, none⟩) m.code.length ccap) (.slice fa m.frames.length fcap)) cn w w4.heap.size)
        (fun c V => c = refC 5 ∧ reachAll p n (onwardL x i) s = none ∧ Mods (fun k => k = bs) w V) ?ownx (unhide HI0) ?a1x ?assignx ?bodyx ?donex ?panicx
      case assignx =>
        intro l y V K hK
        rw [fold_two]
        simp only [List.setIfInBounds_toArray, List.set_cons_zero, List.set_cons_succ]
        gi_wp2
        exact hK
      case ownx =>
        rintro xs V V' hI hm
        have := hb4w.size
        exact hI.own hm (by omega) (by omega) (by omega) (by have := hbw4.size; omega)
      case bodyx =>
        rintro l ⟨y1, y2⟩ xs V ⟨s1, hA, hT, hR, ⟨dn, hdn⟩, hMV, hsz, VB4, VB2⟩
        obtain ⟨hy0, hy1⟩ := hin (y1, y2) (by rw [hdn]; simp)
        dsimp only at hy0 hy1
        obtain ⟨j, rfl⟩ : ∃ j : Nat, y1 = (j : Int) := ⟨y1.toNat, by omega⟩
        have hpV : RProg V (.slice pa p.length pcap) p := prog_keep (Keeps.of_below (hbw.trans (hMV.below hbw.size (fun k hk e => by omega)))) (unhide HP)
        have v2 : V.cell? ⟨w.heap.size, 0, none⟩ = some (.pointer (some ⟨bs, 0, none⟩)) := VB2.cell 0
        gi_wp2_with (refine wpListIn_load_blk aggSt VB4 0 cn hN.len (fun j v e => by simpa using e) (.tmp 4) rfl rfl rfl ?_)
        refine ⟨trivial, rfl, ?_⟩
        refine (CallsIn.inRound l (callsIn_wide.2 (sv_reach p j n cn _ bs _ _ s1 hA rfl (by omega) hN hpV G.sup hz m.stack hNT hT))).mono ?_
        rintro e V2 ⟨h1, h2, hM2⟩
        have hRj : reachAll p n ((↑j, y2) :: xs) s1 = (reachP p j n s1).bind (reachAll p n xs) := rfl
        rw [hRj] at hR
        cases hr : reachP p j n s1 with
        | none =>
          obtain rfl := h2 hr
          rw [hr] at hR
          have HR := hide hR
          have HMM := hide (hMV.trans hM2 (fun _ _ e => e))
          clear hr h1 h2 hR hRj
          gi_wp2_with fail
          exact ⟨rfl, hM2, rfl, (unhide HR).symm, unhide HMM⟩
        | some s2 =>
          obtain ⟨rfl, hA2, hT2⟩ := h1 s2 hr
          rw [hr] at hR
          have HI2 : Hid (GoI p m.stack n (onwardL x i) s bs w.heap.size b4 (.slice pa p.length pcap) (methCs m (.slice aa m.args.length acap) (.slice (some ⟨cb, off, none⟩) m.code.length ccap) (.slice fa m.frames.length fcap)) cn w w4.heap.size xs V2) :=
            ⟨s2, hA2, hT2, hR, ⟨dn ++ [((j : Int), y2)], by rw [hdn]; simp⟩, hMV.trans hM2 (fun _ _ e => e), Nat.le_trans hsz hM2.size, VB4.mods hM2 (by have := A0.lt; omega), VB2.mods hM2 (by omega)⟩
          clear hr h1 h2 hR hRj hdn
          gi_wp2_with fail
          exact ⟨hM2, unhide HI2⟩
      case donex =>
        rintro D V hD ⟨s1, hA, hT, hR, _, hMV, hsz, VB4, VB2⟩ hK
        have hm := Mods.putObj (S := fun k => k = D) (W := V) (l := D) (.deferred none) rfl
        have := hb4w.size
        have hF : SvR p m.stack (goOnP p m i s) bs (.slice pa p.length pcap) (methCs m (.slice aa m.args.length acap) (.slice (some ⟨cb, off, none⟩) m.code.length ccap) (.slice fa m.frames.length fcap)) w (V.putObj D (.deferred none)) (.returned (.tuple #[])) :=
          SvR.yes ((unhide HN).trans hR.symm) rfl (hA.mods hm (by omega)) hT (hMV.trans hm (fun k hk e => by omega))
        exact marks_ret1 hK (results_none rfl _ _ _) hF
      case panicx =>
        rintro D c V hD ⟨rfl, hR, hMV⟩ hK
        have hm := Mods.putObj (S := fun k => k = D) (W := V) (l := D) (.deferred none) rfl
        have := hb4w.size
        exact marks_panic1 hK (SvR.no ((unhide HN).trans hR) (hMV.trans hm (fun k hk e => by have := hbw4.size; omega)))
    · go_simp
      have hz1 := box_below W.drew (.cells zero17.toArray 130)
      have hz2 : Below W.heap.size W (W.drew.alloc (.cells zero17.toArray 130)) := ⟨hz1.os, hz1.tape, hz1.output, hz1.size, hz1.block⟩
      refine hK.out _ _ ((unhide HO) _ hz2) (fun hHeld => ?_)
      clear hK K
      try simp only [Act.put, List.setIfInBounds_toArray, List.set_cons_zero, List.set_cons_succ]
      refine wpAnyH_ready (rs := [15]) (by kernel_rfl) (by simp) ?_
      refine AllReadyH.cons rfl (fun K hK => ?_) AllReadyH.nil
      go_simp
      refine (fit_next p _ m _ _ _ i u ci _ (prog_keep (Keeps.of_below hz2) (unhide HRP)) (GVals.keep (Keeps.of_below hz2) (unhide HGV)) hi h40 hgi hTi G (unhide HM) (unhide HI)).mono ?_
      rintro e V ⟨h1, _, hb2⟩
      obtain ⟨cn, rfl, hN, hNT⟩ := h1 n hn
      have hb2' : Below (W.heap.size + 1) (W.drew.alloc (.cells zero17.toArray 130)) V := ⟨hb2.os, hb2.tape, hb2.output, by have := hb2.size; simpa using this, fun i hi => hb2.block i (by simpa using hi)⟩
      have hbV : Below W.heap.size W V := hz2.trans (hb2'.mono (by simp))
      have B4' : Blk (W.drew.alloc (.cells zero17.toArray 130)) W.heap.size 130 zero17 := Blk.new W.drew zero17.toArray 130
      have B4 := B4'.below hb2' (by omega)
      clear hb2 h1 hn
      go_wp2_with fail
      refine hK.out _ _ ((unhide HO) _ hbV) (fun hHeld => ?_)
      clear hK K
      try simp only [Act.put, List.setIfInBounds_toArray, List.set_cons_zero, List.set_cons_succ]
      obtain ⟨b4, hb4⟩ : ∃ b, b = W.heap.size := ⟨_, rfl⟩
      have hb4' : W.heap.size ≤ b4 := by omega
      rw [← hb4] at B4 ⊢
      clear hb4 hb2' hz2 hz1 hHeld B4'
      refine wpAnyH_ready (rs := [17]) (by kernel_rfl) (by simp) ?_
      refine AllReadyH.cons rfl (fun K hK => ?_) AllReadyH.nil
      refine wp_store_blk aggSt B4 0 cn hN.len (by simp [zero17]) hN.one (.tmp 4) (.tmp 21) rfl rfl rfl ?_
      intro w3 hB3 hM3 hs3
      rw [putAt_all (by rw [hN.len]; rfl)] at hB3
      have hb3 : Below W.heap.size W w3 := hbV.trans (hM3.below hbV.size (fun k hk e => by omega))
      refine hK.out _ _ ((unhide HO) _ hb3) (fun hHeld => ?_)
      clear hK K
      try simp only [Act.put]
      refine wpAnyH_done (by kernel_rfl) ?_ _
      have HH := hide ((unhide HO) _ hb3)
      have hbw3 := hb1.trans (hb3.mono hb1.size)
      have B2 := A1.below hb3 A1.lt
      have a2' : w3.cell? ⟨w.heap.size, 0, none⟩ = some (.pointer (some ⟨bs, 0, none⟩)) := B2.cell 0
      have BS3 := A0.below hb3 A0.lt
      have m5' : w3.cell? ⟨bs, 6, none⟩ = some (.slice (some ⟨cb, off, none⟩) m.code.length ccap) := BS3.cell 6
      clear hHeld B4 hbV hs3 hM3 hb1 m0 m1 m2 m3 m4 m6 k0 a2 m5 HH HO
      show wpF _ _ _ _ _ _
      refine wpF_seq_wp ?_
      go_wp2_with fail
      refine (flow_onward _ _ _ _ _).mono ?_
      rintro e w4 ⟨rfl, hw4⟩
      have hb4w : Below w3.heap.size w3 w4 := by rw [hw4]; exact box2_below _ _ _
      have o1 : w4.cell? ⟨w3.heap.size, 0, none⟩ = some (.slice (some ⟨cb, off, none⟩) m.code.length ccap) := by rw [hw4]; exact box2_fst _ _ _ _ 0
      have o2 : w4.cell? ⟨w3.heap.size + 1, 0, none⟩ = some (.int .i64 (i : Int)) := by rw [hw4]; exact box2_snd _ _ _ _ 0
      clear hw4
      have C2 := B2.below hb4w B2.lt
      have C4 := hB3.below hb4w hB3.lt
      have CS := BS3.below hb4w BS3.lt
      have hbw4 := hbw3.trans (hb4w.mono hbw3.size)
      have hbv4 := hbw.trans (hbw4.mono hbw.size)
      have z0 := Keeps.of_below hbv4 _ _ x0
      have z1 := Keeps.of_below hbv4 _ _ x1
      have z2 := Keeps.of_below hbv4 _ _ x2
      have l3 := BS3.lt
      have HSeq := hide (onward_seq x i m.code.length ccap cb off w3.heap.size (w3.heap.size + 1) (fun k => k = bs) w4 hi (by omega) o1 o2 ⟨z0, z1, z2⟩ (by omega) (fun k e => by have := CS.lt; omega))
      have HI0 : Hid (GoI p m.stack n (onwardL x i) s bs w.heap.size b4 (.slice pa p.length pcap) (methCs m (.slice aa m.args.length acap) (.slice (some ⟨cb, off, none⟩) m.code.length ccap) (.slice fa m.frames.length fcap)) cn w w4.heap.size (onwardL x i) w4) :=
        ⟨s, ⟨css, hC, CS⟩, T, rfl, ⟨[], rfl⟩, bnone hbw4, Nat.le_refl _, C4, C2⟩
      have lb4 := hB3.lt
      have lw := B2.lt
      clear a2' m5' o1 o2
      go_wp2_with fail
      refine wpF_block ?_
      refine wpF_range Tryz.func145 (gf := 158) (lb := #[.pointer (some ⟨w3.heap.size, 0, none⟩), .pointer (some ⟨w3.heap.size + 1, 0, none⟩)]) rfl (enters_of Tryz.func158 (by kernel_rfl) rfl) (unhide HSeq) rfl (fun k e => by have := CS.lt; omega)
        (GoI p m.stack n (onwardL x i) s bs w.heap.size b4 (.slice pa p.length pcap) (methCs m (.slice aa m.args.length acap) (.slice (some ⟨cb, off, none⟩) m.code.length ccap) (.slice fa m.frames.length fcap)) cn w w4.heap.size)
        (fun c V => c = refC 5 ∧ reachAll p n (onwardL x i) s = none ∧ Mods (fun k => k = bs) w V) ?owny (unhide HI0) ?a1y ?assigny ?bodyy ?doney ?panicy
      case assigny =>
        intro l y V K hK
        rw [fold_two]
        simp only [List.setIfInBounds_toArray, List.set_cons_zero, List.set_cons_succ]
        gi_wp2
        exact hK
      case owny =>
        rintro xs V V' hI hm
        have := hb4w.size
        exact hI.own hm (by omega) (by omega) (by omega) (by have := hbw4.size; omega)
      case bodyy =>
        rintro l ⟨y1, y2⟩ xs V ⟨s1, hA, hT, hR, ⟨dn, hdn⟩, hMV, hsz, VB4, VB2⟩
        obtain ⟨hy0, hy1⟩ := hin (y1, y2) (by rw [hdn]; simp)
        dsimp only at hy0 hy1
        obtain ⟨j, rfl⟩ : ∃ j : Nat, y1 = (j : Int) := ⟨y1.toNat, by omega⟩
        have hpV : RProg V (.slice pa p.length pcap) p := prog_keep (Keeps.of_below (hbw.trans (hMV.below hbw.size (fun k hk e => by omega)))) (unhide HP)
        have v2 : V.cell? ⟨w.heap.size, 0, none⟩ = some (.pointer (some ⟨bs, 0, none⟩)) := VB2.cell 0
        gi_wp2_with (refine wpListIn_load_blk aggSt VB4 0 cn hN.len (fun j v e => by simpa using e) (.tmp 4) rfl rfl rfl ?_)
        refine ⟨trivial, rfl, ?_⟩
        refine (CallsIn.inRound l (callsIn_wide.2 (sv_reach p j n cn _ bs _ _ s1 hA rfl (by omega) hN hpV G.sup hz m.stack hNT hT))).mono ?_
        rintro e V2 ⟨h1, h2, hM2⟩
        have hRj : reachAll p n ((↑j, y2) :: xs) s1 = (reachP p j n s1).bind (reachAll p n xs) := rfl
        rw [hRj] at hR
        cases hr : reachP p j n s1 with
        | none =>
          obtain rfl := h2 hr
          rw [hr] at hR
          have HR := hide hR
          have HMM := hide (hMV.trans hM2 (fun _ _ e => e))
          clear hr h1 h2 hR hRj
          gi_wp2_with fail
          exact ⟨rfl, hM2, rfl, (unhide HR).symm, unhide HMM⟩
        | some s2 =>
          obtain ⟨rfl, hA2, hT2⟩ := h1 s2 hr
          rw [hr] at hR
          have HI2 : Hid (GoI p m.stack n (onwardL x i) s bs w.heap.size b4 (.slice pa p.length pcap) (methCs m (.slice aa m.args.length acap) (.slice (some ⟨cb, off, none⟩) m.code.length ccap) (.slice fa m.frames.length fcap)) cn w w4.heap.size xs V2) :=
            ⟨s2, hA2, hT2, hR, ⟨dn ++ [((j : Int), y2)], by rw [hdn]; simp⟩, hMV.trans hM2 (fun _ _ e => e), Nat.le_trans hsz hM2.size, VB4.mods hM2 (by have := A0.lt; omega), VB2.mods hM2 (by omega)⟩
          clear hr h1 h2 hR hRj hdn
          gi_wp2_with fail
          exact ⟨hM2, unhide HI2⟩
      case doney =>
        rintro D V hD ⟨s1, hA, hT, hR, _, hMV, hsz, VB4, VB2⟩ hK
        have hm := Mods.putObj (S := fun k => k = D) (W := V) (l := D) (.deferred none) rfl
        have := hb4w.size
        have hF : SvR p m.stack (goOnP p m i s) bs (.slice pa p.length pcap) (methCs m (.slice aa m.args.length acap) (.slice (some ⟨cb, off, none⟩) m.code.length ccap) (.slice fa m.frames.length fcap)) w (V.putObj D (.deferred none)) (.returned (.tuple #[])) :=
          SvR.yes ((unhide HN).trans hR.symm) rfl (hA.mods hm (by omega)) hT (hMV.trans hm (fun k hk e => by omega))
        exact marks_ret1 hK (results_none rfl _ _ _) hF
      case panicy =>
        rintro D c V hD ⟨rfl, hR, hMV⟩ hK
        have hm := Mods.putObj (S := fun k => k = D) (W := V) (l := D) (.deferred none) rfl
        have := hb4w.size
        exact marks_panic1 hK (SvR.no ((unhide HN).trans hR) (hMV.trans hm (fun k hk e => by have := hbw4.size; omega)))
end Go.Proofs.YtiiokkllmchohaaGreat
