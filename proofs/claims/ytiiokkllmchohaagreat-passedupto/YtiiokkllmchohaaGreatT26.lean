/- The pass: what must be below a frame. -/
import Derived.Test.YtiiokkllmchohaaGreatT22
import Derived.Test.YtiiokkllmchohaaGreatT24
import Derived.Test.YtiiokkllmchohaaGreatT25
namespace Go.Proofs.YtiiokkllmchohaaGreat
open Go.RowKit Go.Shelf
attribute [local go_sem ↓] Go.wp_at_zero Go.wp_at_succ
attribute [local go_sem] frz_drew
def MustR (b : Bool) (w w' : World) (e : Ending) : Prop := (b = true → e = .returned (.tuple #[])) ∧ (b = false → e = .panicked (refC 5)) ∧ Below w.heap.size w w'
set_option maxHeartbeats 1000000 in
set_option maxRecDepth 100000 in
theorem must_below (p : List LClass) (vc : Value) (s t : TSt) (cs ds : List Value) (w : World) (hp : RProg w vc p) (hs : SupOk p p.length) (hz : p.length ≤ 4194304) (hS : StC s cs) (hT : StC t ds) (k k' : Int) (ts : TyS p.length k s) (tt : TyS p.length k' t) :
  Calls Tryz.prog 101 #[.agg #[vc], .agg cs.toArray, .agg ds.toArray] w fun e w' => MustR (belowS p s t) w w' e := by
 have HP := hide hp
 have sl := hS.len
 have tl := hT.len
 obtain ⟨pa, _, _, pcap, rfl, _⟩ := hp
 have hbel : Below w.heap.size w (((w.alloc (.cells #[.slice pa p.length pcap] 24)).alloc (.cells cs.toArray 130)).alloc (.cells ds.toArray 130)) := ((box_below w _).alloc (by simp) _).alloc (by simp; omega) _
 have B1 : Blk (((w.alloc (.cells #[.slice pa p.length pcap] 24)).alloc (.cells cs.toArray 130)).alloc (.cells ds.toArray 130)) (w.heap.size + 1) 130 cs := by
  have := Blk.new (w.alloc (.cells #[.slice pa p.length pcap] 24)) cs.toArray 130
  rw [World.size_alloc] at this
  exact this.alloc _
 have B2 : Blk (((w.alloc (.cells #[.slice pa p.length pcap] 24)).alloc (.cells cs.toArray 130)).alloc (.cells ds.toArray 130)) (w.heap.size + 1 + 1) 130 ds := by
  have := Blk.new ((w.alloc (.cells #[.slice pa p.length pcap] 24)).alloc (.cells cs.toArray 130)) ds.toArray 130
  rw [World.size_alloc, World.size_alloc] at this
  exact this
 have HRP := hide (prog_keep (Keeps.of_below hbel) (unhide HP))
 go_enter Tryz.func101, Tryz.ntmps101
 go_wp2_with (first
  | refine wpList_load_blk aggSt B1 0 cs sl (fun j v e => by simpa using e) (.tmp 4) rfl rfl rfl ?_
  | refine wpList_load_blk aggSt B2 0 ds tl (fun j v e => by simpa using e) (.tmp 5) rfl rfl rfl ?_)
 refine (st_below p _ s t cs ds _ (unhide HRP) hs hz hS hT ts.1 ts.2.1 tt.1 tt.2.1).mono ?_
 rintro e w1 ⟨rfl, hb1⟩
 have hbw := hbel.trans (hb1.mono hbel.size)
 cases hq : belowS p s t with
 | true =>
  have HQ := hide hq
  clear hq
  go_wp2_with fail
  go_end0
  exact ⟨fun _ => rfl, fun e => (by rw [unhide HQ] at e; cases e), hbw⟩
 | false =>
  have HQ := hide hq
  clear hq
  go_wp2_with (go_at_call 140; refine (code_giveUp _ _).mono ?_; rintro e w' ⟨rfl, rfl⟩)
  exact ⟨rfl, fun e => (by rw [unhide HQ] at e; cases e), fun _ => rfl, hbw⟩

set_option maxHeartbeats 1000000 in
set_option maxRecDepth 100000 in
theorem must_framed (p : List LClass) (vc : Value) (m : LMeth) (va vco vf : Value) (pc : Int) (s : TSt) (cs : List Value) (w : World) (hp : RProg w vc p) (hs : SupOk p p.length) (hz : p.length ≤ 4194304) (hv : GVals w.cell? m va vco vf) (hF : FrOk p m) (h40 : m.frames.length ≤ 40) (hS : StC s cs) (k : Int) (ts : TyS p.length k s) :
  Calls Tryz.prog 104 #[.agg #[vc], methV m va vco vf, .int .i64 pc, .agg cs.toArray] w fun e w' => MustR (frOk p m s pc) w w' e := by
 have HP := hide hp
 have HV := hide hv
 have sl := hS.len
 unfold methV
 obtain ⟨hva, hvc, hvf⟩ := hv
 obtain ⟨aa, _, _, acap, rfl, _⟩ := hva
 obtain ⟨ca, _, _, ccap, rfl, _⟩ := hvc
 obtain ⟨fa, _, _, fcap, rfl, _⟩ := hvf
 obtain ⟨pa, _, _, pcap, rfl, _⟩ := hp
 have hbel : Below w.heap.size w (((w.alloc (.cells #[.slice pa p.length pcap] 24)).alloc (.cells #[.int .i64 m.slot, .slice aa m.args.length acap, .int .i64 m.ret, .int .i64 m.locals, .int .i64 m.stack, .slice ca m.code.length ccap, .slice fa m.frames.length fcap] 63)).alloc (.cells cs.toArray 130)) := ((box_below w _).alloc (by simp) _).alloc (by simp; omega) _
 have B0 : Blk (((w.alloc (.cells #[.slice pa p.length pcap] 24)).alloc (.cells #[.int .i64 m.slot, .slice aa m.args.length acap, .int .i64 m.ret, .int .i64 m.locals, .int .i64 m.stack, .slice ca m.code.length ccap, .slice fa m.frames.length fcap] 63)).alloc (.cells cs.toArray 130)) w.heap.size 24 [.slice pa p.length pcap] := ((Blk.new w _ _).alloc _).alloc _
 have B2 : Blk (((w.alloc (.cells #[.slice pa p.length pcap] 24)).alloc (.cells #[.int .i64 m.slot, .slice aa m.args.length acap, .int .i64 m.ret, .int .i64 m.locals, .int .i64 m.stack, .slice ca m.code.length ccap, .slice fa m.frames.length fcap] 63)).alloc (.cells cs.toArray 130)) (w.heap.size + 1 + 1) 130 cs := by
  have := Blk.new ((w.alloc (.cells #[.slice pa p.length pcap] 24)).alloc (.cells #[.int .i64 m.slot, .slice aa m.args.length acap, .int .i64 m.ret, .int .i64 m.locals, .int .i64 m.stack, .slice ca m.code.length ccap, .slice fa m.frames.length fcap] 63)) cs.toArray 130
  rw [World.size_alloc, World.size_alloc] at this
  exact this
 have HVW := hide (GVals.keep (Keeps.of_below hbel) (unhide HV))
 go_enter Tryz.func104, Tryz.ntmps104
 go_wp2_with fail
 refine (pass_frameAt p m _ _ _ pc _ (unhide HVW) hF h40).mono ?_
 rintro e w1 ⟨rfl, hb1⟩
 replace B0 := B0.below hb1 B0.lt
 replace B2 := B2.below hb1 B2.lt
 have hbw := hbel.trans (hb1.mono hbel.size)
 clear hb1 hbel HVW
 unfold frameV
 cases hf : frameAtS m pc with
 | none =>
  have HN : Hid (frOk p m s pc = false) := by show _ = _; unfold frOk; rw [hf]
  clear hf
  dsimp only
  go_wp2_with (first
   | (refine wpList_store_blk aggSt (Blk.new _ _ _) 0 zero17 rfl (by simp) zero17_one (.tmp 8) (.tmp 14) rfl rfl rfl rfl ?_; intro w2 hB2 hM2 hs2)
   | (go_at_call 140; refine (code_giveUp _ _).mono ?_; rintro e w' ⟨rfl, rfl⟩))
  refine ⟨rfl, fun e => (by rw [unhide HN] at e; cases e), fun _ => rfl, ?_⟩
  have hb2 := (box_below w1 _).trans (hM2.below (by simp) (fun k hk e => by omega))
  exact hbw.trans (hb2.mono hbw.size)
 | some t =>
  have HN : Hid (frOk p m s pc = belowS p s t) := by show _ = _; unfold frOk; rw [hf]
  obtain ⟨f, hfm, rfl⟩ := frameAtS_mem hf
  obtain ⟨f1, f2, ft⟩ := hF f hfm
  have hok := okS_told f1 f2
  clear hf
  dsimp only
  go_wp2_with (first
   | (refine wpList_store_blk aggSt (Blk.new _ _ _) 0 _ (stCells_len hok) (by simp) (StC_cells hok).one (.tmp 8) (.tmp 14) rfl rfl rfl rfl ?_; intro w2 hB2 hM2 hs2; rw [putAt_all (by rw [stCells_len hok]; rfl)] at hB2; have hb2 := (box_below w1 _).trans (hM2.below (by simp) (fun k hk e => by omega)); have C2 := B2.below hb2 B2.lt; have c0 : w2.cell? ⟨w.heap.size, 0, none⟩ = some (.slice pa p.length pcap) := (B0.below hb2 B0.lt).cell 0)
   | refine wpList_load_blk aggSt C2 0 cs sl (fun j v e => by simpa using e) (.tmp 7) rfl rfl rfl ?_
   | refine wpList_load_blk aggSt hB2 0 _ (stCells_len hok) (fun j v e => by simpa using e) (.tmp 8) rfl rfl rfl ?_)
  have hbw2 := hbw.trans (hb2.mono hbw.size)
  have HRP := hide (prog_keep (Keeps.of_below hbw2) (unhide HP))
  refine (must_below p _ s (toldS f) cs _ _ (unhide HRP) hs hz hS (StC_cells hok) _ _ ts ft).mono ?_
  rintro e w3 ⟨h1, h2, hb3⟩
  have hbw3 := hbw2.trans (hb3.mono hbw2.size)
  cases hq : belowS p s (toldS f) with
  | true =>
   obtain rfl := h1 hq
   have HN' : Hid (frOk p m s pc = true) := by show _ = _; rw [unhide HN, hq]
   clear hq h1 h2
   go_wp2_with fail
   go_end0
   exact ⟨fun _ => rfl, fun e => (by rw [unhide HN'] at e; cases e), hbw3⟩
  | false =>
   obtain rfl := h2 hq
   have HN' : Hid (frOk p m s pc = false) := by show _ = _; rw [unhide HN, hq]
   clear hq h1 h2
   go_wp2_with fail
   exact ⟨rfl, fun e => (by rw [unhide HN'] at e; cases e), fun _ => rfl, hbw3⟩
end Go.Proofs.YtiiokkllmchohaaGreat
namespace Go.Proofs.YtiiokkllmchohaaGreat
open Go.RowKit Go.Shelf
attribute [local go_sem ↓] Go.wp_at_zero Go.wp_at_succ
attribute [local go_sem] frz_drew
attribute [local go_sem] Oper.semAt_some
section
variable {P : Program} {f : FuncId} {Q : Exit → Act → World → Prop} {a : Act} {w : World}
theorem wpF_mid {x y : Code} {J : Act → World → Prop} (h2 : ∀ a w, J a w → wpF P f y Q a w) (h1 : wpF P f x (Exit.then J Q) a w) : wpF P f (x.seq y) Q a w :=
 wpF_seq (wpF_mono h1 fun e _ _ h => match e, h with
  | .normal, h => h2 _ _ h
  | .exit _, h => h
  | .goto _, h => h
  | .ret, h => h
  | .panic _, h => h
  | .outgrown, h => h)
theorem wpF_mid4 {r4 r5 x y z : Code} {J : Act → World → Prop} (h2 : ∀ a w, J a w → wpF P f z Q a w)
  (h1 : wpF P f r4 (Exit.then (wpF P f r5 (Exit.then (wpF P f x (Exit.then (wpF P f y (Exit.then J Q)) Q)) Q)) Q) a w) : wpF P f (r4.seq (r5.seq (x.seq (y.seq z)))) Q a w :=
 wpF_mid (fun _ _ h => wpF_mid (fun _ _ h => wpF_mid (fun _ _ h => wpF_mid h2 h) h) h) h1
end
def markOf (D : Nat) : Deferred := { target := .collected D, args := #[] }
theorem marks_leave {P : Program} {fn : Func} {tmps : Array Value} {R : Ending → World → Prop} {u : FrameMode} (hu : u ≠ .run) (B : Nat) : ∀ (ds : List Nat) (V : World), ds.Nodup → (∀ D ∈ ds, V.heap[D]? = some (.deferred (some []))) → (∀ D ∈ ds, B ≤ D) →
  (∀ V', Below B V V' → LeavesIn Fence.wide 0 P fn tmps R [] u V') → LeavesInM Fence.wide 0 P fn tmps R (ds.map markOf) u V
 | [], V, _, _, _, h => h V (Below.refl _ _)
 | D :: ds, V, hn, hk, hB, h => ⟨hu, .inl ⟨D, V.putObj D (.deferred none), rfl, run_takeDeferred (hk D (by simp)), marks_leave hu B ds _ (List.nodup_cons.1 hn).2
   (fun E hE => (World.putObj_heap_other (fun e => (List.nodup_cons.1 hn).1 (by rw [← e]; exact hE))).trans (hk E (by simp [hE]))) (fun E hE => hB E (by simp [hE]))
   (fun V' hV => h V' ((below_putObj (Below.refl B V) (hB D (by simp)) _).trans (hV)))⟩⟩

structure PassI (w V : World) (p : List LClass) (m : LMeth) (bh ba : Nat) (vp : Value) (mc : List Value) (ds : List Nat) (h : Option TSt) : Prop where
 bel : Below w.heap.size w V
 bp : Blk V w.heap.size 24 [vp]
 bm : Blk V (w.heap.size + 1) 63 mc
 hd : ∃ cs, cs.length = 17 ∧ Blk V bh 130 cs ∧ ∀ s, h = some s → StC s cs ∧ TyS p.length m.stack s
 at_ : Blk V ba 4 [.bool h.isSome]
 mks : ∀ D ∈ ds, V.heap[D]? = some (.deferred (some []))
 lo : ∀ D ∈ ds, w.heap.size ≤ D
 nd : ds.Nodup
theorem heap_below {B : Nat} {V V' : World} {ds : List Nat} (h : Below B V V') (hB : V.heap.size ≤ B) (hm : ∀ D ∈ ds, V.heap[D]? = some (.deferred (some []))) : ∀ D ∈ ds, V'.heap[D]? = some (.deferred (some [])) :=
 fun D hD => (h.block D (by have := (Array.getElem?_eq_some_iff.1 (hm D hD)).1; omega)).trans (hm D hD)
theorem PassI.below {w V V' : World} {p : List LClass} {m : LMeth} {bh ba : Nat} {vp : Value} {mc : List Value} {ds : List Nat} {h : Option TSt} (i : PassI w V p m bh ba vp mc ds h) (b : Below V.heap.size V V') : PassI w V' p m bh ba vp mc ds h := by
 obtain ⟨cs, h1, h2, h3⟩ := i.hd
 exact ⟨i.bel.trans (b.mono i.bel.size), i.bp.below b i.bp.lt, i.bm.below b i.bm.lt, ⟨cs, h1, h2.below b h2.lt, h3⟩, i.at_.below b i.at_.lt, heap_below b (Nat.le_refl _) i.mks, i.lo, i.nd⟩
def PassR (b : Bool) (w w' : World) (e : Ending) : Prop := MustR b w w' e
theorem pass_leave {P : Program} {fn : Func} {tmps : Array Value} {w V : World} {p : List LClass} {m : LMeth} {bh ba : Nat} {vp : Value} {mc : List Value} {ds : List Nat} {h : Option TSt} {b : Bool} (i : PassI w V p m bh ba vp mc ds h) (hb : b = true) (hr : fn.results = #[]) :
  marksPost P fn (fun e w' => PassR b w w' e) .normal { tmps := tmps, defers := ds.map markOf } V :=
 marks_leave (by simp) w.heap.size ds V i.nd i.mks i.lo (fun V' hV => ⟨_, results_none hr _ _ _, fun _ => rfl, fun e => (by rw [hb] at e; cases e), i.bel.trans hV⟩)
theorem pass_quit {P : Program} {fn : Func} {tmps : Array Value} {w V : World} {ds : List Nat} {b : Bool} (hV : Below w.heap.size w V) (nd : ds.Nodup) (mk : ∀ D ∈ ds, V.heap[D]? = some (.deferred (some []))) (lo : ∀ D ∈ ds, w.heap.size ≤ D) (hb : b = false) :
  marksPost P fn (fun e w' => PassR b w w' e) (.panic (refC 5)) { tmps := tmps, defers := ds.map markOf } V :=
 marks_leave (by simp) w.heap.size ds V nd mk lo (fun V' hV' => ⟨fun e => (by rw [hb] at e; cases e), fun _ => rfl, hV.trans hV'⟩)

theorem passK_none {p : List LClass} {c : Int} {m : LMeth} {k : Nat} (h : passK p c m k = none) : ∀ n, k ≤ n → passK p c m n = none := by
 intro n hn
 induction n with
 | zero => obtain rfl : k = 0 := by omega
           exact h
 | succ n ih =>
  rcases Nat.lt_or_ge n k with h1 | h1
  ·obtain rfl : k = n + 1 := by omega
   exact h
  ·unfold passK
   rw [ih h1]; rfl
theorem passB_no {p : List LClass} {c : Int} {m : LMeth} {k : Nat} {h : Option TSt} (hk : k < m.code.length) (h1 : passK p c m k = some h) (h2 : stepS p m k h = none) : passB p c m = false := by
 unfold passB
 rw [passK_none (k := k + 1) (by unfold passK; rw [h1]; exact h2) _ (by omega)]; rfl

theorem wpListIn_load_blk {F : Fence} {N : Nat} {P : Program} {ty : TypeId} {n : Nat} (h : AggOk P ty n) {w : World} {g : Nat} {t : TypeId} {cur : List Value} (hB : Blk w g t cur) (off : Nat) (vs : List Value) (hl : vs.length = n) (hv : ∀ j v, vs[j]? = some v → cur[off + j]? = some v)
  {ops : Array Oper} {rest : List Oper} {o : Oper} {a : Act} {Q : Exit → Act → World → Prop} (x : Operand) (hgd : o.guard = none) (ho : o.op = .load ty x) (hx : a.eval x = .pointer (some ⟨g, off, none⟩))
  (hK : wpListIn F N P ops Q rest (a.put o.dst (.agg vs.toArray)) w) : wpListIn F N P ops Q (o :: rest) a w := by
 refine wpListIn_plain hgd fun K hK' => ?_
 unfold Oper.wpIn
 refine ⟨by simp [Oper.about, ho], ?_⟩
 rw [Oper.semAt_plain F _ _ (by rw [ho]; intro c hc'; cases hc'), exec_load_blk h hB off vs hl hv ho hx]
 exact hK' _ _ hK
theorem mark_ne {V : World} {D g : Nat} {t : TypeId} {cs : List Value} {x : Option (List Deferred)} (h1 : V.heap[D]? = some (.deferred x)) (h2 : Blk V g t cs) : D ≠ g := by
 rintro rfl
 unfold Blk at h2
 rw [h1] at h2
 cases h2
section
variable {w V V' : World} {p : List LClass} {m : LMeth} {bh ba : Nat} {vp : Value} {mc : List Value} {ds : List Nat} {h : Option TSt}
theorem PassI.put (i : PassI w V p m bh ba vp mc ds h) (hwb : w.heap.size + 1 < bh) (hab : bh < ba) (hm : Mods (fun j => j = bh) V V') {cs : List Value} (hB : Blk V' bh 130 cs) (hl : cs.length = 17) (h' : Option TSt) (hs : ∀ s, h' = some s → StC s cs ∧ TyS p.length m.stack s) :
  PassI w (V'.setCell ⟨ba, 0, none⟩ (.bool h'.isSome)) p m bh ba vp mc ds h' := by
 obtain ⟨cs0, _, hB0, _⟩ := i.hd
 have A := (i.at_.mods hm (by omega)).setCell 0 (.bool h'.isSome)
 refine ⟨(i.bel.trans (hm.below i.bel.size (fun k hk e => by omega))).setCell (p := ⟨ba, 0, none⟩) (by dsimp only; omega) _, (i.bp.mods hm (by omega)).setCell_ne (by dsimp only; omega) _, (i.bm.mods hm (by omega)).setCell_ne (by dsimp only; omega) _,
  ⟨cs, hl, hB.setCell_ne (by dsimp only; omega) _, hs⟩, A, fun D hD => ?_, i.lo, i.nd⟩
 have hk := i.mks D hD
 have h1 := (hm.block D (Array.getElem?_eq_some_iff.1 hk).1 (mark_ne hk hB0)).trans hk
 have h2 := mark_ne hk i.at_
 exact (Below.heap_setCell _ _ _ _ h2).trans h1
theorem PassI.modsN {w5 : World} {h5 : Option TSt} (i : PassI w V p m bh ba vp mc ds h) (j : PassI w w5 p m bh ba vp mc ds h5) (hm : Mods (fun k => w5.heap.size ≤ k) V V') : PassI w V' p m bh ba vp mc ds h := by
 obtain ⟨cs, h1, h2, h3⟩ := i.hd
 obtain ⟨_, _, g2, _⟩ := j.hd
 have l1 := j.bp.lt
 have l2 := j.bm.lt
 have l3 := g2.lt
 have l4 := j.at_.lt
 exact ⟨i.bel.trans (hm.below i.bel.size (fun k hk e => by omega)), i.bp.mods hm (by omega), i.bm.mods hm (by omega), ⟨cs, h1, h2.mods hm (by omega), h3⟩, i.at_.mods hm (by omega),
  fun D hD => (hm.block D (Array.getElem?_eq_some_iff.1 (i.mks D hD)).1 (by have := (Array.getElem?_eq_some_iff.1 (j.mks D hD)).1; omega)).trans (i.mks D hD), i.lo, i.nd⟩
theorem PassI.mark {w5 : World} {h5 : Option TSt} (i : PassI w V p m bh ba vp mc ds h) (j : PassI w w5 p m bh ba vp mc ds h5) {D : Nat} (hk : V.heap[D]? = some (.deferred (some []))) (hD : w5.heap.size ≤ D) : PassI w V p m bh ba vp mc (D :: ds) h := by
 refine ⟨i.bel, i.bp, i.bm, i.hd, i.at_, fun E hE => ?_, fun E hE => ?_, List.nodup_cons.2 ⟨fun hE => ?_, i.nd⟩⟩
 ·rcases List.mem_cons.1 hE with rfl | h
  ·exact hk
  ·exact i.mks E h
 ·rcases List.mem_cons.1 hE with rfl | h
  ·have := j.bp.lt; omega
  ·exact i.lo E h
 ·have := (Array.getElem?_eq_some_iff.1 (j.mks D hE)).1; omega
end
theorem any_falls (i : LIns) (pc : Nat) : (onwardL i pc).any (fun y => !y.2) = fallsB i := by
 unfold onwardL
 cases jumpsB i <;> cases fallsB i <;> rfl
def PassL (w : World) (p : List LClass) (c : Int) (m : LMeth) (bh ba : Nat) (vp : Value) (mc : List Value) (N : Nat) (a : Act) (V : World) : Prop :=
 ∃ (k : Nat) (h : Option TSt) (ds : List Nat) (u0 u1 u2 u4 u8 u9 u10 u11 u12 u13 u14 u15 u16 u17 u20 u21 u22 u23 u24 u25 u26 u27 u28 u29 u30 u31 u32 u33 u34 u35 u36 u37 u38 u39 u40 u41 u42 u43 u44 u45 u46 u47 u48 u49 u50 u51 u52 u53 u54 u55 u56 u57 : Value), N + k = m.code.length ∧ a = { tmps := #[u0, u1, u2, .pointer (some ⟨w.heap.size, 0, none⟩), u4, .pointer (some ⟨w.heap.size + 1, 0, none⟩), .pointer (some ⟨bh, 0, none⟩), .pointer (some ⟨ba, 0, none⟩), u8, u9, u10, u11, u12, u13, u14, u15, u16, u17, .int .i64 (m.code.length : Int), .int .i64 (k : Int), u20, u21, u22, u23, u24, u25, u26, u27, u28, u29, u30, u31, u32, u33, u34, u35, u36, u37, u38, u39, u40, u41, u42, u43, u44, u45, u46, u47, u48, u49, u50, u51, u52, u53, u54, u55, u56, u57], defers := ds.map markOf } ∧ passK p c m k = some h ∧ PassI w V p m bh ba vp mc ds h
def PassJ (w : World) (p : List LClass) (c : Int) (m : LMeth) (bh ba : Nat) (vp : Value) (mc : List Value) (k : Nat) (a : Act) (V : World) : Prop :=
 ∃ (h' : Option TSt) (ds' : List Nat) (u0 u1 u2 u4 u8 u9 u10 u11 u12 u13 u14 u15 u16 u17 u20 u21 u22 u23 u24 u25 u26 u27 u28 u29 u30 u31 u32 u33 u34 u35 u36 u37 u38 u39 u40 u41 u42 u43 u44 u45 u46 u47 u48 u49 u50 u51 u52 u53 u54 u55 u56 u57 : Value), a = { tmps := #[u0, u1, u2, .pointer (some ⟨w.heap.size, 0, none⟩), u4, .pointer (some ⟨w.heap.size + 1, 0, none⟩), .pointer (some ⟨bh, 0, none⟩), .pointer (some ⟨ba, 0, none⟩), u8, u9, u10, u11, u12, u13, u14, u15, u16, u17, .int .i64 (m.code.length : Int), .int .i64 (k : Int), u20, u21, u22, u23, u24, u25, u26, u27, u28, u29, u30, u31, u32, u33, u34, u35, u36, u37, u38, u39, u40, u41, u42, u43, u44, u45, u46, u47, u48, u49, u50, u51, u52, u53, u54, u55, u56, u57], defers := ds'.map markOf } ∧ passK p c m (k + 1) = some h' ∧ PassI w V p m bh ba vp mc ds' h'
def PassH (w : World) (p : List LClass) (c : Int) (m : LMeth) (bh ba : Nat) (vp : Value) (mc : List Value) (k : Nat) (ds : List Nat) (h : Option TSt) (a : Act) (V : World) : Prop :=
 ∃ (h' : Option TSt) (u0 u1 u2 u4 u9 u10 u11 u12 u13 u14 u15 u16 u17 u20 u21 u22 u23 u24 u25 u26 u27 u28 u29 u30 u31 u32 u33 u34 u35 u36 u37 u38 u39 u40 u41 u42 u43 u44 u45 u46 u47 u48 u49 u50 u51 u52 u53 u54 u55 u56 u57 : Value), a = { tmps := #[u0, u1, u2, .pointer (some ⟨w.heap.size, 0, none⟩), u4, .pointer (some ⟨w.heap.size + 1, 0, none⟩), .pointer (some ⟨bh, 0, none⟩), .pointer (some ⟨ba, 0, none⟩), .int .i64 (k : Int), u9, u10, u11, u12, u13, u14, u15, u16, u17, .int .i64 (m.code.length : Int), .int .i64 (k : Int), u20, u21, u22, u23, u24, u25, u26, u27, u28, u29, u30, u31, u32, u33, u34, u35, u36, u37, u38, u39, u40, u41, u42, u43, u44, u45, u46, u47, u48, u49, u50, u51, u52, u53, u54, u55, u56, u57], defers := ds.map markOf } ∧ PassI w V p m bh ba vp mc ds h' ∧ ((h' = none ∧ passK p c m (k + 1) = some none) ∨ (∃ s, h' = some s ∧ stepS p m k h = goS p m k s))

set_option maxHeartbeats 2000000 in
set_option maxRecDepth 100000 in
theorem pass_pass (p : List LClass) (vc : Value) (c : Int) (m : LMeth) (va vco vf : Value) (w : World) (hp : RProg w vc p) (hc0 : 0 ≤ c) (hc1 : c < (p.length : Int)) (hv : GVals w.cell? m va vco vf) (G : Good p) (M : MOk p m) (hi : ∀ i ∈ m.code, insB p m i = true) (h40 : m.code.length ≤ 40) (hF : FrOk p m) (hf40 : m.frames.length ≤ 40)
  (h7 : m.args.length ≤ 7) (hT0 : TyS p.length m.stack (beginS c m)) :
  Calls Tryz.prog 55 #[.agg #[vc], .int .i64 c, methV m va vco vf] w fun e w' => PassR (passB p c m) w w' e := by
 have hz : p.length ≤ 4194304 := Nat.le_trans (szProg_len p) G.sz
 have HP := hide hp
 have HV := hide hv
 unfold methV
 obtain ⟨hva, hvc, hvf⟩ := hv
 obtain ⟨aa, _, _, acap, rfl, _⟩ := hva
 obtain ⟨ca, cb, off, ccap, rfl, hccap, hca, hcr⟩ := sl_open hvc
 have HCR := hide hcr
 clear hcr hvc
 obtain ⟨fa, _, _, fcap, rfl, _⟩ := hvf
 obtain ⟨pa, _, _, pcap, rfl, _⟩ := hp
 have hok0 := okS_begin (c := c) h7
 have hbel : Below w.heap.size w ((w.alloc (.cells #[.slice pa p.length pcap] 24)).alloc (.cells #[.int .i64 m.slot, .slice aa m.args.length acap, .int .i64 m.ret, .int .i64 m.locals, .int .i64 m.stack, .slice ca m.code.length ccap, .slice fa m.frames.length fcap] 63)) := box2_below _ _ _
 have B0 : Blk ((w.alloc (.cells #[.slice pa p.length pcap] 24)).alloc (.cells #[.int .i64 m.slot, .slice aa m.args.length acap, .int .i64 m.ret, .int .i64 m.locals, .int .i64 m.stack, .slice ca m.code.length ccap, .slice fa m.frames.length fcap] 63)) w.heap.size 24 [.slice pa p.length pcap] := (Blk.new w _ _).alloc _
 have B1 : Blk ((w.alloc (.cells #[.slice pa p.length pcap] 24)).alloc (.cells #[.int .i64 m.slot, .slice aa m.args.length acap, .int .i64 m.ret, .int .i64 m.locals, .int .i64 m.stack, .slice ca m.code.length ccap, .slice fa m.frames.length fcap] 63)) (w.heap.size + 1) 63 [.int .i64 m.slot, .slice aa m.args.length acap, .int .i64 m.ret, .int .i64 m.locals, .int .i64 m.stack, .slice ca m.code.length ccap, .slice fa m.frames.length fcap] := by
  have := Blk.new (w.alloc (.cells #[.slice pa p.length pcap] 24)) #[.int .i64 m.slot, .slice aa m.args.length acap, .int .i64 m.ret, .int .i64 m.locals, .int .i64 m.stack, .slice ca m.code.length ccap, .slice fa m.frames.length fcap] 63
  rw [World.size_alloc] at this
  exact this
 have HVW := hide (GVals.keep (Keeps.of_below hbel) (unhide HV))
 refine calls_of_wpF Tryz.func55 rfl ?_
 simp only [Tryz.ntmps55, List.size_toArray, List.length_cons, List.length_nil, Nat.reduceAdd, Nat.reduceSub, Array.replicate_succ, Array.replicate_zero, List.push_toArray, List.append_toArray, List.nil_append, List.cons_append]
 refine wpF_seq_wp ?_
 go_wp2_with fail
 refine wpF_seq_wp ?_
 go_wp2_with fail
 refine (st_begin c m _ _ _ _ hc0 (by omega) (unhide HVW) h7).mono ?_
 rintro e w1 ⟨rfl, hb1⟩
 have C0 := B0.below hb1 B0.lt
 have C1 := B1.below hb1 B1.lt
 have hbw1 := hbel.trans (hb1.mono hbel.size)
 have hsz := hbw1.size
 clear B0 B1 hb1 hbel HVW
 go_wp2_with (refine wpList_store_blk aggSt ((Blk.new w1 _ _).alloc _) 0 _ (stCells_len hok0) (by simp) (StC_cells hok0).one (.tmp 6) (.tmp 15) rfl rfl rfl rfl ?_; intro w2 hB2 hM2 hs2; rw [putAt_all (by rw [stCells_len hok0]; rfl)] at hB2; have A0 : Blk w2 (w1.heap.size + 1) 4 [.bool false] := (by have h := Blk.new (w1.alloc (.cells (List.replicate 17 (.int .i64 0)).toArray 130)) #[.bool false] 4; rw [World.size_alloc] at h; exact h.mods hM2 (by omega)); have a0 : w2.cell? ⟨w1.heap.size + 1, 0, none⟩ = some (.bool false) := A0.cell 0; have f0 := A0.frozen 0)
 have hb2 : Below w1.heap.size w1 w2 := (box2_below w1 _ _).trans (hM2.below (by simp; omega) (fun k hk e => by omega))
 have A1 := A0.setCell 0 (.bool true)
 have HI0 : Hid (PassI w (w2.setCell ⟨w1.heap.size + 1, 0, none⟩ (.bool true)) p m w1.heap.size (w1.heap.size + 1) (.slice pa p.length pcap) [.int .i64 m.slot, .slice aa m.args.length acap, .int .i64 m.ret, .int .i64 m.locals, .int .i64 m.stack, .slice ca m.code.length ccap, .slice fa m.frames.length fcap] [] (some (beginS c m))) :=
  ⟨(hbw1.trans (hb2.mono hsz)).setCell (p := ⟨w1.heap.size + 1, 0, none⟩) (by dsimp only; omega) _, (C0.below hb2 C0.lt).setCell_ne (by have := C0.lt; dsimp only; omega) _, (C1.below hb2 C1.lt).setCell_ne (by have := C1.lt; dsimp only; omega) _,
   ⟨_, stCells_len hok0, hB2.setCell_ne (by dsimp only; omega) _, fun s e => by obtain rfl := Option.some.inj e; exact ⟨StC_cells hok0, hT0⟩⟩, A1, fun _ h => (by cases h), fun _ h => (by cases h), List.nodup_nil⟩
 generalize w2.setCell _ _ = W at *
 have d5 : W.cell? ⟨w.heap.size + 1, 5, none⟩ = some (.slice ca m.code.length ccap) := (unhide HI0).bm.cell 5
 obtain ⟨bh, hbh⟩ : ∃ bh, bh = w1.heap.size := ⟨_, rfl⟩
 obtain ⟨ba, hba⟩ : ∃ ba, ba = w1.heap.size + 1 := ⟨_, rfl⟩
 rw [← hba, ← hbh] at HI0
 rw [← hba, ← hbh]
 have hwb : w.heap.size + 1 < bh := by rw [hbh]; exact C1.lt
 have hab : bh < ba := by omega
 clear hb2 hB2 hM2 hs2 A0 A1 a0 f0 C0 C1 hbw1 hsz hbh hba
 refine wpF_seq_wp ?_
 go_wp2_with fail
 refine wpF_block ?_
 refine wpF_loop (PassL w p c m bh ba (.slice pa p.length pcap) [.int .i64 m.slot, .slice aa m.args.length acap, .int .i64 m.ret, .int .i64 m.locals, .int .i64 m.stack, .slice ca m.code.length ccap, .slice fa m.frames.length fcap]) m.code.length ?start ?round
 case start => unfold PassL; exact ⟨0, some (beginS c m), [], _, _, _, _, _, _, _, _, _, _, _, _, _, _, _, _, _, _, _, _, _, _, _, _, _, _, _, _, _, _, _, _, _, _, _, _, _, _, _, _, _, _, _, _, _, _, _, _, _, _, _, _, by omega, rfl, rfl, unhide HI0⟩
 case round =>
  clear d5 HI0
  intro N a V hX
  obtain ⟨k, h, ds, u0, u1, u2, u4, u8, u9, u10, u11, u12, u13, u14, u15, u16, u17, u20, u21, u22, u23, u24, u25, u26, u27, u28, u29, u30, u31, u32, u33, u34, u35, u36, u37, u38, u39, u40, u41, u42, u43, u44, u45, u46, u47, u48, u49, u50, u51, u52, u53, u54, u55, u56, u57, hN, rfl, hpk, hI⟩ := hX
  have HI := hide hI
  have HPK := hide hpk
  by_cases hlt : k < m.code.length
  ·obtain rfl := hca (ne_nil_of_lt hlt)
   have hlt' : (k : Int) < (m.code.length : Int) := by omega
   have k0 : (0 : Int) ≤ (k : Int) := by omega
   have HRP := hide (prog_keep (Keeps.of_below hI.bel) (unhide HP))
   have HVV := hide (GVals.keep (Keeps.of_below hI.bel) (unhide HV))
   clear hpk hI
   refine wpF_seq_wp ?_
   go_wp2_with fail
   refine wpF_seq_wp ?_
   go_wp2_with fail
   refine wpF_mid (J := PassJ w p c m bh ba (.slice pa p.length pcap) [.int .i64 m.slot, .slice aa m.args.length acap, .int .i64 m.ret, .int .i64 m.locals, .int .i64 m.stack, .slice (some ⟨cb, off, none⟩) m.code.length ccap, .slice fa m.frames.length fcap] k) ?ptail ?pblk
   case ptail =>
    intro a V hX
    obtain ⟨h', ds', u0, u1, u2, u4, u8, u9, u10, u11, u12, u13, u14, u15, u16, u17, u20, u21, u22, u23, u24, u25, u26, u27, u28, u29, u30, u31, u32, u33, u34, u35, u36, u37, u38, u39, u40, u41, u42, u43, u44, u45, u46, u47, u48, u49, u50, u51, u52, u53, u54, u55, u56, u57, rfl, hpk', hI'⟩ := hX
    refine wpF_of_wp ?_
    go_wp2_with fail
    refine ⟨N - 1, by omega, ?_⟩
    unfold PassL
    exact ⟨k + 1, h', ds', _, _, _, _, _, _, _, _, _, _, _, _, _, _, _, _, _, _, _, _, _, _, _, _, _, _, _, _, _, _, _, _, _, _, _, _, _, _, _, _, _, _, _, _, _, _, _, _, _, _, _, _, by omega, rfl, hpk', hI'⟩
   case pblk =>
    refine wpF_block ?_
    refine wpF_mid4 (J := PassH w p c m bh ba (.slice pa p.length pcap) [.int .i64 m.slot, .slice aa m.args.length acap, .int .i64 m.ret, .int .i64 m.locals, .int .i64 m.stack, .slice (some ⟨cb, off, none⟩) m.code.length ccap, .slice fa m.frames.length fcap] k ds h) ?prest ?pfront
    case prest =>
     intro a V hX
     obtain ⟨h', u0, u1, u2, u4, u9, u10, u11, u12, u13, u14, u15, u16, u17, u20, u21, u22, u23, u24, u25, u26, u27, u28, u29, u30, u31, u32, u33, u34, u35, u36, u37, u38, u39, u40, u41, u42, u43, u44, u45, u46, u47, u48, u49, u50, u51, u52, u53, u54, u55, u56, u57, rfl, hI2, hcase⟩ := hX
     have q7 : V.cell? ⟨ba, 0, none⟩ = some (.bool h'.isSome) := hI2.at_.cell 0
     have HI2 := hide hI2
     rcases hcase with ⟨rfl, hpk'⟩ | ⟨s, rfl, hstep⟩
     ·have HPK' := hide hpk'
      clear hpk' hI2
      dsimp only [Option.isSome] at q7
      refine wpF_seq_wp ?_
      go_wp2_with fail
      unfold PassJ
      exact ⟨none, ds, _, _, _, _, _, _, _, _, _, _, _, _, _, _, _, _, _, _, _, _, _, _, _, _, _, _, _, _, _, _, _, _, _, _, _, _, _, _, _, _, _, _, _, _, _, _, _, _, _, _, _, _, rfl, unhide HPK', unhide HI2⟩
     ·dsimp only [Option.isSome] at q7
      have q0 : V.cell? ⟨w.heap.size, 0, none⟩ = some (.slice pa p.length pcap) := hI2.bp.cell 0
      have m0 : V.cell? ⟨w.heap.size + 1, 0, none⟩ = some (.int .i64 m.slot) := hI2.bm.cell 0
      have m1 : V.cell? ⟨w.heap.size + 1, 1, none⟩ = some (.slice aa m.args.length acap) := hI2.bm.cell 1
      have m2 : V.cell? ⟨w.heap.size + 1, 2, none⟩ = some (.int .i64 m.ret) := hI2.bm.cell 2
      have m3 : V.cell? ⟨w.heap.size + 1, 3, none⟩ = some (.int .i64 m.locals) := hI2.bm.cell 3
      have m4 : V.cell? ⟨w.heap.size + 1, 4, none⟩ = some (.int .i64 m.stack) := hI2.bm.cell 4
      have m5 : V.cell? ⟨w.heap.size + 1, 5, none⟩ = some (.slice (some ⟨cb, off, none⟩) m.code.length ccap) := hI2.bm.cell 5
      have m6 : V.cell? ⟨w.heap.size + 1, 6, none⟩ = some (.slice fa m.frames.length fcap) := hI2.bm.cell 6
      obtain ⟨cs, hl, hBh, hS⟩ := hI2.hd
      obtain ⟨hSC, hTS⟩ := hS s rfl
      have HRP2 := hide (prog_keep (Keeps.of_below hI2.bel) (unhide HP))
      have HVV2 := hide (GVals.keep (Keeps.of_below hI2.bel) (unhide HV))
      have HST := hide hstep
      clear hstep hI2 hS
      refine wpF_seq_wp ?_
      go_wp2_with fail
      refine wpF_seq_wp ?_
      go_wp2_with (refine wpList_load_blk aggSt hBh 0 cs hl (fun j v e => by simpa using e) (.tmp 6) rfl rfl rfl ?_)
      refine (fit_next p _ m _ _ _ k s cs _ (unhide HRP2) (unhide HVV2) hlt h40 hSC hTS G M hi).mono ?_
      rintro e w2 ⟨h1, h2, hb2⟩
      have hI3 := (unhide HI2).below hb2
      clear m0 m1 m2 m3 m4 m5 m6 q0 q7 hBh hSC hTS
      cases hr : nextS p m k s with
      | none =>
       obtain rfl := h2 hr
       have HPB : Hid (passB p c m = false) := passB_no hlt (unhide HPK) (by rw [unhide HST]; unfold goS; rw [hr]; rfl)
       clear hr h1 h2
       go_wp2_with fail
       exact pass_quit hI3.bel hI3.nd hI3.mks hI3.lo (unhide HPB)
      | some s' =>
       obtain ⟨cs', rfl, hS', hT'⟩ := h1 s' hr
       have HGO : Hid (stepS p m k h = if (onwardL (insAt m k) k).all (fun x => !x.2 || frOk p m s' x.1) then some (if fallsB (insAt m k) then some s' else none) else none) := by show _ = _; rw [unhide HST]; unfold goS; rw [hr]; rfl
       obtain ⟨cs3, hl3, hBh3, _⟩ := hI3.hd
       have hl' := hS'.len
       clear hr h1 h2 HST
       go_wp2_with (refine wpList_store_blk aggSt hBh3 0 cs' hl' (by omega) hS'.one (.tmp 6) (.tmp 44) rfl rfl rfl rfl ?_; intro w3 hB3 hM3 hs3)
       rw [putAt_all (by rw [hl', hl3])] at hB3
       have hI4 := hI3.put hwb hab hM3 hB3 hl' none (fun s e => by cases e)
       have hB4 := hB3.setCell_ne (p := ⟨ba, 0, none⟩) (by dsimp only; omega) (.bool (none : Option TSt).isSome)
       have a3 : w3.cell? ⟨ba, 0, none⟩ = some (.bool true) := (hI3.at_.mods hM3 (by omega)).cell 0
       have f3 := (hI3.at_.mods hM3 (by omega)).frozen 0
       refine wpF_seq_wp ?_
       go_wp2_with fail
       dsimp only [Option.isSome] at hI4 hB4
       generalize w3.setCell _ _ = w4 at *
       have d5 : w4.cell? ⟨w.heap.size + 1, 5, none⟩ = some (.slice (some ⟨cb, off, none⟩) m.code.length ccap) := hI4.bm.cell 5
       clear a3 f3 hM3 hB3 hs3 hBh3 hI3
       refine wpF_seq_wp ?_
       go_wp2_with fail
       refine (flow_onward _ _ _ _ _).mono ?_
       rintro e w5 ⟨rfl, hw5⟩
       have hb5 : Below w4.heap.size w4 w5 := by rw [hw5]; exact box2_below _ _ _
       have o1 : w5.cell? ⟨w4.heap.size, 0, none⟩ = some (.slice (some ⟨cb, off, none⟩) m.code.length ccap) := by rw [hw5]; exact box2_fst _ _ _ _ 0
       have o2 : w5.cell? ⟨w4.heap.size + 1, 0, none⟩ = some (.int .i64 (k : Int)) := by rw [hw5]; exact box2_snd _ _ _ _ 0
       clear hw5
       have hI5 := hI4.below hb5
       have hB5 := hB4.below hb5 hB4.lt
       have la4 := hI4.at_.lt
       have la5 := hI5.at_.lt
       obtain ⟨z0, z1, z2⟩ := unhide HCR k hlt
       have kp5 := Keeps.of_below hI5.bel
       have hIA : insAt m k = m.code[k] := by unfold insAt; rw [List.getElem?_eq_getElem hlt]; rfl
       have HSeq := hide (onward_seq m.code[k] k m.code.length ccap cb off w4.heap.size (w4.heap.size + 1) (fun j => j = ba) w5 hlt (by omega) o1 o2 ⟨kp5 _ _ z0, kp5 _ _ z1, kp5 _ _ z2⟩ (by omega) (fun j e => by omega))
       rw [hIA] at HGO
       generalize m.code[k] = x at *
       clear z0 z1 z2 kp5 o1 o2 hb5 hI4 hB4 hIA d5
       go_wp2_with fail
       refine wpF_block ?_
       refine wpF_range Tryz.func55 (gf := 158) (lb := #[.pointer (some ⟨w4.heap.size, 0, none⟩), .pointer (some ⟨w4.heap.size + 1, 0, none⟩)]) rfl (enters_of Tryz.func158 (by kernel_rfl) rfl) (unhide HSeq) rfl (fun j e => by omega)
        (fun xs U => ∃ dn, onwardL x k = dn ++ xs ∧ (∀ y ∈ dn, y.2 = true → frOk p m s' y.1 = true) ∧ PassI w U p m bh ba (.slice pa p.length pcap) [.int .i64 m.slot, .slice aa m.args.length acap, .int .i64 m.ret, .int .i64 m.locals, .int .i64 m.stack, .slice (some ⟨cb, off, none⟩) m.code.length ccap, .slice fa m.frames.length fcap] ds (if dn.any (fun y => !y.2) then some s' else none) ∧ Blk U bh 130 cs' ∧ w5.heap.size ≤ U.heap.size)
        (fun cc U => cc = refC 5 ∧ (onwardL x k).all (fun y => !y.2 || frOk p m s' y.1) = false ∧ ∃ h'', PassI w U p m bh ba (.slice pa p.length pcap) [.int .i64 m.slot, .slice aa m.args.length acap, .int .i64 m.ret, .int .i64 m.locals, .int .i64 m.stack, .slice (some ⟨cb, off, none⟩) m.code.length ccap, .slice fa m.frames.length fcap] ds h'') ?rown ⟨[], rfl, fun _ h => (by cases h), hI5, hB5, Nat.le_refl _⟩ ?ra1 ?rassign ?rbody ?rdone ?rpanic
       case rassign =>
        intro l y U K hK
        rw [fold_two]
        simp only [List.setIfInBounds_toArray, List.set_cons_zero, List.set_cons_succ]
        gi_wp2
        exact hK
       case rown =>
        rintro xs U U' ⟨dn, h1, h2, h3, h4, h5⟩ hm
        have := hB5.lt
        exact ⟨dn, h1, h2, h3.modsN hI5 hm, h4.mods hm (by omega), Nat.le_trans h5 hm.size⟩
       case rbody =>
        rintro l y xs U ⟨dn, hdn, hok, hU, hUB, hUs⟩
        have HU := hide hU
        cases hy : y.2 with
        | true =>
         have q0 : U.cell? ⟨w.heap.size, 0, none⟩ = some (.slice pa p.length pcap) := hU.bp.cell 0
         have m0 : U.cell? ⟨w.heap.size + 1, 0, none⟩ = some (.int .i64 m.slot) := hU.bm.cell 0
         have m1 : U.cell? ⟨w.heap.size + 1, 1, none⟩ = some (.slice aa m.args.length acap) := hU.bm.cell 1
         have m2 : U.cell? ⟨w.heap.size + 1, 2, none⟩ = some (.int .i64 m.ret) := hU.bm.cell 2
         have m3 : U.cell? ⟨w.heap.size + 1, 3, none⟩ = some (.int .i64 m.locals) := hU.bm.cell 3
         have m4 : U.cell? ⟨w.heap.size + 1, 4, none⟩ = some (.int .i64 m.stack) := hU.bm.cell 4
         have m5 : U.cell? ⟨w.heap.size + 1, 5, none⟩ = some (.slice (some ⟨cb, off, none⟩) m.code.length ccap) := hU.bm.cell 5
         have m6 : U.cell? ⟨w.heap.size + 1, 6, none⟩ = some (.slice fa m.frames.length fcap) := hU.bm.cell 6
         have HRP5 := hide (prog_keep (Keeps.of_below hU.bel) (unhide HP))
         have HVV5 := hide (GVals.keep (Keeps.of_below hU.bel) (unhide HV))
         have HDN := hide (And.intro hdn hok)
         clear hU hdn hok
         gi_wp2_with (refine wpListIn_load_blk aggSt hUB 0 cs' hl' (fun j v e => by simpa using e) (.tmp 6) rfl rfl rfl ?_)
         refine ⟨trivial, rfl, ?_⟩
         refine (CallsIn.inRound l (callsIn_wide.2 (must_framed p _ m _ _ _ y.1 s' cs' _ (unhide HRP5) G.sup hz (unhide HVV5) hF hf40 hS' _ hT'))).mono ?_
         rintro e w6 ⟨g1, g2, hb6⟩
         obtain ⟨hdn, hok⟩ := unhide HDN
         cases hq : frOk p m s' y.1 with
         | true =>
          obtain rfl := g1 hq
          have HX : Hid (∃ dn', onwardL x k = dn' ++ xs ∧ (∀ z ∈ dn', z.2 = true → frOk p m s' z.1 = true) ∧ PassI w w6 p m bh ba (.slice pa p.length pcap) [.int .i64 m.slot, .slice aa m.args.length acap, .int .i64 m.ret, .int .i64 m.locals, .int .i64 m.stack, .slice (some ⟨cb, off, none⟩) m.code.length ccap, .slice fa m.frames.length fcap] ds (if dn'.any (fun y => !y.2) then some s' else none) ∧ Blk w6 bh 130 cs' ∧ w5.heap.size ≤ w6.heap.size) := ⟨dn ++ [y], by rw [hdn]; simp, fun z hz' => by
           rcases List.mem_append.1 hz' with h | h
           ·exact hok z h
           ·obtain rfl := List.mem_singleton.1 h
            exact fun _ => hq, by
           have e : (dn ++ [y]).any (fun y => !y.2) = dn.any (fun y => !y.2) := by simp [hy]
           rw [e]; exact (unhide HU).below hb6, hUB.below hb6 hUB.lt, Nat.le_trans hUs hb6.size⟩
          have HMM := hide (bnone (S := fun j => j = ba) hb6)
          clear hq g1 g2 hdn hok
          gi_wp2_with fail
          exact ⟨unhide HMM, unhide HX⟩
         | false =>
          obtain rfl := g2 hq
          have HX : Hid ((onwardL x k).all (fun y => !y.2 || frOk p m s' y.1) = false) := by
           show _ = _
           rw [hdn, List.all_eq_false]
           exact ⟨y, by simp, by simp [hy, hq]⟩
          have HP6 := hide ((unhide HU).below hb6)
          have HMM := hide (bnone (S := fun j => j = ba) hb6)
          clear hq g1 g2 hdn hok
          gi_wp2_with fail
          exact ⟨rfl, unhide HMM, rfl, unhide HX, _, unhide HP6⟩
        | false =>
         have HI6 := hide (hU.put hwb hab (Mods.refl _ _) hUB hl' (some s') (fun s e => by obtain rfl := Option.some.inj e; exact ⟨hS', hT'⟩))
         have a6 : ∃ b, U.cell? ⟨ba, 0, none⟩ = some (.bool b) := ⟨_, hU.at_.cell 0⟩
         obtain ⟨b6, a6⟩ := a6
         have f6 := hU.at_.frozen 0
         have HX : Hid (∃ dn', onwardL x k = dn' ++ xs ∧ (∀ z ∈ dn', z.2 = true → frOk p m s' z.1 = true) ∧ dn'.any (fun y => !y.2) = true) := ⟨dn ++ [y], by rw [hdn]; simp, fun z hz' => by
          rcases List.mem_append.1 hz' with h | h
          ·exact hok z h
          ·obtain rfl := List.mem_singleton.1 h
           exact fun e => (by rw [hy] at e; cases e), by simp [hy]⟩
         have HB6 := hide (hUB.setCell_ne (p := ⟨ba, 0, none⟩) (by dsimp only; omega) (.bool true))
         have HMM := hide ((Mods.refl (fun j => j = ba) U).setCell (p := ⟨ba, 0, none⟩) (fun _ => rfl) (.bool true))
         clear hU hdn hok HU
         gi_wp2_with fail
         obtain ⟨dn', x1, x2, x3⟩ := unhide HX
         exact ⟨unhide HMM, dn', x1, x2, by rw [x3]; exact unhide HI6, unhide HB6, by simpa using hUs⟩
       case rdone =>
        rintro D U hD ⟨dn, hdn, hok, hU, hUB, hUs⟩ hK
        rw [List.append_nil] at hdn
        have hall : (onwardL x k).all (fun y => !y.2 || frOk p m s' y.1) = true := by
         rw [hdn, List.all_eq_true]
         intro y hy
         cases hy2 : y.2 with
         | true => simp [hok y hy hy2]
         | false => rfl
        have hpk' : passK p c m (k + 1) = some (if dn.any (fun y => !y.2) then some s' else none) := by
         unfold passK
         rw [unhide HPK, Option.bind_some, unhide HGO, hall, ← hdn, any_falls]; rfl
        simp only [Exit.inBlock, Exit.then]
        unfold PassJ
        exact ⟨_, D :: ds, _, _, _, _, _, _, _, _, _, _, _, _, _, _, _, _, _, _, _, _, _, _, _, _, _, _, _, _, _, _, _, _, _, _, _, _, _, _, _, _, _, _, _, _, _, _, _, _, _, _, _, _, rfl, hpk', hU.mark hI5 hK hD⟩
       case rpanic =>
        rintro D cc U hD ⟨rfl, hall, h'', hU⟩ hK
        have hpb : passB p c m = false := passB_no hlt (unhide HPK) (by rw [unhide HGO, hall]; rfl)
        have hm := hU.mark hI5 hK hD
        simp only [Exit.inBlock, Exit.then]
        exact pass_quit (ds := D :: ds) hm.bel hm.nd hm.mks hm.lo hpb
    case pfront =>
     have hI1 := unhide HI
     have q0 : V.cell? ⟨w.heap.size, 0, none⟩ = some (.slice pa p.length pcap) := hI1.bp.cell 0
     have m0 : V.cell? ⟨w.heap.size + 1, 0, none⟩ = some (.int .i64 m.slot) := hI1.bm.cell 0
     have m1 : V.cell? ⟨w.heap.size + 1, 1, none⟩ = some (.slice aa m.args.length acap) := hI1.bm.cell 1
     have m2 : V.cell? ⟨w.heap.size + 1, 2, none⟩ = some (.int .i64 m.ret) := hI1.bm.cell 2
     have m3 : V.cell? ⟨w.heap.size + 1, 3, none⟩ = some (.int .i64 m.locals) := hI1.bm.cell 3
     have m4 : V.cell? ⟨w.heap.size + 1, 4, none⟩ = some (.int .i64 m.stack) := hI1.bm.cell 4
     have m5 : V.cell? ⟨w.heap.size + 1, 5, none⟩ = some (.slice (some ⟨cb, off, none⟩) m.code.length ccap) := hI1.bm.cell 5
     have m6 : V.cell? ⟨w.heap.size + 1, 6, none⟩ = some (.slice fa m.frames.length fcap) := hI1.bm.cell 6
     clear hI1
     refine wpF_of_wp ?_
     go_wp2_with fail
     refine wpF_of_wp ?_
     go_wp2_with fail
     refine (pass_frameAt p m _ _ _ k _ (unhide HVV) hF hf40).mono ?_
     rintro e v1 ⟨rfl, hb1⟩
     have HI1 := hide ((unhide HI).below hb1)
     clear m0 m1 m2 m3 m4 m5 m6 q0 hb1
     unfold frameV
     cases hf : frameAtS m k with
     | none =>
      have hst : stepS p m k h = (match (generalizing := false) h with | some s => goS p m k s | none => some none) := by
       unfold stepS
       rw [hf]
       cases h <;> rfl
      have HST := hide hst
      clear hf hst
      dsimp only
      go_wp2_with (refine wpList_store_blk aggSt (Blk.new _ _ _) 0 zero17 rfl (by simp) zero17_one (.tmp 9) (.tmp 26) rfl rfl rfl rfl ?_; intro v2 hB2 hM2 hs2)
      have hI2 := (unhide HI1).below ((box_below v1 _).trans (hM2.below (by simp) (fun k hk e => by omega)))
      clear hB2 hM2 hs2 HI1
      have q7 : v2.cell? ⟨ba, 0, none⟩ = some (.bool h.isSome) := hI2.at_.cell 0
      have HI2 := hide hI2
      clear hI2
      refine wpF_of_wp ?_
      go_wp2_with fail
      refine wpF_of_wp ?_
      go_wp2_with fail
      unfold PassH
      refine ⟨h, _, _, _, _, _, _, _, _, _, _, _, _, _, _, _, _, _, _, _, _, _, _, _, _, _, _, _, _, _, _, _, _, _, _, _, _, _, _, _, _, _, _, _, _, _, _, _, _, _, _, _, rfl, unhide HI2, ?_⟩
      cases h with
      | none => exact .inl ⟨rfl, by unfold passK; rw [unhide HPK]; exact unhide HST⟩
      | some s => exact .inr ⟨s, rfl, unhide HST⟩
     | some t =>
      obtain ⟨f, hfm, rfl⟩ := frameAtS_mem hf
      obtain ⟨f1, f2, ft⟩ := hF f hfm
      have hok := okS_told f1 f2
      have hsl := stCells_len hok
      have hso := (StC_cells hok).one
      have hst : stepS p m k h = (match (generalizing := false) h with | some s => if belowS p s (toldS f) then goS p m k (toldS f) else none | none => goS p m k (toldS f)) := by
       unfold stepS
       rw [hf]
       cases h <;> rfl
      have HST := hide hst
      clear hf hst
      dsimp only
      go_wp2_with (refine wpList_store_blk aggSt (Blk.new _ _ _) 0 _ hsl (by simp) hso (.tmp 9) (.tmp 26) rfl rfl rfl rfl ?_; intro v2 hB2 hM2 hs2)
      rw [putAt_all (by rw [hsl]; rfl)] at hB2
      have hI2 := (unhide HI1).below ((box_below v1 _).trans (hM2.below (by simp) (fun k hk e => by omega)))
      have l9 : ba < v1.heap.size := (unhide HI1).at_.lt
      clear hM2 hs2 HI1
      obtain ⟨cs, hl, hBh, hS⟩ := hI2.hd
      have q7 : v2.cell? ⟨ba, 0, none⟩ = some (.bool h.isSome) := hI2.at_.cell 0
      have HI2 := hide hI2
      cases h with
      | none =>
       dsimp only [Option.isSome] at q7
       clear hI2
       refine wpF_of_wp ?_
       go_wp2_with fail
       refine wpF_of_wp ?_
       go_wp2_with (first
        | refine wpList_load_blk aggSt hB2 0 _ hsl (fun j v e => by simpa using e) (.tmp 9) rfl rfl rfl ?_
        | (refine wpList_store_blk aggSt hBh 0 _ hsl (by omega) hso (.tmp 6) (.tmp 37) rfl rfl rfl rfl ?_; intro v3 hB3 hM3 hs3; rw [putAt_all (by rw [hsl, hl])] at hB3; have a3 : v3.cell? ⟨ba, 0, none⟩ = some (.bool false) := ((unhide HI2).at_.mods hM3 (by omega)).cell 0; have f3 := ((unhide HI2).at_.mods hM3 (by omega)).frozen 0))
       unfold PassH
       exact ⟨some (toldS f), _, _, _, _, _, _, _, _, _, _, _, _, _, _, _, _, _, _, _, _, _, _, _, _, _, _, _, _, _, _, _, _, _, _, _, _, _, _, _, _, _, _, _, _, _, _, _, _, _, _, _, rfl, (unhide HI2).put hwb hab hM3 hB3 hsl (some (toldS f)) (fun s e => by obtain rfl := Option.some.inj e; exact ⟨StC_cells hok, ft⟩), .inr ⟨_, rfl, unhide HST⟩⟩
      | some s =>
       dsimp only [Option.isSome] at q7
       obtain ⟨hSC, hTS⟩ := hS s rfl
       have r0 : v2.cell? ⟨w.heap.size, 0, none⟩ = some (.slice pa p.length pcap) := hI2.bp.cell 0
       have HRP2 := hide (prog_keep (Keeps.of_below hI2.bel) (unhide HP))
       clear hI2 hS
       refine wpF_of_wp ?_
       go_wp2_with (first
        | refine wpList_load_blk aggSt hBh 0 cs hl (fun j v e => by simpa using e) (.tmp 6) rfl rfl rfl ?_
        | refine wpList_load_blk aggSt hB2 0 _ hsl (fun j v e => by simpa using e) (.tmp 9) rfl rfl rfl ?_)
       refine (must_below p _ s (toldS f) cs _ _ (unhide HRP2) G.sup hz hSC (StC_cells hok) _ _ hTS ft).mono ?_
       rintro e v3 ⟨g1, g2, hb3⟩
       have hI3 := (unhide HI2).below hb3
       have hB3 := hB2.below hb3 hB2.lt
       have hBh3 := hBh.below hb3 hBh.lt
       clear HI2 hBh hB2 q7 r0
       cases hq : belowS p s (toldS f) with
       | false =>
        obtain rfl := g2 hq
        have HPB : Hid (passB p c m = false) := passB_no hlt (unhide HPK) (by rw [unhide HST, hq]; rfl)
        clear hq g1 g2
        go_wp2_with fail
        exact pass_quit hI3.bel hI3.nd hI3.mks hI3.lo (unhide HPB)
       | true =>
        obtain rfl := g1 hq
        have HST2 : Hid (stepS p m k (some s) = goS p m k (toldS f)) := by show _ = _; rw [unhide HST, hq]; rfl
        have HI3 := hide hI3
        clear hq g1 g2 hI3
        go_wp2_with fail
        refine wpF_of_wp ?_
        go_wp2_with (first
         | refine wpList_load_blk aggSt hB3 0 _ hsl (fun j v e => by simpa using e) (.tmp 9) rfl rfl rfl ?_
         | (refine wpList_store_blk aggSt hBh3 0 _ hsl (by omega) hso (.tmp 6) (.tmp 37) rfl rfl rfl rfl ?_; intro v4 hB4 hM4 hs4; rw [putAt_all (by rw [hsl, hl])] at hB4; have a4 : v4.cell? ⟨ba, 0, none⟩ = some (.bool true) := ((unhide HI3).at_.mods hM4 (by omega)).cell 0; have f4 := ((unhide HI3).at_.mods hM4 (by omega)).frozen 0))
        unfold PassH
        exact ⟨some (toldS f), _, _, _, _, _, _, _, _, _, _, _, _, _, _, _, _, _, _, _, _, _, _, _, _, _, _, _, _, _, _, _, _, _, _, _, _, _, _, _, _, _, _, _, _, _, _, _, _, _, _, _, rfl, (unhide HI3).put hwb hab hM4 hB4 hsl (some (toldS f)) (fun s e => by obtain rfl := Option.some.inj e; exact ⟨StC_cells hok, ft⟩), .inr ⟨_, rfl, unhide HST2⟩⟩
  ·have hlt' : ¬ (k : Int) < (m.code.length : Int) := by omega
   obtain rfl : k = m.code.length := by omega
   have hpb : passB p c m = true := by unfold passB; rw [hpk]; rfl
   have HPB := hide hpb
   clear hpb hlt hpk hI
   refine wpF_seq_wp ?_
   go_wp2_with fail
   refine wpF_seq_wp ?_
   go_wp2_with fail
   exact pass_leave (unhide HI) (unhide HPB) rfl
end Go.Proofs.YtiiokkllmchohaaGreat
namespace Go.Proofs.YtiiokkllmchohaaGreat
open Go.RowKit Go.Shelf
attribute [local go_sem ↓] Go.wp_at_zero Go.wp_at_succ
attribute [local go_sem] frz_drew
structure ChkBox (w : World) (b0 b1 b2 : Nat) (p : List LClass) (vc : Value) (c : Int) (m : LMeth) (va vco vf : Value) : Prop where
 c0 : Blk w b0 24 [vc]
 c1 : Blk w b1 3 [.int .i64 c]
 c2 : Blk w b2 63 [.int .i64 m.slot, va, .int .i64 m.ret, .int .i64 m.locals, .int .i64 m.stack, vco, vf]
 rp : RProg w vc p
 gv : GVals w.cell? m va vco vf
theorem ChkBox.below {w w' : World} {b0 b1 b2 : Nat} {p : List LClass} {vc : Value} {c : Int} {m : LMeth} {va vco vf : Value} (h : ChkBox w b0 b1 b2 p vc c m va vco vf) (b : Below w.heap.size w w') : ChkBox w' b0 b1 b2 p vc c m va vco vf :=
 ⟨h.c0.below b h.c0.lt, h.c1.below b h.c1.lt, h.c2.below b h.c2.lt, prog_keep (Keeps.of_below b) h.rp, GVals.keep (Keeps.of_below b) h.gv⟩
set_option maxHeartbeats 1000000 in
set_option maxRecDepth 100000 in
theorem chk1 (p : List LClass) (vc : Value) (c : Int) (m : LMeth) (va vco vf : Value) (b0 b1 b2 : Nat) (w : World) (h : ChkBox w b0 b1 b2 p vc c m va vco vf) (G : Good p) (hc0 : 0 ≤ c) (hc1 : c < (p.length : Int)) (O : MethOk p c m) :
  Calls Tryz.prog 54 #[.pointer (some ⟨b0, 0, none⟩), .pointer (some ⟨b1, 0, none⟩), .pointer (some ⟨b2, 0, none⟩)] w fun e w' => MustR (passB p c m) w w' e := by
 have H := hide h
 obtain ⟨pa, _, _, pcap, rfl, _⟩ := h.rp
 obtain ⟨hva, hvc, hvf⟩ := h.gv
 obtain ⟨aa, _, _, acap, rfl, _⟩ := hva
 obtain ⟨ca, _, _, ccap, rfl, _⟩ := hvc
 obtain ⟨fa, _, _, fcap, rfl, _⟩ := hvf
 have q0 : w.cell? ⟨b0, 0, none⟩ = some (.slice pa p.length pcap) := h.c0.cell 0
 have q1 : w.cell? ⟨b1, 0, none⟩ = some (.int .i64 c) := h.c1.cell 0
 have m0 : w.cell? ⟨b2, 0, none⟩ = some (.int .i64 m.slot) := h.c2.cell 0
 have m1 : w.cell? ⟨b2, 1, none⟩ = some (.slice aa m.args.length acap) := h.c2.cell 1
 have m2 : w.cell? ⟨b2, 2, none⟩ = some (.int .i64 m.ret) := h.c2.cell 2
 have m3 : w.cell? ⟨b2, 3, none⟩ = some (.int .i64 m.locals) := h.c2.cell 3
 have m4 : w.cell? ⟨b2, 4, none⟩ = some (.int .i64 m.stack) := h.c2.cell 4
 have m5 : w.cell? ⟨b2, 5, none⟩ = some (.slice ca m.code.length ccap) := h.c2.cell 5
 have m6 : w.cell? ⟨b2, 6, none⟩ = some (.slice fa m.frames.length fcap) := h.c2.cell 6
 clear h
 go_enter Tryz.func54, Tryz.ntmps54
 go_wp2_with fail
 refine (pass_pass p _ c m _ _ _ _ (unhide H).rp hc0 hc1 (unhide H).gv G O.ok O.ins O.c40 O.fr O.f40 O.a7 O.bg).mono ?_
 rintro e w1 ⟨h1, h2, hb⟩
 cases hq : passB p c m with
 | true =>
  obtain rfl := h1 hq
  have HQ := hide hq
  clear hq h1 h2
  go_wp2_with fail
  go_end0
  exact ⟨fun _ => rfl, fun e => (by rw [unhide HQ] at e; cases e), hb⟩
 | false =>
  obtain rfl := h2 hq
  have HQ := hide hq
  clear hq h1 h2
  go_wp2_with fail
  exact ⟨rfl, fun e => (by rw [unhide HQ] at e; cases e), fun _ => rfl, hb⟩

def AttR (b : Bool) (w w' : World) (e : Ending) : Prop := e = .returned (.int .i64 (if b then 0 else 5)) ∧ Below w.heap.size w w'
set_option maxHeartbeats 1000000 in
set_option maxRecDepth 100000 in
theorem chk_attempt (p : List LClass) (vc : Value) (c : Int) (m : LMeth) (va vco vf : Value) (b0 b1 b2 : Nat) (w : World) (h : ChkBox w b0 b1 b2 p vc c m va vco vf) (G : Good p) (hc0 : 0 ≤ c) (hc1 : c < (p.length : Int)) (O : MethOk p c m) :
  Calls Tryz.prog 36 #[.func (.func 54) #[] #[.pointer (some ⟨b0, 0, none⟩), .pointer (some ⟨b1, 0, none⟩), .pointer (some ⟨b2, 0, none⟩)]] w fun e w' => AttR (passB p c m) w w' e := by
 have hmf : ∀ (fn : Fn) (first cap : Array Value) (w : World), (Instr.makeFunc fn first cap).run Tryz.prog w = .ok (.func fn first cap) w := fun _ _ _ _ => rfl
 have H1 := hide (h.below (box_below w (.cells #[.int .i64 0] 26)))
 have be := Blk.new w #[.int .i64 0] 26
 have hbw := box_below w (.cells #[.int .i64 0] 26)
 clear h
 go_enter_defers Tryz.func36, Tryz.ntmps36
 go_wp2_with fail
 generalize w.alloc _ = W at *
 refine Calls.mono (chk1 p vc c m va vco vf b0 b1 b2 _ (unhide H1) G hc0 hc1 O) ?_
 rintro e w1 ⟨h1, h2, hb⟩
 have be1 := be.below hb be.lt
 have c0 : w1.cell? ⟨w.heap.size, 0, none⟩ = some (.int .i64 0) := be1.cell 0
 have f0 := be1.frozen 0
 have hb1 := hbw.trans (hb.mono hbw.size)
 have HB := hide hb1
 cases hq : passB p c m with
 | false =>
  obtain rfl := h2 hq
  have HQ := hide hq
  clear hq h1 h2 hb hb1
  go_wp2_with fail
  refine leaves_cons (f := 72) (args := #[.pointer (some ⟨w.heap.size, 0, none⟩)]) (by simp) (by simp [go_sem]) ?_
  refine (catch_giving ⟨w.heap.size, 0, none⟩ 5 0 _ c0 f0).mono ?_
  rintro e u' w2 ⟨rfl, rfl, rfl⟩
  have Z0 := ((be1.alloc (.cells #[.int .i64 5] 119)).setCell 0 (.int .i64 5)).cell 0
  have Z2 := ((unhide HB).alloc (unhide HB).size (.cells #[.int .i64 5] 119)).setCell (p := ⟨w.heap.size, 0, none⟩) (Nat.le_refl _) (.int .i64 5)
  generalize World.setCell _ _ _ = Z at Z0 Z2 ⊢
  replace Z0 : Z.cell? ⟨w.heap.size, 0, none⟩ = some (.int .i64 5) := Z0
  clear c0 f0
  simp [Leaves, settle, results, Tryz.results36, go_sem, Z0]
  exact ⟨by rw [unhide HQ]; rfl, Z2⟩
 | true =>
  obtain rfl := h1 hq
  have HQ := hide hq
  clear hq h1 h2 hb hb1
  go_wp2_with fail
  have Z0 := (be1.setCell 0 (.int .i64 0)).cell 0
  have Z2 := (unhide HB).setCell (p := ⟨w.heap.size, 0, none⟩) (Nat.le_refl _) (.int .i64 0)
  generalize World.setCell _ _ _ = Z at Z0 Z2 ⊢
  replace Z0 : Z.cell? ⟨w.heap.size, 0, none⟩ = some (.int .i64 0) := Z0
  clear c0 f0
  refine leaves_cons (f := 72) (args := #[.pointer (some ⟨w.heap.size, 0, none⟩)]) (by simp) (by simp [go_sem]) ?_
  refine (catch_idle ⟨w.heap.size, 0, none⟩ _).mono ?_
  rintro e u' w2 ⟨rfl, rfl, rfl⟩
  simp [Leaves, settle, results, Tryz.results36, go_sem, Z0]
  exact ⟨by rw [unhide HQ]; rfl, Z2⟩
def checkI (p : List LClass) (c k : Int) : Int := if formI p = 0 then (match ownM p c k with
 | none => 4
 | some m => if passB p c m then 0 else 5) else formI p
set_option maxHeartbeats 1000000 in
set_option maxRecDepth 100000 in
theorem code_chk (p : List LClass) (vc : Value) (c k : Int) (w : World) (hp : RProg w vc p) (hwf : wfProg p) (hz : szProg p ≤ 4194304) :
  Calls Tryz.prog 23 #[.agg #[vc], .int .i64 c, .int .i64 k] w fun e w' => e = .returned (.int .i64 (checkI p c k)) ∧ Below w.heap.size w w' := by
 have hmf : ∀ (fn : Fn) (first cap : Array Value) (w : World), (Instr.makeFunc fn first cap).run Tryz.prog w = .ok (.func fn first cap) w := fun _ _ _ _ => rfl
 have HP := hide hp
 obtain ⟨pa, _, _, pcap, rfl, _⟩ := hp
 have hbel : Below w.heap.size w ((w.alloc (.cells #[.slice pa p.length pcap] 24)).alloc (.cells #[.int .i64 c] 3)) := box2_below _ _ _
 have B0 : Blk ((w.alloc (.cells #[.slice pa p.length pcap] 24)).alloc (.cells #[.int .i64 c] 3)) w.heap.size 24 [.slice pa p.length pcap] := (Blk.new w _ _).alloc _
 have B1 : Blk ((w.alloc (.cells #[.slice pa p.length pcap] 24)).alloc (.cells #[.int .i64 c] 3)) (w.heap.size + 1) 3 [.int .i64 c] := by
  have := Blk.new (w.alloc (.cells #[.slice pa p.length pcap] 24)) #[.int .i64 c] 3
  rw [World.size_alloc] at this
  exact this
 have HRP := hide (prog_keep (Keeps.of_below hbel) (unhide HP))
 go_enter Tryz.func23, Tryz.ntmps23
 go_wp2_with fail
 refine (code_find p _ c k _ (unhide HRP) hwf hz).mono ?_
 rintro e w1 ⟨h1, h2, h3, hb1⟩
 replace B0 := B0.below hb1 B0.lt
 replace B1 := B1.below hb1 B1.lt
 have hbw := hbel.trans (hb1.mono hbel.size)
 by_cases hF : formI p = 0
 ·cases hm : ownM p c k with
  | none =>
   obtain rfl := h2 hF hm
   have HC : Hid (checkI p c k = 4) := by show _ = _; unfold checkI; rw [if_pos hF, hm]
   clear h1 h2 h3 hF hm
   go_wp2_with (refine wpList_store_blk aggMeth (Blk.new _ _ _) 0 zero7 rfl (by simp) zero7_one (.tmp 7) (.tmp 14) rfl rfl rfl rfl ?_; intro w3 hB3 hM3 hs3)
   go_ret
   rw [unhide HC]
   have hb3 := (box_below w1 _).trans (hM3.below (by simp) (fun k hk e => by omega))
   exact ⟨rfl, hbw.trans (hb3.mono hbw.size)⟩
  | some m =>
   obtain ⟨va, vco, vf, rfl, hv⟩ := h1 m hF hm
   obtain ⟨o0, o1, O⟩ := form_own hF hm
   have G := form_good hF hz
   have HC : Hid (checkI p c k = if passB p c m then 0 else 5) := by show _ = _; unfold checkI; rw [if_pos hF, hm]
   have HV := hide (GVals.keep (Keeps.of_below hb1) hv)
   clear h1 h2 h3 hF hm
   unfold methV
   obtain ⟨hva, hvc, hvf⟩ := hv
   obtain ⟨aa, _, _, acap, rfl, _⟩ := hva
   obtain ⟨ca, _, _, ccap, rfl, _⟩ := hvc
   obtain ⟨fa, _, _, fcap, rfl, _⟩ := hvf
   have hone : ∀ v ∈ [Value.int .i64 m.slot, .slice aa m.args.length acap, .int .i64 m.ret, .int .i64 m.locals, .int .i64 m.stack, .slice ca m.code.length ccap, .slice fa m.frames.length fcap], v.oneCell' = true := fun v hv => by
    simp only [List.mem_cons, List.not_mem_nil, or_false] at hv
    rcases hv with rfl | rfl | rfl | rfl | rfl | rfl | rfl <;> rfl
   go_wp2_with (refine wpList_store_blk aggMeth (Blk.new _ _ _) 0 _ rfl (by simp) hone (.tmp 7) (.tmp 14) rfl rfl rfl rfl ?_; intro w3 hB3 hM3 hs3)
   rw [putAt_all (by rfl)] at hB3
   have hb3 := (box_below w1 _).trans (hM3.below (by simp) (fun k hk e => by omega))
   have hbw3 := hbw.trans (hb3.mono hbw.size)
   refine (chk_attempt p _ c m _ _ _ w.heap.size (w.heap.size + 1) w1.heap.size _ ⟨B0.below hb3 B0.lt, B1.below hb3 B1.lt, hB3, prog_keep (Keeps.of_below hbw3) (unhide HP), GVals.keep (Keeps.of_below hb3) (unhide HV)⟩ G o0 o1 O).mono ?_
   rintro e w4 ⟨rfl, hb4⟩
   have HBF := hide (hbw3.trans (hb4.mono hbw3.size))
   rw [← unhide HC]
   obtain ⟨r, hr⟩ : ∃ r, r = checkI p c k := ⟨_, rfl⟩
   rw [← hr]
   have HR := hide hr
   clear hr
   go_wp2_with fail
   go_ret
   rw [← unhide HR]
   exact ⟨rfl, unhide HBF⟩
 ·obtain rfl := h3 hF
  have HC : Hid (checkI p c k = formI p) := by show _ = _; unfold checkI; rw [if_neg hF]
  have hF' : (formI p != 0) = true := by simpa using hF
  clear h1 h2 h3 hF
  go_wp2_with (refine wpList_store_blk aggMeth (Blk.new _ _ _) 0 zero7 rfl (by simp) zero7_one (.tmp 7) (.tmp 14) rfl rfl rfl rfl ?_; intro w3 hB3 hM3 hs3)
  go_ret
  rw [unhide HC]
  have hb3 := (box_below w1 _).trans (hM3.below (by simp) (fun k hk e => by omega))
  exact ⟨rfl, hbw.trans (hb3.mono hbw.size)⟩
end Go.Proofs.YtiiokkllmchohaaGreat
