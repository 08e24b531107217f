/- The code's Infer. -/
import Derived.Test.YtiiokkllmchohaaGreatT17
import Derived.Test.YtiiokkllmchohaaGreatT19
/- InfA -/
namespace Go.Proofs.YtiiokkllmchohaaGreat
open Go.RowKit Go.Shelf
attribute [local go_sem ↓] Go.wp_at_zero Go.wp_at_succ
attribute [local go_sem] frz_drew

theorem form_loc {p : List LClass} (h : formI p = 0) {c k : Int} {m : LMeth} (hm : ownM p c k = some m) : 0 ≤ m.locals := by
 unfold ownM at hm
 split at hm
 ·cases hx : p[c.toNat]? with
  | none => rw [hx] at hm; cases hm
  | some x =>
   rw [hx, Option.bind_some] at hm
   have hb := bareB_iff.1 (form_bare h hx hm)
   obtain ⟨_, _, a3, ha, hr, hl, hl8, hs0, hs8⟩ := hb
   omega
 ·cases hm
def Inf1R (r : Option SvSt) (m : LMeth) (b3 : Nat) (w w' : World) (e : Ending) : Prop :=
 (∀ s', r = some s' → ∃ v, e = .returned (.tuple #[]) ∧ Blk w' b3 36 [v] ∧ FrsAt w' w.heap.size v (frmL m s' m.code.length)) ∧ (r = none → e = .panicked (refC 5) ∧ Blk w' b3 36 [.slice none 0 0]) ∧ Mods (fun k => k = b3) w w'
set_option maxHeartbeats 1000000 in
set_option maxRecDepth 100000 in
theorem inf1 (p : List LClass) (vc : Value) (c : Int) (m : LMeth) (va vco vf : Value) (b0 b1 b2 b3 : Nat) (w : World) (h : ChkBox w b0 b1 b2 p vc c m va vco vf) (hb3 : Blk w b3 36 [.slice none 0 0]) (G : Good p) (hc0 : 0 ≤ c) (hc1 : c < (p.length : Int)) (O : MethOk p c m) (hl0 : 0 ≤ m.locals) (N : Nat) (r : Option SvSt) (hN : solveN p m N (putP sv0 0 (beginS c m)) = some r) :
  Calls Tryz.prog 40 #[.pointer (some ⟨b0, 0, none⟩), .pointer (some ⟨b1, 0, none⟩), .pointer (some ⟨b2, 0, none⟩), .pointer (some ⟨b3, 0, none⟩)] w fun e w' => Inf1R r m b3 w w' e := by
 have H := hide h
 have HN := hide hN
 obtain ⟨pa, _, _, pcap, rfl, _⟩ := h.rp
 obtain ⟨hva, hvc, hvf⟩ := h.gv
 obtain ⟨aa, _, _, acap, rfl, _⟩ := hva
 obtain ⟨ca, _, _, ccap, rfl, _⟩ := hvc
 obtain ⟨fa, _, _, fcap, rfl, _⟩ := hvf
 have q0 : w.cell? ⟨b0, 0, none⟩ = some (.slice pa p.length pcap) := h.c0.cell 0
 have q1 : w.cell? ⟨b1, 0, none⟩ = some (.int .i64 c) := h.c1.cell 0
 have m0 : w.cell? ⟨b2, 0, none⟩ = some (.int .i64 m.slot) := h.c2.cell 0
 have m1 : w.cell? ⟨b2, 1, none⟩ = some (.slice aa m.args.length acap) := h.c2.cell 1
 have m2 : w.cell? ⟨b2, 2, none⟩ = some (.int .i64 m.ret) := h.c2.cell 2
 have m3 : w.cell? ⟨b2, 3, none⟩ = some (.int .i64 m.locals) := h.c2.cell 3
 have m4 : w.cell? ⟨b2, 4, none⟩ = some (.int .i64 m.stack) := h.c2.cell 4
 have m5 : w.cell? ⟨b2, 5, none⟩ = some (.slice ca m.code.length ccap) := h.c2.cell 5
 have m6 : w.cell? ⟨b2, 6, none⟩ = some (.slice fa m.frames.length fcap) := h.c2.cell 6
 clear h hN
 go_enter Tryz.func40, Tryz.ntmps40
 go_wp2_with fail
 refine (sv_solve p _ c m _ _ _ _ (unhide H).rp (unhide H).gv G hc0 hc1 O hl0 N r (unhide HN)).mono ?_
 rintro e w1 ⟨h1, h2, hb⟩
 have B3 := hb3.below hb hb3.lt
 have l3 := hb3.lt
 clear q0 q1 m0 m1 m2 m3 m4 m5 m6 HN
 cases r with
 | none =>
  obtain rfl := h2 rfl
  clear h1 h2
  go_wp2_with fail
  exact ⟨rfl, fun s' e => (by cases e), fun _ => ⟨rfl, B3⟩, bnone hb⟩
 | some s' =>
  obtain ⟨v, rfl, cs, hO, hF, hD⟩ := h1 s' rfl
  obtain ⟨ra, rcap, rfl⟩ := own_form hO
  have c3 : w1.cell? ⟨b3, 0, none⟩ = some (.slice none 0 0) := B3.cell 0
  have f3 := B3.frozen 0
  have hM : Mods (fun k => k = b3) w1 (w1.setCell ⟨b3, 0, none⟩ (.slice ra (frmL m s' m.code.length).length rcap)) := (Mods.refl (fun k => k = b3) w1).setCell (p := ⟨b3, 0, none⟩) (fun _ => rfl) _
  have HF : Hid (Inf1R (some s') m b3 w (w1.setCell ⟨b3, 0, none⟩ (.slice ra (frmL m s' m.code.length).length rcap)) (.returned (.tuple #[]))) := by
   refine ⟨fun s2 e => ?_, fun e => (by cases e), (bnone hb).trans hM (fun _ _ e => e)⟩
   obtain rfl := Option.some.inj e
   refine ⟨_, rfl, B3.setCell 0 _, cs, own_mods hO hM (fun g hg e => by have := (hO.lt g hg).1; omega), FrCs.mods hM _ _ hF (fun g hg e => by have := (FrCs.lt _ _ hF g hg).1; omega), hD⟩
  clear h1 h2 hO hF hD hM
  go_wp2_with fail
  go_end0
  exact unhide HF
def Inf2R (r : Option SvSt) (m : LMeth) (b3 : Nat) (w w' : World) (e : Ending) : Prop :=
 (∀ s', r = some s' → ∃ v, e = .returned (.int .i64 0) ∧ Blk w' b3 36 [v] ∧ FrsAt w' w.heap.size v (frmL m s' m.code.length)) ∧ (r = none → e = .returned (.int .i64 5) ∧ Blk w' b3 36 [.slice none 0 0]) ∧ Mods (fun k => k = b3) w w'
set_option maxHeartbeats 1000000 in
set_option maxRecDepth 100000 in
theorem inf_attempt (p : List LClass) (vc : Value) (c : Int) (m : LMeth) (va vco vf : Value) (b0 b1 b2 b3 : Nat) (w : World) (h : ChkBox w b0 b1 b2 p vc c m va vco vf) (hb3 : Blk w b3 36 [.slice none 0 0]) (G : Good p) (hc0 : 0 ≤ c) (hc1 : c < (p.length : Int)) (O : MethOk p c m) (hl0 : 0 ≤ m.locals) (N : Nat) (r : Option SvSt) (hN : solveN p m N (putP sv0 0 (beginS c m)) = some r) :
  Calls Tryz.prog 36 #[.func (.func 40) #[] #[.pointer (some ⟨b0, 0, none⟩), .pointer (some ⟨b1, 0, none⟩), .pointer (some ⟨b2, 0, none⟩), .pointer (some ⟨b3, 0, none⟩)]] w fun e w' => Inf2R r m b3 w w' e := by
 have hmf : ∀ (fn : Fn) (first cap : Array Value) (w : World), (Instr.makeFunc fn first cap).run Tryz.prog w = .ok (.func fn first cap) w := fun _ _ _ _ => rfl
 have H1 := hide (h.below (box_below w (.cells #[.int .i64 0] 26)))
 have HB3 := hide (hb3.alloc (.cells #[.int .i64 0] 26))
 have be := Blk.new w #[.int .i64 0] 26
 have hbw := box_below w (.cells #[.int .i64 0] 26)
 have HN := hide hN
 have l3 := hb3.lt
 clear h hb3 hN
 go_enter_defers Tryz.func36, Tryz.ntmps36
 go_wp2_with fail
 generalize w.alloc _ = W at *
 refine Calls.mono (inf1 p vc c m va vco vf b0 b1 b2 b3 _ (unhide H1) (unhide HB3) G hc0 hc1 O hl0 N r (unhide HN)) ?_
 rintro e w1 ⟨h1, h2, hM⟩
 have be1 := be.mods hM (by omega)
 have c0 : w1.cell? ⟨w.heap.size, 0, none⟩ = some (.int .i64 0) := be1.cell 0
 have f0 := be1.frozen 0
 have HM := hide ((bnone (S := fun k => k = b3) hbw).trans hM (fun _ _ e => e))
 have hsz := hbw.size
 clear HN
 cases r with
 | none =>
  obtain ⟨rfl, B3⟩ := h2 rfl
  clear h1 h2 hM
  go_wp2_with fail
  refine leaves_cons (f := 72) (args := #[.pointer (some ⟨w.heap.size, 0, none⟩)]) (by simp) (by simp [go_sem]) ?_
  refine (catch_giving ⟨w.heap.size, 0, none⟩ 5 0 _ c0 f0).mono ?_
  rintro e u' w2 ⟨rfl, rfl, rfl⟩
  have Z0 := ((be1.alloc (.cells #[.int .i64 5] 119)).setCell 0 (.int .i64 5)).cell 0
  have Z2 := ((unhide HM).alloc (.cells #[.int .i64 5] 119)).setCell (p := ⟨w.heap.size, 0, none⟩) (fun h => absurd h (Nat.lt_irrefl _)) (.int .i64 5)
  have Z3 := (B3.alloc (.cells #[.int .i64 5] 119)).setCell_ne (p := ⟨w.heap.size, 0, none⟩) (by dsimp only; omega) (.int .i64 5)
  generalize World.setCell _ _ _ = Z at Z0 Z2 Z3 ⊢
  replace Z0 : Z.cell? ⟨w.heap.size, 0, none⟩ = some (.int .i64 5) := Z0
  have HF : Hid (Inf2R none m b3 w Z (.returned (.int .i64 5))) := ⟨fun s' e => (by cases e), fun _ => ⟨rfl, Z3⟩, Z2⟩
  clear c0 f0
  simp [Leaves, settle, results, Tryz.results36, go_sem, Z0]
  exact unhide HF
 | some s' =>
  obtain ⟨v, rfl, B3, cs, hO, hF, hD⟩ := h1 s' rfl
  have HFr := hide (And.intro hO (And.intro hF hD))
  clear h1 h2 hM hO hF hD
  go_wp2_with fail
  have Z0 := (be1.setCell 0 (.int .i64 0)).cell 0
  have Z2 := (unhide HM).setCell (p := ⟨w.heap.size, 0, none⟩) (fun h => absurd h (Nat.lt_irrefl _)) (.int .i64 0)
  have Z3 := B3.setCell_ne (p := ⟨w.heap.size, 0, none⟩) (by dsimp only; omega) (.int .i64 0)
  have hMZ : Mods (fun k => k = w.heap.size) w1 (w1.setCell ⟨w.heap.size, 0, none⟩ (.int .i64 0)) := (Mods.refl (fun k => k = w.heap.size) w1).setCell (p := ⟨w.heap.size, 0, none⟩) (fun _ => rfl) _
  generalize World.setCell _ _ _ = Z at Z0 Z2 Z3 hMZ ⊢
  replace Z0 : Z.cell? ⟨w.heap.size, 0, none⟩ = some (.int .i64 0) := Z0
  have HF : Hid (Inf2R (some s') m b3 w Z (.returned (.int .i64 0))) := by
   have hWs := be.lt
   refine ⟨fun s2 e => ?_, fun e => (by cases e), Z2⟩
   obtain rfl := Option.some.inj e
   obtain ⟨hO, hF, hD⟩ := unhide HFr
   refine ⟨_, rfl, Z3, cs, own_base (own_mods hO hMZ (fun g hg e => by have := (hO.lt g hg).1; omega)) hsz, FrCs.base hsz _ _ (FrCs.mods hMZ _ _ hF (fun g hg e => by have := (FrCs.lt _ _ hF g hg).1; omega)), hD⟩
  clear c0 f0
  refine leaves_cons (f := 72) (args := #[.pointer (some ⟨w.heap.size, 0, none⟩)]) (by simp) (by simp [go_sem]) ?_
  refine (catch_idle ⟨w.heap.size, 0, none⟩ _).mono ?_
  rintro e u' w2 ⟨rfl, rfl, rfl⟩
  simp [Leaves, settle, results, Tryz.results36, go_sem, Z0]
  exact unhide HF
def InferR (p : List LClass) (c k : Int) (r : Option SvSt) (w w' : World) (e : Ending) : Prop :=
 (formI p ≠ 0 → e = .returned (.tuple #[.slice none 0 0, .int .i64 (formI p)])) ∧ (formI p = 0 → ownM p c k = none → e = .returned (.tuple #[.slice none 0 0, .int .i64 4])) ∧
  (formI p = 0 → ∀ m, ownM p c k = some m → (r = none → e = .returned (.tuple #[.slice none 0 0, .int .i64 5])) ∧ (∀ s, r = some s → ∃ v, e = .returned (.tuple #[v, .int .i64 0]) ∧ FrsAt w' w.heap.size v (frmL m s m.code.length))) ∧ Below w.heap.size w w'
set_option maxHeartbeats 1000000 in
set_option maxRecDepth 100000 in
theorem code_infer (p : List LClass) (vc : Value) (c k : Int) (w : World) (hp : RProg w vc p) (hwf : wfProg p) (hz : szProg p ≤ 4194304) (N : Nat) (r : Option SvSt) (hT : ∀ m, formI p = 0 → ownM p c k = some m → solveN p m N (putP sv0 0 (beginS c m)) = some r) :
  Calls Tryz.prog 18 #[.agg #[vc], .int .i64 c, .int .i64 k] w fun e w' => InferR p c k r w w' e := by
 have hmf : ∀ (fn : Fn) (first cap : Array Value) (w : World), (Instr.makeFunc fn first cap).run Tryz.prog w = .ok (.func fn first cap) w := fun _ _ _ _ => rfl
 have HP := hide hp
 obtain ⟨pa, _, _, pcap, rfl, _⟩ := hp
 have hbel : Below w.heap.size w ((w.alloc (.cells #[.slice pa p.length pcap] 24)).alloc (.cells #[.int .i64 c] 3)) := box2_below _ _ _
 have B0 : Blk ((w.alloc (.cells #[.slice pa p.length pcap] 24)).alloc (.cells #[.int .i64 c] 3)) w.heap.size 24 [.slice pa p.length pcap] := (Blk.new w _ _).alloc _
 have B1 : Blk ((w.alloc (.cells #[.slice pa p.length pcap] 24)).alloc (.cells #[.int .i64 c] 3)) (w.heap.size + 1) 3 [.int .i64 c] := by
  have := Blk.new (w.alloc (.cells #[.slice pa p.length pcap] 24)) #[.int .i64 c] 3
  rw [World.size_alloc] at this
  exact this
 have HRP := hide (prog_keep (Keeps.of_below hbel) (unhide HP))
 go_enter Tryz.func18, Tryz.ntmps18
 go_wp2_with fail
 refine (code_find p _ c k _ (unhide HRP) hwf hz).mono ?_
 rintro e w1 ⟨h1, h2, h3, hb1⟩
 replace B0 := B0.below hb1 B0.lt
 replace B1 := B1.below hb1 B1.lt
 have hbw := hbel.trans (hb1.mono hbel.size)
 by_cases hF : formI p = 0
 ·cases hm : ownM p c k with
  | none =>
   obtain rfl := h2 hF hm
   have HFM := hide (And.intro hF hm)
   clear h1 h2 h3 hF hm
   go_wp2_with (refine wpList_store_blk aggMeth (Blk.new _ _ _) 0 zero7 rfl (by simp) zero7_one (.tmp 8) (.tmp 16) rfl rfl rfl rfl ?_; intro w3 hB3 hM3 hs3)
   refine bodyPost_ret (results_tmp2 rfl _ _ _) rfl ?_
   have hb3 := (box_below w1 _).trans (hM3.below (by simp) (fun k hk e => by omega))
   exact ⟨fun e => absurd (unhide HFM).1 e, fun _ _ => rfl, fun _ m e => (by rw [(unhide HFM).2] at e; cases e), hbw.trans (hb3.mono hbw.size)⟩
  | some m =>
   obtain ⟨va, vco, vf, rfl, hv⟩ := h1 m hF hm
   obtain ⟨o0, o1, O⟩ := form_own hF hm
   have hl0 := form_loc hF hm
   have G := form_good hF hz
   have hN := hT m hF hm
   have HFM := hide (And.intro hF hm)
   have HV := hide (GVals.keep (Keeps.of_below hb1) hv)
   clear h1 h2 h3 hF hm
   unfold methV
   obtain ⟨hva, hvc, hvf⟩ := hv
   obtain ⟨aa, _, _, acap, rfl, _⟩ := hva
   obtain ⟨ca, _, _, ccap, rfl, _⟩ := hvc
   obtain ⟨fa, _, _, fcap, rfl, _⟩ := hvf
   have hone : ∀ v ∈ [Value.int .i64 m.slot, .slice aa m.args.length acap, .int .i64 m.ret, .int .i64 m.locals, .int .i64 m.stack, .slice ca m.code.length ccap, .slice fa m.frames.length fcap], v.oneCell' = true := fun v hv => by
    simp only [List.mem_cons, List.not_mem_nil, or_false] at hv
    rcases hv with rfl | rfl | rfl | rfl | rfl | rfl | rfl <;> rfl
   have HNN := hide hN
   have HHT := hide hT
   clear hN hT
   go_wp2_with (refine wpList_store_blk aggMeth (Blk.new _ _ _) 0 _ rfl (by simp) hone (.tmp 8) (.tmp 16) rfl rfl rfl rfl ?_; intro w3 hB3 hM3 hs3)
   rw [putAt_all (by rfl)] at hB3
   have hb3 := (box_below w1 _).trans (hM3.below (by simp) (fun k hk e => by omega))
   have hbw3 := hbw.trans (hb3.mono hbw.size)
   rw [World.size_alloc] at hs3
   have hb4 := hb3.trans ((box_below w3 (.cells #[.slice none 0 0] 36)).mono hb3.size)
   have hbw4 := hbw.trans (hb4.mono hbw.size)
   have B3 := Blk.new w3 #[.slice none 0 0] 36
   rw [hs3] at B3
   have hw1 := hbw.size
   refine (inf_attempt p _ c m _ _ _ w.heap.size (w.heap.size + 1) w1.heap.size (w1.heap.size + 1) _ ⟨B0.below hb4 B0.lt, B1.below hb4 B1.lt, hB3.alloc _, prog_keep (Keeps.of_below hbw4) (unhide HP), GVals.keep (Keeps.of_below hb4) (unhide HV)⟩ B3 G o0 o1 O hl0 N r (unhide HNN)).mono ?_
   rintro e w5 ⟨g1, g2, hM5⟩
   have hb5 : Below w.heap.size w w5 := hbw4.trans (hM5.below hbw4.size (fun k hk e => by omega))
   clear HNN HHT hB3 hM3 hb3 hbw3 hb4 hone
   cases r with
   | none =>
    obtain ⟨rfl, C3⟩ := g2 rfl
    have c3 : w5.cell? ⟨w1.heap.size + 1, 0, none⟩ = some (.slice none 0 0) := C3.cell 0
    have HF : Hid (InferR p c k none w w5 (.returned (.tuple #[.slice none 0 0, .int .i64 5]))) :=
     ⟨fun e => absurd (unhide HFM).1 e, fun _ e => (by rw [(unhide HFM).2] at e; cases e), fun _ m2 e => ⟨fun _ => rfl, fun s e => (by cases e)⟩, hb5⟩
    clear g1 g2
    go_wp2_with fail
    refine bodyPost_ret (results_tmp2 rfl _ _ _) rfl ?_
    exact unhide HF
   | some s =>
    obtain ⟨v, rfl, C3, hFr⟩ := g1 s rfl
    obtain ⟨ra, rcap, hv⟩ := own_form hFr.choose_spec.1
    have c3 : w5.cell? ⟨w1.heap.size + 1, 0, none⟩ = some v := C3.cell 0
    rw [hv] at c3
    have HF : Hid (InferR p c k (some s) w w5 (.returned (.tuple #[v, .int .i64 0]))) := by
     refine ⟨fun e => absurd (unhide HFM).1 e, fun _ e => (by rw [(unhide HFM).2] at e; cases e), fun _ m2 e => ⟨fun e => (by cases e), fun s' e' => ?_⟩, hb5⟩
     obtain rfl := Option.some.inj e'
     rw [(unhide HFM).2] at e
     obtain rfl := Option.some.inj e
     obtain ⟨cs, hO, hC, hD⟩ := hFr
     exact ⟨_, rfl, cs, own_base hO hbw4.size, FrCs.base hbw4.size _ _ hC, hD⟩
    rw [hv] at HF
    clear g1 g2 hFr hv
    go_wp2_with fail
    refine bodyPost_ret (results_tmp2 rfl _ _ _) rfl ?_
    exact unhide HF
 ·obtain rfl := h3 hF
  have HFF := hide hF
  have hF' : (formI p != 0) = true := by simpa using hF
  clear h1 h2 h3 hF
  go_wp2_with (refine wpList_store_blk aggMeth (Blk.new _ _ _) 0 zero7 rfl (by simp) zero7_one (.tmp 8) (.tmp 16) rfl rfl rfl rfl ?_; intro w3 hB3 hM3 hs3)
  refine bodyPost_ret (results_tmp2 rfl _ _ _) rfl ?_
  have hb3 := (box_below w1 _).trans (hM3.below (by simp) (fun k hk e => by omega))
  exact ⟨fun _ => rfl, fun e => absurd e (unhide HFF), fun e => absurd e (unhide HFF), hbw.trans (hb3.mono hbw.size)⟩
end Go.Proofs.YtiiokkllmchohaaGreat
