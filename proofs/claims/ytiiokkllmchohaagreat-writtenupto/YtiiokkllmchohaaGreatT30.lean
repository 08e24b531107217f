/- The code's Infer. -/
import Derived.Test.YtiiokkllmchohaaGreatT02
import Derived.Test.YtiiokkllmchohaaGreatT25
import Derived.Test.YtiiokkllmchohaaGreatT29
/- InfA -/
namespace Go.Proofs.YtiiokkllmchohaaGreat
open Go.RowKit Go.Shelf
attribute [local go_sem ↓] Go.wp_at_zero Go.wp_at_succ
attribute [local go_sem] frz_drew

theorem form_loc {p : List LClass} (h : formI p = 0) {c k : Int} {m : LMeth} (hm : ownM p c k = some m) : 0 ≤ m.locals := by
  unfold ownM at hm
  split at hm
  · cases hx : p[c.toNat]? with
    | none => rw [hx] at hm; cases hm
    | some x =>
      rw [hx, Option.bind_some] at hm
      have hb := bareB_iff.1 (form_bare h hx hm)
      obtain ⟨_, _, a3, ha, hr, hl, hl8, hs0, hs8⟩ := hb
      omega
  · cases hm
def Inf1R (r : Option SvSt) (m : LMeth) (b3 : Nat) (w w' : World) (e : Ending) : Prop :=
  (∀ s', r = some s' → ∃ v, e = .returned (.tuple #[]) ∧ Blk w' b3 36 [v] ∧ FrsAt w' w.heap.size v (frmL m s' m.code.length)) ∧ (r = none → e = .panicked (refC 5) ∧ Blk w' b3 36 [.slice none 0 0]) ∧ Mods (fun k => k = b3) w w'
set_option maxHeartbeats 1000000 in
set_option maxRecDepth 100000 in
theorem inf1 (p : List LClass) (vc : Value) (c : Int) (m : LMeth) (va vco vf : Value) (b0 b1 b2 b3 : Nat) (w : World) (h : ChkBox w b0 b1 b2 p vc c m va vco vf) (hb3 : Blk w b3 36 [.slice none 0 0]) (G : Good p) (hc0 : 0 ≤ c) (hc1 : c < (p.length : Int)) (O : MethOk p c m) (hl0 : 0 ≤ m.locals) (N : Nat) (r : Option SvSt) (hN : solveN p m N (putP sv0 0 (beginS c m)) = some r) :
    Calls Tryz.prog 40 #[.pointer (some ⟨b0, 0, none⟩), .pointer (some ⟨b1, 0, none⟩), .pointer (some ⟨b2, 0, none⟩), .pointer (some ⟨b3, 0, none⟩)] w fun e w' => Inf1R r m b3 w w' e := by
  have H := hide h
  have HN := hide hN
  obtain ⟨pa, _, _, pcap, rfl, _⟩ := h.rp
  obtain ⟨hva, hvc, hvf⟩ := h.gv
  obtain ⟨aa, _, _, acap, rfl, _⟩ := hva
  obtain ⟨ca, _, _, ccap, rfl, _⟩ := hvc
  obtain ⟨fa, _, _, fcap, rfl, _⟩ := hvf
  have q0 : w.cell? ⟨b0, 0, none⟩ = some (.slice pa p.length pcap) := h.c0.cell 0
  have q1 : w.cell? ⟨b1, 0, none⟩ = some (.int .i64 c) := h.c1.cell 0
  have m0 : w.cell? ⟨b2, 0, none⟩ = some (.int .i64 m.slot) := h.c2.cell 0
  have m1 : w.cell? ⟨b2, 1, none⟩ = some (.slice aa m.args.length acap) := h.c2.cell 1
  have m2 : w.cell? ⟨b2, 2, none⟩ = some (.int .i64 m.ret) := h.c2.cell 2
  have m3 : w.cell? ⟨b2, 3, none⟩ = some (.int .i64 m.locals) := h.c2.cell 3
  have m4 : w.cell? ⟨b2, 4, none⟩ = some (.int .i64 m.stack) := h.c2.cell 4
  have m5 : w.cell? ⟨b2, 5, none⟩ = some (.slice ca m.code.length ccap) := h.c2.cell 5
  have m6 : w.cell? ⟨b2, 6, none⟩ = some (.slice fa m.frames.length fcap) := h.c2.cell 6
  clear h hN
  go_enter Tryz.func40, Tryz.ntmps40
  go_wp2_with fail
  refine (sv_solve p _ c m _ _ _ _ (unhide H).rp (unhide H).gv G hc0 hc1 O hl0 N r (unhide HN)).mono ?_
  rintro e w1 ⟨h1, h2, hb⟩
  have B3 := hb3.below hb hb3.lt
  have l3 := hb3.lt
  clear q0 q1 m0 m1 m2 m3 m4 m5 m6 HN
  cases r with
  | none =>
    obtain rfl := h2 rfl
    clear h1 h2
    go_wp2_with fail
    exact ⟨rfl, fun s' e => (by cases e), fun _ => ⟨rfl, B3⟩, bnone hb⟩
  | some s' =>
    obtain ⟨v, rfl, cs, hO, hF, hD⟩ := h1 s' rfl
    obtain ⟨ra, rcap, rfl⟩ := own_form hO
    have c3 : w1.cell? ⟨b3, 0, none⟩ = some (.slice none 0 0) := B3.cell 0
    have f3 := B3.frozen 0
    have hM : Mods (fun k => k = b3) w1 (w1.setCell ⟨b3, 0, none⟩ (.slice ra (frmL m s' m.code.length).length rcap)) := (Mods.refl (fun k => k = b3) w1).setCell (p := ⟨b3, 0, none⟩) (fun _ => rfl) _
    have HF : Hid (Inf1R (some s') m b3 w (w1.setCell ⟨b3, 0, none⟩ (.slice ra (frmL m s' m.code.length).length rcap)) (.returned (.tuple #[]))) := by
      refine ⟨fun s2 e => ?_, fun e => (by cases e), (bnone hb).trans hM (fun _ _ e => e)⟩
      obtain rfl := Option.some.inj e
      refine ⟨_, rfl, B3.setCell 0 _, cs, own_mods hO hM (fun g hg e => by have := (hO.lt g hg).1; omega), FrCs.mods hM _ _ hF (fun g hg e => by have := (FrCs.lt _ _ hF g hg).1; omega), hD⟩
    clear h1 h2 hO hF hD hM
    go_wp2_with fail
    go_end0
    exact unhide HF
def Inf2R (r : Option SvSt) (m : LMeth) (b3 : Nat) (w w' : World) (e : Ending) : Prop :=
  (∀ s', r = some s' → ∃ v, e = .returned (.int .i64 0) ∧ Blk w' b3 36 [v] ∧ FrsAt w' w.heap.size v (frmL m s' m.code.length)) ∧ (r = none → e = .returned (.int .i64 5) ∧ Blk w' b3 36 [.slice none 0 0]) ∧ Mods (fun k => k = b3) w w'
set_option maxHeartbeats 1000000 in
set_option maxRecDepth 100000 in
theorem inf_attempt (p : List LClass) (vc : Value) (c : Int) (m : LMeth) (va vco vf : Value) (b0 b1 b2 b3 : Nat) (w : World) (h : ChkBox w b0 b1 b2 p vc c m va vco vf) (hb3 : Blk w b3 36 [.slice none 0 0]) (G : Good p) (hc0 : 0 ≤ c) (hc1 : c < (p.length : Int)) (O : MethOk p c m) (hl0 : 0 ≤ m.locals) (N : Nat) (r : Option SvSt) (hN : solveN p m N (putP sv0 0 (beginS c m)) = some r) :
    Calls Tryz.prog 36 #[.func (.func 40) #[] #[.pointer (some ⟨b0, 0, none⟩), .pointer (some ⟨b1, 0, none⟩), .pointer (some ⟨b2, 0, none⟩), .pointer (some ⟨b3, 0, none⟩)]] w fun e w' => Inf2R r m b3 w w' e := by
  have hmf : ∀ (fn : Fn) (first cap : Array Value) (w : World), (Instr.makeFunc fn first cap).run Tryz.prog w = .ok (.func fn first cap) w := fun _ _ _ _ => rfl
  have H1 := hide (h.below (box_below w (.cells #[.int .i64 0] 26)))
  have HB3 := hide (hb3.alloc (.cells #[.int .i64 0] 26))
  have be := Blk.new w #[.int .i64 0] 26
  have hbw := box_below w (.cells #[.int .i64 0] 26)
  have HN := hide hN
  have l3 := hb3.lt
  clear h hb3 hN
  go_enter_defers Tryz.func36, Tryz.ntmps36
  go_wp2_with fail
  generalize w.alloc _ = W at *
  refine Calls.mono (inf1 p vc c m va vco vf b0 b1 b2 b3 _ (unhide H1) (unhide HB3) G hc0 hc1 O hl0 N r (unhide HN)) ?_
  rintro e w1 ⟨h1, h2, hM⟩
  have be1 := be.mods hM (by omega)
  have c0 : w1.cell? ⟨w.heap.size, 0, none⟩ = some (.int .i64 0) := be1.cell 0
  have f0 := be1.frozen 0
  have HM := hide ((bnone (S := fun k => k = b3) hbw).trans hM (fun _ _ e => e))
  have hsz := hbw.size
  clear HN
  cases r with
  | none =>
    obtain ⟨rfl, B3⟩ := h2 rfl
    clear h1 h2 hM
    go_wp2_with fail
    refine leaves_cons (f := 72) (args := #[.pointer (some ⟨w.heap.size, 0, none⟩)]) (by simp) (by simp [go_sem]) ?_
    refine (catch_giving ⟨w.heap.size, 0, none⟩ 5 0 _ c0 f0).mono ?_
    rintro e u' w2 ⟨rfl, rfl, rfl⟩
    have Z0 := ((be1.alloc (.cells #[.int .i64 5] 119)).setCell 0 (.int .i64 5)).cell 0
    have Z2 := ((unhide HM).alloc (.cells #[.int .i64 5] 119)).setCell (p := ⟨w.heap.size, 0, none⟩) (fun h => absurd h (Nat.lt_irrefl _)) (.int .i64 5)
    have Z3 := (B3.alloc (.cells #[.int .i64 5] 119)).setCell_ne (p := ⟨w.heap.size, 0, none⟩) (by dsimp only; omega) (.int .i64 5)
    generalize World.setCell _ _ _ = Z at Z0 Z2 Z3 ⊢
    replace Z0 : Z.cell? ⟨w.heap.size, 0, none⟩ = some (.int .i64 5) := Z0
    have HF : Hid (Inf2R none m b3 w Z (.returned (.int .i64 5))) := ⟨fun s' e => (by cases e), fun _ => ⟨rfl, Z3⟩, Z2⟩
    clear c0 f0
    simp [Leaves, settle, results, Tryz.results36, go_sem, Z0]
    exact unhide HF
  | some s' =>
    obtain ⟨v, rfl, B3, cs, hO, hF, hD⟩ := h1 s' rfl
    have HFr := hide (And.intro hO (And.intro hF hD))
    clear h1 h2 hM hO hF hD
    go_wp2_with fail
    have Z0 := (be1.setCell 0 (.int .i64 0)).cell 0
    have Z2 := (unhide HM).setCell (p := ⟨w.heap.size, 0, none⟩) (fun h => absurd h (Nat.lt_irrefl _)) (.int .i64 0)
    have Z3 := B3.setCell_ne (p := ⟨w.heap.size, 0, none⟩) (by dsimp only; omega) (.int .i64 0)
    have hMZ : Mods (fun k => k = w.heap.size) w1 (w1.setCell ⟨w.heap.size, 0, none⟩ (.int .i64 0)) := (Mods.refl (fun k => k = w.heap.size) w1).setCell (p := ⟨w.heap.size, 0, none⟩) (fun _ => rfl) _
    generalize World.setCell _ _ _ = Z at Z0 Z2 Z3 hMZ ⊢
    replace Z0 : Z.cell? ⟨w.heap.size, 0, none⟩ = some (.int .i64 0) := Z0
    have HF : Hid (Inf2R (some s') m b3 w Z (.returned (.int .i64 0))) := by
      have hWs := be.lt
      refine ⟨fun s2 e => ?_, fun e => (by cases e), Z2⟩
      obtain rfl := Option.some.inj e
      obtain ⟨hO, hF, hD⟩ := unhide HFr
      refine ⟨_, rfl, Z3, cs, own_base (own_mods hO hMZ (fun g hg e => by have := (hO.lt g hg).1; omega)) hsz, FrCs.base hsz _ _ (FrCs.mods hMZ _ _ hF (fun g hg e => by have := (FrCs.lt _ _ hF g hg).1; omega)), hD⟩
    clear c0 f0
    refine leaves_cons (f := 72) (args := #[.pointer (some ⟨w.heap.size, 0, none⟩)]) (by simp) (by simp [go_sem]) ?_
    refine (catch_idle ⟨w.heap.size, 0, none⟩ _).mono ?_
    rintro e u' w2 ⟨rfl, rfl, rfl⟩
    simp [Leaves, settle, results, Tryz.results36, go_sem, Z0]
    exact unhide HF
def InferR (p : List LClass) (c k : Int) (r : Option SvSt) (w w' : World) (e : Ending) : Prop :=
  (formI p ≠ 0 → e = .returned (.tuple #[.slice none 0 0, .int .i64 (formI p)])) ∧ (formI p = 0 → ownM p c k = none → e = .returned (.tuple #[.slice none 0 0, .int .i64 4])) ∧
    (formI p = 0 → ∀ m, ownM p c k = some m → (r = none → e = .returned (.tuple #[.slice none 0 0, .int .i64 5])) ∧ (∀ s, r = some s → ∃ v, e = .returned (.tuple #[v, .int .i64 0]) ∧ FrsAt w' w.heap.size v (frmL m s m.code.length))) ∧ Below w.heap.size w w'
set_option maxHeartbeats 1000000 in
set_option maxRecDepth 100000 in
theorem code_infer (p : List LClass) (vc : Value) (c k : Int) (w : World) (hp : RProg w vc p) (hwf : wfProg p) (hz : szProg p ≤ 4194304) (N : Nat) (r : Option SvSt) (hT : ∀ m, formI p = 0 → ownM p c k = some m → solveN p m N (putP sv0 0 (beginS c m)) = some r) :
    Calls Tryz.prog 18 #[.agg #[vc], .int .i64 c, .int .i64 k] w fun e w' => InferR p c k r w w' e := by
  have hmf : ∀ (fn : Fn) (first cap : Array Value) (w : World), (Instr.makeFunc fn first cap).run Tryz.prog w = .ok (.func fn first cap) w := fun _ _ _ _ => rfl
  have HP := hide hp
  obtain ⟨pa, _, _, pcap, rfl, _⟩ := hp
  have hbel : Below w.heap.size w ((w.alloc (.cells #[.slice pa p.length pcap] 24)).alloc (.cells #[.int .i64 c] 3)) := box2_below _ _ _
  have B0 : Blk ((w.alloc (.cells #[.slice pa p.length pcap] 24)).alloc (.cells #[.int .i64 c] 3)) w.heap.size 24 [.slice pa p.length pcap] := (Blk.new w _ _).alloc _
  have B1 : Blk ((w.alloc (.cells #[.slice pa p.length pcap] 24)).alloc (.cells #[.int .i64 c] 3)) (w.heap.size + 1) 3 [.int .i64 c] := by
    have := Blk.new (w.alloc (.cells #[.slice pa p.length pcap] 24)) #[.int .i64 c] 3
    rw [World.size_alloc] at this
    exact this
  have HRP := hide (prog_keep (Keeps.of_below hbel) (unhide HP))
  go_enter Tryz.func18, Tryz.ntmps18
  go_wp2_with fail
  refine (code_find p _ c k _ (unhide HRP) hwf hz).mono ?_
  rintro e w1 ⟨h1, h2, h3, hb1⟩
  replace B0 := B0.below hb1 B0.lt
  replace B1 := B1.below hb1 B1.lt
  have hbw := hbel.trans (hb1.mono hbel.size)
  by_cases hF : formI p = 0
  · cases hm : ownM p c k with
    | none =>
      obtain rfl := h2 hF hm
      have HFM := hide (And.intro hF hm)
      clear h1 h2 h3 hF hm
      go_wp2_with (refine wpList_store_blk aggMeth (Blk.new _ _ _) 0 zero7 rfl (by simp) zero7_one (.tmp 8) (.tmp 16) rfl rfl rfl rfl ?_; intro w3 hB3 hM3 hs3)
      refine bodyPost_ret (results_tmp2 rfl _ _ _) rfl ?_
      have hb3 := (box_below w1 _).trans (hM3.below (by simp) (fun k hk e => by omega))
      exact ⟨fun e => absurd (unhide HFM).1 e, fun _ _ => rfl, fun _ m e => (by rw [(unhide HFM).2] at e; cases e), hbw.trans (hb3.mono hbw.size)⟩
    | some m =>
      obtain ⟨va, vco, vf, rfl, hv⟩ := h1 m hF hm
      obtain ⟨o0, o1, O⟩ := form_own hF hm
      have hl0 := form_loc hF hm
      have G := form_good hF hz
      have hN := hT m hF hm
      have HFM := hide (And.intro hF hm)
      have HV := hide (GVals.keep (Keeps.of_below hb1) hv)
      clear h1 h2 h3 hF hm
      unfold methV
      obtain ⟨hva, hvc, hvf⟩ := hv
      obtain ⟨aa, _, _, acap, rfl, _⟩ := hva
      obtain ⟨ca, _, _, ccap, rfl, _⟩ := hvc
      obtain ⟨fa, _, _, fcap, rfl, _⟩ := hvf
      have hone : ∀ v ∈ [Value.int .i64 m.slot, .slice aa m.args.length acap, .int .i64 m.ret, .int .i64 m.locals, .int .i64 m.stack, .slice ca m.code.length ccap, .slice fa m.frames.length fcap], v.oneCell' = true := fun v hv => by
        simp only [List.mem_cons, List.not_mem_nil, or_false] at hv
        rcases hv with rfl | rfl | rfl | rfl | rfl | rfl | rfl <;> rfl
      have HNN := hide hN
      have HHT := hide hT
      clear hN hT
      go_wp2_with (refine wpList_store_blk aggMeth (Blk.new _ _ _) 0 _ rfl (by simp) hone (.tmp 8) (.tmp 16) rfl rfl rfl rfl ?_; intro w3 hB3 hM3 hs3)
      rw [putAt_all (by rfl)] at hB3
      have hb3 := (box_below w1 _).trans (hM3.below (by simp) (fun k hk e => by omega))
      have hbw3 := hbw.trans (hb3.mono hbw.size)
      rw [World.size_alloc] at hs3
      have hb4 := hb3.trans ((box_below w3 (.cells #[.slice none 0 0] 36)).mono hb3.size)
      have hbw4 := hbw.trans (hb4.mono hbw.size)
      have B3 := Blk.new w3 #[.slice none 0 0] 36
      rw [hs3] at B3
      have hw1 := hbw.size
      refine (inf_attempt p _ c m _ _ _ w.heap.size (w.heap.size + 1) w1.heap.size (w1.heap.size + 1) _ ⟨B0.below hb4 B0.lt, B1.below hb4 B1.lt, hB3.alloc _, prog_keep (Keeps.of_below hbw4) (unhide HP), GVals.keep (Keeps.of_below hb4) (unhide HV)⟩ B3 G o0 o1 O hl0 N r (unhide HNN)).mono ?_
      rintro e w5 ⟨g1, g2, hM5⟩
      have hb5 : Below w.heap.size w w5 := hbw4.trans (hM5.below hbw4.size (fun k hk e => by omega))
      clear HNN HHT hB3 hM3 hb3 hbw3 hb4 hone
      cases r with
      | none =>
        obtain ⟨rfl, C3⟩ := g2 rfl
        have c3 : w5.cell? ⟨w1.heap.size + 1, 0, none⟩ = some (.slice none 0 0) := C3.cell 0
        have HF : Hid (InferR p c k none w w5 (.returned (.tuple #[.slice none 0 0, .int .i64 5]))) :=
          ⟨fun e => absurd (unhide HFM).1 e, fun _ e => (by rw [(unhide HFM).2] at e; cases e), fun _ m2 e => ⟨fun _ => rfl, fun s e => (by cases e)⟩, hb5⟩
        clear g1 g2
        go_wp2_with fail
        refine bodyPost_ret (results_tmp2 rfl _ _ _) rfl ?_
        exact unhide HF
      | some s =>
        obtain ⟨v, rfl, C3, hFr⟩ := g1 s rfl
        obtain ⟨ra, rcap, hv⟩ := own_form hFr.choose_spec.1
        have c3 : w5.cell? ⟨w1.heap.size + 1, 0, none⟩ = some v := C3.cell 0
        rw [hv] at c3
        have HF : Hid (InferR p c k (some s) w w5 (.returned (.tuple #[v, .int .i64 0]))) := by
          refine ⟨fun e => absurd (unhide HFM).1 e, fun _ e => (by rw [(unhide HFM).2] at e; cases e), fun _ m2 e => ⟨fun e => (by cases e), fun s' e' => ?_⟩, hb5⟩
          obtain rfl := Option.some.inj e'
          rw [(unhide HFM).2] at e
          obtain rfl := Option.some.inj e
          obtain ⟨cs, hO, hC, hD⟩ := hFr
          exact ⟨_, rfl, cs, own_base hO hbw4.size, FrCs.base hbw4.size _ _ hC, hD⟩
        rw [hv] at HF
        clear g1 g2 hFr hv
        go_wp2_with fail
        refine bodyPost_ret (results_tmp2 rfl _ _ _) rfl ?_
        exact unhide HF
  · obtain rfl := h3 hF
    have HFF := hide hF
    have hF' : (formI p != 0) = true := by simpa using hF
    clear h1 h2 h3 hF
    go_wp2_with (refine wpList_store_blk aggMeth (Blk.new _ _ _) 0 zero7 rfl (by simp) zero7_one (.tmp 8) (.tmp 16) rfl rfl rfl rfl ?_; intro w3 hB3 hM3 hs3)
    refine bodyPost_ret (results_tmp2 rfl _ _ _) rfl ?_
    have hb3 := (box_below w1 _).trans (hM3.below (by simp) (fun k hk e => by omega))
    exact ⟨fun _ => rfl, fun e => absurd e (unhide HFF), fun e => absurd e (unhide HFF), hbw.trans (hb3.mono hbw.size)⟩
end Go.Proofs.YtiiokkllmchohaaGreat
/- The code's Run, of a program that holds, a method that is there. -/
namespace Go.Proofs.YtiiokkllmchohaaGreat
open Go.RowKit Go.Shelf
attribute [local go_sem ↓] Go.wp_at_zero Go.wp_at_succ
attribute [local go_sem] frz_drew

set_option maxHeartbeats 1000000 in
set_option maxRecDepth 100000 in
theorem code_takes (p : List LClass) (vc : Value) (c slot : Int) (n : Nat) (w : World) (hp : RProg w vc p) (hs : SupOk p p.length) (hz : szProg p ≤ 4194304) (c0 : 0 ≤ c) (c1 : c < (p.length : Int)) (hm : (methOf p c slot).isSome = true) (hn : (findM p c slot).args.length = n) (hi : ∀ t ∈ (findM p c slot).args, t = 0) (hn4 : n ≤ 4194304) :
    Calls Tryz.prog 59 #[.agg #[vc], .int .i64 c, .int .i64 slot, .int .i64 (n : Int)] w fun e w' => e = .returned (.bool true) ∧ Below w.heap.size w w' := by
  obtain ⟨ck, hck⟩ := Option.isSome_iff_exists.1 hm
  have HP := hide hp
  have HCK := hide hck
  obtain ⟨pa, _, _, pcap, rfl, _⟩ := hp
  have hbel := box_below w (.cells #[.slice pa p.length pcap] 24)
  have B0 := Blk.new w #[.slice pa p.length pcap] 24
  clear hck
  go_enter Tryz.func59, Tryz.ntmps59
  go_wp2_with fail
  generalize w.alloc _ = W at *
  refine (code_hasclass p _ c W (prog_keep (Keeps.of_below hbel) (unhide HP)) (Nat.le_trans (szProg_len p) hz)).mono ?_
  rintro e w1 ⟨rfl, hb1⟩
  rw [show placeB c p.length = true by unfold placeB; simp; omega]
  have hbw1 := hbel.trans (hb1.mono hbel.size)
  have q0 : w1.cell? ⟨w.heap.size, 0, none⟩ = some (.slice pa p.length pcap) := (B0.below hb1 B0.lt).cell 0
  go_wp2_with fail
  refine (code_findmethod0 p _ p.length c slot w w1 (unhide HP) hbw1 hs (Nat.le_refl _) (by omega) c1 hz).mono ?_
  rintro e w2 ⟨o, aa, ca, fa, ac, cc, fc, rfl, hfm, hb2⟩
  obtain ⟨hma, hmv⟩ := hfm ck (unhide HCK)
  obtain rfl := findM_of (unhide HCK) hma
  have hme : (methOf p c slot).isSome = true := hm
  rw [hme]
  obtain ⟨hva, _, _⟩ := hmv
  obtain ⟨sa, sb, soff, scap, hse, _, hsa, hsr⟩ := ints_open hva
  simp only [Value.slice.injEq, true_and] at hse
  obtain ⟨rfl, rfl⟩ := hse
  generalize findM p c slot = o at *
  have HI := hide hi
  have HSR := hide hsr
  have HSA := hide hsa
  subst hn
  have hone : ∀ v ∈ [Value.int .i64 o.slot, .slice aa o.args.length ac, .int .i64 o.ret, .int .i64 o.locals, .int .i64 o.stack, .slice ca o.code.length cc, .slice fa o.frames.length fc], v.oneCell' = true := fun v hv => by
    simp only [List.mem_cons, List.not_mem_nil, or_false] at hv
    rcases hv with rfl | rfl | rfl | rfl | rfl | rfl | rfl <;> rfl
  clear hfm hma hme hva hsr hsa hi
  go_wp2_with (refine wpList_store_blk aggMeth (Blk.new w2 #[.int .i64 0, .slice none 0 0, .int .i64 0, .int .i64 0, .int .i64 0, .slice none 0 0, .slice none 0 0] 63) 0 _ rfl (by simp) hone (.tmp 9) (.tmp 22) rfl rfl rfl rfl ?_; intro w3 hB3 hM3 hs3; rw [putAt_all (by rfl)] at hB3; have m1 : w3.cell? ⟨w2.heap.size, 1, none⟩ = some (.slice aa o.args.length ac) := hB3.cell 1)
  have hb3 := (box_below w2 _).trans (hM3.below (by simp) (fun k hk e => by omega))
  have hbw3 := (hbw1.trans (hb2.mono hbw1.size)).trans (hb3.mono (hbw1.trans (hb2.mono hbw1.size)).size)
  go_loopw [36] (fun i wr => ∃ (k : Nat), k ≤ o.args.length ∧ i = .int .i64 k ∧ wr = w3) (fun i _ => o.args.length - (intOf i).toNat)
  case atStart => exact ⟨0, Nat.zero_le _, rfl, rfl⟩
  case round =>
    obtain ⟨k, hk, rfl, rfl⟩ := hrel
    by_cases hlt : k < o.args.length
    · obtain rfl := (unhide HSA) (ne_nil_of_lt hlt)
      have r0 := Keeps.of_below hbw3 _ _ ((unhide HSR) k hlt)
      have hz0 := (unhide HI) _ (List.getElem_mem hlt)
      rw [hz0] at r0
      have k0 : (0 : Int) ≤ (k : Int) := by omega
      have k1 : (k : Int) < (o.args.length : Int) := by omega
      clear hz0
      go_wp2_with fail
      refine ⟨⟨k + 1, by omega, by go_num, trivial⟩, by simp [intOf]; omega⟩
    · obtain rfl : k = o.args.length := by omega
      go_wp2_with fail
      go_ret
      exact ⟨rfl, hbw3⟩
def RunX (p : List LClass) (c slot : Int) (R : MaSt × Int) (w w' : World) (e : Ending) : Prop :=
  ∃ vpr, e = .returned (.tuple #[.agg #[.int .i64 R.2, .int .i64 (if R.2 = 1 then tellV R.1 R.1.told (findM p c slot).ret else 0), vpr, .int .i64 (R.1.steps : Int)], .int .i64 0]) ∧ w'.ownsRow w.heap.size 3 1 vpr R.1.out.length (R.1.out.map (Value.int .i64)) ∧ Below w.heap.size w w'
set_option maxHeartbeats 1000000 in
set_option maxRecDepth 100000 in
theorem code_run (p : List LClass) (vp : Value) (c slot : Int) (args : List Int) (va : Value) (fuel : Int) (w : World) (hp : RProg w vp p) (hwf : wfProg p) (hz : szProg p ≤ 4194304) (hF : formI p = 0) (hal : ∀ a b, (methOf p a b).isSome = true → 0 ≤ a → a < (p.length : Int) → (findM p a b).args.length ≤ 4194303) (c0 : 0 ≤ c) (c1 : c < (p.length : Int)) (hm : (methOf p c slot).isSome = true) (hva : SlAt 1 (RInt w) va args) (hn : (findM p c slot).args.length = args.length) (hi : ∀ t ∈ (findM p c slot).args, t = 0) (hl : 1 + (args.length : Int) ≤ (findM p c slot).locals) (hl8 : (findM p c slot).locals ≤ 8) (hfu : fuel ≤ 5000) (hf0 : 0 ≤ fuel)
    (N : Nat) (R : MaSt × Int) (hok : RunOk p fuel N (startM p c slot args)) (hrun : runM p fuel N (startM p c slot args) = some R) :
    Calls Tryz.prog 27 #[.agg #[vp], .int .i64 c, .int .i64 slot, va, .int .i64 fuel, .bool true] w fun e w' => RunX p c slot R w w' e := by
  have G := form_good hF hz
  have HP := hide hp
  have HR := hide (And.intro hok hrun)
  have HVA := hide hva
  obtain ⟨aa, _, _, acap, rfl, _⟩ := hva
  obtain ⟨pa, _, _, pcap, rfl, _⟩ := hp
  have hbel : Below w.heap.size w ((w.alloc (.cells #[.slice pa p.length pcap] 24)).alloc (.cells #[.int .i64 0, .int .i64 0, .slice none 0 0, .int .i64 0] 69)) := box2_below _ _ _
  have B0 := (Blk.new w #[.slice pa p.length pcap] 24).alloc (.cells #[.int .i64 0, .int .i64 0, .slice none 0 0, .int .i64 0] 69)
  have B1 := Blk.new (w.alloc (.cells #[.slice pa p.length pcap] 24)) #[.int .i64 0, .int .i64 0, .slice none 0 0, .int .i64 0] 69
  rw [World.size_alloc] at B1
  have hal4 : args.length ≤ 4194304 := by omega
  have hn0 : ¬ fuel < 0 := by omega
  have hn5 : ¬ 5000 < fuel := by omega
  have HF := hide hF
  have HS := hide (And.intro hm (And.intro hn hi))
  clear hok hrun hF hm hn hi
  go_enter Tryz.func27, Tryz.ntmps27
  go_wp2_with fail
  generalize (w.alloc _).alloc _ = W at *
  refine (code_check p _ W (prog_keep (Keeps.of_below hbel) (unhide HP)) hwf hz).mono ?_
  rintro e w1 ⟨rfl, hb1⟩
  rw [unhide HF]
  have hbw1 := hbel.trans (hb1.mono hbel.size)
  have C0 := B0.below hb1 (by have := B0.lt; omega)
  have C1 := B1.below hb1 (by have := B1.lt; omega)
  have q0 : w1.cell? ⟨w.heap.size, 0, none⟩ = some (.slice pa p.length pcap) := C0.cell 0
  go_wp2_with fail
  obtain ⟨hm, hn, hi⟩ := unhide HS
  refine (code_takes p _ c slot args.length w1 (prog_keep (Keeps.of_below hbw1) (unhide HP)) G.sup hz c0 c1 hm hn hi hal4).mono ?_
  rintro e w2 ⟨rfl, hb2⟩
  have hbw2 := hbw1.trans (hb2.mono hbw1.size)
  have D0 := C0.below hb2 C0.lt
  have D1 := C1.below hb2 C1.lt
  have q2 : w2.cell? ⟨w.heap.size, 0, none⟩ = some (.slice pa p.length pcap) := D0.cell 0
  have HM := hide hm
  clear hm hn hi q0
  go_wp2_with fail
  refine (ma_run p _ c slot args _ fuel w2 (prog_keep (Keeps.of_below hbw2) (unhide HP)) G hal c0 c1 (unhide HM) (ints_keep (Keeps.of_below hbw2) (unhide HVA)) hl hl8 hfu hf0 N R (unhide HR).1 (unhide HR).2).mono ?_
  rintro e w3 ⟨vpr, rfl, hpr, hb3⟩
  have E1 := D1.below hb3 D1.lt
  obtain ⟨pra, prc, rfl⟩ := own_form hpr
  generalize hvv : (if R.2 = 1 then tellV R.1 R.1.told (findM p c slot).ret else 0) = vv at *
  have HVV := hide hvv
  have HPR := hide hpr
  clear hvv hpr
  go_wp2_with (refine wpList_store_blk aggOut E1 0 [.int .i64 R.2, .int .i64 vv, .slice pra R.1.out.length prc, .int .i64 (R.1.steps : Int)] rfl (by simp) (fun v hv => by simp only [List.mem_cons, List.not_mem_nil, or_false] at hv; rcases hv with rfl | rfl | rfl | rfl <;> rfl) (.tmp 12) (.tmp 52) rfl rfl rfl rfl ?_; intro w4 hB4 hM4 hs4; rw [putAt_all (by rfl)] at hB4)
  refine bodyPost_ret (results_blk2 rfl aggOut hB4 rfl rfl) rfl ?_
  have hbw3 := hbw2.trans (hb3.mono hbw2.size)
  refine ⟨_, by rw [unhide HVV]; rfl, own_base (own_mods (unhide HPR) hM4 (fun g hg e => ?_)) hbw2.size, hbw3.trans (hM4.below hbw3.size (fun k hk e => by omega))⟩
  have := ((unhide HPR).lt g hg).1
  have := D1.lt
  omega
end Go.Proofs.YtiiokkllmchohaaGreat
/- The document's example: what is told of it, reckoned. -/
namespace Go.Proofs.YtiiokkllmchohaaGreat
open Go.RowKit Go.Shelf

theorem exP_chk : checkI exP 0 1 = 0 := by kernel_rfl
def exM0 : LMeth := ⟨0, [], 0, 1, 2, [⟨1, 0, 0⟩, ⟨10, 0, 0⟩, ⟨13, 0, 0⟩], []⟩
theorem exP_own : ownM exP 0 0 = some exM0 := by kernel_rfl
theorem exP_inf : (solveN exP exM0 9 (putP sv0 0 (beginS 0 exM0))).map (fun r => r.map fun s => (frmL exM0 s exM0.code.length).length) = some (some 3) := by kernel_rfl
theorem exP_run : (runM exP 100 30 (startM exP 0 1 [7])).map (fun R => (R.2, if R.2 = 1 then tellV R.1 R.1.told (findM exP 0 1).ret else 0)) = some (1, 7) := by kernel_rfl
theorem exP_ok : runOkB exP 100 30 (startM exP 0 1 [7]) = true := by kernel_rfl
theorem exP_sz : szProg exP ≤ 4194304 := by decide
theorem find_len {p : List LClass} {n : Nat} (h : ∀ x ∈ p, ∀ m ∈ x.meths, m.args.length ≤ n) (a b : Int) : (findM p a b).args.length ≤ n := by
  unfold findM
  cases e : methOf p a b with
  | none => simp
  | some ck =>
    rw [Option.bind_some]
    cases e2 : methAt p ck with
    | none => simp
    | some o =>
      unfold methAt at e2
      cases e3 : p[ck.1]? with
      | none => rw [e3] at e2; simp at e2
      | some x =>
        rw [e3] at e2
        exact h x (List.mem_of_getElem? e3) o (List.mem_of_getElem? (by simpa using e2))
theorem exP_len (a b : Int) : (findM exP a b).args.length ≤ 3 := find_len (by decide) a b
end Go.Proofs.YtiiokkllmchohaaGreat
/- The document's example, made by the keeper. -/
namespace Go.Proofs.YtiiokkllmchohaaGreat
open Go.RowKit Go.Shelf
attribute [local go_sem ↓] Go.wp_at_zero Go.wp_at_succ
attribute [local go_sem] frz_drew

theorem blk_new_here {W : World} {cs : Array Value} {t : TypeId} {b : Nat} (h : b = W.heap.size) : Blk (W.alloc (.cells cs t)) b t cs.toList := h ▸ Blk.new W cs t
set_option maxHeartbeats 2000000 in
set_option maxRecDepth 100000 in
theorem keep_cell (w : World) : Calls Tryz.prog 33 #[] w fun e w' => ∃ v, e = .returned (.agg #[v]) ∧ RProg w' v exP ∧ Below w.heap.size w w' := by
  go_enter Tryz.func33, Tryz.ntmps33
  go_wp2_with fail
  have hbel : Below w.heap.size w (((((((((w.alloc (.cells #[.slice (some ⟨w.heap.size + 1 + 1 + 1 + 1 + 1 + 1 + 1 + 1, 0, none⟩) 1 1] 24)).alloc (.cells #[.int .i64 1, .int .i64 0, .int .i64 0, .int .i64 10, .int .i64 0, .int .i64 0, .int .i64 13, .int .i64 0, .int .i64 0] 60)).alloc (.cells #[.int .i64 0, .slice none 0 0, .int .i64 0, .int .i64 1, .int .i64 2, .slice (some ⟨w.heap.size + 1, 0, none⟩) 3 3, .slice none 0 0] 63)).alloc (.cells #[.int .i64 0] 43)).alloc (.cells #[.int .i64 1, .int .i64 0, .int .i64 0, .int .i64 1, .int .i64 1, .int .i64 0, .int .i64 11, .int .i64 0, .int .i64 0, .int .i64 1, .int .i64 0, .int .i64 0, .int .i64 12, .int .i64 0, .int .i64 0, .int .i64 13, .int .i64 0, .int .i64 0] 60)).alloc (.cells #[.int .i64 1, .slice (some ⟨w.heap.size + 1 + 1 + 1, 0, none⟩) 1 1, .int .i64 0, .int .i64 2, .int .i64 3, .slice (some ⟨w.heap.size + 1 + 1 + 1 + 1, 0, none⟩) 6 6, .slice none 0 0] 63)).alloc (.cells #[.int .i64 0] 43)).alloc (.cells #[.int .i64 0, .slice none 0 0, .int .i64 0, .int .i64 1, .int .i64 2, .slice (some ⟨w.heap.size + 1, 0, none⟩) 3 3, .slice none 0 0, .int .i64 1, .slice (some ⟨w.heap.size + 1 + 1 + 1, 0, none⟩) 1 1, .int .i64 0, .int .i64 2, .int .i64 3, .slice (some ⟨w.heap.size + 1 + 1 + 1 + 1, 0, none⟩) 6 6, .slice none 0 0] 63)).alloc (.cells #[.int .i64 (-1), .slice (some ⟨w.heap.size + 1 + 1 + 1 + 1 + 1 + 1, 0, none⟩) 1 1, .slice (some ⟨w.heap.size + 1 + 1 + 1 + 1 + 1 + 1 + 1, 0, none⟩) 2 2] 66)) := by
    repeat' (first | exact Below.refl _ _ | (refine Below.alloc ?_ (by simp; try omega) _))
  generalize hF : World.alloc _ _ = F at hbel ⊢
  have B0 : Blk F w.heap.size 24 [.slice (some ⟨w.heap.size + 1 + 1 + 1 + 1 + 1 + 1 + 1 + 1, 0, none⟩) 1 1] := by rw [← hF]; exact Blk.alloc (Blk.alloc (Blk.alloc (Blk.alloc (Blk.alloc (Blk.alloc (Blk.alloc (Blk.alloc (blk_new_here (by simp)) _) _) _) _) _) _) _) _
  have B1 : Blk F (w.heap.size + 1) 60 (codeCells [⟨1, 0, 0⟩, ⟨10, 0, 0⟩, ⟨13, 0, 0⟩] ++ []) := by rw [← hF]; exact Blk.alloc (Blk.alloc (Blk.alloc (Blk.alloc (Blk.alloc (Blk.alloc (Blk.alloc (blk_new_here (by simp)) _) _) _) _) _) _) _
  have B3 : Blk F (w.heap.size + 1 + 1 + 1) 43 (([0] : List Int).map (Value.int .i64) ++ []) := by rw [← hF]; exact Blk.alloc (Blk.alloc (Blk.alloc (Blk.alloc (Blk.alloc (blk_new_here (by simp)) _) _) _) _) _
  have B4 : Blk F (w.heap.size + 1 + 1 + 1 + 1) 60 (codeCells [⟨1, 0, 0⟩, ⟨1, 1, 0⟩, ⟨11, 0, 0⟩, ⟨1, 0, 0⟩, ⟨12, 0, 0⟩, ⟨13, 0, 0⟩] ++ []) := by rw [← hF]; exact Blk.alloc (Blk.alloc (Blk.alloc (Blk.alloc (blk_new_here (by simp)) _) _) _) _
  have B6 : Blk F (w.heap.size + 1 + 1 + 1 + 1 + 1 + 1) 43 (([0] : List Int).map (Value.int .i64) ++ []) := by rw [← hF]; exact Blk.alloc (Blk.alloc (blk_new_here (by simp)) _) _
  have B7 : Blk F (w.heap.size + 1 + 1 + 1 + 1 + 1 + 1 + 1) 63 [.int .i64 0, .slice none 0 0, .int .i64 0, .int .i64 1, .int .i64 2, .slice (some ⟨w.heap.size + 1, 0, none⟩) 3 3, .slice none 0 0, .int .i64 1, .slice (some ⟨w.heap.size + 1 + 1 + 1, 0, none⟩) 1 1, .int .i64 0, .int .i64 2, .int .i64 3, .slice (some ⟨w.heap.size + 1 + 1 + 1 + 1, 0, none⟩) 6 6, .slice none 0 0] := by rw [← hF]; exact Blk.alloc (blk_new_here (by simp)) _
  have B8 : Blk F (w.heap.size + 1 + 1 + 1 + 1 + 1 + 1 + 1 + 1) 66 [.int .i64 (-1), .slice (some ⟨w.heap.size + 1 + 1 + 1 + 1 + 1 + 1, 0, none⟩) 1 1, .slice (some ⟨w.heap.size + 1 + 1 + 1 + 1 + 1 + 1 + 1, 0, none⟩) 2 2] := by rw [← hF]; exact blk_new_here (by simp)
  clear hF
  have nilS : ∀ {α : Type} (sz : Nat) (R : α → Nat → Nat → Prop), SlAt sz R (.slice none 0 0) [] := fun sz R => ⟨none, 0, 0, 0, rfl, Nat.le_refl _, ⟨fun e => absurd rfl e, .inl ⟨rfl, rfl⟩⟩, fun j x hj => by simp at hj⟩
  have s1 : SlAt 3 (RIns F) (.slice (some ⟨w.heap.size + 1, 0, none⟩) 3 3) [⟨1, 0, 0⟩, ⟨10, 0, 0⟩, ⟨13, 0, 0⟩] := code_keep (cellS_le [60] F) (code_of_blk (cap := 3) B1 (by simp) (by decide))
  have s3 : SlAt 1 (RInt F) (.slice (some ⟨w.heap.size + 1 + 1 + 1, 0, none⟩) 1 1) [0] := ints_keep (cellS_le tT F) (ints_of_blk (cap := 1) B3 (by simp) (by decide))
  have s4 : SlAt 3 (RIns F) (.slice (some ⟨w.heap.size + 1 + 1 + 1 + 1, 0, none⟩) 6 6) [⟨1, 0, 0⟩, ⟨1, 1, 0⟩, ⟨11, 0, 0⟩, ⟨1, 0, 0⟩, ⟨12, 0, 0⟩, ⟨13, 0, 0⟩] := code_keep (cellS_le [60] F) (code_of_blk (cap := 6) B4 (by simp) (by decide))
  have s6 : SlAt 1 (RInt F) (.slice (some ⟨w.heap.size + 1 + 1 + 1 + 1 + 1 + 1, 0, none⟩) 1 1) [0] := ints_keep (cellS_le tT F) (ints_of_blk (cap := 1) B6 (by simp) (by decide))
  have s7 : SlAt 7 (RMeth F) (.slice (some ⟨w.heap.size + 1 + 1 + 1 + 1 + 1 + 1 + 1, 0, none⟩) 2 2) [⟨0, [], 0, 1, 2, [⟨1, 0, 0⟩, ⟨10, 0, 0⟩, ⟨13, 0, 0⟩], []⟩, ⟨1, [0], 0, 2, 3, [⟨1, 0, 0⟩, ⟨1, 1, 0⟩, ⟨11, 0, 0⟩, ⟨1, 0, 0⟩, ⟨12, 0, 0⟩, ⟨13, 0, 0⟩], []⟩] := by
    refine ⟨some ⟨_, 0, none⟩, _, 0, 2, rfl, by decide, ⟨fun _ => rfl, .inr (.inl rfl)⟩, fun j x hj => ?_⟩
    match j, hj with
    | 0, hj =>
      simp at hj
      subst hj
      exact ⟨.slice none 0 0, _, .slice none 0 0, ⟨nilS 1 _, s1, nilS 3 _⟩, B7.cell 0, B7.cell 1, B7.cell 2, B7.cell 3, B7.cell 4, B7.cell 5, B7.cell 6⟩
    | 1, hj =>
      simp at hj
      subst hj
      exact ⟨_, _, .slice none 0 0, ⟨s3, s4, nilS 3 _⟩, B7.cell 7, B7.cell 8, B7.cell 9, B7.cell 10, B7.cell 11, B7.cell 12, B7.cell 13⟩
    | n + 2, hj => simp at hj
  have c0 : F.cell? ⟨w.heap.size, 0, none⟩ = some (.slice (some ⟨w.heap.size + 1 + 1 + 1 + 1 + 1 + 1 + 1 + 1, 0, none⟩) 1 1) := B0.cell 0
  refine bodyPost_ret (v := .agg #[.slice (some ⟨w.heap.size + 1 + 1 + 1 + 1 + 1 + 1 + 1 + 1, 0, none⟩) 1 1]) (by simp [results, Tryz.results33, go_sem, c0]) rfl ⟨_, rfl, ?_, hbel⟩
  refine ⟨some ⟨_, 0, none⟩, _, 0, 1, rfl, by decide, ⟨fun _ => rfl, .inr (.inl rfl)⟩, fun j x hj => ?_⟩
  match j, hj with
  | 0, hj =>
    simp [exP] at hj
    subst hj
    exact ⟨_, _, B8.cell 0, B8.cell 1, B8.cell 2, s6, s7⟩
  | n + 1, hj => simp [exP] at hj
end Go.Proofs.YtiiokkllmchohaaGreat
/- The document's example, awake. -/
namespace Go.Proofs.YtiiokkllmchohaaGreat
open Go.RowKit Go.Shelf
attribute [local go_sem ↓] Go.wp_at_zero Go.wp_at_succ
attribute [local go_sem] frz_drew

set_option maxHeartbeats 1000000 in
set_option maxRecDepth 100000 in
theorem keep_awake (w : World) : Calls Tryz.prog 13 #[] w fun e w' => e = .returned (.bool true) ∧ Below w.heap.size w w' := by
  obtain ⟨R, hR, hR2⟩ := Option.map_eq_some_iff.1 exP_run
  simp only [Prod.mk.injEq] at hR2
  obtain ⟨hR2, hR7⟩ := hR2
  obtain ⟨r, hr, hr2⟩ := Option.map_eq_some_iff.1 exP_inf
  obtain ⟨s, hs, hs3⟩ := Option.map_eq_some_iff.1 hr2
  subst hs
  have HR := hide (And.intro hR (And.intro hR2 hR7))
  have HI := hide (And.intro hr hs3)
  clear hR hR2 hR7 hr hs3 hr2
  go_enter Tryz.func13, Tryz.ntmps13
  go_wp2_with fail
  refine (keep_cell w).mono ?_
  rintro e w1 ⟨v1, rfl, hp1, hb1⟩
  go_wp2_with fail
  refine (code_form exP _ w1 hp1 exP_wf exP_sz).mono ?_
  rintro e w2 ⟨rfl, hb2⟩
  rw [exP_form]
  have hbw2 := hb1.trans (hb2.mono hb1.size)
  clear hp1 hb1 hb2
  go_wp2_with fail
  refine (keep_cell w2).mono ?_
  rintro e w3 ⟨v3, rfl, hp3, hb3⟩
  go_wp2_with fail
  refine (code_chk exP _ 0 1 w3 hp3 exP_wf exP_sz).mono ?_
  rintro e w4 ⟨rfl, hb4⟩
  rw [exP_chk]
  have hbw3 := hbw2.trans (hb3.mono hbw2.size)
  have hbw4 := hbw3.trans (hb4.mono hbw3.size)
  clear hp3 hb3 hb4 hbw2 hbw3
  go_wp2_with fail
  refine (keep_cell w4).mono ?_
  rintro e w5 ⟨v5, rfl, hp5, hb5⟩
  have hbw5 := hbw4.trans (hb5.mono hbw4.size)
  clear hbw4 hb5
  go_wp2_with fail
  have B5 := Blk.new w5 #[.int .i64 7] 3
  have hb6 := box_below w5 (.cells #[.int .i64 7] 3)
  have s6 : SlAt 1 (RInt (w5.alloc (.cells #[.int .i64 7] 3))) (.slice (some ⟨w5.heap.size, 0, none⟩) 1 1) [7] := ints_keep (cellS_le [3] _) (ints_of_blk (l := [7]) (rest := []) (cap := 1) B5 (by simp) (by decide))
  generalize w5.alloc _ = W6 at *
  have hbw6 := hbw5.trans (hb6.mono hbw5.size)
  refine (code_run exP _ 0 1 [7] _ 100 W6 (prog_keep (Keeps.of_below hb6) hp5) exP_wf exP_sz exP_form (fun a b _ _ _ => Nat.le_trans (exP_len a b) (by decide)) (by decide) (by decide) (by decide) s6 (by decide) (by decide) (by decide) (by decide) (by decide) (by decide) 30 R (runOkB_sound _ _ exP_ok) (unhide HR).1).mono ?_
  rintro e w7 ⟨vpr, rfl, hpr, hb7⟩
  rw [(unhide HR).2.2, (unhide HR).2.1]
  have hbw7 := hbw6.trans (hb7.mono hbw6.size)
  obtain ⟨pra, prc, rfl⟩ := own_form hpr
  clear hpr hb7 hbw6 hb6 s6 B5 hp5 hbw5 W6
  go_wp2_with (refine wpList_store_blk aggOut (Blk.new w7 #[.int .i64 0, .int .i64 0, .slice none 0 0, .int .i64 0] 69) 0 [.int .i64 1, .int .i64 7, .slice pra R.1.out.length prc, .int .i64 (R.1.steps : Int)] rfl (by simp) (fun v hv => by simp only [List.mem_cons, List.not_mem_nil, or_false] at hv; rcases hv with rfl | rfl | rfl | rfl <;> rfl) (.tmp 3) (.tmp 15) rfl rfl rfl rfl ?_; intro w8 hB8 hM8 hs8; rw [putAt_all (by rfl)] at hB8)
  have hb8 := (box_below w7 _).trans (hM8.below (by simp) (fun k hk e => by omega))
  have hbw8 := hbw7.trans (hb8.mono hbw7.size)
  clear hb8 hM8 hs8 hbw7
  refine (keep_cell w8).mono ?_
  rintro e w9 ⟨v9, rfl, hp9, hb9⟩
  have hbw9 := hbw8.trans (hb9.mono hbw8.size)
  have hB9 := hB8.below hb9 hB8.lt
  clear hb9 hbw8 hB8
  go_wp2_with fail
  refine (code_infer exP _ 0 0 w9 hp9 exP_wf exP_sz 9 (some s) (fun m _ hm => by obtain rfl := Option.some.inj (exP_own.symm.trans hm); exact (unhide HI).1)).mono ?_
  rintro e w10 ⟨_, _, hI, hb10⟩
  obtain ⟨vf, rfl, cs, hfr, _⟩ := (hI exP_form exM0 exP_own).2 s rfl
  rw [(unhide HI).2] at hfr
  obtain ⟨fa, fc, rfl⟩ := own_form hfr
  have hbw10 := hbw9.trans (hb10.mono hbw9.size)
  have hB10 := hB9.below hb10 hB9.lt
  have q0 : w10.cell? ⟨w7.heap.size, 0, none⟩ = some (.int .i64 1) := hB10.cell 0
  have q1 : w10.cell? ⟨w7.heap.size, 1, none⟩ = some (.int .i64 7) := hB10.cell 1
  clear hI hfr hp9 hb10 hbw9 hB9
  go_wp2_with fail
  go_ret
  exact ⟨rfl, hbw10⟩
end Go.Proofs.YtiiokkllmchohaaGreat
/- What the code's Decode answers. -/
namespace Go.Proofs.YtiiokkllmchohaaGreat
open Go.RowKit
attribute [local go_sem ↓] Go.wp_at_zero Go.wp_at_succ

theorem own_list {α : Type} {sz : Nat} {R : OwnE α} {w : World} {G : α → Nat → Nat → Prop} {g : Nat} {t : TypeId} {all : List Value} (hb : Blk w g t all) (hR : ∀ lo hi c x off, R w lo hi c x → (∀ i, i < sz → c[i]? = all[off + i]?) → c.length = sz → G x g off) :
    ∀ (l : List α) (lo hi : Nat) (cells pre : List Value), OwnL sz R w lo hi cells l → all = pre ++ cells → ∀ (j : Nat) (x : α), l[j]? = some x → G x g (pre.length + j * sz)
  | [], _, _, _, _, _, _, j, x, e => by simp at e
  | y :: r, lo, hi, cells, pre, ⟨c1, c2, mid, e1, hl, h1, h2⟩, ha, j, x, e => by
    cases j with
    | zero =>
      simp at e
      subst e
      refine hR lo mid c1 y _ h1 (fun i hi => ?_) hl
      rw [ha, e1, Nat.zero_mul, Nat.add_zero, List.getElem?_append_right (Nat.le_add_right _ _), Nat.add_sub_cancel_left, List.getElem?_append_left (by omega)]
    | succ j =>
      have := own_list hb hR r mid hi c2 (pre ++ c1) h2 (by rw [ha, e1, List.append_assoc]) j x (by simpa using e)
      rw [List.length_append, hl] at this
      rw [Nat.succ_mul]
      rwa [show pre.length + (j * sz + sz) = pre.length + sz + j * sz by omega]
theorem own_readD {α : Type} {sz : Nat} {R : OwnE α} {w : World} {G : α → Nat → Nat → Prop} {t : TypeId} (hR : ∀ g all lo hi c x off, Blk w g t all → R w lo hi c x → (∀ i, i < sz → c[i]? = all[off + i]?) → c.length = sz → G x g off) {lo hi : Nat} {v : Value} {l : List α} (h : OwnSl t sz R w lo hi v l) : SlAt sz G v l := by
  rcases h with ⟨rfl, rfl, _⟩ | ⟨hne, g, cells, _, rfl, hb, ho⟩
  · exact ⟨none, 0, 0, 0, rfl, Nat.le_refl _, ⟨fun e => absurd rfl e, .inl ⟨rfl, rfl⟩⟩, fun j x hj => by simp at hj⟩
  · refine ⟨some ⟨g, 0, none⟩, g, 0, l.length, rfl, Nat.le_refl _, ⟨fun _ => rfl, .inr (.inl rfl)⟩, fun j x hj => ?_⟩
    have := own_list hb (fun lo hi c x off r e hl => hR g cells lo hi c x off hb r e hl) l _ _ cells [] ho rfl j x hj
    simpa using this
theorem own_ts {w : World} {lo hi : Nat} {v : Value} {l : List Int} (h : OwnTs w lo hi v l) : SlAt 1 (RInt w) v l :=
  own_readD (fun g all lo hi c x off hb r e _ => by
    obtain ⟨rfl, _⟩ := r
    unfold RInt GInt
    rw [hb.cell, ← Nat.add_zero off, ← e 0 (by omega)]
    rfl) h
theorem own_is {w : World} {lo hi : Nat} {v : Value} {l : List LIns} (h : OwnIs w lo hi v l) : SlAt 3 (RIns w) v l :=
  own_readD (fun g all lo hi c x off hb r e _ => by
    obtain ⟨rfl, _⟩ := r
    refine ⟨?_, ?_, ?_⟩
    · rw [hb.cell, ← Nat.add_zero off, ← e 0 (by omega)]; rfl
    · rw [hb.cell, ← e 1 (by omega)]; rfl
    · rw [hb.cell, ← e 2 (by omega)]; rfl) h
theorem own_fs {w : World} {lo hi : Nat} {v : Value} {l : List LFrame} (h : OwnFs w lo hi v l) : SlAt 3 (RFrame w) v l :=
  own_readD (fun g all lo hi c x off hb r e _ => by
    obtain ⟨vl, vs, mid, rfl, h1, h2⟩ := r
    refine ⟨vl, vs, ?_, ?_, ?_, own_ts h1, own_ts h2⟩
    · rw [hb.cell, ← Nat.add_zero off, ← e 0 (by omega)]; rfl
    · rw [hb.cell, ← e 1 (by omega)]; rfl
    · rw [hb.cell, ← e 2 (by omega)]; rfl) h
theorem own_ms {w : World} {lo hi : Nat} {v : Value} {l : List LMeth} (h : OwnMs w lo hi v l) : SlAt 7 (RMeth w) v l :=
  own_readD (fun g all lo hi c x off hb r e _ => by
    obtain ⟨va, vc, vf, m1, m2, rfl, h1, h2, h3⟩ := r
    refine ⟨va, vc, vf, ⟨own_ts h1, own_is h2, own_fs h3⟩, ?_, ?_, ?_, ?_, ?_, ?_, ?_⟩
    · rw [hb.cell, ← Nat.add_zero off, ← e 0 (by omega)]; rfl
    · rw [hb.cell, ← e 1 (by omega)]; rfl
    · rw [hb.cell, ← e 2 (by omega)]; rfl
    · rw [hb.cell, ← e 3 (by omega)]; rfl
    · rw [hb.cell, ← e 4 (by omega)]; rfl
    · rw [hb.cell, ← e 5 (by omega)]; rfl
    · rw [hb.cell, ← e 6 (by omega)]; rfl) h
theorem own_cs {w : World} {lo hi : Nat} {v : Value} {l : List LClass} (h : OwnCs w lo hi v l) : RProg w v l :=
  own_readD (fun g all lo hi c x off hb r e _ => by
    obtain ⟨vf, vm, mid, rfl, h1, h2⟩ := r
    refine ⟨vf, vm, ?_, ?_, ?_, own_ts h1, own_ms h2⟩
    · rw [hb.cell, ← Nat.add_zero off, ← e 0 (by omega)]; rfl
    · rw [hb.cell, ← e 1 (by omega)]; rfl
    · rw [hb.cell, ← e 2 (by omega)]; rfl) h

theorem sum_le {α : Type} (f : α → Nat) (B : Nat) : ∀ (l : List α), (∀ x ∈ l, f x ≤ B) → (l.map f).sum ≤ l.length * B
  | [], _ => by simp
  | x :: r, h => by
    rw [List.map_cons, List.sum_cons, List.length_cons, Nat.succ_mul]
    have := h x (List.mem_cons_self ..)
    have := sum_le f B r (fun y hy => h y (List.mem_cons_of_mem _ hy))
    omega
theorem pMeth_sz {s r : List UInt8} {m : LMeth} (h : pMeth s = some (m, r)) : szMeth m ≤ 1000 := by
  obtain ⟨a, ha, h⟩ := bind_some_iff h
  obtain ⟨b, hb, h⟩ := bind_some_iff h
  obtain ⟨c, hc, h⟩ := bind_some_iff h
  obtain ⟨d, hd, h⟩ := bind_some_iff h
  obtain ⟨e, he, h⟩ := bind_some_iff h
  obtain ⟨f, hf, h⟩ := bind_some_iff h
  obtain ⟨g, hg, h⟩ := bind_some_iff h
  obtain ⟨i, hi, h⟩ := bind_some_iff h
  obtain ⟨j, hj, h⟩ := bind_some_iff h
  obtain ⟨k, hk, h⟩ := map_some_iff h
  cases h
  have b1 := (pC_sound hb).1
  have c0 := (pTs_sound hc).1
  have e1 := (pC_sound he).1
  have g1 := (pC_sound hg).1
  have i0 := (pL_sound (P := wfIns) (enc := encIns) (fun _ _ _ => pIns_sound) _ _ _ _ hi).1
  have j1 := (pC_sound hj).1
  obtain ⟨k0, k1, _⟩ := pL_sound (P := fun f => wfFrame f ∧ f.locals.length = e.1 ∧ f.stack.length ≤ 8) (enc := encFrame) (fun _ _ _ => pFrame_sound) _ _ _ _ hk
  have hs := sum_le szFrame 20 k.1 (fun f hf => by have := k1 f hf; unfold szFrame; omega)
  unfold szMeth
  simp only
  omega
theorem pClass_sz {s r : List UInt8} {x : LClass} (h : pClass s = some (x, r)) : szClass x ≤ 6100 := by
  obtain ⟨a, ha, h⟩ := bind_some_iff h
  obtain ⟨b, hb, h⟩ := bind_some_iff h
  obtain ⟨c, hc, h⟩ := bind_some_iff h
  obtain ⟨d, hd, h⟩ := bind_some_iff h
  obtain ⟨e, he, h⟩ := map_some_iff h
  cases h
  have b1 := (pC_sound hb).1
  have c0 := (pTs_sound hc).1
  have d1 := (pC_sound hd).1
  obtain ⟨e0, e1, _⟩ := pL_sound (P := fun m => szMeth m ≤ 1000) (enc := encMeth) (fun _ _ _ h => ⟨pMeth_sz h, (pMeth_sound h).2⟩) _ _ _ _ he
  have hs := sum_le szMeth 1000 e.1 e1
  unfold szClass
  simp only
  omega
theorem pProg_sz {s : List UInt8} {p : List LClass} (h : pProg s = some p) : szProg p ≤ 40000 := by
  obtain ⟨a, ha, h⟩ := bind_some_iff h
  obtain ⟨b, hb, h⟩ := bind_some_iff h
  split at h
  · cases h
    have a1 := (pC_sound ha).1
    obtain ⟨b0, b1, _⟩ := pL_sound (P := fun x => szClass x ≤ 6100) (enc := encClass) (fun _ _ _ h => ⟨pClass_sz h, (pClass_sound h).2⟩) _ _ _ _ hb
    have hs := sum_le szClass 6100 b.1 b1
    unfold szProg
    omega
  · cases h

set_option maxHeartbeats 1000000 in
set_option maxRecDepth 100000 in
theorem code_decode (s : List UInt8) (w : World) : Calls Tryz.prog 16 #[.string ⟨s.toArray⟩] w fun e w' =>
    (∀ p, codeDec s = some p → ∃ a, e = .returned (.tuple #[.agg #[.slice a p.length p.length], .int .i64 0]) ∧ OwnCs w' w.heap.size w'.heap.size (.slice a p.length p.length) p) ∧ (codeDec s = none → e = .returned (.tuple #[.agg #[.slice none 0 0], .int .i64 1])) ∧ Below w.heap.size w w' := by
  have hm0 : Mods (fun _ => False) w (((w.alloc (.cells #[.string ⟨s.toArray⟩] 9)).alloc (.cells #[.slice none 0 0] 24)).alloc (.cells #[.slice none 0 0] 24)) := (((Mods.refl _ w).alloc _).alloc _).alloc _
  have b0 : Blk (((w.alloc (.cells #[.string ⟨s.toArray⟩] 9)).alloc (.cells #[.slice none 0 0] 24)).alloc (.cells #[.slice none 0 0] 24)) w.heap.size 9 [.string ⟨s.toArray⟩] := ((Blk.new w _ _).alloc _).alloc _
  have b1 : Blk (((w.alloc (.cells #[.string ⟨s.toArray⟩] 9)).alloc (.cells #[.slice none 0 0] 24)).alloc (.cells #[.slice none 0 0] 24)) (w.heap.size + 1) 24 [.slice none 0 0] := by
    have := (Blk.new (w.alloc (.cells #[.string ⟨s.toArray⟩] 9)) #[.slice none 0 0] 24).alloc (.cells #[.slice none 0 0] 24)
    simpa using this
  have b2 : Blk (((w.alloc (.cells #[.string ⟨s.toArray⟩] 9)).alloc (.cells #[.slice none 0 0] 24)).alloc (.cells #[.slice none 0 0] 24)) (w.heap.size + 1 + 1) 24 [.slice none 0 0] := by
    have := Blk.new ((w.alloc (.cells #[.string ⟨s.toArray⟩] 9)).alloc (.cells #[.slice none 0 0] 24)) #[.slice none 0 0] 24
    simpa using this
  have hs0 : w.heap.size + 3 ≤ (((w.alloc (.cells #[.string ⟨s.toArray⟩] 9)).alloc (.cells #[.slice none 0 0] 24)).alloc (.cells #[.slice none 0 0] 24)).heap.size := by simp
  have hmf : ∀ (fn : Fn) (first cap : Array Value) (w : World), (Instr.makeFunc fn first cap).run Tryz.prog w = .ok (.func fn first cap) w := fun _ _ _ _ => rfl
  go_enter Tryz.func16, Tryz.ntmps16
  go_wp2_with fail
  generalize ((w.alloc _).alloc _).alloc _ = W at *
  refine Calls.mono (code_attempt s _ w.heap.size (w.heap.size + 1 + 1) (b0.cell 0) b2) ?_
  rintro e w1 ⟨h1, h2, hm⟩
  have c1 := b1.mods hm (by omega)
  have d0 : w1.cell? ⟨w.heap.size + 1, 0, none⟩ = some (.slice none 0 0) := c1.cell 0
  have f0 := c1.frozen 0
  have C1 := hide c1
  have hB := (hm0.mono (T := fun k => w.heap.size ≤ k) (fun _ _ f => f.elim)).trans hm (fun k hk e => by omega)
  have hbel : Below w.heap.size w w1 := hB.below (Nat.le_refl _) (fun k hk e => by omega)
  have hs1 := Nat.le_trans hs0 hm.size
  have HS0 := hide hs0
  clear hm0 b0 b1 b2 hs0 hB c1
  rcases hp : pProg s with _ | p
  · obtain ⟨rfl, _⟩ := h2 hp
    have HN : Hid (codeDec s = none) := by show _ = _; unfold codeDec; rw [hp]; rfl
    clear hp h1 h2 hm
    go_wp2_with fail
    have Z0 := (unhide C1).setCell 0 (.slice none 0 0)
    have Z1 := hbel.setCell (p := ⟨w.heap.size + 1, 0, none⟩) (Nat.le_succ _) (.slice none 0 0)
    generalize World.setCell _ _ _ = Z at Z0 Z1 ⊢
    have z0 : Z.cell? ⟨w.heap.size + 1, 0, none⟩ = some (.slice none 0 0) := Z0.cell 0
    refine bodyPost_ret (v := .tuple #[.agg #[.slice none 0 0], .int .i64 1]) (by simp [results, Tryz.results16, go_sem, z0]) rfl ⟨fun p e => ?_, fun _ => rfl, Z1⟩
    rw [unhide HN] at e; cases e
  · obtain ⟨rfl, a, hb, hO⟩ := h1 p hp
    obtain ⟨hwf, _⟩ := pProg_sound hp
    have hsz := pProg_sz hp
    have HQ : Hid (codeDec s = if formI p = 0 then some p else none) := by show _ = _; unfold codeDec; rw [hp]; rfl
    have cp : w1.cell? ⟨w.heap.size + 1 + 1, 0, none⟩ = some (.slice a p.length p.length) := hb.cell 0
    have O1 := hide hO
    have B1 := hide hb
    clear hp h1 h2 hm hO hb
    go_wp2_with fail
    refine Calls.mono (code_check p _ _ (own_cs (unhide O1)) hwf (by omega)) ?_
    rintro e w2 ⟨he, hb2⟩
    have e0 := Keeps.of_below hb2 _ _ d0
    have e1 := Keeps.of_below hb2 _ _ cp
    have C2 := (unhide C1).below hb2 (unhide C1).lt
    have g0 := C2.frozen 0
    have HC2 := hide C2
    have hf2 := hbel.trans (hb2.mono hbel.size)
    have O2 := hide ((unhide O1).stay okCl (fun k p q => hb2.block k q))
    have hsz2 := hb2.size
    clear d0 cp hbel f0 C2 hb2
    by_cases hF : formI p = 0
    · have HS : Hid (codeDec s = some p) := by show _ = _; rw [unhide HQ, if_pos hF]
      rw [hF] at he
      subst he
      clear hF
      go_wp2_with fail
      have Z0 := (unhide HC2).setCell 0 (.slice a p.length p.length)
      have Z1 := hf2.setCell (p := ⟨w.heap.size + 1, 0, none⟩) (Nat.le_succ _) (.slice a p.length p.length)
      have hlo : w.heap.size + 1 < W.heap.size := by have := unhide HS0; omega
      have Z2 := ((unhide O2).set okCl (b := w.heap.size + 1) (i := 0) (u := .slice a p.length p.length) hlo).wide okCl (lo' := w.heap.size) (hi' := w2.heap.size) (by omega) hsz2
      rw [← size_set w2 (w.heap.size + 1) 0 (.slice a p.length p.length)] at Z2
      generalize World.setCell _ _ _ = Z at Z0 Z1 Z2 ⊢
      have z0 : Z.cell? ⟨w.heap.size + 1, 0, none⟩ = some (.slice a p.length p.length) := Z0.cell 0
      refine bodyPost_ret (v := .tuple #[.agg #[.slice a p.length p.length], .int .i64 0]) (by simp [results, Tryz.results16, go_sem, z0]) rfl ⟨fun p' e => ?_, fun e => ?_, Z1⟩
      · rw [unhide HS] at e
        simp only [Option.some.injEq] at e
        subst e
        exact ⟨a, rfl, Z2⟩
      · rw [unhide HS] at e; cases e
    · have HS : Hid (codeDec s = none) := by show _ = _; rw [unhide HQ, if_neg hF]
      have hF' : (formI p != 0) = true := by simpa using hF
      subst he
      generalize formI p = fi at *
      go_wp2_with fail
      have Z0 := (unhide HC2).setCell 0 (.slice none 0 0)
      have Z1 := hf2.setCell (p := ⟨w.heap.size + 1, 0, none⟩) (Nat.le_succ _) (.slice none 0 0)
      generalize World.setCell _ _ _ = Z at Z0 Z1 ⊢
      have z0 : Z.cell? ⟨w.heap.size + 1, 0, none⟩ = some (.slice none 0 0) := Z0.cell 0
      refine bodyPost_ret (v := .tuple #[.agg #[.slice none 0 0], .int .i64 1]) (by simp [results, Tryz.results16, go_sem, z0]) rfl ⟨fun p' e => ?_, fun _ => rfl, Z1⟩
      rw [unhide HS] at e; cases e
end Go.Proofs.YtiiokkllmchohaaGreat
