/- The code looks whether LOAD and STORE fit. -/
import Derived.RangeFuncNested
import Derived.RangeFuncBound
import Derived.RangeFuncCalls
import Derived.Test.YtiiokkllmchohaaGreatT01
import Derived.Test.YtiiokkllmchohaaGreatT10
/- FitI -/
namespace Go.Proofs.YtiiokkllmchohaaGreat
open Go.RowKit
attribute [local go_sem ↓] Go.wp_at_zero Go.wp_at_succ
attribute [local go_sem] frz_drew

theorem wp_load_blk {P : Program} {ty : TypeId} {n : Nat} (h : AggOk P ty n) {w : World} {g : Nat} {t : TypeId} {cur : List Value} (hB : Blk w g t cur) (off : Nat) (vs : List Value) (hl : vs.length = n) (hv : ∀ j v, vs[j]? = some v → cur[off + j]? = some v)
    {o : Oper} {a : Act} {K : Act → World → Prop} {Q : Exit → Act → World → Prop} (x : Operand) (ho : o.op = .load ty x) (hx : a.eval x = .pointer (some ⟨g, off, none⟩)) (hK : K (a.put o.dst (.agg vs.toArray)) w) : o.wp P a w K Q := by
  unfold Oper.wp
  rw [exec_load_blk h hB off vs hl hv ho hx]
  exact hK
theorem DoR.ok {p : List LClass} {m : LMeth} {i : LIns} {s s1 : TSt} {w0 w w' : World} {bl : Nat} {vc : Value} {pre : List Value} (h : doS p m i s = some s1) (hl : LkC w0 w' bl p vc m pre s1) (hm : Mods (fun k => k = bl) w w') : DoR p m i s w0 w w' bl vc pre (.returned (.tuple #[])) :=
  ⟨fun s' e => by rw [h] at e; obtain rfl := Option.some.inj e; exact ⟨rfl, hl⟩, fun e => (by rw [h] at e; cases e), hm⟩
theorem DoR.no {p : List LClass} {m : LMeth} {i : LIns} {s : TSt} {w0 w w' : World} {bl : Nat} {vc : Value} {pre : List Value} (h : doS p m i s = none) (hm : Mods (fun k => k = bl) w w') : DoR p m i s w0 w w' bl vc pre (.panicked (refC 5)) :=
  ⟨fun s' e => (by rw [h] at e; cases e), fun _ => rfl, hm⟩
theorem StC.locLen {s : TSt} {cs : List Value} (h : StC s cs) : s.loc.length = 8 := h.ok.1
theorem LkAt.locLen {w : World} {bl : Nat} {pre : List Value} {s : TSt} (h : LkAt w bl pre s) : s.loc.length = 8 := by
  obtain ⟨_, _, h1, _⟩ := h
  exact h1.locLen
theorem knownS_eq {t x : Int} (h : knownS t = some x) : x = t := by
  unfold knownS at h
  split at h
  · cases h
  · exact (Option.some.inj h).symm

set_option maxHeartbeats 1000000 in
set_option maxRecDepth 100000 in
theorem do_1 (i : Nat) (b : Int) (p : List LClass) (vc : Value) (m : LMeth) (s : TSt) (w0 w : World) (bl : Nat) (pre : List Value) (h : LkC w0 w bl p vc m pre s) (h8 : m.stack ≤ 8) (hi : i < 8) :
    Calls Tryz.prog 156 #[.pointer (some ⟨bl, 0, none⟩), .agg #[.int .i64 1, .int .i64 (i : Int), .int .i64 b]] w fun e w' => DoR p m ⟨1, i, b⟩ s w0 w w' bl vc pre e := by
  have hbl := h.lk.lt
  have hll := h.lk.locLen
  have HT : Hid (doS p m ⟨1, i, b⟩ s = (knownS (s.loc.getD i 0)).bind fun t => leaveS m t s) := rfl
  have hty : tyOk p.length (s.loc.getD i 0) := by
    rw [List.getD_eq_getElem?_getD, List.getElem?_eq_getElem (by omega)]
    exact h.ty.1 _ (List.getElem_mem _)
  generalize ht : s.loc.getD i 0 = t at *
  have HTT := hide ht
  clear ht
  have HW := hide (h.below (box_below w (.cells #[.int .i64 1, .int .i64 (i : Int), .int .i64 b] 60)))
  have hBI := Blk.new w #[.int .i64 1, .int .i64 (i : Int), .int .i64 b] 60
  have HM := hide (bnone (S := fun k => k = bl) (box_below w (.cells #[.int .i64 1, .int .i64 (i : Int), .int .i64 b] 60)))
  go_enter Tryz.func156, Tryz.ntmps156
  go_wp2_with fail
  generalize w.alloc _ = W at *
  have r1 : W.cell? ⟨w.heap.size, 1, none⟩ = some (.int .i64 i) := hBI.cell 1
  have HBI := hide hBI
  have hne : w.heap.size ≠ bl := by omega
  obtain ⟨cs, hS, hl, hB, hg⟩ := (unhide HW).lk.state
  clear hBI h
  refine wp_region_held_drew (S := (fun w' => w'.cell? ⟨w.heap.size, 1, none⟩ = some (.int .i64 (i : Int)))) (by kernel_rfl) ?_ (fun hHeld => ?_)
  · exact r1
  refine take_x (some 15) 0 rfl rfl ?_
  try simp only [Act.put, List.setIfInBounds_toArray, List.set_cons_zero, List.set_cons_succ]
  refine take_x (some 16) 1 rfl rfl ?_
  try simp only [Act.put, List.setIfInBounds_toArray, List.set_cons_zero, List.set_cons_succ]
  refine take_x (some 17) 2 rfl rfl ?_
  try simp only [Act.put, List.setIfInBounds_toArray, List.set_cons_zero, List.set_cons_succ]
  refine take_x (some 18) 3 rfl rfl ?_
  try simp only [Act.put, List.setIfInBounds_toArray, List.set_cons_zero, List.set_cons_succ]
  refine take_x (some 20) 5 rfl rfl ?_
  try simp only [Act.put, List.setIfInBounds_toArray, List.set_cons_zero, List.set_cons_succ]
  refine take_x (some 21) 6 rfl rfl ?_
  try simp only [Act.put, List.setIfInBounds_toArray, List.set_cons_zero, List.set_cons_succ]
  refine wpAnyH_ready (rs := [4]) (by kernel_rfl) (by simp) ?_
  refine AllReadyH.cons rfl (fun K hK => ?_) AllReadyH.nil
  refine wp_load_blk aggSt (hB.below ((Below.refl _ _).drew) hB.lt) 8 cs hl hg (.tmp 18) rfl rfl ?_
  go_simp
  refine hK.out _ _ r1 (fun hHeld => ?_)
  clear hK K
  try simp only [Act.put, List.setIfInBounds_toArray, List.set_cons_zero, List.set_cons_succ]
  refine wpAnyH_ready (rs := [7]) (by kernel_rfl) (by simp) ?_
  refine AllReadyH.cons rfl (fun K hK => ?_) AllReadyH.nil
  go_simp
  refine (st_local s cs i _ hS hi).mono ?_
  rintro e w1 ⟨rfl, hb1⟩
  have hb1' : Below W.heap.size W w1 := ⟨hb1.os, hb1.tape, hb1.output, hb1.size, hb1.block⟩
  have L1 := hide ((unhide HW).below hb1')
  have m1 : Mods (fun k => k = bl) w w1 := (unhide HM).trans (bnone hb1') (fun _ _ e => e)
  have hI1 := (unhide HBI).below hb1' (unhide HBI).lt
  rw [unhide HTT]
  go_wp2_with fail
  refine hK.out _ _ (hI1.cell 1) (fun hHeld => ?_)
  clear hK K
  try simp only [Act.put, List.setIfInBounds_toArray, List.set_cons_zero, List.set_cons_succ]
  clear hb1 hb1'
  refine wpAnyH_ready (rs := [8]) (by kernel_rfl) (by simp) ?_
  refine AllReadyH.cons rfl (fun K hK => ?_) AllReadyH.nil
  go_simp
  refine (fit_known t _).mono ?_
  rintro e w2 ⟨h1, h2, rfl⟩
  cases hr : knownS t with
  | none =>
    obtain rfl := h2 hr
    have HN : Hid (doS p m ⟨1, i, b⟩ s = none) := by show _ = _; rw [unhide HT, hr]; rfl
    clear hr h1 h2
    go_wp2_with fail
    exact ⟨rfl, DoR.no (unhide HN) m1⟩
  | some x =>
    obtain rfl := h1 x hr
    obtain rfl := knownS_eq hr
    have HN : Hid (doS p m ⟨1, i, b⟩ s = leaveS m x s) := by show _ = _; rw [unhide HT, hr]; rfl
    clear hr h1 h2
    go_wp2_with fail
    refine hK.out _ _ (hI1.cell 1) (fun hHeld => ?_)
    clear hK K
    try simp only [Act.put, List.setIfInBounds_toArray, List.set_cons_zero, List.set_cons_succ]
    refine wpAnyH_ready (rs := [9]) (by kernel_rfl) (by simp) ?_
    refine AllReadyH.cons rfl (fun K hK => ?_) AllReadyH.nil
    go_simp
    refine (lk_leave x p vc m s w0 _ bl pre (unhide L1) hty h8).mono ?_
    rintro e w3 ⟨h1, h2, m3⟩
    have M3 := hide (m1.trans m3 (fun _ _ e => e))
    cases hr : leaveS m x s with
    | none =>
      obtain rfl := h2 hr
      have HN' : Hid (doS p m ⟨1, i, b⟩ s = none) := by show _ = _; rw [unhide HN, hr]
      clear hr h1 h2
      go_wp2_with fail
      exact ⟨rfl, DoR.no (unhide HN') (unhide M3)⟩
    | some s1 =>
      obtain ⟨rfl, hL⟩ := h1 s1 hr
      have HN' : Hid (doS p m ⟨1, i, b⟩ s = some s1) := by show _ = _; rw [unhide HN, hr]
      have HL := hide hL
      have hI3 := hI1.mods m3 hne
      clear hr h1 h2 hL
      go_wp2_with fail
      refine hK.out _ _ (hI3.cell 1) (fun hHeld => ?_)
      clear hK K
      try simp only [Act.put, List.setIfInBounds_toArray, List.set_cons_zero, List.set_cons_succ]
      refine wpAnyH_done (by kernel_rfl) ?_ _
      go_wp2_with fail
      go_end0
      exact DoR.ok (unhide HN') (unhide HL) (unhide M3)
theorem setL_ty {n : Nat} {k : Int} {s : TSt} {t : Int} (i : Nat) (h : TyS n k s) (ht : tyOk n t) : TyS n k (setL s i t) := by
  refine ⟨fun x hx => ?_, h.2.1, h.2.2⟩
  rcases List.mem_or_eq_of_mem_set hx with h1 | rfl
  · exact h.1 x h1
  · exact ht
set_option maxHeartbeats 1000000 in
set_option maxRecDepth 100000 in
theorem do_2 (i : Nat) (b : Int) (p : List LClass) (vc : Value) (m : LMeth) (s : TSt) (w0 w : World) (bl : Nat) (pre : List Value) (h : LkC w0 w bl p vc m pre s) (hi : i < 8) :
    Calls Tryz.prog 156 #[.pointer (some ⟨bl, 0, none⟩), .agg #[.int .i64 2, .int .i64 (i : Int), .int .i64 b]] w fun e w' => DoR p m ⟨2, i, b⟩ s w0 w w' bl vc pre e := by
  have hbl := h.lk.lt
  have HT : Hid (doS p m ⟨2, i, b⟩ s = (takeS s).bind fun x => (knownS x.1).map fun t => setL x.2 i t) := rfl
  have HW := hide (h.below (box_below w (.cells #[.int .i64 2, .int .i64 (i : Int), .int .i64 b] 60)))
  have hBI := Blk.new w #[.int .i64 2, .int .i64 (i : Int), .int .i64 b] 60
  have HM := hide (bnone (S := fun k => k = bl) (box_below w (.cells #[.int .i64 2, .int .i64 (i : Int), .int .i64 b] 60)))
  go_enter Tryz.func156, Tryz.ntmps156
  go_wp2_with fail
  generalize w.alloc _ = W at *
  have r1 : W.cell? ⟨w.heap.size, 1, none⟩ = some (.int .i64 i) := hBI.cell 1
  have HBI := hide hBI
  have hne : w.heap.size ≠ bl := by omega
  clear hBI h
  refine wp_region_held_drew (S := (fun w' => w'.cell? ⟨w.heap.size, 1, none⟩ = some (.int .i64 (i : Int)))) (by kernel_rfl) ?_ (fun hHeld => ?_)
  · exact r1
  refine take_x (some 27) 0 rfl rfl ?_
  try simp only [Act.put, List.setIfInBounds_toArray, List.set_cons_zero, List.set_cons_succ]
  refine take_x (some 28) 1 rfl rfl ?_
  try simp only [Act.put, List.setIfInBounds_toArray, List.set_cons_zero, List.set_cons_succ]
  refine take_x (some 29) 2 rfl rfl ?_
  try simp only [Act.put, List.setIfInBounds_toArray, List.set_cons_zero, List.set_cons_succ]
  refine take_x (some 30) 3 rfl rfl ?_
  try simp only [Act.put, List.setIfInBounds_toArray, List.set_cons_zero, List.set_cons_succ]
  refine take_x (some 31) 4 rfl rfl ?_
  try simp only [Act.put, List.setIfInBounds_toArray, List.set_cons_zero, List.set_cons_succ]
  refine take_x (some 32) 5 rfl rfl ?_
  try simp only [Act.put, List.setIfInBounds_toArray, List.set_cons_zero, List.set_cons_succ]
  refine wpAnyH_ready (rs := [6]) (by kernel_rfl) (by simp) ?_
  refine AllReadyH.cons rfl (fun K hK => ?_) AllReadyH.nil
  go_simp
  refine (lk_take s _ bl pre ((unhide HW).below ((Below.refl _ _).drew)).lk).mono ?_
  rintro e w1 ⟨h1, h2, m1⟩
  have m1' : Mods (fun k => k = bl) W w1 := m1.undrw
  have M1 := hide ((unhide HM).trans m1' (fun _ _ e => e))
  cases hr : takeS s with
  | none =>
    obtain rfl := h2 hr
    have HN : Hid (doS p m ⟨2, i, b⟩ s = none) := by show _ = _; rw [unhide HT, hr]; rfl
    clear hr h1 h2
    go_wp2_with fail
    exact ⟨rfl, DoR.no (unhide HN) (unhide M1)⟩
  | some y =>
    obtain ⟨t, s1⟩ := y
    obtain ⟨rfl, hl⟩ := h1 t s1 hr
    have hty := takeS_ty hr (unhide HW).ty
    have HL := hide ((unhide HW).next hl m1' hty.2)
    have Tt := hty.1
    have HN : Hid (doS p m ⟨2, i, b⟩ s = (knownS t).map fun t => setL s1 i t) := by show _ = _; rw [unhide HT, hr]; rfl
    have hI1 := (unhide HBI).mods m1' hne
    clear hr h1 h2 hl hty m1 m1'
    go_wp2_with fail
    refine hK.out _ _ (hI1.cell 1) (fun hHeld => ?_)
    clear hK K
    try simp only [Act.put, List.setIfInBounds_toArray, List.set_cons_zero, List.set_cons_succ]
    refine wpAnyH_ready (rs := [7]) (by kernel_rfl) (by simp) ?_
    refine AllReadyH.cons rfl (fun K hK => ?_) AllReadyH.nil
    go_simp
    refine (fit_known t _).mono ?_
    rintro e w2 ⟨h1, h2, rfl⟩
    cases hr : knownS t with
    | none =>
      obtain rfl := h2 hr
      have HN' : Hid (doS p m ⟨2, i, b⟩ s = none) := by show _ = _; rw [unhide HN, hr]; rfl
      clear hr h1 h2
      go_wp2_with fail
      exact ⟨rfl, DoR.no (unhide HN') (unhide M1)⟩
    | some x =>
      obtain rfl := h1 x hr
      obtain rfl := knownS_eq hr
      have HN' : Hid (doS p m ⟨2, i, b⟩ s = some (setL s1 i x)) := by show _ = _; rw [unhide HN, hr]; rfl
      clear hr h1 h2
      go_wp2_with fail
      refine hK.out _ _ (hI1.cell 1) (fun hHeld => ?_)
      clear hK K
      try simp only [Act.put, List.setIfInBounds_toArray, List.set_cons_zero, List.set_cons_succ]
      refine wpAnyH_ready (rs := [8]) (by kernel_rfl) (by simp) ?_
      refine AllReadyH.cons rfl (fun K hK => ?_) AllReadyH.nil
      go_simp
      refine (st_setlocal s1 i x _ bl pre (unhide HL).lk hi).mono ?_
      rintro e w3 ⟨rfl, hl3, m3⟩
      have M3 := hide ((unhide M1).trans m3 (fun _ _ e => e))
      have HL3 := hide ((unhide HL).next hl3 m3 (setL_ty i (unhide HL).ty Tt))
      have hI3 := hI1.mods m3 hne
      go_wp2_with fail
      refine hK.out _ _ (hI3.cell 1) (fun hHeld => ?_)
      clear hK K
      try simp only [Act.put, List.setIfInBounds_toArray, List.set_cons_zero, List.set_cons_succ]
      refine wpAnyH_done (by kernel_rfl) ?_ _
      go_wp2_with fail
      go_end0
      exact DoR.ok (unhide HN') (unhide HL3) (unhide M3)
end Go.Proofs.YtiiokkllmchohaaGreat
/- The code looks whether GET and PUT fit. -/
namespace Go.Proofs.YtiiokkllmchohaaGreat
open Go.RowKit
attribute [local go_sem ↓] Go.wp_at_zero Go.wp_at_succ
attribute [local go_sem] frz_drew

theorem own_at {w : World} {base : Nat} {e : TypeId} {v : Value} {n : Nat} {xs : List Value} (h : w.ownsRow base e 1 v n xs) {j : Nat} (hj : j < n) : ∃ g cap, v = .slice (some ⟨g, 0, none⟩) n cap ∧ w.cell? ⟨g, j, none⟩ = xs[j]? := by
  rcases h.2 with ⟨e0, h0⟩ | ⟨g, cap', cur, e0, _, hg, _, _, _, htk⟩
  · omega
  · refine ⟨g, cap', e0, ?_⟩
    have hB : Blk w g e cur.toList := by unfold Blk; simpa using hg
    rw [hB.cell, ← htk, List.getElem?_take, if_pos (by omega)]
theorem fieldT_get {p : List LClass} {a : Int} {j : Nat} (hj : j < (fieldsOf p a).length) : ((fieldsOf p a).map (Value.int .i64))[j]? = some (.int .i64 (fieldT p a j)) := by
  rw [List.getElem?_map, List.getElem?_eq_getElem hj]
  unfold fieldT
  rw [Int.toNat_natCast, List.getD_eq_getElem?_getD, List.getElem?_eq_getElem hj]; rfl

set_option maxHeartbeats 1000000 in
set_option maxRecDepth 100000 in
theorem do_10 (a : Int) (j : Nat) (p : List LClass) (vc : Value) (m : LMeth) (s : TSt) (w0 w : World) (bl : Nat) (pre : List Value) (h : LkC w0 w bl p vc m pre s) (hs : SupOk p p.length) (hz : szProg p ≤ 4194304) (h8 : m.stack ≤ 8)
    (ha0 : 0 ≤ a) (ha1 : a < (p.length : Int)) (hj : j < (fieldsOf p a).length) (hft : tyOk p.length (fieldT p a j)) :
    Calls Tryz.prog 156 #[.pointer (some ⟨bl, 0, none⟩), .agg #[.int .i64 10, .int .i64 a, .int .i64 (j : Int)]] w fun e w' => DoR p m ⟨10, a, j⟩ s w0 w w' bl vc pre e := by
  have hpl : p.length ≤ 4194304 := Nat.le_trans (szProg_len p) hz
  have hbl := h.lk.lt
  have hjn : (j : Int) < ((fieldsOf p a).length : Int) := by omega
  have hj0 : (0 : Int) ≤ (j : Int) := by omega
  have HG := hide (fieldT_get hj)
  have HT0 : Hid (doS p m ⟨10, a, j⟩ s = (wantS p (a + 3) s).bind (leaveS m (fieldT p a j))) := rfl
  have HW := hide (h.below (box_below w (.cells #[.int .i64 10, .int .i64 a, .int .i64 (j : Int)] 60)))
  have hBI := Blk.new w #[.int .i64 10, .int .i64 a, .int .i64 (j : Int)] 60
  have HM := hide (bnone (S := fun k => k = bl) (box_below w (.cells #[.int .i64 10, .int .i64 a, .int .i64 (j : Int)] 60)))
  obtain ⟨va, _, _, vcap, rfl, _⟩ := h.pr
  generalize hF : fieldT p a j = ft at *
  clear hF
  go_enter Tryz.func156, Tryz.ntmps156
  go_wp2_with fail
  generalize w.alloc _ = W at *
  have HBI := hide hBI
  have r1 : W.cell? ⟨w.heap.size, 1, none⟩ = some (.int .i64 a) := hBI.cell 1
  have hne : w.heap.size ≠ bl := by omega
  clear hBI h
  refine (code_of a (by omega) (by omega) _).mono ?_
  rintro e w' ⟨rfl, rfl⟩
  go_wp2_with fail
  refine (lk_want (a + 3) p _ m s w0 _ bl pre (unhide HW) hs hpl (tyOk_cls ha0 ha1)).mono ?_
  rintro e w1 ⟨h1, h2, mm⟩
  cases hr : wantS p (a + 3) s with
  | none =>
    obtain rfl := h2 hr
    have HN : Hid (doS p m ⟨10, a, j⟩ s = none) := by show _ = _; rw [unhide HT0, hr] <;> rfl
    have HMn := hide ((unhide HM).trans mm (fun _ _ e => e))
    clear hr h1 h2
    go_wp2_with fail
    exact ⟨rfl, DoR.no (unhide HN) (unhide HMn)⟩
  | some s1 =>
    obtain ⟨rfl, hL⟩ := h1 s1 hr
    have HT1 : Hid (doS p m ⟨10, a, j⟩ s = leaveS m ft s1) := by show _ = _; rw [unhide HT0, hr] <;> rfl
    have HB1 := hide ((unhide HBI).mods mm hne)
    have q1 : w1.cell? ⟨w.heap.size, 1, none⟩ = some (.int .i64 a) := (unhide HB1).cell 1
    have q2 : w1.cell? ⟨w.heap.size, 2, none⟩ = some (.int .i64 (j : Int)) := (unhide HB1).cell 2
    have q0 : w1.cell? ⟨bl, 0, none⟩ = some (.slice va p.length vcap) := hL.cell (by omega) hL.p0
    have HL := hide hL
    have HM1 := hide ((unhide HM).trans mm (fun _ _ e => e))
    clear hr h1 h2 hL mm
    go_wp2_with fail
    refine wp_region_held_drew (S := (fun w' => w'.cell? ⟨bl, 0, none⟩ = some (.slice va p.length vcap) ∧ w'.cell? ⟨w.heap.size, 1, none⟩ = some (.int .i64 a) ∧ w'.cell? ⟨w.heap.size, 2, none⟩ = some (.int .i64 (j : Int)))) (by kernel_rfl) ?_ (fun hHeld => ?_)
    · exact (And.intro q0 (And.intro q1 q2))
    refine take_x (some 66) 0 rfl rfl ?_
    try simp only [Act.put, List.setIfInBounds_toArray, List.set_cons_zero, List.set_cons_succ]
    refine take_x (some 67) 1 rfl rfl ?_
    try simp only [Act.put, List.setIfInBounds_toArray, List.set_cons_zero, List.set_cons_succ]
    refine take_x (some 68) 2 rfl rfl ?_
    try simp only [Act.put, List.setIfInBounds_toArray, List.set_cons_zero, List.set_cons_succ]
    refine take_x (some 69) 3 rfl rfl ?_
    try simp only [Act.put, List.setIfInBounds_toArray, List.set_cons_zero, List.set_cons_succ]
    refine take_x (some 70) 4 rfl rfl ?_
    try simp only [Act.put, List.setIfInBounds_toArray, List.set_cons_zero, List.set_cons_succ]
    refine take_x (some 71) 5 rfl rfl ?_
    try simp only [Act.put, List.setIfInBounds_toArray, List.set_cons_zero, List.set_cons_succ]
    refine take_x (some 72) 6 rfl rfl ?_
    try simp only [Act.put, List.setIfInBounds_toArray, List.set_cons_zero, List.set_cons_succ]
    refine take_x (some 74) 8 rfl rfl ?_
    try simp only [Act.put, List.setIfInBounds_toArray, List.set_cons_zero, List.set_cons_succ]
    refine take_x (some 75) 9 rfl rfl ?_
    try simp only [Act.put, List.setIfInBounds_toArray, List.set_cons_zero, List.set_cons_succ]
    refine wpAnyH_ready (rs := [7]) (by kernel_rfl) (by simp) ?_
    refine AllReadyH.cons rfl (fun K hK => ?_) AllReadyH.nil
    go_simp
    refine (code_fields p hs hz (a + 1).toNat a _ _ (prog_keep (Keeps.of_below ((Below.refl _ _).drew)) (unhide HL).rp) (by omega) ha1 (Nat.le_refl _)).mono ?_
    rintro e w2 ⟨v', rfl, hown, hb2⟩
    have hb2' : Below w1.heap.size w1 w2 := ⟨hb2.os, hb2.tape, hb2.output, hb2.size, hb2.block⟩
    obtain ⟨g, fcap, rfl, hc⟩ := own_at hown hj
    rw [unhide HG] at hc
    have k2 := Keeps.of_below hb2'
    have HL2 := hide ((unhide HL).below hb2')
    have HM2 := hide ((unhide HM1).trans (bnone (S := fun k => k = bl) hb2') (fun _ _ e => e))
    have hB2 := (unhide HB1).below hb2' (unhide HB1).lt
    have hall := And.intro (k2 _ _ q0) (And.intro (k2 _ _ q1) (k2 _ _ q2))
    clear hown hb2 hb2' k2
    go_wp2_with fail
    refine hK.out _ _ hall (fun hHeld => ?_)
    clear hK K
    try simp only [Act.put, List.setIfInBounds_toArray, List.set_cons_zero, List.set_cons_succ]
    refine take_x (some 76) 10 rfl rfl ?_
    try simp only [Act.put, List.setIfInBounds_toArray, List.set_cons_zero, List.set_cons_succ]
    refine wpAnyH_ready (rs := [11]) (by kernel_rfl) (by simp) ?_
    refine AllReadyH.cons rfl (fun K hK => ?_) AllReadyH.nil
    go_simp
    refine hK.out _ _ hall (fun hHeld => ?_)
    clear hK K
    try simp only [Act.put, List.setIfInBounds_toArray, List.set_cons_zero, List.set_cons_succ]
    refine wpAnyH_ready (rs := [12]) (by kernel_rfl) (by simp) ?_
    refine AllReadyH.cons rfl (fun K hK => ?_) AllReadyH.nil
    go_simp
    refine (lk_leave ft p _ m s1 w0 _ bl pre (unhide HL2) hft h8).mono ?_
    rintro e w3 ⟨h1, h2, m3⟩
    have M3 := hide ((unhide HM2).trans m3 (fun _ _ e => e))
    cases hr : leaveS m ft s1 with
    | none =>
      obtain rfl := h2 hr
      have HN' : Hid (doS p m ⟨10, a, j⟩ s = none) := by show _ = _; rw [unhide HT1, hr]
      clear hr h1 h2
      go_wp2_with fail
      exact ⟨rfl, DoR.no (unhide HN') (unhide M3)⟩
    | some s2 =>
      obtain ⟨rfl, hL3⟩ := h1 s2 hr
      have HN' : Hid (doS p m ⟨10, a, j⟩ s = some s2) := by show _ = _; rw [unhide HT1, hr]
      have HL3 := hide hL3
      have hI3 := hB2.mods m3 hne
      have z0 := hL3.cell (by omega) hL3.p0
      clear hr h1 h2 hL3
      go_wp2_with fail
      refine hK.out _ _ (And.intro z0 (And.intro (hI3.cell 1) (hI3.cell 2))) (fun hHeld => ?_)
      clear hK K
      try simp only [Act.put, List.setIfInBounds_toArray, List.set_cons_zero, List.set_cons_succ]
      refine wpAnyH_done (by kernel_rfl) ?_ _
      go_wp2_with fail
      go_end0
      exact DoR.ok (unhide HN') (unhide HL3) (unhide M3)
set_option maxHeartbeats 1000000 in
set_option maxRecDepth 100000 in
theorem do_11 (a : Int) (j : Nat) (p : List LClass) (vc : Value) (m : LMeth) (s : TSt) (w0 w : World) (bl : Nat) (pre : List Value) (h : LkC w0 w bl p vc m pre s) (hs : SupOk p p.length) (hz : szProg p ≤ 4194304)
    (ha0 : 0 ≤ a) (ha1 : a < (p.length : Int)) (hj : j < (fieldsOf p a).length) (hft : tyOk p.length (fieldT p a j)) :
    Calls Tryz.prog 156 #[.pointer (some ⟨bl, 0, none⟩), .agg #[.int .i64 11, .int .i64 a, .int .i64 (j : Int)]] w fun e w' => DoR p m ⟨11, a, j⟩ s w0 w w' bl vc pre e := by
  have hpl : p.length ≤ 4194304 := Nat.le_trans (szProg_len p) hz
  have hbl := h.lk.lt
  have hjn : (j : Int) < ((fieldsOf p a).length : Int) := by omega
  have hj0 : (0 : Int) ≤ (j : Int) := by omega
  have HG := hide (fieldT_get hj)
  have HT0 : Hid (doS p m ⟨11, a, j⟩ s = (wantS p (fieldT p a j) s).bind (wantS p (a + 3))) := rfl
  have HW := hide (h.below (box_below w (.cells #[.int .i64 11, .int .i64 a, .int .i64 (j : Int)] 60)))
  have hBI := Blk.new w #[.int .i64 11, .int .i64 a, .int .i64 (j : Int)] 60
  have HM := hide (bnone (S := fun k => k = bl) (box_below w (.cells #[.int .i64 11, .int .i64 a, .int .i64 (j : Int)] 60)))
  obtain ⟨va, _, _, vcap, rfl, _⟩ := h.pr
  generalize hF : fieldT p a j = ft at *
  clear hF
  go_enter Tryz.func156, Tryz.ntmps156
  go_wp2_with fail
  generalize w.alloc _ = W at *
  have HBI := hide hBI
  have hne : w.heap.size ≠ bl := by omega
  have q1 : W.cell? ⟨w.heap.size, 1, none⟩ = some (.int .i64 a) := hBI.cell 1
  have q2 : W.cell? ⟨w.heap.size, 2, none⟩ = some (.int .i64 (j : Int)) := hBI.cell 2
  have q0 : W.cell? ⟨bl, 0, none⟩ = some (.slice va p.length vcap) := (unhide HW).cell (by omega) (unhide HW).p0
  clear hBI h
  refine wp_region_held_drew (S := (fun w' => w'.cell? ⟨bl, 0, none⟩ = some (.slice va p.length vcap) ∧ w'.cell? ⟨w.heap.size, 1, none⟩ = some (.int .i64 a) ∧ w'.cell? ⟨w.heap.size, 2, none⟩ = some (.int .i64 (j : Int)))) (by kernel_rfl) ?_ (fun hHeld => ?_)
  · exact (And.intro q0 (And.intro q1 q2))
  refine take_x (some 81) 0 rfl rfl ?_
  try simp only [Act.put, List.setIfInBounds_toArray, List.set_cons_zero, List.set_cons_succ]
  refine take_x (some 82) 1 rfl rfl ?_
  try simp only [Act.put, List.setIfInBounds_toArray, List.set_cons_zero, List.set_cons_succ]
  refine take_x (some 83) 2 rfl rfl ?_
  try simp only [Act.put, List.setIfInBounds_toArray, List.set_cons_zero, List.set_cons_succ]
  refine take_x (some 84) 3 rfl rfl ?_
  try simp only [Act.put, List.setIfInBounds_toArray, List.set_cons_zero, List.set_cons_succ]
  refine take_x (some 85) 4 rfl rfl ?_
  try simp only [Act.put, List.setIfInBounds_toArray, List.set_cons_zero, List.set_cons_succ]
  refine take_x (some 86) 5 rfl rfl ?_
  try simp only [Act.put, List.setIfInBounds_toArray, List.set_cons_zero, List.set_cons_succ]
  refine take_x (some 87) 6 rfl rfl ?_
  try simp only [Act.put, List.setIfInBounds_toArray, List.set_cons_zero, List.set_cons_succ]
  refine take_x (some 89) 8 rfl rfl ?_
  try simp only [Act.put, List.setIfInBounds_toArray, List.set_cons_zero, List.set_cons_succ]
  refine take_x (some 90) 9 rfl rfl ?_
  try simp only [Act.put, List.setIfInBounds_toArray, List.set_cons_zero, List.set_cons_succ]
  refine wpAnyH_ready (rs := [7]) (by kernel_rfl) (by simp) ?_
  refine AllReadyH.cons rfl (fun K hK => ?_) AllReadyH.nil
  go_simp
  refine (code_fields p hs hz (a + 1).toNat a _ _ (prog_keep (Keeps.of_below ((Below.refl _ _).drew)) (unhide HW).rp) (by omega) ha1 (Nat.le_refl _)).mono ?_
  rintro e w2 ⟨v', rfl, hown, hb2⟩
  have hb2' : Below W.heap.size W w2 := ⟨hb2.os, hb2.tape, hb2.output, hb2.size, hb2.block⟩
  obtain ⟨g, fcap, rfl, hc⟩ := own_at hown hj
  rw [unhide HG] at hc
  have k2 := Keeps.of_below hb2'
  have HL2 := hide ((unhide HW).below hb2')
  have HM2 := hide ((unhide HM).trans (bnone (S := fun k => k = bl) hb2') (fun _ _ e => e))
  have hB2 := (unhide HBI).below hb2' (unhide HBI).lt
  have hall := And.intro (k2 _ _ q0) (And.intro (k2 _ _ q1) (k2 _ _ q2))
  clear hown hb2 hb2' k2
  go_wp2_with fail
  refine hK.out _ _ hall (fun hHeld => ?_)
  clear hK K
  try simp only [Act.put, List.setIfInBounds_toArray, List.set_cons_zero, List.set_cons_succ]
  refine take_x (some 91) 10 rfl rfl ?_
  try simp only [Act.put, List.setIfInBounds_toArray, List.set_cons_zero, List.set_cons_succ]
  refine wpAnyH_ready (rs := [11]) (by kernel_rfl) (by simp) ?_
  refine AllReadyH.cons rfl (fun K hK => ?_) AllReadyH.nil
  go_simp
  refine hK.out _ _ hall (fun hHeld => ?_)
  clear hK K
  try simp only [Act.put, List.setIfInBounds_toArray, List.set_cons_zero, List.set_cons_succ]
  refine wpAnyH_ready (rs := [12]) (by kernel_rfl) (by simp) ?_
  refine AllReadyH.cons rfl (fun K hK => ?_) AllReadyH.nil
  go_simp
  refine (lk_want ft p _ m s w0 _ bl pre (unhide HL2) hs hpl hft).mono ?_
  rintro e w3 ⟨h1, h2, m3⟩
  have M3 := hide ((unhide HM2).trans m3 (fun _ _ e => e))
  cases hr : wantS p ft s with
  | none =>
    obtain rfl := h2 hr
    have HN' : Hid (doS p m ⟨11, a, j⟩ s = none) := by show _ = _; rw [unhide HT0, hr] <;> rfl
    clear hr h1 h2
    go_wp2_with fail
    exact ⟨rfl, DoR.no (unhide HN') (unhide M3)⟩
  | some s2 =>
    obtain ⟨rfl, hL3⟩ := h1 s2 hr
    have HT1 : Hid (doS p m ⟨11, a, j⟩ s = wantS p (a + 3) s2) := by show _ = _; rw [unhide HT0, hr] <;> rfl
    have HL3 := hide hL3
    have hI3 := hB2.mods m3 hne
    have z0 := hL3.cell (by omega) hL3.p0
    have z1 : w3.cell? ⟨w.heap.size, 1, none⟩ = some (.int .i64 a) := hI3.cell 1
    clear hr h1 h2 hL3
    go_wp2_with fail
    refine hK.out _ _ (And.intro z0 (And.intro z1 (hI3.cell 2))) (fun hHeld => ?_)
    clear hK K
    try simp only [Act.put, List.setIfInBounds_toArray, List.set_cons_zero, List.set_cons_succ]
    refine wpAnyH_done (by kernel_rfl) ?_ _
    go_wp2_with fail
    refine (code_of a (by omega) (by omega) _).mono ?_
    rintro e w' ⟨rfl, rfl⟩
    go_wp2_with fail
    refine (lk_want (a + 3) p _ m s2 w0 _ bl pre (unhide HL3) hs hpl (tyOk_cls ha0 ha1)).mono ?_
    rintro e w4 ⟨h1, h2, m4⟩
    have M4 := hide ((unhide M3).trans m4 (fun _ _ e => e))
    cases hr : wantS p (a + 3) s2 with
    | none =>
      obtain rfl := h2 hr
      have HN' : Hid (doS p m ⟨11, a, j⟩ s = none) := by show _ = _; rw [unhide HT1, hr]
      clear hr h1 h2
      go_wp2_with fail
      exact ⟨rfl, DoR.no (unhide HN') (unhide M4)⟩
    | some s3 =>
      obtain ⟨rfl, hL4⟩ := h1 s3 hr
      have HN' : Hid (doS p m ⟨11, a, j⟩ s = some s3) := by show _ = _; rw [unhide HT1, hr]
      have HL4 := hide hL4
      clear hr h1 h2 hL4
      go_wp2_with fail
      go_end0
      exact DoR.ok (unhide HN') (unhide HL4) (unhide M4)
end Go.Proofs.YtiiokkllmchohaaGreat
/- The code looks whether an instruction fits: all of them. -/
namespace Go.Proofs.YtiiokkllmchohaaGreat
open Go.RowKit
attribute [local go_sem ↓] Go.wp_at_zero Go.wp_at_succ
attribute [local go_sem] frz_drew

set_option maxHeartbeats 1000000 in
set_option maxRecDepth 100000 in
theorem do_7 (a b : Int) (p : List LClass) (vc : Value) (m : LMeth) (s : TSt) (w0 w : World) (bl : Nat) (pre : List Value) (h : LkC w0 w bl p vc m pre s) :
    Calls Tryz.prog 156 #[.pointer (some ⟨bl, 0, none⟩), .agg #[.int .i64 7, .int .i64 a, .int .i64 b]] w fun e w' => DoR p m ⟨7, a, b⟩ s w0 w w' bl vc pre e := by
  have HT : Hid (doS p m ⟨7, a, b⟩ s = some s) := rfl
  have HW := hide (h.below (box_below w (.cells #[.int .i64 7, .int .i64 a, .int .i64 b] 60)))
  have HM := hide (bnone (S := fun k => k = bl) (box_below w (.cells #[.int .i64 7, .int .i64 a, .int .i64 b] 60)))
  clear h
  go_enter Tryz.func156, Tryz.ntmps156
  go_wp2_with fail
  go_end0
  exact DoR.ok (unhide HT) (unhide HW) (unhide HM)

structure Good (p : List LClass) : Prop where
  sup : SupOk p p.length
  sz : szProg p ≤ 4194304
  fld : ∀ (a : Int) (j : Nat), 0 ≤ a → a < (p.length : Int) → j < (fieldsOf p a).length → tyOk p.length (fieldT p a j)
  arg : ∀ (a b : Int), 0 ≤ a → a < (p.length : Int) → (methOf p a b).isSome = true → (∀ x ∈ (findM p a b).args, tyOk p.length x) ∧ tyOk p.length (findM p a b).ret
structure MOk (p : List LClass) (m : LMeth) : Prop where
  stk : m.stack ≤ 8
  loc : m.locals ≤ 8
  ret : tyOk p.length m.ret

set_option maxHeartbeats 1000000 in
theorem lk_do (i : LIns) (p : List LClass) (vc : Value) (m : LMeth) (s : TSt) (w0 w : World) (bl : Nat) (pre : List Value) (h : LkC w0 w bl p vc m pre s) (G : Good p) (M : MOk p m) (hi : insB p m i = true) :
    Calls Tryz.prog 156 #[.pointer (some ⟨bl, 0, none⟩), .agg #[.int .i64 i.op, .int .i64 i.a, .int .i64 i.b]] w fun e w' => DoR p m i s w0 w w' bl vc pre e := by
  obtain ⟨op, a, b⟩ := i
  have hs := G.sup
  have hz := G.sz
  have h8 := M.stk
  have hl8 := M.loc
  have hop : 0 ≤ op ∧ op ≤ 20 := by
    unfold insB at hi
    dsimp only at hi
    repeat' split at hi
    all_goals first | omega | (simp only [Bool.and_eq_true, placeB_iff] at hi; omega)
  have hcls : (op = 9 ∨ op = 17 ∨ op = 10 ∨ op = 11 ∨ op = 12) → 0 ≤ a ∧ a < (p.length : Int) := by
    intro ho
    unfold insB at hi
    dsimp only at hi
    rcases ho with rfl | rfl | rfl | rfl | rfl <;> simp [placeB_iff] at hi <;> exact hi.1
  have hloc : (op = 1 ∨ op = 2) → 0 ≤ a ∧ a < m.locals := by
    intro ho
    unfold insB at hi
    dsimp only at hi
    rcases ho with rfl | rfl <;> simp [placeB_iff] at hi <;> exact hi.1
  have hfld : (op = 10 ∨ op = 11) → 0 ≤ b ∧ b < ((fieldsOf p a).length : Int) := by
    intro ho
    unfold insB at hi
    dsimp only at hi
    rcases ho with rfl | rfl <;> simp [placeB_iff] at hi <;> exact hi.2
  have hcall : op = 12 → (methOf p a b).isSome = true := by
    rintro rfl
    unfold insB at hi
    dsimp only at hi
    simp [placeB_iff] at hi
    exact hi.2
  clear hi
  obtain rfl | rfl | rfl | rfl | rfl | rfl | rfl | rfl | rfl | rfl | rfl | rfl | rfl | rfl | rfl | rfl | rfl | rfl | rfl | rfl | rfl : op = 0 ∨ op = 1 ∨ op = 2 ∨ op = 3 ∨ op = 4 ∨ op = 5 ∨ op = 6 ∨ op = 7 ∨ op = 8 ∨ op = 9 ∨ op = 10 ∨ op = 11 ∨ op = 12 ∨ op = 13 ∨ op = 14 ∨ op = 15 ∨ op = 16 ∨ op = 17 ∨ op = 18 ∨ op = 19 ∨ op = 20 := by omega
  · exact do_0 a b p vc m s w0 w bl pre h hs hz h8
  · obtain ⟨h0, h1⟩ := hloc (by omega)
    obtain ⟨k, rfl⟩ := Int.eq_ofNat_of_zero_le h0
    exact do_1 k b p vc m s w0 w bl pre h h8 (by omega)
  · obtain ⟨h0, h1⟩ := hloc (by omega)
    obtain ⟨k, rfl⟩ := Int.eq_ofNat_of_zero_le h0
    exact do_2 k b p vc m s w0 w bl pre h (by omega)
  · exact do_3 a b p vc m s w0 w bl pre h hs hz h8
  · exact do_4 a b p vc m s w0 w bl pre h hs hz h8
  · exact do_5 a b p vc m s w0 w bl pre h hs hz h8
  · exact do_6 a b p vc m s w0 w bl pre h hs hz h8
  · exact do_7 a b p vc m s w0 w bl pre h
  · exact do_8 a b p vc m s w0 w bl pre h hs hz h8
  · exact do_9 a b p vc m s w0 w bl pre h hs hz h8 (hcls (by omega)).1 (hcls (by omega)).2
  · obtain ⟨h0, h1⟩ := hfld (by omega)
    obtain ⟨k, rfl⟩ := Int.eq_ofNat_of_zero_le h0
    obtain ⟨ha0, ha1⟩ := hcls (by omega)
    exact do_10 a k p vc m s w0 w bl pre h hs hz h8 ha0 ha1 (by omega) (G.fld a k ha0 ha1 (by omega))
  · obtain ⟨h0, h1⟩ := hfld (by omega)
    obtain ⟨k, rfl⟩ := Int.eq_ofNat_of_zero_le h0
    obtain ⟨ha0, ha1⟩ := hcls (by omega)
    exact do_11 a k p vc m s w0 w bl pre h hs hz ha0 ha1 (by omega) (G.fld a k ha0 ha1 (by omega))
  · obtain ⟨ha0, ha1⟩ := hcls (by omega)
    exact do_12 a b p vc m s w0 w bl pre h hs hz h8 ha0 ha1 (hcall rfl) (G.arg a b ha0 ha1 (hcall rfl)).1 (G.arg a b ha0 ha1 (hcall rfl)).2
  · exact do_13 a b p vc m s w0 w bl pre h hs hz h8 M.ret
  · exact do_14 a b p vc m s w0 w bl pre h hs hz h8
  · exact do_15 a b p vc m s w0 w bl pre h hs hz h8
  · exact do_16 a b p vc m s w0 w bl pre h hs hz h8
  · exact do_17 a b p vc m s w0 w bl pre h hs hz h8 (hcls (by omega)).1 (hcls (by omega)).2
  · exact do_18 a b p vc m s w0 w bl pre h hs hz h8
  · exact do_19 a b p vc m s w0 w bl pre h hs hz h8
  · exact do_20 a b p vc m s w0 w bl pre h hs hz h8
end Go.Proofs.YtiiokkllmchohaaGreat
/- A range over a function whose body may panic: one round, the statement, and the function that holds it. -/
namespace Go.Proofs.YtiiokkllmchohaaGreat
open Go.RowKit

def roundPostP (P : Program) (l : Nat) (R : Ending → World → Prop) : Exit → Act → World → Prop
  | .normal, _, w => ∃ v w', (Instr.endRound l none).run P w = .ok v w' ∧ R (.returned v) w'
  | .panic c, a, w => a.defers = [] ∧ R (.panicked c) w
  | _, _, _ => False

theorem round_p {F : Fence} {n : Nat} {P : Program} {l : Nat} {f : FuncId} {fn : Func} {tmps : Array Value} {assign body : Code} {w : World} {R : Ending → World → Prop} (hF : F.fn f) (hf : P.funcs[f]? = some fn)
    (h : assign.wpIn (F.inRound l) n P (Exit.then (fun a₁ w₁ => ∃ w₂, (Instr.beginRound l).run P w₁ = .ok () w₂ ∧ body.wpIn (F.inRound l) n P (roundPostP P l R) a₁ w₂) (fun _ _ _ => False)) { tmps := tmps, defers := [] } w) :
    RoundIn F n P l f tmps assign body w R := by
  refine ⟨hF, fun c cs hr => ?_⟩
  obtain ⟨b, hb⟩ : ∃ b : Frame, b = { (default : Frame) with fn := f, kind := .normal, roundOf := some l } := ⟨_, rfl⟩
  have hb0 : Frame.round l f tmps assign body .normal = b.atR { tmps := tmps, defers := [] } [.code assign, .beginRound, .code body] := by
    simp [Frame.round, Frame.atR, hb]
  have hro : b.roundOf = (F.inRound l).round := by rw [hb]; rfl
  have hbl : b.roundOf = some l := by rw [hb]
  have hbk : b.kind = .normal := by rw [hb]
  have hbf : b.fn = f := by rw [hb]
  have hF' : (F.inRound l).fn b.fn := by rw [hbf]; exact hF
  have hr' : (F.inRound l).room ((c :: cs).length + 1 + n) := hr
  obtain ⟨e, a₁, w₁, hq, harr⟩ := h b [.beginRound, .code body] (c :: cs) hro hF' hr'
  rw [← hb0] at harr
  cases e with
  | normal =>
    obtain ⟨w₂, hbr, hbody⟩ := hq
    have s1 : StepsIn (Machine.fenced P (F.inRound l)) P (lone (b.atR a₁ [.beginRound, .code body]) (c :: cs) w₁) (lone (b.atR a₁ [.code body]) (c :: cs) w₂) :=
      .one (fenced_calm (fr := b.atR a₁ [.beginRound, .code body]) hF' hr' rfl) (stepR_beginRound hbl hbr)
    obtain ⟨e₂, a₂, w₃, hq₂, harr₂⟩ := hbody b [] (c :: cs) hro hF' hr'
    cases e₂ with
    | normal =>
      obtain ⟨v, w₄, hend, hR⟩ := hq₂
      exact ⟨.returned v, w₄, hR, (StepsIn.trans harr s1).trans (StepsIn.trans harr₂ (.one (fenced_calm (fr := b.atR a₂ []) hF' hr' rfl) (stepR_round_end hbl hbk hend)))⟩
    | panic chain =>
      obtain ⟨hd, hR⟩ := hq₂
      obtain ⟨todo, hs⟩ := harr₂
      have hlv : Frame.leaving P { b.atR a₂ todo with mode := .panicking chain } w₃ (.panicked chain) := ⟨rfl, hd, fn, by rw [← hf, ← hbf]; rfl⟩
      have hfe : (lone { b.atR a₂ todo with mode := .panicking chain } (c :: cs) w₃).fenced P (F.inRound l) := fenced_leaving hF' hr' hlv
      exact ⟨.panicked chain, w₃, hR, (StepsIn.trans harr s1).trans (StepsIn.trans hs (.one hfe (step_leave_panicked hlv)))⟩
    | ret => exact hq₂.elim
    | exit id => exact hq₂.elim
    | goto t => exact hq₂.elim
    | outgrown => exact hq₂.elim
  | exit id => exact hq.elim
  | goto t => exact hq.elim
  | ret => exact hq.elim
  | panic chain => exact hq.elim
  | outgrown => exact hq.elim

def wpF (P : Program) (f : FuncId) (c : Code) (Q : Exit → Act → World → Prop) (a : Act) (w : World) : Prop :=
  ∀ (b : Frame) (k : List Item) (cs : List Frame), b.roundOf = none → b.fn = f → ∃ e a' w', Q e a' w' ∧ ArrivesIn (Machine.fenced P Fence.wide) P (lone (b.atR a (.code c :: k)) cs w) b k cs e a' w'
section
variable {P : Program} {f : FuncId} {Q : Exit → Act → World → Prop} {a : Act} {w : World}
theorem wpF_of_wp {c : Code} (h : c.wp P Q a w) : wpF P f c Q a w := fun b k cs hro _ => (wpIn_wide (n := 0)).2 h b k cs hro trivial (room_wide _)
theorem wpF_mono {c : Code} {Q' : Exit → Act → World → Prop} (h : wpF P f c Q a w) (hq : ∀ e a w, Q e a w → Q' e a w) : wpF P f c Q' a w := fun b k cs hro hb => let ⟨e, a', w', q, r⟩ := h b k cs hro hb; ⟨e, a', w', hq _ _ _ q, r⟩
theorem wide_calm {fr : Frame} {cs : List Frame} (w : World) : (lone fr cs w).fenced P Fence.wide := fenced_wide P _
theorem wpF_seq {x y : Code} (h : wpF P f x (Exit.then (wpF P f y Q) Q) a w) : wpF P f (Code.seq x y) Q a w := by
  intro b k cs hro hb
  obtain ⟨e, a₁, w₁, hq, harr⟩ := h b (.code y :: k) cs hro hb
  have s0 : StepsIn (Machine.fenced P Fence.wide) P (lone (b.atR a (.code (.seq x y) :: k)) cs w) (lone (b.atR a (.code x :: .code y :: k)) cs w) := .one (wide_calm _) stepR_seq
  cases e with
  | normal =>
    obtain ⟨e₂, a₂, w₂, hq₂, harr₂⟩ := hq b k cs hro hb
    exact ⟨e₂, a₂, w₂, hq₂, .of_steps (s0.trans harr) harr₂⟩
  | exit id => exact ⟨_, a₁, w₁, hq, .of_steps s0 (.pass (x := .code y) rfl (fun _ _ => .inl (by simp)) harr)⟩
  | goto l => exact ⟨_, a₁, w₁, hq, .of_steps s0 (.pass (x := .code y) rfl (fun _ _ => .inl (by simp)) harr)⟩
  | ret => exact ⟨_, a₁, w₁, hq, .of_steps s0 (.pass (x := .code y) rfl (fun _ _ => .inl (by simp)) harr)⟩
  | panic ch => exact ⟨_, a₁, w₁, hq, .of_steps s0 (.pass (x := .code y) rfl (fun _ _ => .inl (by simp)) harr)⟩
  | outgrown => exact ⟨_, a₁, w₁, hq, .of_steps s0 (.pass (x := .code y) rfl (fun _ _ => .inl (by simp)) harr)⟩
theorem wpF_seq_wp {x y : Code} (h : x.wp P (Exit.then (wpF P f y Q) Q) a w) : wpF P f (Code.seq x y) Q a w := wpF_seq (wpF_of_wp h)
theorem wpF_block {id : Nat} {c : Code} (h : wpF P f c (Exit.inBlock id Q) a w) : wpF P f (Code.block id c) Q a w := by
  intro b k cs hro hb
  have hrn : ¬ b.roundOf.isSome = true := by rw [hro]; simp
  have s0 : StepsIn (Machine.fenced P Fence.wide) P (lone (b.atR a (.code (.block id c) :: k)) cs w) (lone (b.atR a (.code c :: .inBlock id :: k)) cs w) := .one (wide_calm _) stepR_block
  obtain ⟨e, a₁, w₁, hq, harr⟩ := h b (.inBlock id :: k) cs hro hb
  cases e with
  | normal => exact ⟨.normal, a₁, w₁, hq, s0.trans (StepsIn.trans harr (.one (wide_calm _) stepR_inBlock))⟩
  | exit id' =>
    by_cases hid : id' = id
    · simp only [Exit.inBlock, hid, if_true] at hq
      exact ⟨.normal, a₁, w₁, hq, s0.trans (harr.1 k (by simp [exitTo, hid]))⟩
    · simp only [Exit.inBlock, hid, if_false] at hq
      have hne : (id == id') = false := by simp; exact fun h => hid h.symm
      have hx : exitTo id' (.inBlock id :: k) = exitTo id' k := by simp [exitTo, hne]
      exact ⟨.exit id', a₁, w₁, hq, fun k' hk => s0.trans (harr.1 k' (by rw [hx]; exact hk)), fun hr' _ => absurd hr' hrn⟩
  | goto l =>
    have hx : gotoIn l (.inBlock id :: k) = gotoIn l k := by simp [gotoIn]
    exact ⟨_, a₁, w₁, hq, fun k' hk => s0.trans (harr.1 k' (by rw [hx]; exact hk)), fun hr' _ => absurd hr' hrn⟩
  | ret => exact ⟨_, a₁, w₁, hq, .of_steps s0 harr⟩
  | panic ch => exact ⟨_, a₁, w₁, hq, .of_steps s0 harr⟩
  | outgrown => exact ⟨_, a₁, w₁, hq, .of_steps s0 harr⟩
theorem wpF_loop {c : Code} (I : Nat → Act → World → Prop) (m : Nat) (h₀ : I m a w)
    (round : ∀ m a w, I m a w → wpF P f c (Exit.then (fun a' w' => ∃ m', m' < m ∧ I m' a' w') Q) a w) : wpF P f (Code.loop c) Q a w := by
  intro b k cs hro hb
  have key : ∀ m a w, I m a w → ∃ e a' w', Q e a' w' ∧ ArrivesIn (Machine.fenced P Fence.wide) P (lone (b.atR a (.code c :: .inLoop c :: k)) cs w) b k cs e a' w' := by
    intro m
    induction m using Nat.strongRecOn with
    | _ m ih =>
      intro a w hI
      obtain ⟨e, a₁, w₁, hq, harr⟩ := round m a w hI b (.inLoop c :: k) cs hro hb
      cases e with
      | normal =>
        obtain ⟨m', hlt, hI'⟩ := hq
        obtain ⟨e₂, a₂, w₂, hq₂, harr₂⟩ := ih m' hlt a₁ w₁ hI'
        exact ⟨e₂, a₂, w₂, hq₂, .of_steps (StepsIn.trans harr (.one (wide_calm _) stepR_inLoop)) harr₂⟩
      | exit id => exact ⟨_, a₁, w₁, hq, .pass (x := .inLoop c) rfl (fun _ _ => .inl (by simp)) harr⟩
      | goto l => exact ⟨_, a₁, w₁, hq, .pass (x := .inLoop c) rfl (fun _ _ => .inl (by simp)) harr⟩
      | ret => exact ⟨_, a₁, w₁, hq, .pass (x := .inLoop c) rfl (fun _ _ => .inl (by simp)) harr⟩
      | panic ch => exact ⟨_, a₁, w₁, hq, .pass (x := .inLoop c) rfl (fun _ _ => .inl (by simp)) harr⟩
      | outgrown => exact ⟨_, a₁, w₁, hq, .pass (x := .inLoop c) rfl (fun _ _ => .inl (by simp)) harr⟩
  obtain ⟨e, a', w', hq, harr⟩ := key m a w h₀
  exact ⟨e, a', w', hq, .of_steps (.one (wide_calm _) stepR_loop) harr⟩
end

def marksPost (P : Program) (fn : Func) (R : Ending → World → Prop) : Exit → Act → World → Prop := bodyPostM Fence.wide 0 P fn R
theorem calls_of_wpF {P : Program} {f : FuncId} {fn : Func} {c : Code} {args : Array Value} {w : World} {R : Ending → World → Prop} (hf : P.funcs[f]? = some fn) (hb : fn.body = some c)
    (h : wpF P f c (marksPost P fn R) { tmps := args ++ Array.replicate (fn.ntmps - args.size) undef, defers := [] } w) : Calls P f args w R := by
  refine (callsIn_wide (n := 0)).1 ⟨trivial, fun cs hr => ?_⟩
  obtain ⟨b, hbd⟩ : ∃ b : Frame, b = { (default : Frame) with fn := f, kind := .normal, roundOf := none } := ⟨_, rfl⟩
  have henter : Frame.enter P f args .normal = b.atR { tmps := args ++ Array.replicate (fn.ntmps - args.size) undef, defers := [] } [.code c] := by
    simp [Frame.enter, Frame.atR, hf, hb, hbd]
  have hro : b.roundOf = none := by rw [hbd]
  have hbk : b.kind = .normal := by rw [hbd]
  have hbf : b.fn = f := by rw [hbd]
  obtain ⟨e, a', w', hq, harr⟩ := h b [] cs hro hbf
  rw [← henter] at harr
  have hf' : P.funcs[b.fn]? = some fn := by rw [hbf]; exact hf
  cases e with
  | normal =>
    obtain ⟨e', w'', fr', hR, hs, hfn, hl⟩ := leaves_stepsInM a'.defers .returning w' { b.atR a' [] with mode := .returning } cs rfl rfl rfl hf' hbk trivial hr hq
    exact ⟨e', w'', fr', hR, ComesIn.of_steps (StepsIn.trans harr (.one (wide_calm _) (stepR_end hro))) hs, hfn.trans hbf, hl⟩
  | ret =>
    obtain ⟨todo, hs₀⟩ := harr.1 hro
    obtain ⟨e', w'', fr', hR, hs, hfn, hl⟩ := leaves_stepsInM a'.defers .returning w' { b.atR a' todo with mode := .returning } cs rfl rfl rfl hf' hbk trivial hr hq
    exact ⟨e', w'', fr', hR, ComesIn.of_steps hs₀ hs, hfn.trans hbf, hl⟩
  | panic chain =>
    obtain ⟨todo, hs₀⟩ := harr
    obtain ⟨e', w'', fr', hR, hs, hfn, hl⟩ := leaves_stepsInM a'.defers (.panicking chain) w' { b.atR a' todo with mode := .panicking chain } cs rfl rfl rfl hf' hbk trivial hr hq
    exact ⟨e', w'', fr', hR, ComesIn.of_steps hs₀ hs, hfn.trans hbf, hl⟩
  | exit id => exact hq.elim
  | goto l => exact hq.elim
  | outgrown => exact ⟨.outgrown, w', b, hq, harr.resolve_left (by rw [hbk]; simp), hbf, trivial⟩

def encP (x : Int × Bool) : Array Value := #[.int .i64 x.1, .bool x.2]
def SeqP (P : Program) (g : Nat) (lb : Array Value) (S : Nat → Prop) (outs : List (Int × Bool)) (w : World) : Prop :=
  ∀ (l : Nat) (J : List (Int × Bool) → World → Prop) (Jp : List PanicEntry → World → Prop) (W : World), Below w.heap.size w W → w.heap.size ≤ l → l < W.heap.size →
    (∀ xs W W', J xs W → Below W.heap.size W W' → J xs W') →
    (∀ x xs W1, J (x :: xs) W1 → YieldAt Fence.wide 0 P l (encP x) W1 fun e W' => (e = .returned (.bool true) ∧ J xs W' ∧ Mods (fun k => S k ∨ k = l) W1 W') ∨ (∃ c, e = .panicked c ∧ Jp c W')) →
    J outs W →
    CallsIn Fence.wide 0 P g (#[.func (.yield l) #[] #[]] ++ lb) W fun e W' => (∃ v, e = .returned v ∧ J [] W') ∨ (∃ c, e = .panicked c ∧ Jp c W')

def postP (S : Nat → Prop) (I : List (Int × Bool) → World → Prop) (Ip : List PanicEntry → World → Prop) (xs : List (Int × Bool)) (W : World) : Exit → Act → World → Prop
  | .normal, _, W' => Mods S W W' ∧ I xs W'
  | .panic c, a, W' => a.defers = [] ∧ Mods S W W' ∧ Ip c W'
  | _, _, _ => False

theorem Mods.putObj {S : Nat → Prop} {W : World} {l : Nat} (o : Obj) (hl : S l) : Mods S W (W.putObj l o) :=
  ⟨rfl, rfl, rfl, by simp, fun k _ hk => World.putObj_heap_other (fun e => hk (e ▸ hl))⟩

theorem wpF_range {P : Program} {f : FuncId} {fn : Func} {g : Operand} {ps : Array Tmp} {assign body : Code} {Q : Exit → Act → World → Prop} {a : Act} {w : World} (hf : P.funcs[f]? = some fn)
    {gf : Nat} {lb : Array Value} (hg : a.eval g = .func (.func gf) #[] lb) (eg : ∀ args w, (callFunc gf args).run P w = .ok (.enter gf args) w)
    {S : Nat → Prop} {outs : List (Int × Bool)} (hseq : SeqP P gf lb S outs w) (hps : ps.size = 2) (hS : ∀ k, S k → k < w.heap.size)
    (I : List (Int × Bool) → World → Prop) (Ip : List PanicEntry → World → Prop) (hI : ∀ xs W W', I xs W → Mods (fun k => w.heap.size ≤ k) W W' → I xs W')
    (h0 : I outs w) (a₁ : Int × Bool → Act)
    (hassign : ∀ (l : Nat) (x : Int × Bool) (W : World) (K : Act → World → Prop), K (a₁ x) W →
      assign.wpIn (Fence.wide.inRound l) 0 P (Exit.then K (fun _ _ _ => False)) { tmps := (ps.zip (encP x)).foldl (fun t (p, v) => t.setIfInBounds p v) a.tmps, defers := [] } W)
    (hbody : ∀ (l : Nat) (x : Int × Bool) (xs : List (Int × Bool)) (W : World), I (x :: xs) W → body.wpIn (Fence.wide.inRound l) 0 P (postP S I Ip xs W) (a₁ x) W)
    (hdone : ∀ (D : Nat) (W : World), w.heap.size ≤ D → I [] W → W.heap[D]? = some (.deferred (some [])) → Q .normal { a with defers := { target := .collected D, args := #[] } :: a.defers } W)
    (hpanic : ∀ (D : Nat) (c : List PanicEntry) (W : World), w.heap.size ≤ D → Ip c W → W.heap[D]? = some (.deferred (some [])) → Q (.panic c) { a with defers := { target := .collected D, args := #[] } :: a.defers } W) :
    wpF P f (Code.rangeFunc g ps assign body) Q a w := by
  intro b k cs hro hbf
  obtain ⟨rec, hrec⟩ : ∃ rec : LoopState → Loop, rec = fun st => { state := st, pending := none, fn := f, tmps := a.tmps, params := ps, assign, body, defers := w.heap.size } := ⟨_, rfl⟩
  obtain ⟨W1, hW1⟩ : ∃ W1, (w.alloc (.deferred (some []))).alloc (.loop (rec .ready)) = W1 := ⟨_, rfl⟩
  have hL1 : W1.heap[w.heap.size + 1]? = some (.loop (rec .ready)) := by
    rw [← hW1]; have := World.alloc_heap_new (w.alloc (.deferred (some []))) (.loop (rec .ready)); rwa [World.size_alloc] at this
  have hK1 : W1.heap[w.heap.size]? = some (.deferred (some [])) := by
    rw [← hW1]; exact (Below.heap_alloc _ _ _ (by simp)).trans (World.alloc_heap_new w _)
  have hb1 : Below w.heap.size w W1 := by rw [← hW1]; exact box2_below _ _ _
  have hI1 : I outs W1 := hI _ _ _ h0 ((Mods.of_below hb1).mono (fun _ _ h => h))
  have hrs : ∀ st, (rec st).state = st := fun st => by rw [hrec]
  have hrp : ∀ st, (rec st).pending = none := fun st => by rw [hrec]
  have hrw : ∀ st st', { rec st with state := st' } = rec st' := fun st st' => by rw [hrec]
  have hrw' : ∀ st st', { rec st with state := st', pending := none } = rec st' := fun st st' => by rw [hrec]
  have he : (Instr.enterLoop b.fn a.tmps ps assign body b.roundOf).run P w = .ok (w.heap.size + 1, [{ target := .collected w.heap.size, args := #[] }]) W1 := by
    rw [hro, hbf, ← hW1, hrec]; exact run_enterLoop_outer _ _ _ _ _
  have hres : (resolve a.eval (rangeCall g (w.heap.size + 1)) 0).run P W1 = .ok { target := .fn (.func gf) lb, args := #[.func (.yield (w.heap.size + 1)) #[] #[]] } W1 := by
    simp only [resolve, hg]
    simp [go_sem]
  have hinv : (invoke (.fn (.func gf) lb) #[.func (.yield (w.heap.size + 1)) #[] #[]]).run P W1 = .ok (.enter gf (#[.func (.yield (w.heap.size + 1)) #[] #[]] ++ lb)) W1 := by
    simp [invoke, go_sem, eg]
  have henter := stepR_rangeFunc (P := P) (b := b) (a := a) (k := k) (cs := cs) (w := w) he hres hinv
  have hcall := hseq (w.heap.size + 1)
    (fun xs W => I xs W ∧ W.heap[w.heap.size + 1]? = some (.loop (rec .ready)) ∧ W.heap[w.heap.size]? = some (.deferred (some [])))
    (fun c W => Ip c W ∧ W.heap[w.heap.size]? = some (.deferred (some []))) W1 hb1 (by omega) (by rw [← hW1]; simp)
    (fun xs W W' hs hbe => ⟨hI _ _ _ hs.1 ⟨hbe.os, hbe.tape, hbe.output, hbe.size, fun i hi _ => hbe.block i hi⟩, (hbe.block _ (Array.getElem?_eq_some_iff.1 hs.2.1).1).trans hs.2.1, (hbe.block _ (Array.getElem?_eq_some_iff.1 hs.2.2).1).trans hs.2.2⟩)
    (by
      rintro x xs W ⟨hi, hl, hk⟩
      have hlt : w.heap.size + 1 < W.heap.size := (Array.getElem?_eq_some_iff.1 hl).1
      have hy := run_yield (P := P) (args := encP x) hl (by rw [hrec]; exact hps.symm)
      rw [hrec] at hy
      refine ⟨f, _, assign, body, hy, round_p trivial hf (hassign _ x W _ ⟨_, run_beginRound hl (hrs _), ?_⟩)⟩
      rw [hrw]
      have hl2 : (W.putObj (w.heap.size + 1) (.loop (rec .busy))).heap[w.heap.size + 1]? = some (.loop (rec .busy)) := World.putObj_heap_same hlt
      have hk2 : (W.putObj (w.heap.size + 1) (.loop (rec .busy))).heap[w.heap.size]? = some (.deferred (some [])) := (World.putObj_heap_other (by omega)).trans hk
      have hm2 : Mods (fun k => w.heap.size ≤ k) W (W.putObj (w.heap.size + 1) (.loop (rec .busy))) := Mods.putObj _ (by omega)
      have hml : Mods (fun k => S k ∨ k = w.heap.size + 1) W (W.putObj (w.heap.size + 1) (.loop (rec .busy))) := Mods.putObj _ (.inr rfl)
      refine wpIn_mono (hbody _ x xs _ (hI _ _ _ hi hm2)) ?_
      rintro e a3 W3 hp
      cases e with
      | normal =>
        obtain ⟨hm3, hi3⟩ := hp
        have hl3 := (hm3.block _ (by simpa using hlt) (fun h => by have := hS _ h; omega)).trans hl2
        have hk3 := (hm3.block w.heap.size (by simp; omega) (fun h => by have := hS _ h; omega)).trans hk2
        have hr := run_endRound (P := P) none hl3
        simp only [Option.isNone_none, if_true] at hr
        rw [hrw'] at hr
        refine ⟨_, _, hr, .inl ⟨rfl, ⟨hI _ _ _ hi3 (Mods.putObj _ (by omega)), World.putObj_heap_same (Array.getElem?_eq_some_iff.1 hl3).1, (World.putObj_heap_other (by omega)).trans hk3⟩, ?_⟩⟩
        exact (hml.trans (hm3.mono (fun _ _ h => Or.inl h)) (fun _ _ h => h)).trans (Mods.putObj (S := fun k => S k ∨ k = w.heap.size + 1) _ (.inr rfl)) (fun _ _ h => h)
      | panic c =>
        obtain ⟨hd, hm3, hi3⟩ := hp
        have hk3 := (hm3.block w.heap.size (by simp; omega) (fun h => by have := hS _ h; omega)).trans hk2
        exact ⟨hd, .inr ⟨c, rfl, hi3, hk3⟩⟩
      | ret => exact hp.elim
      | exit id => exact hp.elim
      | goto t => exact hp.elim
      | outgrown => exact hp.elim)
    ⟨hI1, hL1, hK1⟩
  obtain ⟨e, w₃, fr, hR, hsteps, hfn, hleave⟩ := hcall.2 (b.atR { a with defers := [{ target := .collected w.heap.size, args := #[] }] ++ a.defers } (.inRangeFunc (w.heap.size + 1) :: k) :: cs) (room_wide _)
  rcases hR with ⟨v, rfl, hi, hl, hk⟩ | ⟨c, rfl, hi, hk⟩
  · have hend : (Instr.endLoop (w.heap.size + 1)).run P w₃ = .ok none (w₃.putObj (w.heap.size + 1) (.loop (rec .exhausted))) := by
      have := run_endLoop (P := P) hl (by rw [hrs]; simp)
      rw [hrec] at this ⊢
      exact this
    have hlt := (Array.getElem?_eq_some_iff.1 hl).1
    refine ⟨.normal, _, w₃.putObj (w.heap.size + 1) (.loop (rec .exhausted)), hdone w.heap.size _ (Nat.le_refl _) (hI _ _ _ hi (Mods.putObj _ (by omega))) ((World.putObj_heap_other (by omega)).trans hk), ?_⟩
    refine .head (wide_calm _) henter (StepsIn.trans hsteps (.head (wide_calm _) ?_ (.one (wide_calm _) (stepR_endRangeFunc hend))))
    rw [← finish_atR_inRangeFunc (w.heap.size + 1) v]; exact step_leave_returned hleave
  · refine ⟨.panic c, _, w₃, hpanic w.heap.size c _ (Nat.le_refl _) hi hk, .inRangeFunc (w.heap.size + 1) :: k, .head (wide_calm _) henter (StepsIn.trans hsteps (.one (wide_calm _) ?_))⟩
    rw [← Frame.raise_atR]; exact step_leave_panicked hleave
end Go.Proofs.YtiiokkllmchohaaGreat
