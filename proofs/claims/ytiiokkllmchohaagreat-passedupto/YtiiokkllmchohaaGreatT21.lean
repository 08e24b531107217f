/- The code looks whether LOAD and STORE fit. -/
import Derived.Test.YtiiokkllmchohaaGreatT19
import Derived.Test.YtiiokkllmchohaaGreatT20
namespace Go.Proofs.YtiiokkllmchohaaGreat
open Go.RowKit
attribute [local go_sem ↓] Go.wp_at_zero Go.wp_at_succ
attribute [local go_sem] frz_drew
theorem wp_load_blk {P : Program} {ty : TypeId} {n : Nat} (h : AggOk P ty n) {w : World} {g : Nat} {t : TypeId} {cur : List Value} (hB : Blk w g t cur) (off : Nat) (vs : List Value) (hl : vs.length = n) (hv : ∀ j v, vs[j]? = some v → cur[off + j]? = some v)
  {o : Oper} {a : Act} {K : Act → World → Prop} {Q : Exit → Act → World → Prop} (x : Operand) (ho : o.op = .load ty x) (hx : a.eval x = .pointer (some ⟨g, off, none⟩)) (hK : K (a.put o.dst (.agg vs.toArray)) w) : o.wp P a w K Q := by
 unfold Oper.wp
 rw [exec_load_blk h hB off vs hl hv ho hx]
 exact hK
theorem DoR.ok {p : List LClass} {m : LMeth} {i : LIns} {s s1 : TSt} {w0 w w' : World} {bl : Nat} {vc : Value} {pre : List Value} (h : doS p m i s = some s1) (hl : LkC w0 w' bl p vc m pre s1) (hm : Mods (fun k => k = bl) w w') : DoR p m i s w0 w w' bl vc pre (.returned (.tuple #[])) :=
 ⟨fun s' e => by rw [h] at e; obtain rfl := Option.some.inj e; exact ⟨rfl, hl⟩, fun e => (by rw [h] at e; cases e), hm⟩
theorem DoR.no {p : List LClass} {m : LMeth} {i : LIns} {s : TSt} {w0 w w' : World} {bl : Nat} {vc : Value} {pre : List Value} (h : doS p m i s = none) (hm : Mods (fun k => k = bl) w w') : DoR p m i s w0 w w' bl vc pre (.panicked (refC 5)) :=
 ⟨fun s' e => (by rw [h] at e; cases e), fun _ => rfl, hm⟩
theorem StC.locLen {s : TSt} {cs : List Value} (h : StC s cs) : s.loc.length = 8 := h.ok.1
theorem LkAt.locLen {w : World} {bl : Nat} {pre : List Value} {s : TSt} (h : LkAt w bl pre s) : s.loc.length = 8 := by
 obtain ⟨_, _, h1, _⟩ := h
 exact h1.locLen
theorem knownS_eq {t x : Int} (h : knownS t = some x) : x = t := by
 unfold knownS at h
 split at h
 ·cases h
 ·exact (Option.some.inj h).symm

set_option maxHeartbeats 1000000 in
set_option maxRecDepth 100000 in
theorem do_1 (i : Nat) (b : Int) (p : List LClass) (vc : Value) (m : LMeth) (s : TSt) (w0 w : World) (bl : Nat) (pre : List Value) (h : LkC w0 w bl p vc m pre s) (h8 : m.stack ≤ 8) (hi : i < 8) :
  Calls Tryz.prog 156 #[.pointer (some ⟨bl, 0, none⟩), .agg #[.int .i64 1, .int .i64 (i : Int), .int .i64 b]] w fun e w' => DoR p m ⟨1, i, b⟩ s w0 w w' bl vc pre e := by
 have hbl := h.lk.lt
 have hll := h.lk.locLen
 have HT : Hid (doS p m ⟨1, i, b⟩ s = (knownS (s.loc.getD i 0)).bind fun t => leaveS m t s) := rfl
 have hty : tyOk p.length (s.loc.getD i 0) := by
  rw [List.getD_eq_getElem?_getD, List.getElem?_eq_getElem (by omega)]
  exact h.ty.1 _ (List.getElem_mem _)
 generalize ht : s.loc.getD i 0 = t at *
 have HTT := hide ht
 clear ht
 have HW := hide (h.below (box_below w (.cells #[.int .i64 1, .int .i64 (i : Int), .int .i64 b] 60)))
 have hBI := Blk.new w #[.int .i64 1, .int .i64 (i : Int), .int .i64 b] 60
 have HM := hide (bnone (S := fun k => k = bl) (box_below w (.cells #[.int .i64 1, .int .i64 (i : Int), .int .i64 b] 60)))
 go_enter Tryz.func156, Tryz.ntmps156
 go_wp2_with fail
 generalize w.alloc _ = W at *
 have r1 : W.cell? ⟨w.heap.size, 1, none⟩ = some (.int .i64 i) := hBI.cell 1
 have HBI := hide hBI
 have hne : w.heap.size ≠ bl := by omega
 obtain ⟨cs, hS, hl, hB, hg⟩ := (unhide HW).lk.state
 clear hBI h
 refine wp_region_held_drew (S := (fun w' => w'.cell? ⟨w.heap.size, 1, none⟩ = some (.int .i64 (i : Int)))) (by kernel_rfl) ?_ (fun hHeld => ?_)
 ·exact r1
 refine take_x (some 15) 0 rfl rfl ?_
 refine take_x (some 16) 1 rfl rfl ?_
 refine take_x (some 17) 2 rfl rfl ?_
 refine take_x (some 18) 3 rfl rfl ?_
 refine take_x (some 20) 5 rfl rfl ?_
 refine take_x (some 21) 6 rfl rfl ?_
 refine wpAnyH_ready (rs := [4]) (by kernel_rfl) (by simp) ?_
 refine AllReadyH.cons rfl (fun K hK => ?_) AllReadyH.nil
 refine wp_load_blk aggSt (hB.below ((Below.refl _ _).drew) hB.lt) 8 cs hl hg (.tmp 18) rfl rfl ?_
 go_simp
 refine hK.out _ _ r1 (fun hHeld => ?_)
 clear hK K
 try simp only [Act.put, List.setIfInBounds_toArray, List.set_cons_zero, List.set_cons_succ]
 refine wpAnyH_ready (rs := [7]) (by kernel_rfl) (by simp) ?_
 refine AllReadyH.cons rfl (fun K hK => ?_) AllReadyH.nil
 go_simp
 refine (st_local s cs i _ hS hi).mono ?_
 rintro e w1 ⟨rfl, hb1⟩
 have hb1' : Below W.heap.size W w1 := ⟨hb1.os, hb1.tape, hb1.output, hb1.size, hb1.block⟩
 have L1 := hide ((unhide HW).below hb1')
 have m1 : Mods (fun k => k = bl) w w1 := (unhide HM).trans (bnone hb1') (fun _ _ e => e)
 have hI1 := (unhide HBI).below hb1' (unhide HBI).lt
 rw [unhide HTT]
 go_wp2_with fail
 refine hK.out _ _ (hI1.cell 1) (fun hHeld => ?_)
 clear hK K
 try simp only [Act.put, List.setIfInBounds_toArray, List.set_cons_zero, List.set_cons_succ]
 clear hb1 hb1'
 refine wpAnyH_ready (rs := [8]) (by kernel_rfl) (by simp) ?_
 refine AllReadyH.cons rfl (fun K hK => ?_) AllReadyH.nil
 go_simp
 refine (fit_known t _).mono ?_
 rintro e w2 ⟨h1, h2, rfl⟩
 cases hr : knownS t with
 | none =>
  obtain rfl := h2 hr
  have HN : Hid (doS p m ⟨1, i, b⟩ s = none) := by show _ = _; rw [unhide HT, hr]; rfl
  clear hr h1 h2
  go_wp2_with fail
  exact ⟨rfl, DoR.no (unhide HN) m1⟩
 | some x =>
  obtain rfl := h1 x hr
  obtain rfl := knownS_eq hr
  have HN : Hid (doS p m ⟨1, i, b⟩ s = leaveS m x s) := by show _ = _; rw [unhide HT, hr]; rfl
  clear hr h1 h2
  go_wp2_with fail
  refine hK.out _ _ (hI1.cell 1) (fun hHeld => ?_)
  clear hK K
  try simp only [Act.put, List.setIfInBounds_toArray, List.set_cons_zero, List.set_cons_succ]
  refine wpAnyH_ready (rs := [9]) (by kernel_rfl) (by simp) ?_
  refine AllReadyH.cons rfl (fun K hK => ?_) AllReadyH.nil
  go_simp
  refine (lk_leave x p vc m s w0 _ bl pre (unhide L1) hty h8).mono ?_
  rintro e w3 ⟨h1, h2, m3⟩
  have M3 := hide (m1.trans m3 (fun _ _ e => e))
  cases hr : leaveS m x s with
  | none =>
   obtain rfl := h2 hr
   have HN' : Hid (doS p m ⟨1, i, b⟩ s = none) := by show _ = _; rw [unhide HN, hr]
   clear hr h1 h2
   go_wp2_with fail
   exact ⟨rfl, DoR.no (unhide HN') (unhide M3)⟩
  | some s1 =>
   obtain ⟨rfl, hL⟩ := h1 s1 hr
   have HN' : Hid (doS p m ⟨1, i, b⟩ s = some s1) := by show _ = _; rw [unhide HN, hr]
   have HL := hide hL
   have hI3 := hI1.mods m3 hne
   clear hr h1 h2 hL
   go_wp2_with fail
   refine hK.out _ _ (hI3.cell 1) (fun hHeld => ?_)
   clear hK K
   try simp only [Act.put, List.setIfInBounds_toArray, List.set_cons_zero, List.set_cons_succ]
   refine wpAnyH_done (by kernel_rfl) ?_ _
   go_wp2_with fail
   go_end0
   exact DoR.ok (unhide HN') (unhide HL) (unhide M3)
theorem setL_ty {n : Nat} {k : Int} {s : TSt} {t : Int} (i : Nat) (h : TyS n k s) (ht : tyOk n t) : TyS n k (setL s i t) := by
 refine ⟨fun x hx => ?_, h.2.1, h.2.2⟩
 rcases List.mem_or_eq_of_mem_set hx with h1 | rfl
 ·exact h.1 x h1
 ·exact ht
set_option maxHeartbeats 1000000 in
set_option maxRecDepth 100000 in
theorem do_2 (i : Nat) (b : Int) (p : List LClass) (vc : Value) (m : LMeth) (s : TSt) (w0 w : World) (bl : Nat) (pre : List Value) (h : LkC w0 w bl p vc m pre s) (hi : i < 8) :
  Calls Tryz.prog 156 #[.pointer (some ⟨bl, 0, none⟩), .agg #[.int .i64 2, .int .i64 (i : Int), .int .i64 b]] w fun e w' => DoR p m ⟨2, i, b⟩ s w0 w w' bl vc pre e := by
 have hbl := h.lk.lt
 have HT : Hid (doS p m ⟨2, i, b⟩ s = (takeS s).bind fun x => (knownS x.1).map fun t => setL x.2 i t) := rfl
 have HW := hide (h.below (box_below w (.cells #[.int .i64 2, .int .i64 (i : Int), .int .i64 b] 60)))
 have hBI := Blk.new w #[.int .i64 2, .int .i64 (i : Int), .int .i64 b] 60
 have HM := hide (bnone (S := fun k => k = bl) (box_below w (.cells #[.int .i64 2, .int .i64 (i : Int), .int .i64 b] 60)))
 go_enter Tryz.func156, Tryz.ntmps156
 go_wp2_with fail
 generalize w.alloc _ = W at *
 have r1 : W.cell? ⟨w.heap.size, 1, none⟩ = some (.int .i64 i) := hBI.cell 1
 have HBI := hide hBI
 have hne : w.heap.size ≠ bl := by omega
 clear hBI h
 refine wp_region_held_drew (S := (fun w' => w'.cell? ⟨w.heap.size, 1, none⟩ = some (.int .i64 (i : Int)))) (by kernel_rfl) ?_ (fun hHeld => ?_)
 ·exact r1
 refine take_x (some 27) 0 rfl rfl ?_
 refine take_x (some 28) 1 rfl rfl ?_
 refine take_x (some 29) 2 rfl rfl ?_
 refine take_x (some 30) 3 rfl rfl ?_
 refine take_x (some 31) 4 rfl rfl ?_
 refine take_x (some 32) 5 rfl rfl ?_
 refine wpAnyH_ready (rs := [6]) (by kernel_rfl) (by simp) ?_
 refine AllReadyH.cons rfl (fun K hK => ?_) AllReadyH.nil
 go_simp
 refine (lk_take s _ bl pre ((unhide HW).below ((Below.refl _ _).drew)).lk).mono ?_
 rintro e w1 ⟨h1, h2, m1⟩
 have m1' : Mods (fun k => k = bl) W w1 := m1.undrw
 have M1 := hide ((unhide HM).trans m1' (fun _ _ e => e))
 cases hr : takeS s with
 | none =>
  obtain rfl := h2 hr
  have HN : Hid (doS p m ⟨2, i, b⟩ s = none) := by show _ = _; rw [unhide HT, hr]; rfl
  clear hr h1 h2
  go_wp2_with fail
  exact ⟨rfl, DoR.no (unhide HN) (unhide M1)⟩
 | some y =>
  obtain ⟨t, s1⟩ := y
  obtain ⟨rfl, hl⟩ := h1 t s1 hr
  have hty := takeS_ty hr (unhide HW).ty
  have HL := hide ((unhide HW).next hl m1' hty.2)
  have Tt := hty.1
  have HN : Hid (doS p m ⟨2, i, b⟩ s = (knownS t).map fun t => setL s1 i t) := by show _ = _; rw [unhide HT, hr]; rfl
  have hI1 := (unhide HBI).mods m1' hne
  clear hr h1 h2 hl hty m1 m1'
  go_wp2_with fail
  refine hK.out _ _ (hI1.cell 1) (fun hHeld => ?_)
  clear hK K
  try simp only [Act.put, List.setIfInBounds_toArray, List.set_cons_zero, List.set_cons_succ]
  refine wpAnyH_ready (rs := [7]) (by kernel_rfl) (by simp) ?_
  refine AllReadyH.cons rfl (fun K hK => ?_) AllReadyH.nil
  go_simp
  refine (fit_known t _).mono ?_
  rintro e w2 ⟨h1, h2, rfl⟩
  cases hr : knownS t with
  | none =>
   obtain rfl := h2 hr
   have HN' : Hid (doS p m ⟨2, i, b⟩ s = none) := by show _ = _; rw [unhide HN, hr]; rfl
   clear hr h1 h2
   go_wp2_with fail
   exact ⟨rfl, DoR.no (unhide HN') (unhide M1)⟩
  | some x =>
   obtain rfl := h1 x hr
   obtain rfl := knownS_eq hr
   have HN' : Hid (doS p m ⟨2, i, b⟩ s = some (setL s1 i x)) := by show _ = _; rw [unhide HN, hr]; rfl
   clear hr h1 h2
   go_wp2_with fail
   refine hK.out _ _ (hI1.cell 1) (fun hHeld => ?_)
   clear hK K
   try simp only [Act.put, List.setIfInBounds_toArray, List.set_cons_zero, List.set_cons_succ]
   refine wpAnyH_ready (rs := [8]) (by kernel_rfl) (by simp) ?_
   refine AllReadyH.cons rfl (fun K hK => ?_) AllReadyH.nil
   go_simp
   refine (st_setlocal s1 i x _ bl pre (unhide HL).lk hi).mono ?_
   rintro e w3 ⟨rfl, hl3, m3⟩
   have M3 := hide ((unhide M1).trans m3 (fun _ _ e => e))
   have HL3 := hide ((unhide HL).next hl3 m3 (setL_ty i (unhide HL).ty Tt))
   have hI3 := hI1.mods m3 hne
   go_wp2_with fail
   refine hK.out _ _ (hI3.cell 1) (fun hHeld => ?_)
   clear hK K
   try simp only [Act.put, List.setIfInBounds_toArray, List.set_cons_zero, List.set_cons_succ]
   refine wpAnyH_done (by kernel_rfl) ?_ _
   go_wp2_with fail
   go_end0
   exact DoR.ok (unhide HN') (unhide HL3) (unhide M3)
theorem own_at {w : World} {base : Nat} {e : TypeId} {v : Value} {n : Nat} {xs : List Value} (h : w.ownsRow base e 1 v n xs) {j : Nat} (hj : j < n) : ∃ g cap, v = .slice (some ⟨g, 0, none⟩) n cap ∧ w.cell? ⟨g, j, none⟩ = xs[j]? := by
 rcases h.2 with ⟨e0, h0⟩ | ⟨g, cap', cur, e0, _, hg, _, _, _, htk⟩
 ·omega
 ·refine ⟨g, cap', e0, ?_⟩
  have hB : Blk w g e cur.toList := by unfold Blk; simpa using hg
  rw [hB.cell, ← htk, List.getElem?_take, if_pos (by omega)]
theorem fieldT_get {p : List LClass} {a : Int} {j : Nat} (hj : j < (fieldsOf p a).length) : ((fieldsOf p a).map (Value.int .i64))[j]? = some (.int .i64 (fieldT p a j)) := by
 rw [List.getElem?_map, List.getElem?_eq_getElem hj]
 unfold fieldT
 rw [Int.toNat_natCast, List.getD_eq_getElem?_getD, List.getElem?_eq_getElem hj]; rfl

set_option maxHeartbeats 1000000 in
set_option maxRecDepth 100000 in
theorem do_10 (a : Int) (j : Nat) (p : List LClass) (vc : Value) (m : LMeth) (s : TSt) (w0 w : World) (bl : Nat) (pre : List Value) (h : LkC w0 w bl p vc m pre s) (hs : SupOk p p.length) (hz : szProg p ≤ 4194304) (h8 : m.stack ≤ 8)
  (ha0 : 0 ≤ a) (ha1 : a < (p.length : Int)) (hj : j < (fieldsOf p a).length) (hft : tyOk p.length (fieldT p a j)) :
  Calls Tryz.prog 156 #[.pointer (some ⟨bl, 0, none⟩), .agg #[.int .i64 10, .int .i64 a, .int .i64 (j : Int)]] w fun e w' => DoR p m ⟨10, a, j⟩ s w0 w w' bl vc pre e := by
 have hpl : p.length ≤ 4194304 := Nat.le_trans (szProg_len p) hz
 have hbl := h.lk.lt
 have hjn : (j : Int) < ((fieldsOf p a).length : Int) := by omega
 have hj0 : (0 : Int) ≤ (j : Int) := by omega
 have HG := hide (fieldT_get hj)
 have HT0 : Hid (doS p m ⟨10, a, j⟩ s = (wantS p (a + 3) s).bind (leaveS m (fieldT p a j))) := rfl
 have HW := hide (h.below (box_below w (.cells #[.int .i64 10, .int .i64 a, .int .i64 (j : Int)] 60)))
 have hBI := Blk.new w #[.int .i64 10, .int .i64 a, .int .i64 (j : Int)] 60
 have HM := hide (bnone (S := fun k => k = bl) (box_below w (.cells #[.int .i64 10, .int .i64 a, .int .i64 (j : Int)] 60)))
 obtain ⟨va, _, _, vcap, rfl, _⟩ := h.pr
 generalize hF : fieldT p a j = ft at *
 clear hF
 go_enter Tryz.func156, Tryz.ntmps156
 go_wp2_with fail
 generalize w.alloc _ = W at *
 have HBI := hide hBI
 have r1 : W.cell? ⟨w.heap.size, 1, none⟩ = some (.int .i64 a) := hBI.cell 1
 have hne : w.heap.size ≠ bl := by omega
 clear hBI h
 refine (code_of a (by omega) (by omega) _).mono ?_
 rintro e w' ⟨rfl, rfl⟩
 go_wp2_with fail
 refine (lk_want (a + 3) p _ m s w0 _ bl pre (unhide HW) hs hpl (tyOk_cls ha0 ha1)).mono ?_
 rintro e w1 ⟨h1, h2, mm⟩
 cases hr : wantS p (a + 3) s with
 | none =>
  obtain rfl := h2 hr
  have HN : Hid (doS p m ⟨10, a, j⟩ s = none) := by show _ = _; rw [unhide HT0, hr] <;> rfl
  have HMn := hide ((unhide HM).trans mm (fun _ _ e => e))
  clear hr h1 h2
  go_wp2_with fail
  exact ⟨rfl, DoR.no (unhide HN) (unhide HMn)⟩
 | some s1 =>
  obtain ⟨rfl, hL⟩ := h1 s1 hr
  have HT1 : Hid (doS p m ⟨10, a, j⟩ s = leaveS m ft s1) := by show _ = _; rw [unhide HT0, hr] <;> rfl
  have HB1 := hide ((unhide HBI).mods mm hne)
  have q1 : w1.cell? ⟨w.heap.size, 1, none⟩ = some (.int .i64 a) := (unhide HB1).cell 1
  have q2 : w1.cell? ⟨w.heap.size, 2, none⟩ = some (.int .i64 (j : Int)) := (unhide HB1).cell 2
  have q0 : w1.cell? ⟨bl, 0, none⟩ = some (.slice va p.length vcap) := hL.cell (by omega) hL.p0
  have HL := hide hL
  have HM1 := hide ((unhide HM).trans mm (fun _ _ e => e))
  clear hr h1 h2 hL mm
  go_wp2_with fail
  refine wp_region_held_drew (S := (fun w' => w'.cell? ⟨bl, 0, none⟩ = some (.slice va p.length vcap) ∧ w'.cell? ⟨w.heap.size, 1, none⟩ = some (.int .i64 a) ∧ w'.cell? ⟨w.heap.size, 2, none⟩ = some (.int .i64 (j : Int)))) (by kernel_rfl) ?_ (fun hHeld => ?_)
  ·exact (And.intro q0 (And.intro q1 q2))
  refine take_x (some 66) 0 rfl rfl ?_
  refine take_x (some 67) 1 rfl rfl ?_
  refine take_x (some 68) 2 rfl rfl ?_
  refine take_x (some 69) 3 rfl rfl ?_
  refine take_x (some 70) 4 rfl rfl ?_
  refine take_x (some 71) 5 rfl rfl ?_
  refine take_x (some 72) 6 rfl rfl ?_
  refine take_x (some 74) 8 rfl rfl ?_
  refine take_x (some 75) 9 rfl rfl ?_
  refine wpAnyH_ready (rs := [7]) (by kernel_rfl) (by simp) ?_
  refine AllReadyH.cons rfl (fun K hK => ?_) AllReadyH.nil
  go_simp
  refine (code_fields p hs hz (a + 1).toNat a _ _ (prog_keep (Keeps.of_below ((Below.refl _ _).drew)) (unhide HL).rp) (by omega) ha1 (Nat.le_refl _)).mono ?_
  rintro e w2 ⟨v', rfl, hown, hb2⟩
  have hb2' : Below w1.heap.size w1 w2 := ⟨hb2.os, hb2.tape, hb2.output, hb2.size, hb2.block⟩
  obtain ⟨g, fcap, rfl, hc⟩ := own_at hown hj
  rw [unhide HG] at hc
  have k2 := Keeps.of_below hb2'
  have HL2 := hide ((unhide HL).below hb2')
  have HM2 := hide ((unhide HM1).trans (bnone (S := fun k => k = bl) hb2') (fun _ _ e => e))
  have hB2 := (unhide HB1).below hb2' (unhide HB1).lt
  have hall := And.intro (k2 _ _ q0) (And.intro (k2 _ _ q1) (k2 _ _ q2))
  clear hown hb2 hb2' k2
  go_wp2_with fail
  refine hK.out _ _ hall (fun hHeld => ?_)
  clear hK K
  try simp only [Act.put, List.setIfInBounds_toArray, List.set_cons_zero, List.set_cons_succ]
  refine take_x (some 76) 10 rfl rfl ?_
  refine wpAnyH_ready (rs := [11]) (by kernel_rfl) (by simp) ?_
  refine AllReadyH.cons rfl (fun K hK => ?_) AllReadyH.nil
  go_simp
  refine hK.out _ _ hall (fun hHeld => ?_)
  clear hK K
  try simp only [Act.put, List.setIfInBounds_toArray, List.set_cons_zero, List.set_cons_succ]
  refine wpAnyH_ready (rs := [12]) (by kernel_rfl) (by simp) ?_
  refine AllReadyH.cons rfl (fun K hK => ?_) AllReadyH.nil
  go_simp
  refine (lk_leave ft p _ m s1 w0 _ bl pre (unhide HL2) hft h8).mono ?_
  rintro e w3 ⟨h1, h2, m3⟩
  have M3 := hide ((unhide HM2).trans m3 (fun _ _ e => e))
  cases hr : leaveS m ft s1 with
  | none =>
   obtain rfl := h2 hr
   have HN' : Hid (doS p m ⟨10, a, j⟩ s = none) := by show _ = _; rw [unhide HT1, hr]
   clear hr h1 h2
   go_wp2_with fail
   exact ⟨rfl, DoR.no (unhide HN') (unhide M3)⟩
  | some s2 =>
   obtain ⟨rfl, hL3⟩ := h1 s2 hr
   have HN' : Hid (doS p m ⟨10, a, j⟩ s = some s2) := by show _ = _; rw [unhide HT1, hr]
   have HL3 := hide hL3
   have hI3 := hB2.mods m3 hne
   have z0 := hL3.cell (by omega) hL3.p0
   clear hr h1 h2 hL3
   go_wp2_with fail
   refine hK.out _ _ (And.intro z0 (And.intro (hI3.cell 1) (hI3.cell 2))) (fun hHeld => ?_)
   clear hK K
   try simp only [Act.put, List.setIfInBounds_toArray, List.set_cons_zero, List.set_cons_succ]
   refine wpAnyH_done (by kernel_rfl) ?_ _
   go_wp2_with fail
   go_end0
   exact DoR.ok (unhide HN') (unhide HL3) (unhide M3)
set_option maxHeartbeats 1000000 in
set_option maxRecDepth 100000 in
theorem do_11 (a : Int) (j : Nat) (p : List LClass) (vc : Value) (m : LMeth) (s : TSt) (w0 w : World) (bl : Nat) (pre : List Value) (h : LkC w0 w bl p vc m pre s) (hs : SupOk p p.length) (hz : szProg p ≤ 4194304)
  (ha0 : 0 ≤ a) (ha1 : a < (p.length : Int)) (hj : j < (fieldsOf p a).length) (hft : tyOk p.length (fieldT p a j)) :
  Calls Tryz.prog 156 #[.pointer (some ⟨bl, 0, none⟩), .agg #[.int .i64 11, .int .i64 a, .int .i64 (j : Int)]] w fun e w' => DoR p m ⟨11, a, j⟩ s w0 w w' bl vc pre e := by
 have hpl : p.length ≤ 4194304 := Nat.le_trans (szProg_len p) hz
 have hbl := h.lk.lt
 have hjn : (j : Int) < ((fieldsOf p a).length : Int) := by omega
 have hj0 : (0 : Int) ≤ (j : Int) := by omega
 have HG := hide (fieldT_get hj)
 have HT0 : Hid (doS p m ⟨11, a, j⟩ s = (wantS p (fieldT p a j) s).bind (wantS p (a + 3))) := rfl
 have HW := hide (h.below (box_below w (.cells #[.int .i64 11, .int .i64 a, .int .i64 (j : Int)] 60)))
 have hBI := Blk.new w #[.int .i64 11, .int .i64 a, .int .i64 (j : Int)] 60
 have HM := hide (bnone (S := fun k => k = bl) (box_below w (.cells #[.int .i64 11, .int .i64 a, .int .i64 (j : Int)] 60)))
 obtain ⟨va, _, _, vcap, rfl, _⟩ := h.pr
 generalize hF : fieldT p a j = ft at *
 clear hF
 go_enter Tryz.func156, Tryz.ntmps156
 go_wp2_with fail
 generalize w.alloc _ = W at *
 have HBI := hide hBI
 have hne : w.heap.size ≠ bl := by omega
 have q1 : W.cell? ⟨w.heap.size, 1, none⟩ = some (.int .i64 a) := hBI.cell 1
 have q2 : W.cell? ⟨w.heap.size, 2, none⟩ = some (.int .i64 (j : Int)) := hBI.cell 2
 have q0 : W.cell? ⟨bl, 0, none⟩ = some (.slice va p.length vcap) := (unhide HW).cell (by omega) (unhide HW).p0
 clear hBI h
 refine wp_region_held_drew (S := (fun w' => w'.cell? ⟨bl, 0, none⟩ = some (.slice va p.length vcap) ∧ w'.cell? ⟨w.heap.size, 1, none⟩ = some (.int .i64 a) ∧ w'.cell? ⟨w.heap.size, 2, none⟩ = some (.int .i64 (j : Int)))) (by kernel_rfl) ?_ (fun hHeld => ?_)
 ·exact (And.intro q0 (And.intro q1 q2))
 refine take_x (some 81) 0 rfl rfl ?_
 refine take_x (some 82) 1 rfl rfl ?_
 refine take_x (some 83) 2 rfl rfl ?_
 refine take_x (some 84) 3 rfl rfl ?_
 refine take_x (some 85) 4 rfl rfl ?_
 refine take_x (some 86) 5 rfl rfl ?_
 refine take_x (some 87) 6 rfl rfl ?_
 refine take_x (some 89) 8 rfl rfl ?_
 refine take_x (some 90) 9 rfl rfl ?_
 refine wpAnyH_ready (rs := [7]) (by kernel_rfl) (by simp) ?_
 refine AllReadyH.cons rfl (fun K hK => ?_) AllReadyH.nil
 go_simp
 refine (code_fields p hs hz (a + 1).toNat a _ _ (prog_keep (Keeps.of_below ((Below.refl _ _).drew)) (unhide HW).rp) (by omega) ha1 (Nat.le_refl _)).mono ?_
 rintro e w2 ⟨v', rfl, hown, hb2⟩
 have hb2' : Below W.heap.size W w2 := ⟨hb2.os, hb2.tape, hb2.output, hb2.size, hb2.block⟩
 obtain ⟨g, fcap, rfl, hc⟩ := own_at hown hj
 rw [unhide HG] at hc
 have k2 := Keeps.of_below hb2'
 have HL2 := hide ((unhide HW).below hb2')
 have HM2 := hide ((unhide HM).trans (bnone (S := fun k => k = bl) hb2') (fun _ _ e => e))
 have hB2 := (unhide HBI).below hb2' (unhide HBI).lt
 have hall := And.intro (k2 _ _ q0) (And.intro (k2 _ _ q1) (k2 _ _ q2))
 clear hown hb2 hb2' k2
 go_wp2_with fail
 refine hK.out _ _ hall (fun hHeld => ?_)
 clear hK K
 try simp only [Act.put, List.setIfInBounds_toArray, List.set_cons_zero, List.set_cons_succ]
 refine take_x (some 91) 10 rfl rfl ?_
 refine wpAnyH_ready (rs := [11]) (by kernel_rfl) (by simp) ?_
 refine AllReadyH.cons rfl (fun K hK => ?_) AllReadyH.nil
 go_simp
 refine hK.out _ _ hall (fun hHeld => ?_)
 clear hK K
 try simp only [Act.put, List.setIfInBounds_toArray, List.set_cons_zero, List.set_cons_succ]
 refine wpAnyH_ready (rs := [12]) (by kernel_rfl) (by simp) ?_
 refine AllReadyH.cons rfl (fun K hK => ?_) AllReadyH.nil
 go_simp
 refine (lk_want ft p _ m s w0 _ bl pre (unhide HL2) hs hpl hft).mono ?_
 rintro e w3 ⟨h1, h2, m3⟩
 have M3 := hide ((unhide HM2).trans m3 (fun _ _ e => e))
 cases hr : wantS p ft s with
 | none =>
  obtain rfl := h2 hr
  have HN' : Hid (doS p m ⟨11, a, j⟩ s = none) := by show _ = _; rw [unhide HT0, hr] <;> rfl
  clear hr h1 h2
  go_wp2_with fail
  exact ⟨rfl, DoR.no (unhide HN') (unhide M3)⟩
 | some s2 =>
  obtain ⟨rfl, hL3⟩ := h1 s2 hr
  have HT1 : Hid (doS p m ⟨11, a, j⟩ s = wantS p (a + 3) s2) := by show _ = _; rw [unhide HT0, hr] <;> rfl
  have HL3 := hide hL3
  have hI3 := hB2.mods m3 hne
  have z0 := hL3.cell (by omega) hL3.p0
  have z1 : w3.cell? ⟨w.heap.size, 1, none⟩ = some (.int .i64 a) := hI3.cell 1
  clear hr h1 h2 hL3
  go_wp2_with fail
  refine hK.out _ _ (And.intro z0 (And.intro z1 (hI3.cell 2))) (fun hHeld => ?_)
  clear hK K
  try simp only [Act.put, List.setIfInBounds_toArray, List.set_cons_zero, List.set_cons_succ]
  refine wpAnyH_done (by kernel_rfl) ?_ _
  go_wp2_with fail
  refine (code_of a (by omega) (by omega) _).mono ?_
  rintro e w' ⟨rfl, rfl⟩
  go_wp2_with fail
  refine (lk_want (a + 3) p _ m s2 w0 _ bl pre (unhide HL3) hs hpl (tyOk_cls ha0 ha1)).mono ?_
  rintro e w4 ⟨h1, h2, m4⟩
  have M4 := hide ((unhide M3).trans m4 (fun _ _ e => e))
  cases hr : wantS p (a + 3) s2 with
  | none =>
   obtain rfl := h2 hr
   have HN' : Hid (doS p m ⟨11, a, j⟩ s = none) := by show _ = _; rw [unhide HT1, hr]
   clear hr h1 h2
   go_wp2_with fail
   exact ⟨rfl, DoR.no (unhide HN') (unhide M4)⟩
  | some s3 =>
   obtain ⟨rfl, hL4⟩ := h1 s3 hr
   have HN' : Hid (doS p m ⟨11, a, j⟩ s = some s3) := by show _ = _; rw [unhide HT1, hr]
   have HL4 := hide hL4
   clear hr h1 h2 hL4
   go_wp2_with fail
   go_end0
   exact DoR.ok (unhide HN') (unhide HL4) (unhide M4)
set_option maxHeartbeats 1000000 in
set_option maxRecDepth 100000 in
theorem do_7 (a b : Int) (p : List LClass) (vc : Value) (m : LMeth) (s : TSt) (w0 w : World) (bl : Nat) (pre : List Value) (h : LkC w0 w bl p vc m pre s) :
  Calls Tryz.prog 156 #[.pointer (some ⟨bl, 0, none⟩), .agg #[.int .i64 7, .int .i64 a, .int .i64 b]] w fun e w' => DoR p m ⟨7, a, b⟩ s w0 w w' bl vc pre e := by
 have HT : Hid (doS p m ⟨7, a, b⟩ s = some s) := rfl
 have HW := hide (h.below (box_below w (.cells #[.int .i64 7, .int .i64 a, .int .i64 b] 60)))
 have HM := hide (bnone (S := fun k => k = bl) (box_below w (.cells #[.int .i64 7, .int .i64 a, .int .i64 b] 60)))
 clear h
 go_enter Tryz.func156, Tryz.ntmps156
 go_wp2_with fail
 go_end0
 exact DoR.ok (unhide HT) (unhide HW) (unhide HM)

structure Good (p : List LClass) : Prop where
 sup : SupOk p p.length
 sz : szProg p ≤ 4194304
 fld : ∀ (a : Int) (j : Nat), 0 ≤ a → a < (p.length : Int) → j < (fieldsOf p a).length → tyOk p.length (fieldT p a j)
 arg : ∀ (a b : Int), 0 ≤ a → a < (p.length : Int) → (methOf p a b).isSome = true → (∀ x ∈ (findM p a b).args, tyOk p.length x) ∧ tyOk p.length (findM p a b).ret
structure MOk (p : List LClass) (m : LMeth) : Prop where
 stk : m.stack ≤ 8
 loc : m.locals ≤ 8
 ret : tyOk p.length m.ret

set_option maxHeartbeats 1000000 in
theorem lk_do (i : LIns) (p : List LClass) (vc : Value) (m : LMeth) (s : TSt) (w0 w : World) (bl : Nat) (pre : List Value) (h : LkC w0 w bl p vc m pre s) (G : Good p) (M : MOk p m) (hi : insB p m i = true) :
  Calls Tryz.prog 156 #[.pointer (some ⟨bl, 0, none⟩), .agg #[.int .i64 i.op, .int .i64 i.a, .int .i64 i.b]] w fun e w' => DoR p m i s w0 w w' bl vc pre e := by
 obtain ⟨op, a, b⟩ := i
 have hs := G.sup
 have hz := G.sz
 have h8 := M.stk
 have hl8 := M.loc
 have hop : 0 ≤ op ∧ op ≤ 20 := by
  unfold insB at hi
  dsimp only at hi
  repeat' split at hi
  all_goals first | omega | (simp only [Bool.and_eq_true, placeB_iff] at hi; omega)
 have hcls : (op = 9 ∨ op = 17 ∨ op = 10 ∨ op = 11 ∨ op = 12) → 0 ≤ a ∧ a < (p.length : Int) := by
  intro ho
  unfold insB at hi
  dsimp only at hi
  rcases ho with rfl | rfl | rfl | rfl | rfl <;> simp [placeB_iff] at hi <;> exact hi.1
 have hloc : (op = 1 ∨ op = 2) → 0 ≤ a ∧ a < m.locals := by
  intro ho
  unfold insB at hi
  dsimp only at hi
  rcases ho with rfl | rfl <;> simp [placeB_iff] at hi <;> exact hi.1
 have hfld : (op = 10 ∨ op = 11) → 0 ≤ b ∧ b < ((fieldsOf p a).length : Int) := by
  intro ho
  unfold insB at hi
  dsimp only at hi
  rcases ho with rfl | rfl <;> simp [placeB_iff] at hi <;> exact hi.2
 have hcall : op = 12 → (methOf p a b).isSome = true := by
  rintro rfl
  unfold insB at hi
  dsimp only at hi
  simp [placeB_iff] at hi
  exact hi.2
 clear hi
 obtain rfl | rfl | rfl | rfl | rfl | rfl | rfl | rfl | rfl | rfl | rfl | rfl | rfl | rfl | rfl | rfl | rfl | rfl | rfl | rfl | rfl : op = 0 ∨ op = 1 ∨ op = 2 ∨ op = 3 ∨ op = 4 ∨ op = 5 ∨ op = 6 ∨ op = 7 ∨ op = 8 ∨ op = 9 ∨ op = 10 ∨ op = 11 ∨ op = 12 ∨ op = 13 ∨ op = 14 ∨ op = 15 ∨ op = 16 ∨ op = 17 ∨ op = 18 ∨ op = 19 ∨ op = 20 := by omega
 ·exact do_0 a b p vc m s w0 w bl pre h hs hz h8
 ·obtain ⟨h0, h1⟩ := hloc (by omega)
  obtain ⟨k, rfl⟩ := Int.eq_ofNat_of_zero_le h0
  exact do_1 k b p vc m s w0 w bl pre h h8 (by omega)
 ·obtain ⟨h0, h1⟩ := hloc (by omega)
  obtain ⟨k, rfl⟩ := Int.eq_ofNat_of_zero_le h0
  exact do_2 k b p vc m s w0 w bl pre h (by omega)
 ·exact do_3 a b p vc m s w0 w bl pre h hs hz h8
 ·exact do_4 a b p vc m s w0 w bl pre h hs hz h8
 ·exact do_5 a b p vc m s w0 w bl pre h hs hz h8
 ·exact do_6 a b p vc m s w0 w bl pre h hs hz h8
 ·exact do_7 a b p vc m s w0 w bl pre h
 ·exact do_8 a b p vc m s w0 w bl pre h hs hz h8
 ·exact do_9 a b p vc m s w0 w bl pre h hs hz h8 (hcls (by omega)).1 (hcls (by omega)).2
 ·obtain ⟨h0, h1⟩ := hfld (by omega)
  obtain ⟨k, rfl⟩ := Int.eq_ofNat_of_zero_le h0
  obtain ⟨ha0, ha1⟩ := hcls (by omega)
  exact do_10 a k p vc m s w0 w bl pre h hs hz h8 ha0 ha1 (by omega) (G.fld a k ha0 ha1 (by omega))
 ·obtain ⟨h0, h1⟩ := hfld (by omega)
  obtain ⟨k, rfl⟩ := Int.eq_ofNat_of_zero_le h0
  obtain ⟨ha0, ha1⟩ := hcls (by omega)
  exact do_11 a k p vc m s w0 w bl pre h hs hz ha0 ha1 (by omega) (G.fld a k ha0 ha1 (by omega))
 ·obtain ⟨ha0, ha1⟩ := hcls (by omega)
  exact do_12 a b p vc m s w0 w bl pre h hs hz h8 ha0 ha1 (hcall rfl) (G.arg a b ha0 ha1 (hcall rfl)).1 (G.arg a b ha0 ha1 (hcall rfl)).2
 ·exact do_13 a b p vc m s w0 w bl pre h hs hz h8 M.ret
 ·exact do_14 a b p vc m s w0 w bl pre h hs hz h8
 ·exact do_15 a b p vc m s w0 w bl pre h hs hz h8
 ·exact do_16 a b p vc m s w0 w bl pre h hs hz h8
 ·exact do_17 a b p vc m s w0 w bl pre h hs hz h8 (hcls (by omega)).1 (hcls (by omega)).2
 ·exact do_18 a b p vc m s w0 w bl pre h hs hz h8
 ·exact do_19 a b p vc m s w0 w bl pre h hs hz h8
 ·exact do_20 a b p vc m s w0 w bl pre h hs hz h8
end Go.Proofs.YtiiokkllmchohaaGreat
namespace Go.Proofs.YtiiokkllmchohaaGreat
open Go.RowKit Go.Shelf
attribute [local go_sem ↓] Go.wp_at_zero Go.wp_at_succ
attribute [local go_sem] frz_drew
attribute [local go_sem] Oper.semAt_some
theorem aggLook : AggOk Tryz.prog 222 25 := ⟨by kernel_rfl, by kernel_rfl⟩
theorem results_blk {P : Program} {fn : Func} {t : Tmp} {ty t' : TypeId} {n g : Nat} {w : World} {vs : List Value} {tmps : Array Value} (h : fn.results = #[.cell t ty]) (hA : AggOk P ty n) (hB : Blk w g t' vs) (hl : vs.length = n) (hx : tmps.getD t undef = .pointer (some ⟨g, 0, none⟩)) :
  (results fn tmps).run P w = .ok (.agg vs.toArray) w := by
 have := run_load_blk hA hB 0 vs hl (fun j v e => by simpa using e)
 have hx' : tmps[t]?.getD undef = .pointer (some ⟨g, 0, none⟩) := by rw [← hx]; simp
 simp [results, h, hx', asAddr, this]
theorem fold_two (t : Array Value) (y : Int × Bool) (i j : Tmp) : ((#[i, j]).zip (encP y)).foldl (fun t (p, v) => t.setIfInBounds p v) t = (t.setIfInBounds i (.int .i64 y.1)).setIfInBounds j (.bool y.2) := by simp [encP]
theorem marks_panic0 {P : Program} {fn : Func} {R : Ending → World → Prop} {c : List PanicEntry} {tmps : Array Value} {w : World} (hR : R (.panicked c) w) : marksPost P fn R (.panic c) { tmps := tmps, defers := [] } w := hR
theorem marks_panic1 {P : Program} {fn : Func} {R : Ending → World → Prop} {c : List PanicEntry} {tmps : Array Value} {w : World} {D : Nat} (hk : w.heap[D]? = some (.deferred (some []))) (hR : R (.panicked c) (w.putObj D (.deferred none))) :
  marksPost P fn R (.panic c) { tmps := tmps, defers := [{ target := .collected D, args := #[] }] } w := ⟨by simp, .inl ⟨D, _, rfl, run_takeDeferred hk, hR⟩⟩
theorem marks_ret1 {P : Program} {fn : Func} {R : Ending → World → Prop} {tmps : Array Value} {w : World} {D : Nat} {v : Value} (hk : w.heap[D]? = some (.deferred (some []))) (hv : (results fn tmps).run P (w.putObj D (.deferred none)) = .ok v (w.putObj D (.deferred none))) (hR : R (.returned v) (w.putObj D (.deferred none))) :
  marksPost P fn R .ret { tmps := tmps, defers := [{ target := .collected D, args := #[] }] } w := ⟨by simp, .inl ⟨D, _, rfl, run_takeDeferred hk, v, hv, hR⟩⟩
theorem below_putObj {B : Nat} {w w' : World} (h : Below B w w') {D : Nat} (hD : B ≤ D) (o : Obj) : Below B w (w'.putObj D o) := ⟨h.os, h.tape, h.output, by have := h.size; simpa using this, fun i hi => (World.putObj_heap_other (by omega)).trans (h.block i hi)⟩
theorem Blk.putObj {w : World} {g : Nat} {t : TypeId} {cs : List Value} (h : Blk w g t cs) {D : Nat} (hD : g ≠ D) (o : Obj) : Blk (w.putObj D o) g t cs := (World.putObj_heap_other hD).trans h
theorem fold_put (n : Nat) : ∀ (cs : List Value) (k : Nat) (pre tl : List Value), pre.length = n + k → tl.length = cs.length →
  List.foldl (fun (a : Array Value) (x : Value × Nat) => a.setIfInBounds (n + x.2) x.1) (pre ++ tl).toArray (cs.zipIdx k) = (pre ++ cs).toArray
 | [], k, pre, tl, _, h => by
  rw [List.eq_nil_of_length_eq_zero (by simpa using h : tl.length = 0)]; rfl
 | c :: cs, k, pre, [], _, h => by simp at h
 | c :: cs, k, pre, t :: tl, hp, h => by
  have ih := fold_put n cs (k + 1) (pre ++ [c]) tl (by simp [hp]; omega) (by simpa using h)
  rw [List.zipIdx_cons, List.foldl_cons]
  have e : (pre ++ t :: tl).toArray.setIfInBounds (n + k) c = ((pre ++ [c]) ++ tl).toArray := by
   rw [List.setIfInBounds_toArray, List.set_append_right _ _ (by omega), hp, Nat.sub_self]; simp
  rw [e, ih]; simp
theorem fold_put8 {cs : List Value} (h : cs.length = 17) (v0 v1 v2 v3 v4 v5 v6 v7 : Value) :
  List.foldl (fun (a : Array Value) (x : Value × Nat) => a.setIfInBounds (8 + x.2) x.1) ([v0, v1, v2, v3, v4, v5, v6, v7] ++ List.replicate 17 (Value.int .i64 0)).toArray cs.zipIdx = ([v0, v1, v2, v3, v4, v5, v6, v7] ++ cs).toArray :=
 fold_put 8 cs 0 _ _ rfl (by simp [h])
def NextR (p : List LClass) (m : LMeth) (pc : Nat) (s : TSt) (w w' : World) (e : Ending) : Prop :=
 (∀ s', nextS p m pc s = some s' → ∃ cs', e = .returned (.agg cs'.toArray) ∧ StC s' cs' ∧ TyS p.length m.stack s') ∧ (nextS p m pc s = none → e = .panicked (refC 5)) ∧ Below w.heap.size w w'

set_option maxHeartbeats 1000000 in
set_option maxRecDepth 100000 in
theorem fit_next (p : List LClass) (vc : Value) (m : LMeth) (va vco vf : Value) (pc : Nat) (s : TSt) (cs : List Value) (w : World) (hp : RProg w vc p) (hv : GVals w.cell? m va vco vf) (hpc : pc < m.code.length) (h40 : m.code.length ≤ 40)
  (hS : StC s cs) (hT : TyS p.length m.stack s) (G : Good p) (M : MOk p m) (hi : ∀ i ∈ m.code, insB p m i = true) :
  Calls Tryz.prog 102 #[.agg #[vc], methV m va vco vf, .int .i64 (pc : Int), .agg cs.toArray] w fun e w' => NextR p m pc s w w' e := by
 unfold methV
 have HP := hide hp
 have hcl := hS.len
 obtain ⟨hva, hvc, hvf⟩ := hv
 obtain ⟨aa, _, _, acap, rfl, _⟩ := hva
 obtain ⟨fa, _, _, fcap, rfl, _⟩ := hvf
 obtain ⟨pa, _, _, pcap, rfl, _⟩ := hp
 obtain ⟨ca, cb, off, ccap, rfl, hccap, hca, hcr⟩ := sl_open hvc
 obtain rfl := hca (ne_nil_of_lt hpc)
 have hX := hcr pc hpc
 have hiX := hi _ (List.getElem_mem hpc)
 have hIA : insAt m pc = m.code[pc] := by unfold insAt; rw [List.getElem?_eq_getElem hpc]; rfl
 generalize m.code[pc] = x at *
 obtain ⟨x0, x1, x2⟩ := hX
 clear hcr hvc
 have HM := hide M
 have HI := hide hi
 clear hi M
 refine calls_of_wpF Tryz.func102 rfl ?_
 simp only [Tryz.ntmps102, List.size_toArray, List.length_cons, List.length_nil, Nat.reduceAdd, Nat.reduceSub, Array.replicate_succ, Array.replicate_zero, List.push_toArray, List.append_toArray, List.nil_append, List.cons_append]
 refine wpF_seq_wp ?_
 go_wp2_with fail
 generalize hW : (((w.alloc _).alloc _).alloc _).alloc _ = W
 have hbel : Below w.heap.size w W := by rw [← hW]; exact (((box_below w _).alloc (by simp) _).alloc (by simp; omega) _).alloc (by simp; omega) _
 have HWS : Hid (W.heap.size = w.heap.size + 1 + 1 + 1 + 1) := by show _ = _; rw [← hW]; simp
 have B0 : Blk W w.heap.size 24 [.slice pa p.length pcap] := by rw [← hW]; exact (((Blk.new w _ _).alloc _).alloc _).alloc _
 have B1 : Blk W (w.heap.size + 1) 63 [.int .i64 m.slot, .slice aa m.args.length acap, .int .i64 m.ret, .int .i64 m.locals, .int .i64 m.stack, .slice (some ⟨cb, off, none⟩) m.code.length ccap, .slice fa m.frames.length fcap] := by
  rw [← hW]
  have := (((Blk.new (w.alloc (.cells #[.slice pa p.length pcap] 24)) #[.int .i64 m.slot, .slice aa m.args.length acap, .int .i64 m.ret, .int .i64 m.locals, .int .i64 m.stack, .slice (some ⟨cb, off, none⟩) m.code.length ccap, .slice fa m.frames.length fcap] 63))).alloc (.cells cs.toArray 130)
  rw [World.size_alloc] at this
  exact this.alloc _
 have B2 : Blk W (w.heap.size + 1 + 1) 130 cs := by
  rw [← hW]
  have := Blk.new ((w.alloc (.cells #[.slice pa p.length pcap] 24)).alloc (.cells #[.int .i64 m.slot, .slice aa m.args.length acap, .int .i64 m.ret, .int .i64 m.locals, .int .i64 m.stack, .slice (some ⟨cb, off, none⟩) m.code.length ccap, .slice fa m.frames.length fcap] 63)) cs.toArray 130
  rw [World.size_alloc, World.size_alloc] at this
  exact this.alloc _
 have B3 : Blk W (w.heap.size + 1 + 1 + 1) 130 (List.replicate 17 (.int .i64 0)) := by
  rw [← hW]
  have := Blk.new (((w.alloc (.cells #[.slice pa p.length pcap] 24)).alloc (.cells #[.int .i64 m.slot, .slice aa m.args.length acap, .int .i64 m.ret, .int .i64 m.locals, .int .i64 m.stack, .slice (some ⟨cb, off, none⟩) m.code.length ccap, .slice fa m.frames.length fcap] 63)).alloc (.cells cs.toArray 130)) (List.replicate 17 (.int .i64 0)).toArray 130
  rw [World.size_alloc, World.size_alloc, World.size_alloc] at this
  exact this
 clear hW
 have k0 : W.cell? ⟨w.heap.size, 0, none⟩ = some (.slice pa p.length pcap) := B0.cell 0
 have m0 : W.cell? ⟨w.heap.size + 1, 0, none⟩ = some (.int .i64 m.slot) := B1.cell 0
 have m1 : W.cell? ⟨w.heap.size + 1, 1, none⟩ = some (.slice aa m.args.length acap) := B1.cell 1
 have m2 : W.cell? ⟨w.heap.size + 1, 2, none⟩ = some (.int .i64 m.ret) := B1.cell 2
 have m3 : W.cell? ⟨w.heap.size + 1, 3, none⟩ = some (.int .i64 m.locals) := B1.cell 3
 have m4 : W.cell? ⟨w.heap.size + 1, 4, none⟩ = some (.int .i64 m.stack) := B1.cell 4
 have m5 : W.cell? ⟨w.heap.size + 1, 5, none⟩ = some (.slice (some ⟨cb, off, none⟩) m.code.length ccap) := B1.cell 5
 have m6 : W.cell? ⟨w.heap.size + 1, 6, none⟩ = some (.slice fa m.frames.length fcap) := B1.cell 6
 have HFold := hide (fold_put8 hcl (.slice pa p.length pcap) (.int .i64 m.slot) (.slice aa m.args.length acap) (.int .i64 m.ret) (.int .i64 m.locals) (.int .i64 m.stack) (.slice (some ⟨cb, off, none⟩) m.code.length ccap) (.slice fa m.frames.length fcap))
 have hone : ∀ v ∈ [.slice pa p.length pcap, .int .i64 m.slot, .slice aa m.args.length acap, .int .i64 m.ret, .int .i64 m.locals, .int .i64 m.stack, .slice (some ⟨cb, off, none⟩) m.code.length ccap, .slice fa m.frames.length fcap] ++ cs, v.oneCell' = true := by
  intro v hv
  rcases List.mem_append.1 hv with h | h
  ·simp only [List.mem_cons, List.not_mem_nil, or_false] at h
   rcases h with rfl | rfl | rfl | rfl | rfl | rfl | rfl | rfl <;> rfl
  ·exact hS.one v h
 have HOne := hide hone
 clear hone
 refine wpF_seq_wp ?_
 go_wp2_with (first
  | refine wpList_load_blk aggSt B2 0 cs hcl (fun j v e => by simpa using e) (.tmp 7) rfl rfl rfl ?_
  | (refine wpList_store_blk aggLook (Blk.new W _ _) 0 _ (by simp [hcl]) (by simp) (unhide HOne) (.tmp 9) (.tmp 14) rfl rfl rfl (congrArg Value.agg (unhide HFold)) ?_; intro w2 hB2 hM2 hs2))
 rw [putAt_all (by simp [hcl])] at hB2
 have hb2 : Below W.heap.size W w2 := (box_below W _).trans (hM2.below (by simp) (fun k hk e => by omega))
 have hbw : Below w.heap.size w w2 := hbel.trans (hb2.mono hbel.size)
 have HL : Hid (LkC w w2 W.heap.size p (.slice pa p.length pcap) m [.slice pa p.length pcap, .int .i64 m.slot, .slice aa m.args.length acap, .int .i64 m.ret, .int .i64 m.locals, .int .i64 m.stack, .slice (some ⟨cb, off, none⟩) m.code.length ccap, .slice fa m.frames.length fcap] s) :=
  ⟨⟨rfl, cs, hS, hB2⟩, unhide HP, hbw, hbel.size, rfl, rfl, rfl, hT⟩
 have C1 := B1.below hb2 B1.lt
 have C3 := B3.below hb2 B3.lt
 have n5 : w2.cell? ⟨w.heap.size + 1, 5, none⟩ = some (.slice (some ⟨cb, off, none⟩) m.code.length ccap) := C1.cell 5
 have y0 := Keeps.of_below hbw _ _ x0
 have y1 := Keeps.of_below hbw _ _ x1
 have y2 := Keeps.of_below hbw _ _ x2
 have hbl : W.heap.size < w2.heap.size := hB2.lt
 have e1 : w.heap.size + 1 ≠ W.heap.size := by have := unhide HWS; omega
 have e3 : w.heap.size + 1 + 1 + 1 ≠ W.heap.size := by have := unhide HWS; omega
 have pc0 : (0 : Int) ≤ (pc : Int) := by omega
 have pc1 : (pc : Int) < (m.code.length : Int) := by omega
 clear m0 m1 m2 m3 m4 m5 m6 k0 hB2 hM2 hs2 HFold HOne B0 B1 B2 B3 hb2 hS hT
 refine wpF_seq_wp ?_
 go_wp2_with fail
 refine (lk_do x p _ m s w _ _ _ (unhide HL) G (unhide HM) hiX).mono ?_
 rintro e w3 ⟨h1, h2, mm⟩
 have hb3 : Below w.heap.size w2 w3 := mm.below hbw.size (fun k hk e => by have := unhide HWS; omega)
 have hbw3 := hbw.trans hb3
 cases hr : doS p m x s with
 | none =>
  obtain rfl := h2 hr
  have HN : Hid (nextS p m pc s = none) := by show _ = _; unfold nextS; rw [hIA, hr]; rfl
  clear hr h1 h2
  go_wp2_with fail
  exact marks_panic0 ⟨fun s' e => (by rw [unhide HN] at e; cases e), fun _ => rfl, hbw3⟩
 | some s1 =>
  obtain ⟨rfl, hL3⟩ := h1 s1 hr
  have HN : Hid (nextS p m pc s = if endB m pc then none else some s1) := by show _ = _; unfold nextS; rw [hIA, hr]; rfl
  have HL3 := hide hL3
  have D1 := C1.mods mm e1
  have D3 := C3.mods mm e3
  have q5 : w3.cell? ⟨w.heap.size + 1, 5, none⟩ = some (.slice (some ⟨cb, off, none⟩) m.code.length ccap) := D1.cell 5
  clear hr h1 h2 hL3
  go_wp2_with fail
  refine wpF_seq ?_
  refine wpF_seq_wp ?_
  go_wp2_with fail
  refine (flow_onward _ _ _ _ _).mono ?_
  rintro e w4 ⟨rfl, hw4⟩
  have hb4 : Below w3.heap.size w3 w4 := by rw [hw4]; exact box2_below _ _ _
  have o1 : w4.cell? ⟨w3.heap.size, 0, none⟩ = some (.slice (some ⟨cb, off, none⟩) m.code.length ccap) := by rw [hw4]; exact box2_fst _ _ _ _ 0
  have o2 : w4.cell? ⟨w3.heap.size + 1, 0, none⟩ = some (.int .i64 (pc : Int)) := by rw [hw4]; exact box2_snd _ _ _ _ 0
  clear hw4
  have E1 := D1.below hb4 D1.lt
  have E3 := D3.below hb4 D3.lt
  have hbw4 := hbw3.trans (hb4.mono (hbw3.size))
  have z0 := Keeps.of_below hbw4 _ _ x0
  have z1 := Keeps.of_below hbw4 _ _ x1
  have z2 := Keeps.of_below hbw4 _ _ x2
  have HSeq := hide (onward_seq x pc m.code.length ccap cb off w3.heap.size (w3.heap.size + 1) (fun _ => False) w4 hpc (by omega) o1 o2 ⟨z0, z1, z2⟩ (fun h => h) (fun _ h => h.elim))
  obtain ⟨cs1, S1, L1, BL1, _⟩ := (unhide HL3).lk.state
  have F1 := BL1.below hb4 BL1.lt
  go_wp2_with fail
  refine wpF_block ?_
  refine wpF_range Tryz.func102 (gf := 158) (lb := #[.pointer (some ⟨w3.heap.size, 0, none⟩), .pointer (some ⟨w3.heap.size + 1, 0, none⟩)]) rfl (enters_of Tryz.func158 (by kernel_rfl) rfl) (unhide HSeq) rfl (fun _ h => h.elim)
   (fun xs V => (∃ dn, onwardL x pc = dn ++ xs ∧ ∀ y ∈ dn, y.1 ≠ (m.code.length : Int)) ∧ Below w.heap.size w V ∧ w4.heap.size ≤ V.heap.size ∧ Blk V (w.heap.size + 1) 63 [.int .i64 m.slot, .slice aa m.args.length acap, .int .i64 m.ret, .int .i64 m.locals, .int .i64 m.stack, .slice (some ⟨cb, off, none⟩) m.code.length ccap, .slice fa m.frames.length fcap] ∧ Blk V (w.heap.size + 1 + 1 + 1) 130 (List.replicate 17 (.int .i64 0)) ∧ Blk V W.heap.size 222 ([.slice pa p.length pcap, .int .i64 m.slot, .slice aa m.args.length acap, .int .i64 m.ret, .int .i64 m.locals, .int .i64 m.stack, .slice (some ⟨cb, off, none⟩) m.code.length ccap, .slice fa m.frames.length fcap] ++ cs1))
   (fun c V => c = refC 5 ∧ (onwardL x pc).any (fun y => y.1 == (m.code.length : Int)) = true ∧ Below w.heap.size w V) ?own ⟨⟨[], rfl, fun _ h => (by cases h)⟩, hbw4, Nat.le_refl _, E1, E3, F1⟩ ?a1 ?assign ?body ?done ?panic
  case assign =>
   intro l y V K hK
   rw [fold_two]
   simp only [List.setIfInBounds_toArray, List.set_cons_zero, List.set_cons_succ]
   gi_wp2
   exact hK
  case own =>
   rintro xs V V' ⟨hd, hb, hs, v1, v3, vl⟩ hm
   have l1 := E1.lt
   have l3 := E3.lt
   have ll := F1.lt
   exact ⟨hd, hb.trans (hm.below hb.size (fun k hk e => by have := hbw4.size; omega)), Nat.le_trans hs hm.size, v1.mods hm (by omega), v3.mods hm (by omega), vl.mods hm (by omega)⟩
  case body =>
   rintro l y xs V ⟨⟨dn, hdn, hok⟩, hVb, hVs, V1, V3, VL⟩
   have q5 : V.cell? ⟨w.heap.size + 1, 5, none⟩ = some (.slice (some ⟨cb, off, none⟩) m.code.length ccap) := V1.cell 5
   by_cases hq : y.1 = (m.code.length : Int)
   ·have hq' : (y.1 == (m.code.length : Int)) = true := by simpa using hq
    have hany : (onwardL x pc).any (fun y => y.1 == (m.code.length : Int)) = true := by rw [hdn]; simp [hq]
    have HA := hide hany
    clear hany hq
    gi_wp2_with fail
    refine ⟨trivial, rfl, ?_⟩
    refine (CallsIn.inRound l (callsIn_wide.2 (fit_giveUp _))).mono ?_
    rintro e w' ⟨rfl, rfl⟩
    gi_wp2_with fail
    exact ⟨rfl, Mods.refl _ _, rfl, unhide HA, hVb⟩
   ·have hq' : (y.1 == (m.code.length : Int)) = false := by simpa using hq
    have HI2 : Hid (∃ dn, onwardL x pc = dn ++ xs ∧ ∀ y ∈ dn, y.1 ≠ (m.code.length : Int)) := ⟨dn ++ [y], by rw [hdn]; simp, fun z hz => by
     rcases List.mem_append.1 hz with h | h
     ·exact hok z h
     ·obtain rfl := List.mem_singleton.1 h
      exact hq⟩
    clear hq hok hdn
    gi_wp2_with fail
    exact ⟨Mods.refl _ _, unhide HI2, hVb, hVs, V1, V3, VL⟩
  case done =>
   rintro D V hD ⟨⟨dn, hdn, hok⟩, hVb, hVs, V1, V3, VL⟩ hK
   have hend : endB m pc = false := by
    unfold endB
    rw [hIA, hdn, List.append_nil]
    cases h : dn.any (fun y => y.1 == (m.code.length : Int)) with
    | false => rfl
    | true =>
     obtain ⟨y, hy, hy'⟩ := List.any_eq_true.1 h
     exact absurd (by simpa using hy') (hok y hy)
   have HN' : Hid (nextS p m pc s = some s1) := by show _ = _; rw [unhide HN, hend]; rfl
   have l3 := E3.lt
   clear hend hdn hok HN
   simp only [Exit.inBlock, Exit.then]
   refine wpF_seq_wp ?_
   go_wp2_with (first
    | refine wpList_load_blk aggSt VL 8 cs1 L1 (fun j v e => by rw [get_pre rfl]; exact e) (.tmp 33) rfl rfl rfl ?_
    | (refine wpList_store_blk aggSt V3 0 cs1 L1 (by simp) S1.one (.tmp 8) (.tmp 34) rfl rfl rfl rfl ?_; intro w7 hB7 hM7 hs7))
   rw [putAt_all (by simp [L1])] at hB7
   have hK7 := (hM7.block D (Array.getElem?_eq_some_iff.1 hK).1 (by omega)).trans hK
   have hb7 : Below w.heap.size w w7 := hVb.trans (hM7.below hVb.size (fun k hk e => by omega))
   refine wpF_of_wp ?_
   go_wp2_with fail
   refine marks_ret1 hK7 (results_blk rfl aggSt (hB7.putObj (by omega) _) L1 rfl) ?_
   refine ⟨fun s' e => ?_, fun e => (by rw [unhide HN'] at e; cases e), below_putObj hb7 (by have := hbw4.size; omega) _⟩
   rw [unhide HN'] at e
   obtain rfl := Option.some.inj e
   exact ⟨cs1, rfl, S1, (unhide HL3).ty⟩
  case panic =>
   rintro D c V hD ⟨rfl, hany, hVb⟩ hK
   have hend : endB m pc = true := by
    unfold endB
    rw [hIA]
    exact hany
   have HN' : Hid (nextS p m pc s = none) := by show _ = _; rw [unhide HN, hend]; rfl
   simp only [Exit.inBlock, Exit.then]
   refine marks_panic1 hK ?_
   exact ⟨fun s' e => (by rw [unhide HN'] at e; cases e), fun _ => rfl, below_putObj hVb (by have := hbw4.size; omega) _⟩
end Go.Proofs.YtiiokkllmchohaaGreat
