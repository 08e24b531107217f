/- Walk of the document's answer: a method's head. -/
import Derived.Test.YtiiokkllmchohaaGreatT01
import Derived.Test.YtiiokkllmchohaaGreatT09
namespace Go.Proofs.YtiiokkllmchohaaGreat
open Go.RowKit
attribute [local go_sem ↓] Go.wp_at_zero Go.wp_at_succ
set_option maxHeartbeats 4000000 in
set_option maxRecDepth 100000 in
theorem ref_head_no (p : List LClass) (vc : Value) (c k : Nat) (x : LClass) (m : LMeth) (w : World) (hp : RProg w vc p) (hX : p[c]? = some x) (hM : x.meths[k]? = some m) (hwf : wfProg p) (hz : szProg p ≤ 4194304) (hb : bareB p.length m = false) :
  Calls Tryz.prog 93 #[.agg #[vc], .int .i64 c, .int .i64 k] w fun e w' => e = .returned (.bool (headB p x k m)) ∧ Below w.heap.size w w' := by
 obtain ⟨hi, hxe⟩ := List.getElem?_eq_some_iff.1 hX
 obtain ⟨hk, hme⟩ := List.getElem?_eq_some_iff.1 hM
 have hxm : x ∈ p := hxe ▸ List.getElem_mem hi
 have hmm : m ∈ x.meths := hme ▸ List.getElem_mem hk
 have hwx := hwf x hxm
 have hwm := hwx.2.2 m hmm
 have hpl : p.length ≤ 4194304 := Nat.le_trans (szProg_len p) hz
 have hxl : szClass x ≤ 4194304 := Nat.le_trans (szClass_le hxm) hz
 have hml : szMeth m ≤ 4194304 := Nat.le_trans (szMeth_le hmm) hxl
 have hms : x.meths.length ≤ 4194304 := Nat.le_trans (szMeths_le x) hxl
 have hal : m.args.length ≤ 4194304 := by unfold szMeth at hml; omega
 obtain ⟨a, b, off, cap, rfl, hcap, ha, hr⟩ := sl_open hp
 obtain rfl := ha (ne_nil_of_lt hi)
 obtain ⟨vf, vm, c0, c1, c2, hf, hmt⟩ := hr c hi
 rw [hxe] at c0 hf hmt
 obtain ⟨ma, mb, moff, mcap, rfl, hmcap, hma, hmr⟩ := sl_open hmt
 obtain rfl := hma (ne_nil_of_lt hk)
 obtain ⟨va, vcd, vfr, hmv, m0, m1, m2, m3, m4, m5, m6⟩ := hmr k hk
 rw [hme] at m0 m2 m3 m4 hmv
 obtain ⟨ha0, hc0, hf0⟩ := hmv
 have HA0 := hide ha0
 obtain ⟨aa, ab, aoff, acap, rfl, _, _, _⟩ := sl_open ha0
 obtain ⟨ca, cb, coff, ccap, rfl, _, _, _⟩ := sl_open hc0
 obtain ⟨fa, fb, foff, fcap, rfl, _, _, _⟩ := sl_open hf0
 clear ha0 hc0 hf0
 have hlt := cell_lt c0
 have hlt' := cell_lt m0
 have HXE := hide hxe
 have HME := hide hme
 have HX := hide hX
 have HM := hide hM
 have HMR := hide hmr
 clear hr hf hxe hme hX hM hmr
 go_enter Tryz.func93, Tryz.ntmps93
 go_wp2_with fail
 generalize hW : (w.alloc _).alloc _ = W
 have hbel : Below w.heap.size w W := by rw [← hW]; exact box2_below _ _ _
 have hbox : W.cell? ⟨w.heap.size, 0, none⟩ = some (.slice (some ⟨b, off, none⟩) p.length cap) := by rw [← hW]; exact box2_fst _ _ _ _ 0
 have l0 : W.cell? ⟨w.heap.size + 1, 0, none⟩ = some (.int .i64 m.slot) := by rw [← hW]; exact box2_snd _ _ _ _ 0
 have l1 : W.cell? ⟨w.heap.size + 1, 1, none⟩ = some (.slice aa m.args.length acap) := by rw [← hW]; exact box2_snd _ _ _ _ 1
 have l2 : W.cell? ⟨w.heap.size + 1, 2, none⟩ = some (.int .i64 m.ret) := by rw [← hW]; exact box2_snd _ _ _ _ 2
 have l3 : W.cell? ⟨w.heap.size + 1, 3, none⟩ = some (.int .i64 m.locals) := by rw [← hW]; exact box2_snd _ _ _ _ 3
 have l4 : W.cell? ⟨w.heap.size + 1, 4, none⟩ = some (.int .i64 m.stack) := by rw [← hW]; exact box2_snd _ _ _ _ 4
 clear hW
 have hkp := Keeps.of_below hbel
 have KP := hide hkp
 have d0 := hkp _ _ c0
 have d2 := hkp _ _ c2
 clear hkp c0 c1 c2 m0 m1 m2 m3 m4 m5 m6
 refine (ref_alldeclared _ _ _ _ (ints_keep (unhide KP) (unhide HA0)) hwm.2.1 hal).mono ?_
 rintro e w1 ⟨rfl, rfl⟩
 go_wp2_with fail
 refine (ref_declared _ _ _ hwm.2.2.1).mono ?_
 rintro e w2 ⟨rfl, rfl⟩
 by_cases g1 : m.slot < 0
 ·go_wp2_with fail
  go_ret
  exact ⟨ret_bool (head_no (fun h => by omega)).symm, hbel⟩
 by_cases g2 : 5 < m.slot
 ·go_wp2_with fail
  go_ret
  exact ⟨ret_bool (head_no (fun h => by omega)).symm, hbel⟩
 by_cases g3 : 3 < m.args.length
 ·go_wp2_with fail
  go_ret
  exact ⟨ret_bool (head_no (fun h => by omega)).symm, hbel⟩
 cases hA : m.args.all (declB p.length)
 ·go_wp2_with fail
  go_ret
  exact ⟨ret_bool (head_no (fun h => by rw [hA] at h; exact Bool.false_ne_true h.2.2.2.1)).symm, hbel⟩
 cases hR : declB p.length m.ret
 ·go_wp2_with fail
  go_ret
  exact ⟨ret_bool (head_no (fun h => by rw [hR] at h; exact Bool.false_ne_true h.2.2.2.2.1)).symm, hbel⟩
 by_cases g4 : m.locals < 1 + m.args.length
 ·go_wp2_with fail
  go_ret
  exact ⟨ret_bool (head_no (fun h => by omega)).symm, hbel⟩
 by_cases g5 : 8 < m.locals
 ·go_wp2_with fail
  go_ret
  exact ⟨ret_bool (head_no (fun h => by omega)).symm, hbel⟩
 by_cases g6 : m.stack < 0
 ·go_wp2_with fail
  go_ret
  exact ⟨ret_bool (head_no (fun h => by omega)).symm, hbel⟩
 by_cases g7 : 8 < m.stack
 ·go_wp2_with fail
  go_ret
  exact ⟨ret_bool (head_no (fun h => by omega)).symm, hbel⟩
 exact absurd (bareB_iff.2 ⟨by omega, by omega, by omega, hA, hR, by omega, by omega, by omega, by omega⟩) (by rw [hb]; exact Bool.false_ne_true)
def supAt (p : List LClass) (c : Nat) : Bool := match p[c]? with
 | none => true
 | some x => supB c x
theorem supAt_some {p : List LClass} {c : Nat} {x : LClass} (h : p[c]? = some x) : supAt p c = supB c x := by unfold supAt; rw [h]
theorem code_within_eq {v n : Int} {q : Bool} (h : placeB v n = q) (w : World) : Calls Tryz.prog 182 #[.int .i64 v, .int .i64 n] w fun e w' => e = .returned (.bool q) ∧ w' = w := h ▸ code_within v n w
theorem range_all_snoc {f : Nat → Bool} {c : Nat} : (List.range (c + 1)).all f = ((List.range c).all f && f c) := by
 rw [List.range_succ, List.all_append, List.all_cons, List.all_nil, Bool.and_true]
theorem range_all_false {f : Nat → Bool} {c n : Nat} (hc : c < n) (h : f c = false) : (List.range n).all f = false := by
 rw [List.all_eq_false]
 exact ⟨c, List.mem_range.2 hc, by simp [h]⟩

set_option maxHeartbeats 800000 in
theorem code_supershold (p : List LClass) (vc : Value) (w : World) (hp : RProg w vc p) (hz : szProg p ≤ 4194304) :
  Calls Tryz.prog 128 #[.agg #[vc]] w fun e w' => e = .returned (.bool ((List.range p.length).all (supAt p))) ∧ Below w.heap.size w w' := by
 have hpl : p.length ≤ 4194304 := Nat.le_trans (szProg_len p) hz
 obtain ⟨a, b, off, cap, rfl, hcap, ha, hr⟩ := sl_open hp
 have HR := hide hr
 clear hp hr
 go_enter Tryz.func128, Tryz.ntmps128
 go_wp2
 generalize hW : w.alloc _ = W
 have hbel : Below w.heap.size w W := hW ▸ box_below _ _
 clear hW
 go_loopw [8] (fun s wr => ∃ c : Nat, c ≤ p.length ∧ s = .int .i64 c ∧ (List.range c).all (supAt p) = true ∧ Below W.heap.size W wr) (fun s _ => p.length - (intOf s).toNat)
 case atStart => exact ⟨0, Nat.zero_le _, rfl, rfl, Below.refl _ _⟩
 case round =>
  obtain ⟨c, hc, rfl, hall, hbr⟩ := hrel
  have HA := hide hall
  clear hall
  have hfin : Below w.heap.size w wr := hbel.trans (hbr.mono hbel.size)
  by_cases hlt : c < p.length
  ·obtain rfl := ha (ne_nil_of_lt hlt)
   obtain ⟨vf, vm, c0, c1, c2, hf, hmm⟩ := (unhide HR c hlt).keep (Keeps.of_below hfin)
   have HX := hide (List.getElem?_eq_getElem hlt)
   generalize p[c] = x at *
   obtain ⟨fa, _, _, fcap, rfl, _⟩ := hf
   obtain ⟨ma, _, _, mcap, rfl, _⟩ := hmm
   have hltb := cell_lt c0
   have hfz := hfin.trans ((box_below wr (.cells #[.int .i64 x.sup, .slice fa x.fields.length fcap, .slice ma x.meths.length mcap] 66)).mono hfin.size)
   have hbz := hbr.trans ((box_below wr (.cells #[.int .i64 x.sup, .slice fa x.fields.length fcap, .slice ma x.meths.length mcap] 66)).mono hbr.size)
   rcases Nat.eq_zero_or_pos c with h0 | h0
   ·have hc0 : ((c : Int) == 0) = true := by subst h0; rfl
    have hc1 : ¬ (0 : Int) < (c : Int) := by omega
    have HS := hide (show supAt p c = (x.sup == -1) by rw [supAt_some (unhide HX)]; unfold supB; rw [if_pos h0])
    clear h0
    cases hb : (x.sup == -1)
    ·have hb' : (x.sup != -1) = true := by unfold bne; rw [hb]; rfl
     clear hb
     have HF := hide (show (List.range p.length).all (supAt p) = false from range_all_false hlt (by rw [unhide HS]; simpa using hb'))
     go_wp2
     go_ret
     exact ⟨ret_bool (unhide HF).symm, hfz⟩
    ·have hb' : (x.sup != -1) = false := by unfold bne; rw [hb]; rfl
     go_wp2_with fail
     exact ⟨⟨c + 1, by omega, by go_num, by rw [range_all_snoc, unhide HA, unhide HS, hb]; rfl, hbz⟩, by simp [intOf]; omega⟩
   ·have hc0 : ((c : Int) == 0) = false := by simpa using (by omega : c ≠ 0)
    have hc1 : (0 : Int) < (c : Int) := by omega
    have HS := hide (show supAt p c = placeB x.sup c by rw [supAt_some (unhide HX)]; unfold supB placeB; rw [if_neg (by omega)])
    clear h0
    cases hb : placeB x.sup c
    ·have HF := hide (show (List.range p.length).all (supAt p) = false from range_all_false hlt (by rw [unhide HS, hb]))
     go_wp2_with (go_at_call 182; refine (code_within_eq hb _).mono ?_; rintro e w' ⟨rfl, rfl⟩)
     go_ret
     exact ⟨ret_bool (unhide HF).symm, hfz⟩
    ·go_wp2_with (go_at_call 182; refine (code_within_eq hb _).mono ?_; rintro e w' ⟨rfl, rfl⟩)
     exact ⟨⟨c + 1, by omega, by go_num, by rw [range_all_snoc, unhide HA, unhide HS, hb]; rfl, hbz⟩, by simp [intOf]; omega⟩
  ·go_wp2
   go_ret
   have : c = p.length := by omega
   subst this
   exact ⟨ret_bool (unhide HA).symm, hfin⟩

theorem code_aredeclared_eq {p : List LClass} {l : List Int} {q : Bool} (h : l.all (declB p.length) = q) (vc v : Value) (w : World) (hp : RProg w vc p) (hpl : p.length ≤ 4194304) (hl : SlAt 1 (RInt w) v l) (hw : ∀ x ∈ l, I64 x) (hs : l.length ≤ 4194304) :
  Calls Tryz.prog 184 #[.agg #[vc], v] w fun e w' => e = .returned (.bool q) ∧ Below w.heap.size w w' := h ▸ code_aredeclared p vc l v w hp hpl hl hw hs
theorem bareB_no {n : Nat} {m : LMeth} (h : ¬ (0 ≤ m.slot ∧ m.slot ≤ 5 ∧ m.args.length ≤ 3 ∧ m.args.all (declB n) = true ∧ declB n m.ret = true ∧ 1 + m.args.length ≤ m.locals ∧ m.locals ≤ 8 ∧ 0 ≤ m.stack ∧ m.stack ≤ 8)) : bareB n m = false := Bool.eq_false_iff.2 (fun e => h (bareB_iff.1 e))
theorem placeB_iff {v n : Int} : placeB v n = true ↔ 0 ≤ v ∧ v < n := by unfold placeB; simp
theorem placeB_not {v n : Int} (h : placeB v n = false) : ¬ (0 ≤ v ∧ v < n) := fun e => by rw [placeB_iff.2 e] at h; cases h

set_option maxHeartbeats 4000000 in
set_option maxRecDepth 100000 in
theorem code_headholds (p : List LClass) (vc : Value) (m : LMeth) (va vcd vfr : Value) (w : World) (hp : RProg w vc p) (hm : MVals w m va vcd vfr) (hz : szProg p ≤ 4194304) (hml : szMeth m ≤ 4194304) (hwm : wfMeth m) :
  Calls Tryz.prog 185 #[.agg #[vc], methV m va vcd vfr] w fun e w' => e = .returned (.bool (bareB p.length m)) ∧ Below w.heap.size w w' := by
 have hpl : p.length ≤ 4194304 := Nat.le_trans (szProg_len p) hz
 have hal : m.args.length ≤ 4194304 := by unfold szMeth at hml; omega
 have HP := hide hp
 have HMV := hide hm
 obtain ⟨pa, _, _, pcap, rfl, _⟩ := hp
 obtain ⟨⟨aa, _, _, acap, rfl, _⟩, ⟨ca, _, _, ccap, rfl, _⟩, ⟨fa, _, _, fcap, rfl, _⟩⟩ := hm
 unfold methV
 go_enter Tryz.func185, Tryz.ntmps185
 go_wp2_with fail
 generalize hW : (w.alloc _).alloc _ = W
 have hbel : Below w.heap.size w W := by rw [← hW]; exact box2_below _ _ _
 have hbox : W.cell? ⟨w.heap.size, 0, none⟩ = some (.slice pa p.length pcap) := by rw [← hW]; exact box2_fst _ _ _ _ 0
 have l1 : W.cell? ⟨w.heap.size + 1, 1, none⟩ = some (.slice aa m.args.length acap) := by rw [← hW]; exact box2_snd _ _ _ _ 1
 have l2 : W.cell? ⟨w.heap.size + 1, 2, none⟩ = some (.int .i64 m.ret) := by rw [← hW]; exact box2_snd _ _ _ _ 2
 have l3 : W.cell? ⟨w.heap.size + 1, 3, none⟩ = some (.int .i64 m.locals) := by rw [← hW]; exact box2_snd _ _ _ _ 3
 have l4 : W.cell? ⟨w.heap.size + 1, 4, none⟩ = some (.int .i64 m.stack) := by rw [← hW]; exact box2_snd _ _ _ _ 4
 clear hW
 have hPW := prog_keep (Keeps.of_below hbel) (unhide HP)
 have hAW := ints_keep (Keeps.of_below hbel) (unhide HMV).1
 cases q1 : placeB m.slot 6
 ·refine (code_within_eq q1 _).mono ?_
  rintro e w' ⟨rfl, rfl⟩
  go_wp2_with fail
  go_ret
  exact ⟨ret_bool (bareB_no fun h => placeB_not q1 (by omega)).symm, hbel⟩
 refine (code_within_eq q1 _).mono ?_
 rintro e w' ⟨rfl, rfl⟩
 by_cases q2 : 3 < m.args.length
 ·go_wp2_with fail
  go_ret
  exact ⟨ret_bool (bareB_no fun h => by omega).symm, hbel⟩
 go_wp2_with fail
 have HPW := hide hPW
 cases q3 : m.args.all (declB p.length)
 ·refine (code_aredeclared_eq q3 _ _ _ hPW hpl hAW hwm.2.1 hal).mono ?_
  rintro e w1 ⟨rfl, hb1⟩
  go_wp2_with fail
  go_ret
  exact ⟨ret_bool (bareB_no fun h => by rw [q3] at h; exact Bool.false_ne_true h.2.2.2.1).symm, hbel.trans (hb1.mono hbel.size)⟩
 refine (code_aredeclared_eq q3 _ _ _ hPW hpl hAW hwm.2.1 hal).mono ?_
 rintro e w1 ⟨rfl, hb1⟩
 have hk1 := Keeps.of_below hb1
 replace l1 := hk1 _ _ l1
 replace l2 := hk1 _ _ l2
 replace l3 := hk1 _ _ l3
 replace l4 := hk1 _ _ l4
 replace hbox := hk1 _ _ hbox
 replace hPW := prog_keep hk1 (unhide HPW)
 have hf1 := hbel.trans (hb1.mono hbel.size)
 clear hk1 hb1 hbel hAW HPW
 go_wp2_with fail
 cases q4 : declB p.length m.ret
 ·refine (code_isdeclared_eq q4 _ _ hPW hwm.2.2.1 hpl).mono ?_
  rintro e w2 ⟨rfl, hb2⟩
  go_wp2_with fail
  go_ret
  exact ⟨ret_bool (bareB_no fun h => by rw [q4] at h; exact Bool.false_ne_true h.2.2.2.2.1).symm, hf1.trans (hb2.mono hf1.size)⟩
 refine (code_isdeclared_eq q4 _ _ hPW hwm.2.2.1 hpl).mono ?_
 rintro e w2 ⟨rfl, hb2⟩
 have hk2 := Keeps.of_below hb2
 replace l1 := hk2 _ _ l1
 replace l3 := hk2 _ _ l3
 replace l4 := hk2 _ _ l4
 have hf2 := hf1.trans (hb2.mono hf1.size)
 clear hk2 hb2 hf1 l2 hbox hPW
 by_cases q5 : (m.args.length : Int) < m.locals
 ·by_cases q6 : m.locals ≤ 8
  ·go_wp2_with fail
   cases q7 : placeB m.stack 9
   ·refine (code_within_eq q7 _).mono ?_
    rintro e w' ⟨rfl, rfl⟩
    go_wp2_with fail
    go_ret
    exact ⟨ret_bool (bareB_no fun h => placeB_not q7 (by omega)).symm, hf2⟩
   ·refine (code_within_eq q7 _).mono ?_
    rintro e w' ⟨rfl, rfl⟩
    go_wp2_with fail
    go_ret
    have r1 := placeB_iff.1 q1
    have r7 := placeB_iff.1 q7
    exact ⟨ret_bool (bareB_iff.2 ⟨by omega, by omega, by omega, q3, q4, by omega, by omega, by omega, by omega⟩).symm, hf2⟩
  ·go_wp2_with fail
   go_ret
   exact ⟨ret_bool (bareB_no fun h => by omega).symm, hf2⟩
 ·go_wp2_with fail
  go_ret
  exact ⟨ret_bool (bareB_no fun h => by omega).symm, hf2⟩
theorem frz_drew (W : World) (a : Addr) : W.drew.frozen? a = W.frozen? a := rfl
attribute [local go_sem] frz_drew
theorem tri_keep {A B : World} {a b c : Addr} {x y z : Value} (h : A.cell? a = some x ∧ A.cell? b = some y ∧ A.cell? c = some z) (k : Below A.heap.size A B) : B.cell? a = some x ∧ B.cell? b = some y ∧ B.cell? c = some z :=
 ⟨Keeps.of_below k _ _ h.1, Keeps.of_below k _ _ h.2.1, Keeps.of_below k _ _ h.2.2⟩
theorem below_call {W w1 : World} (h : Below W.drew.heap.size W.drew w1) : Below W.heap.size W w1 := (Below.refl W.heap.size W).drew.trans h
theorem below_box {W : World} (o : Obj) : Below W.heap.size W (W.alloc o).drew := (box_below W o).drew
theorem below_box' {W : World} (o : Obj) : Below W.heap.size W (W.drew.alloc o) := (Below.refl W.heap.size W).drew.alloc (Nat.le_refl _) _
theorem below_boxcall {W w1 : World} {o : Obj} (h : Below (W.alloc o).drew.heap.size (W.alloc o).drew w1) : Below W.heap.size W w1 := (below_box o).trans (h.mono (by simp))
theorem below_put7 {B : Nat} {a w : World} {b : Nat} (h : Below B a w) (hb : B ≤ b) (v0 v1 v2 v3 v4 v5 v6 : Value) :
  Below B a (((((((w.setCell ⟨b, 0, none⟩ v0).setCell ⟨b, 1, none⟩ v1).setCell ⟨b, 2, none⟩ v2).setCell ⟨b, 3, none⟩ v3).setCell ⟨b, 4, none⟩ v4).setCell ⟨b, 5, none⟩ v5).setCell ⟨b, 6, none⟩ v6) :=
 ((((((h.setCell hb v0).setCell hb v1).setCell hb v2).setCell hb v3).setCell hb v4).setCell hb v5).setCell hb v6

theorem methAt_len {p : List LClass} {ck : Nat × Nat} {o : LMeth} (h : methAt p ck = some o) (hz : szProg p ≤ 4194304) : o.args.length ≤ 4194304 := by
 unfold methAt at h
 cases hx : p[ck.1]? with
 | none => rw [hx] at h; cases h
 | some y =>
  rw [hx] at h
  have h1 := szClass_le (List.mem_of_getElem? hx)
  have h2 := szMeth_le (List.mem_of_getElem? h)
  unfold szMeth at h2
  omega
theorem blk7 {w : World} {b : Nat} {t : TypeId} {a0 a1 a2 a3 a4 a5 a6 : Value} (h : Blk w b t [a0, a1, a2, a3, a4, a5, a6]) :
  (w.cell? ⟨b, 0, none⟩ = some a0 ∧ w.cell? ⟨b, 1, none⟩ = some a1 ∧ w.cell? ⟨b, 2, none⟩ = some a2 ∧ w.cell? ⟨b, 3, none⟩ = some a3 ∧ w.cell? ⟨b, 4, none⟩ = some a4 ∧ w.cell? ⟨b, 5, none⟩ = some a5 ∧ w.cell? ⟨b, 6, none⟩ = some a6) ∧
  (w.frozen? ⟨b, 0, none⟩ = false ∧ w.frozen? ⟨b, 1, none⟩ = false ∧ w.frozen? ⟨b, 2, none⟩ = false ∧ w.frozen? ⟨b, 3, none⟩ = false ∧ w.frozen? ⟨b, 4, none⟩ = false ∧ w.frozen? ⟨b, 5, none⟩ = false ∧ w.frozen? ⟨b, 6, none⟩ = false) :=
 ⟨⟨h.cell 0, h.cell 1, h.cell 2, h.cell 3, h.cell 4, h.cell 5, h.cell 6⟩, h.frozen 0, h.frozen 1, h.frozen 2, h.frozen 3, h.frozen 4, h.frozen 5, h.frozen 6⟩
theorem blk_boxcall {W w1 : World} {cs : Array Value} {t : TypeId} (h : Below (W.alloc (.cells cs t)).drew.heap.size (W.alloc (.cells cs t)).drew w1) : Blk w1 W.heap.size t cs.toList :=
 Blk.below (w := (W.alloc (.cells cs t)).drew) (Blk.new W cs t) h (by simp)

set_option maxHeartbeats 2000000 in
set_option maxRecDepth 100000 in
theorem code_overrides (p : List LClass) (vc : Value) (c : Nat) (x : LClass) (m : LMeth) (va vcd vfr : Value) (w : World) (hp : RProg w vc p) (hs : SupOk p p.length) (hX : p[c]? = some x) (hm : MVals w m va vcd vfr) (hz : szProg p ≤ 4194304) (hml : szMeth m ≤ 4194304) :
  Calls Tryz.prog 187 #[.agg #[vc], .int .i64 c, methV m va vcd vfr] w fun e w' => e = .returned (.bool (overB p x m)) ∧ Below w.heap.size w w' := by
 have hpl : p.length ≤ 4194304 := Nat.le_trans (szProg_len p) hz
 have hal : m.args.length ≤ 4194304 := by unfold szMeth at hml; omega
 obtain ⟨hi, hxe⟩ := List.getElem?_eq_some_iff.1 hX
 have HP := hide hp
 have HMV := hide hm
 obtain ⟨pa, pb, poff, pcap, rfl, _, hpa, hpr⟩ := sl_open hp
 obtain rfl := hpa (ne_nil_of_lt hi)
 obtain ⟨⟨aa, _, _, acap, rfl, _⟩, ⟨ca, _, _, ccap, rfl, _⟩, ⟨fa, _, _, fcap, rfl, _⟩⟩ := hm
 obtain ⟨vf, vm, c0, c1, c2, hf, hmt⟩ := hpr c hi
 rw [hxe] at c0
 have hsup := supB_le (hs c x hi hX)
 have hci : (c : Int) < (p.length : Int) := by omega
 have hcz : (0 : Int) ≤ (c : Int) := by omega
 have HX := hide hX
 have hltb := cell_lt c0
 clear hX hxe hpr hf hmt c1 c2 hp
 unfold methV
 go_enter Tryz.func187, Tryz.ntmps187
 go_wp2_with fail
 generalize hW : (w.alloc _).alloc _ = W
 have hbel : Below w.heap.size w W := by rw [← hW]; exact box2_below _ _ _
 have hbox : W.cell? ⟨w.heap.size, 0, none⟩ = some (.slice (some ⟨pb, poff, none⟩) p.length pcap) := by rw [← hW]; exact box2_fst _ _ _ _ 0
 have l0 : W.cell? ⟨w.heap.size + 1, 0, none⟩ = some (.int .i64 m.slot) := by rw [← hW]; exact box2_snd _ _ _ _ 0
 have l1 : W.cell? ⟨w.heap.size + 1, 1, none⟩ = some (.slice aa m.args.length acap) := by rw [← hW]; exact box2_snd _ _ _ _ 1
 have l2 : W.cell? ⟨w.heap.size + 1, 2, none⟩ = some (.int .i64 m.ret) := by rw [← hW]; exact box2_snd _ _ _ _ 2
 clear hW
 have d0 := Keeps.of_below hbel _ _ c0
 clear c0
 have HPW := hide (prog_keep (Keeps.of_below hbel) (unhide HP))
 have HS3 := hide (And.intro hbox (And.intro d0 l0))
 go_region_held3 (fun w' => w'.cell? ⟨w.heap.size, 0, none⟩ = some (.slice (some ⟨pb, poff, none⟩) p.length pcap) ∧ w'.cell? ⟨pb, poff + c * 3, none⟩ = some (.int .i64 x.sup) ∧ w'.cell? ⟨w.heap.size + 1, 0, none⟩ = some (.int .i64 m.slot))
  (first
    | with_reducible exact tri_keep HS3.out (below_put7 (below_boxcall HB1.out) (Nat.le_refl _) _ _ _ _ _ _ _).drew.drew
    | with_reducible exact tri_keep HS3.out (below_put7 (below_boxcall HB1.out) (Nat.le_refl _) _ _ _ _ _ _ _).drew
    | with_reducible exact tri_keep HS3.out (below_put7 (below_boxcall HB1.out) (Nat.le_refl _) _ _ _ _ _ _ _)
    | with_reducible exact tri_keep HS3.out (below_call hb1)
    | with_reducible exact tri_keep HS3.out ((below_call hb1).alloc (below_call hb1).size _)
    | with_reducible exact tri_keep HS3.out (below_boxcall HB1.out)
    | with_reducible exact tri_keep HS3.out (below_put7 (below_boxcall HB1.out) (Nat.le_refl _) _ _ _ _ _ _ _)
    | with_reducible exact tri_keep HS3.out (below_box _)
    | with_reducible exact tri_keep HS3.out (below_box' _)
    | (with_reducible exact HS3.out)
    | go_keep)
  (first | ((go_at_call 109; refine (code_findmethod0 p _ p.length _ _ W _ (unhide HPW) ?_ hs (Nat.le_refl _) (by omega) (by omega) hz).mono ?_); (first | with_reducible exact (Below.refl _ _).drew | with_reducible exact below_box _ | with_reducible exact below_box' _); rintro e w1 ⟨o, oa, oc, of, oac, occ, ofc, rfl, hfm, hb1⟩; (first | (have y1 := blk_boxcall hb1; obtain ⟨⟨f0, f1, f2, f3, f4, f5, f6⟩, g0, g1, g2, g3, g4, g5, g6⟩ := blk7 y1; have Y1 := hide y1; have HB1 := hide hb1; have HFM := hide hfm; clear y1 hb1 hfm; skip) | skip)))
 ·have hbz := (below_call hb1).alloc (below_call hb1).size (.cells #[.int .i64 o.slot, .slice oa o.args.length oac, .int .i64 o.ret, .int .i64 o.locals, .int .i64 o.stack, .slice oc o.code.length occ, .slice of o.frames.length ofc] 63)
  have t1 := box_cell w1 #[.int .i64 o.slot, .slice oa o.args.length oac, .int .i64 o.ret, .int .i64 o.locals, .int .i64 o.stack, .slice oc o.code.length occ, .slice of o.frames.length ofc] 63 1
  have t2 := box_cell w1 #[.int .i64 o.slot, .slice oa o.args.length oac, .int .i64 o.ret, .int .i64 o.locals, .int .i64 o.stack, .slice oc o.code.length occ, .slice of o.frames.length ofc] 63 2
  generalize w1.alloc _ = Z at hbz t1 t2 ⊢
  generalize w1.heap.size = bI at t1 t2 ⊢
  have HFM := hide hfm
  replace t1 : Z.cell? ⟨bI, 1, none⟩ = some (.slice oa o.args.length oac) := t1
  replace t2 : Z.cell? ⟨bI, 2, none⟩ = some (.int .i64 o.ret) := t2
  clear hfm hb1
  have hzw := hbel.trans (hbz.mono hbel.size)
  have k1 := Keeps.of_below hbz _ _ l1
  have k2 := Keeps.of_below hbz _ _ l2
  have hbz2 := hide hbz
  clear l0 l1 l2 d0 hbox HS3 hbel hbz
  cases hmo : methOf p x.sup m.slot with
  | none =>
   have HO := hide (show overB p x m = true by unfold overB; rw [hmo])
   clear hmo HFM
   go_wp2_with fail
   go_ret
   exact ⟨ret_bool (unhide HO).symm, hzw⟩
  | some ck =>
   obtain ⟨hma, hmv⟩ := HFM.out ck hmo
   have HO := hide (show overB p x m = (o.args == m.args && o.ret == m.ret) by unfold overB; rw [hmo]; simp only [hma])
   have hol : o.args.length ≤ 4194304 := methAt_len hma hz
   have HK1 := hide (ints_keep (Keeps.of_below hbz2.out) hmv.1)
   have HK2 := hide (ints_keep (Keeps.of_below hzw) (unhide HMV).1)
   clear hmo HFM hma hmv
   go_wp2_with fail
   refine (code_equal _ _ _ _ _ (unhide HK1) (unhide HK2) hol hal).mono ?_
   rintro e w5 ⟨rfl, n5, rfl⟩
   cases hsa : (o.args == m.args)
   ·go_wp2_with fail
    go_ret
    exact ⟨ret_bool (by rw [unhide HO, hsa]; rfl), below_drewN hzw _⟩
   ·go_wp2_with fail
    go_ret
    exact ⟨ret_bool (by rw [unhide HO, hsa]; rfl), below_drewN hzw _⟩
 ·have hbz := below_put7 (below_boxcall HB1.out) (Nat.le_refl _) (.int .i64 o.slot) (.slice oa o.args.length oac) (.int .i64 o.ret) (.int .i64 o.locals) (.int .i64 o.stack) (.slice oc o.code.length occ) (.slice of o.frames.length ofc)
  have hB := put7_blk (unhide Y1) (.int .i64 o.slot) (.slice oa o.args.length oac) (.int .i64 o.ret) (.int .i64 o.locals) (.int .i64 o.stack) (.slice oc o.code.length occ) (.slice of o.frames.length ofc)
  unfold put7 at hB
  have t1 := hB.cell 1
  have t2 := hB.cell 2
  clear hB f0 f1 f2 f3 f4 f5 f6 g0 g1 g2 g3 g4 g5 g6 HB1 Y1
  generalize World.setCell _ _ _ = Z at hbz t1 t2 ⊢
  replace t1 : Z.cell? ⟨W.heap.size, 1, none⟩ = some (.slice oa o.args.length oac) := t1
  replace t2 : Z.cell? ⟨W.heap.size, 2, none⟩ = some (.int .i64 o.ret) := t2
  have hzw := hbel.trans (hbz.mono hbel.size)
  have k1 := Keeps.of_below hbz _ _ l1
  have k2 := Keeps.of_below hbz _ _ l2
  have hbz2 := hide hbz
  clear l0 l1 l2 d0 hbox HS3 hbel hbz
  generalize W.heap.size = bI at t1 t2 ⊢
  cases hmo : methOf p x.sup m.slot with
  | none =>
   have HO := hide (show overB p x m = true by unfold overB; rw [hmo])
   clear hmo HFM
   go_wp2_with fail
   go_ret
   exact ⟨ret_bool (unhide HO).symm, hzw⟩
  | some ck =>
   obtain ⟨hma, hmv⟩ := HFM.out ck hmo
   have HO := hide (show overB p x m = (o.args == m.args && o.ret == m.ret) by unfold overB; rw [hmo]; simp only [hma])
   have hol : o.args.length ≤ 4194304 := methAt_len hma hz
   have HK1 := hide (ints_keep (Keeps.of_below hbz2.out) hmv.1)
   have HK2 := hide (ints_keep (Keeps.of_below hzw) (unhide HMV).1)
   clear hmo HFM hma hmv
   go_wp2_with fail
   refine (code_equal _ _ _ _ _ (unhide HK1) (unhide HK2) hol hal).mono ?_
   rintro e w5 ⟨rfl, n5, rfl⟩
   cases hsa : (o.args == m.args)
   ·go_wp2_with fail
    go_ret
    exact ⟨ret_bool (by rw [unhide HO, hsa]; rfl), below_drewN hzw _⟩
   ·go_wp2_with fail
    go_ret
    exact ⟨ret_bool (by rw [unhide HO, hsa]; rfl), below_drewN hzw _⟩
theorem take_d {P : Program} {ops : Array Oper} {Q : Exit → Act → World → Prop} {md : Region.Mode} {S : World → Prop} {i : Nat} {oi : Oper} {v : Value} (d : Option Tmp) {fuel : Nat} {listed : Array Bool} {a : Act} {w : World} (hi : ops[i]? = some oi) (hd : oi.dst = d)
  (hs : Region.noSelect ops = true) (hf : Region.free md ops listed i = true) (hr : (Region.ready md ops listed).contains i = true)
  (hQ : ∀ c a w, Q (.panic c) (a.put d v) w → Q (.panic c) a w) (hy : YieldsIf P ops S oi v a) (hS : S w)
  (h : wpAnyH P md ops Q S fuel (listed.setIfInBounds i true) (a.put d v) w) : wpAnyH P md ops Q S (fuel + 1) listed a w := by
 subst hd; exact wpAnyH_take hi hs hf hr hQ hy hS h

theorem take_x {P : Program} {ops : Array Oper} {Q : Exit → Act → World → Prop} {md : Region.Mode} {S : World → Prop} {oi : Oper} {v : Value} (d : Option Tmp) (i : Nat) {fuel : Nat} {listed : Array Bool} {a a' : Act} {w : World} (hi : ops[i]? = some oi) (hd : oi.dst = d)
  (h : wpAnyH P md ops Q S fuel (listed.setIfInBounds i true) a' w)
  (hs : Region.noSelect ops = true := by kernel_rfl) (hf : Region.free md ops listed i = true := by kernel_rfl) (hr : (Region.ready md ops listed).contains i = true := by kernel_rfl)
  (hy : YieldsIf P ops S oi v a := by exact Or.inl ⟨by rfl, by intro w' hSw; (try dsimp only at hSw); go_simp; all_goals with_reducible rfl⟩)
  (ha : a.put d v = a' := by (try simp only [Act.put, List.setIfInBounds_toArray, List.set_cons_zero, List.set_cons_succ]); rfl)
  (hQ : ∀ c a w, Q (.panic c) (a.put d v) w → Q (.panic c) a w := by exact fun _ _ _ h => h) (hS : S w := by assumption) : wpAnyH P md ops Q S (fuel + 1) listed a w :=
 take_d d hi hd hs hf hr hQ hy hS (ha ▸ h)

theorem two_keep {A B : World} {a b : Addr} {x y : Value} (h : A.cell? a = some x ∧ A.cell? b = some y) (k : Below A.heap.size A B) : B.cell? a = some x ∧ B.cell? b = some y :=
 ⟨Keeps.of_below k _ _ h.1, Keeps.of_below k _ _ h.2⟩

set_option maxHeartbeats 2000000 in
set_option maxRecDepth 100000 in
theorem code_fieldshold (p : List LClass) (vc : Value) (c : Nat) (x : LClass) (w : World) (hp : RProg w vc p) (hs : SupOk p p.length) (hX : p[c]? = some x) (hwf : wfProg p) (hz : szProg p ≤ 4194304) :
  Calls Tryz.prog 129 #[.agg #[vc], .int .i64 c] w fun e w' => e = .returned (.bool (decide ((fieldsOf p c).length ≤ 8) && x.fields.all (declB p.length))) ∧ Below w.heap.size w w' := by
 have hpl : p.length ≤ 4194304 := Nat.le_trans (szProg_len p) hz
 obtain ⟨hi, hxe⟩ := List.getElem?_eq_some_iff.1 hX
 have hxm : x ∈ p := hxe ▸ List.getElem_mem hi
 have hwx := (hwf x hxm).2.1
 have hfl : x.fields.length ≤ 4194304 := Nat.le_trans (szFields_le x) (Nat.le_trans (szClass_le hxm) hz)
 have HP := hide hp
 obtain ⟨pa, pb, poff, pcap, rfl, _, hpa, hpr⟩ := sl_open hp
 obtain rfl := hpa (ne_nil_of_lt hi)
 obtain ⟨vf, vm, c0, c1, c2, hf, hmt⟩ := hpr c hi
 rw [hxe] at hf
 have HF := hide hf
 obtain ⟨fa, _, _, fcap, rfl, _⟩ := hf
 have hci : (c : Int) < (p.length : Int) := by omega
 have hcz : (0 : Int) ≤ (c : Int) := by omega
 have HX := hide hX
 have hltb := cell_lt c0
 clear hX hxe hpr hmt c0 c2 hp
 go_enter Tryz.func129, Tryz.ntmps129
 go_wp2_with fail
 generalize hW : w.alloc _ = W
 have hbel : Below w.heap.size w W := by rw [← hW]; exact box_below _ _
 have hbox : W.cell? ⟨w.heap.size, 0, none⟩ = some (.slice (some ⟨pb, poff, none⟩) p.length pcap) := by rw [← hW]; exact box_cell _ _ _ 0
 clear hW
 have d1 := Keeps.of_below hbel _ _ c1
 clear c1
 have HPW := hide (prog_keep (Keeps.of_below hbel) (unhide HP))
 have HFW := hide (ints_keep (Keeps.of_below hbel) (unhide HF))
 have HS2 := hide (And.intro hbox d1)
 by_cases h8 : (fieldsOf p c).length ≤ 8
 ·have h8' : ((fieldsOf p c).length : Int) ≤ 8 := by omega
  cases hq : x.fields.all (declB p.length)
  all_goals
   go_region_held3 (fun w' => w'.cell? ⟨w.heap.size, 0, none⟩ = some (.slice (some ⟨pb, poff, none⟩) p.length pcap) ∧ w'.cell? ⟨pb, poff + c * 3 + 1, none⟩ = some (.slice fa x.fields.length fcap))
    (first
      | with_reducible exact two_keep HS2.out (below_call (HB1.out.trans (HB2.out.mono HB1.out.size)))
      | with_reducible exact two_keep HS2.out (below_call HB1.out)
      | go_keep)
    (first | ((go_at_call 183; refine (code_countfields p _ p.length _ _ (prog_keep (Keeps.of_below ((Below.refl _ _).drew)) (unhide HPW)) hs (Nat.le_refl _) (by omega) (by omega) hz).mono ?_); rintro e w1 ⟨rfl, hb1⟩; have HB1 := hide hb1; clear hb1)
           | ((go_at_call 184; refine (code_aredeclared_eq hq _ _ _ (prog_keep (Keeps.of_below (below_call HB1.out)) (unhide HPW)) hpl (ints_keep (Keeps.of_below (below_call HB1.out)) (unhide HFW)) hwx hfl).mono ?_); rintro e w2 ⟨rfl, hb2⟩; have HB2 := hide hb2; clear hb2))
   go_wp2_with fail
   go_ret
   have hb := (below_call HB1.out).trans (HB2.out.mono (below_call HB1.out).size)
   exact ⟨ret_bool (by rw [decide_eq_true h8, hq]; rfl), hbel.trans (hb.mono hbel.size)⟩
 ·have h8' : decide (((fieldsOf p c).length : Int) ≤ 8) = false := by simp; omega
  refine wp_region_noPanic ?_
  refine wp_region_held_drew (S := (fun w' => w'.cell? ⟨w.heap.size, 0, none⟩ = some (.slice (some ⟨pb, poff, none⟩) p.length pcap) ∧ w'.cell? ⟨pb, poff + c * 3 + 1, none⟩ = some (.slice fa x.fields.length fcap))) (by kernel_rfl) ?_ (fun hHeld => ?_)
  ·exact HS2.out
  refine take_x (some 5) 0 rfl rfl ?_
  refine take_x (some 6) 1 rfl rfl ?_
  refine wpAnyH_ready (rs := [2]) (by kernel_rfl) (by simp) ?_
  refine AllReadyH.cons rfl (fun K hK => ?_) AllReadyH.nil
  go_simp
  refine (code_countfields p _ p.length _ _ (prog_keep (Keeps.of_below ((Below.refl _ _).drew)) (unhide HPW)) hs (Nat.le_refl _) (by omega) (by omega) hz).mono ?_
  rintro e w1 ⟨rfl, hb1⟩
  have HB1 := hide hb1
  clear hb1
  go_wp2_with fail
  refine hK.out _ _ (two_keep HS2.out (below_call HB1.out)) (fun hHeld => ?_)
  clear hK K
  try simp only [Act.put, List.setIfInBounds_toArray, List.set_cons_zero, List.set_cons_succ]
  refine take_d (some 8) (i := 3) (v := .bool false) rfl rfl (by kernel_rfl) (by kernel_rfl) (by kernel_rfl) (fun _ _ _ h => h) (Or.inl ⟨by rfl, fun w' hSw => by (try dsimp only at hSw); go_simp⟩) (by assumption) ?_
  try simp only [Act.put, List.setIfInBounds_toArray, List.set_cons_zero, List.set_cons_succ]
  refine take_d (some 9) (i := 4) (v := .bool false) rfl rfl (by kernel_rfl) (by kernel_rfl) (by kernel_rfl) (fun _ _ _ h => h) (Or.inl ⟨by rfl, fun w' hSw => by (try dsimp only at hSw); go_simp⟩) (by assumption) ?_
  try simp only [Act.put, List.setIfInBounds_toArray, List.set_cons_zero, List.set_cons_succ]
  refine take_d (some 10) (i := 5) (v := undef) rfl rfl (by kernel_rfl) (by kernel_rfl) (by kernel_rfl) (fun _ _ _ h => h) (Or.inr ⟨by rfl, rfl⟩) (by assumption) ?_
  try simp only [Act.put, List.setIfInBounds_toArray, List.set_cons_zero, List.set_cons_succ]
  refine take_d (some 11) (i := 6) (v := undef) rfl rfl (by kernel_rfl) (by kernel_rfl) (by kernel_rfl) (fun _ _ _ h => h) (Or.inr ⟨by rfl, rfl⟩) (by assumption) ?_
  try simp only [Act.put, List.setIfInBounds_toArray, List.set_cons_zero, List.set_cons_succ]
  refine take_d (some 12) (i := 7) (v := undef) rfl rfl (by kernel_rfl) (by kernel_rfl) (by kernel_rfl) (fun _ _ _ h => h) (Or.inr ⟨by rfl, rfl⟩) (by assumption) ?_
  try simp only [Act.put, List.setIfInBounds_toArray, List.set_cons_zero, List.set_cons_succ]
  refine take_d (some 13) (i := 8) (v := undef) rfl rfl (by kernel_rfl) (by kernel_rfl) (by kernel_rfl) (fun _ _ _ h => h) (Or.inr ⟨by rfl, rfl⟩) (by assumption) ?_
  try simp only [Act.put, List.setIfInBounds_toArray, List.set_cons_zero, List.set_cons_succ]
  refine take_d (some 14) (i := 9) (v := undef) rfl rfl (by kernel_rfl) (by kernel_rfl) (by kernel_rfl) (fun _ _ _ h => h) (Or.inr ⟨by rfl, rfl⟩) (by assumption) ?_
  try simp only [Act.put, List.setIfInBounds_toArray, List.set_cons_zero, List.set_cons_succ]
  refine take_d (some 15) (i := 10) (v := undef) rfl rfl (by kernel_rfl) (by kernel_rfl) (by kernel_rfl) (fun _ _ _ h => h) (Or.inr ⟨by rfl, rfl⟩) (by assumption) ?_
  try simp only [Act.put, List.setIfInBounds_toArray, List.set_cons_zero, List.set_cons_succ]
  refine take_d (some 16) (i := 11) (v := undef) rfl rfl (by kernel_rfl) (by kernel_rfl) (by kernel_rfl) (fun _ _ _ h => h) (Or.inr ⟨by rfl, rfl⟩) (by assumption) ?_
  try simp only [Act.put, List.setIfInBounds_toArray, List.set_cons_zero, List.set_cons_succ]
  refine take_d (some 17) (i := 12) (v := undef) rfl rfl (by kernel_rfl) (by kernel_rfl) (by kernel_rfl) (fun _ _ _ h => h) (Or.inr ⟨by rfl, rfl⟩) (by assumption) ?_
  try simp only [Act.put, List.setIfInBounds_toArray, List.set_cons_zero, List.set_cons_succ]
  refine take_d (some 18) (i := 13) (v := .bool false) rfl rfl (by kernel_rfl) (by kernel_rfl) (by kernel_rfl) (fun _ _ _ h => h) (Or.inl ⟨by rfl, fun w' hSw => by (try dsimp only at hSw); go_simp⟩) (by assumption) ?_
  try simp only [Act.put, List.setIfInBounds_toArray, List.set_cons_zero, List.set_cons_succ]
  refine take_d (some 4) (i := 14) (v := .bool false) rfl rfl (by kernel_rfl) (by kernel_rfl) (by kernel_rfl) (fun _ _ _ h => h) (Or.inl ⟨by rfl, fun w' hSw => by (try dsimp only at hSw); go_simp⟩) (by assumption) ?_
  try simp only [Act.put, List.setIfInBounds_toArray, List.set_cons_zero, List.set_cons_succ]
  refine wpAnyH_done (by kernel_rfl) ?_ _
  refine NoPanic.normal ?_
  all_goals
   go_wp2_with fail
   go_ret
   exact ⟨ret_bool (by rw [decide_eq_false h8]; rfl), hbel.trans ((below_call HB1.out).mono hbel.size)⟩
def headAt (p : List LClass) (x : LClass) (k : Nat) : Bool := match x.meths[k]? with
 | none => true
 | some m => headB p x k m
theorem headAt_some {p : List LClass} {x : LClass} {k : Nat} {m : LMeth} (h : x.meths[k]? = some m) : headAt p x k = headB p x k m := by unfold headAt; rw [h]
theorem sl_take {α : Type} {sz : Nat} {R : α → Nat → Nat → Prop} {a : Option Addr} {n cap : Nat} {l : List α} (h : SlAt sz R (.slice a n cap) l) {k : Nat} (hk : k ≤ l.length) : SlAt sz R (.slice a k cap) (l.take k) := by
 obtain ⟨a', b, off, cap', h1, h2, h3, h4⟩ := h
 injection h1 with e1 e2 e3
 subst e1 e3
 refine ⟨a, b, off, cap, by rw [List.length_take]; congr 1; omega, by rw [List.length_take]; omega, ⟨fun hne => h3.1 (fun e => hne (by rw [e]; simp)), h3.2.imp_right (fun x => x.imp_right fun y => ⟨by rw [y.1, List.take_nil], y.2⟩)⟩, fun j x hj => h4 j x ?_⟩
 rw [List.getElem?_take] at hj
 split at hj
 ·exact hj
 ·cases hj
theorem code_headholds_eq {p : List LClass} {m : LMeth} {q : Bool} (h : bareB p.length m = q) (vc va vcd vfr : Value) (w : World) (hp : RProg w vc p) (hm : MVals w m va vcd vfr) (hz : szProg p ≤ 4194304) (hml : szMeth m ≤ 4194304) (hwm : wfMeth m) :
  Calls Tryz.prog 185 #[.agg #[vc], methV m va vcd vfr] w fun e w' => e = .returned (.bool q) ∧ Below w.heap.size w w' := h ▸ code_headholds p vc m va vcd vfr w hp hm hz hml hwm
theorem code_hasslot_eq {ms : List LMeth} {slot : Int} {q : Bool} (h : (ms.all fun o => !(o.slot == slot)) = q) (vm : Value) (w : World) (hp : SlAt 7 (RMeth w) vm ms) (hz : ms.length ≤ 4194304) :
  Calls Tryz.prog 186 #[vm, .int .i64 slot] w fun e w' => e = .returned (.bool (!q)) ∧ Below w.heap.size w w' := h ▸ code_hasslot ms vm slot w hp hz
theorem code_overrides_eq {p : List LClass} {x : LClass} {m : LMeth} {q : Bool} (h : overB p x m = q) (vc : Value) (c : Nat) (va vcd vfr : Value) (w : World) (hp : RProg w vc p) (hs : SupOk p p.length) (hX : p[c]? = some x) (hm : MVals w m va vcd vfr) (hz : szProg p ≤ 4194304) (hml : szMeth m ≤ 4194304) :
  Calls Tryz.prog 187 #[.agg #[vc], .int .i64 c, methV m va vcd vfr] w fun e w' => e = .returned (.bool q) ∧ Below w.heap.size w w' := h ▸ code_overrides p vc c x m va vcd vfr w hp hs hX hm hz hml
theorem eight_keep {A B : World} {a0 a1 a2 a3 a4 a5 a6 a7 : Addr} {x0 x1 x2 x3 x4 x5 x6 x7 : Value} (h : A.cell? a0 = some x0 ∧ A.cell? a1 = some x1 ∧ A.cell? a2 = some x2 ∧ A.cell? a3 = some x3 ∧ A.cell? a4 = some x4 ∧ A.cell? a5 = some x5 ∧ A.cell? a6 = some x6 ∧ A.cell? a7 = some x7) (k : Below A.heap.size A B) :
  B.cell? a0 = some x0 ∧ B.cell? a1 = some x1 ∧ B.cell? a2 = some x2 ∧ B.cell? a3 = some x3 ∧ B.cell? a4 = some x4 ∧ B.cell? a5 = some x5 ∧ B.cell? a6 = some x6 ∧ B.cell? a7 = some x7 :=
 have K := Keeps.of_below k
 ⟨K _ _ h.1, K _ _ h.2.1, K _ _ h.2.2.1, K _ _ h.2.2.2.1, K _ _ h.2.2.2.2.1, K _ _ h.2.2.2.2.2.1, K _ _ h.2.2.2.2.2.2.1, K _ _ h.2.2.2.2.2.2.2⟩

set_option maxHeartbeats 4000000 in
set_option maxRecDepth 100000 in
theorem code_methodshold (p : List LClass) (vc : Value) (c : Nat) (x : LClass) (w : World) (hp : RProg w vc p) (hs : SupOk p p.length) (hX : p[c]? = some x) (hwf : wfProg p) (hz : szProg p ≤ 4194304) :
  Calls Tryz.prog 130 #[.agg #[vc], .int .i64 c] w fun e w' => e = .returned (.bool (decide (x.meths.length ≤ 6) && (List.range x.meths.length).all (headAt p x))) ∧ Below w.heap.size w w' := by
 have hpl : p.length ≤ 4194304 := Nat.le_trans (szProg_len p) hz
 obtain ⟨hi, hxe⟩ := List.getElem?_eq_some_iff.1 hX
 have hxm : x ∈ p := hxe ▸ List.getElem_mem hi
 have hwx := (hwf x hxm).2.2
 have hxl : szClass x ≤ 4194304 := Nat.le_trans (szClass_le hxm) hz
 have hms : x.meths.length ≤ 4194304 := Nat.le_trans (szMeths_le x) hxl
 have HP := hide hp
 obtain ⟨pa, pb, poff, pcap, rfl, _, hpa, hpr⟩ := sl_open hp
 obtain rfl := hpa (ne_nil_of_lt hi)
 obtain ⟨vf, vm, c0, c1, c2, hf, hmt⟩ := hpr c hi
 rw [hxe] at hmt
 have HMT := hide hmt
 obtain ⟨ma, mb, moff, mcap, rfl, hmcap, hma, hmr⟩ := sl_open hmt
 have HMR := hide hmr
 have hci : (c : Int) < (p.length : Int) := by omega
 have hcz : (0 : Int) ≤ (c : Int) := by omega
 have HX := hide hX
 have hltb := cell_lt c0
 clear hX hxe hpr hmt hmr c0 c1 hf hp
 go_enter Tryz.func130, Tryz.ntmps130
 by_cases h6 : x.meths.length ≤ 6
 ·have h6' : ¬ (6 : Int) < (x.meths.length : Int) := by omega
  have HDEC := hide (decide_eq_true h6)
  clear h6
  go_wp2_with fail
  generalize hW : w.alloc _ = W
  have hbel : Below w.heap.size w W := by rw [← hW]; exact box_below _ _
  have hbox : W.cell? ⟨w.heap.size, 0, none⟩ = some (.slice (some ⟨pb, poff, none⟩) p.length pcap) := by rw [← hW]; exact box_cell _ _ _ 0
  clear hW
  go_loopw [19] (fun s wr => ∃ k : Nat, k ≤ x.meths.length ∧ s = .int .i64 k ∧ (List.range k).all (headAt p x) = true ∧ Below W.heap.size W wr) (fun s _ => x.meths.length - (intOf s).toNat)
  case atStart => exact ⟨0, Nat.zero_le _, rfl, rfl, Below.refl _ _⟩
  case round =>
   obtain ⟨k, hk, rfl, hall, hbr⟩ := hrel
   have HA := hide hall
   clear hall
   have hfin : Below w.heap.size w wr := hbel.trans (hbr.mono hbel.size)
   by_cases hlt : k < x.meths.length
   ·obtain rfl := hma (ne_nil_of_lt hlt)
    obtain ⟨va, vcd, vfr, hv, m0, m1, m2, m3, m4, m5, m6⟩ := (unhide HMR k hlt).keep (Keeps.of_below hfin)
    have HV := hide hv
    obtain ⟨ala, _, _, alc, rfl, _⟩ := hv.1
    obtain ⟨cla, _, _, clc, rfl, _⟩ := hv.2.1
    obtain ⟨fla, _, _, flc, rfl, _⟩ := hv.2.2
    have HK := hide (List.getElem?_eq_getElem hlt)
    have hmm := List.getElem_mem hlt
    have hwm := hwx _ hmm
    have hml : szMeth x.meths[k] ≤ 4194304 := Nat.le_trans (szMeth_le hmm) hxl
    have hlt2 := cell_lt m0
    have e0 := Keeps.of_below hbr _ _ hbox
    clear hv hmm
    generalize x.meths[k] = m at *
    have hkm : (k : Int) ≤ (mcap : Int) := by omega
    have hkz : (0 : Int) ≤ (k : Int) := by omega
    go_wp2_with fail
    obtain ⟨wo, rfl⟩ : ∃ wo : World, wo = wr := ⟨_, rfl⟩
    generalize hZ : wo.alloc _ = Z
    have hbz : Below W.heap.size W Z := by rw [← hZ]; exact hbr.trans ((box_below _ _).mono hbr.size)
    have q1 : Z.cell? ⟨wo.heap.size, 0, none⟩ = some (.int .i64 m.slot) := by rw [← hZ]; exact box_cell _ _ _ 0
    have q2 : Z.cell? ⟨wo.heap.size, 1, none⟩ = some (.slice ala m.args.length alc) := by rw [← hZ]; exact box_cell _ _ _ 1
    have q3 : Z.cell? ⟨wo.heap.size, 2, none⟩ = some (.int .i64 m.ret) := by rw [← hZ]; exact box_cell _ _ _ 2
    have q4 : Z.cell? ⟨wo.heap.size, 3, none⟩ = some (.int .i64 m.locals) := by rw [← hZ]; exact box_cell _ _ _ 3
    have q5 : Z.cell? ⟨wo.heap.size, 4, none⟩ = some (.int .i64 m.stack) := by rw [← hZ]; exact box_cell _ _ _ 4
    have q6 : Z.cell? ⟨wo.heap.size, 5, none⟩ = some (.slice cla m.code.length clc) := by rw [← hZ]; exact box_cell _ _ _ 5
    have q7 : Z.cell? ⟨wo.heap.size, 6, none⟩ = some (.slice fla m.frames.length flc) := by rw [← hZ]; exact box_cell _ _ _ 6
    have q0 : Z.cell? ⟨w.heap.size, 0, none⟩ = some (.slice (some ⟨pb, poff, none⟩) p.length pcap) := Keeps.of_below hbz _ _ hbox
    have hkz2 : Keeps wo Z := by rw [← hZ]; exact box_keeps _ _
    clear hZ m0 m1 m2 m3 m4 m5 m6 e0 c2
    have hfz : Below w.heap.size w Z := hbel.trans (hbz.mono hbel.size)
    have HPZ := hide (prog_keep (Keeps.of_below hfz) (unhide HP))
    have HVZ := hide ((unhide HV).keep hkz2)
    have HMZ := hide (meths_keep (Keeps.of_below hfz) (unhide HMT))
    have HS8 := hide (And.intro q0 (And.intro q1 (And.intro q2 (And.intro q3 (And.intro q4 (And.intro q5 (And.intro q6 q7)))))))
    clear hkz2 HV
    cases hbare : bareB p.length m
    ·refine wp_region_noPanic ?_
     refine wp_region_held_drew (S := (fun w' => w'.cell? ⟨w.heap.size, 0, none⟩ = some (.slice (some ⟨pb, poff, none⟩) p.length pcap) ∧ w'.cell? ⟨wo.heap.size, 0, none⟩ = some (.int .i64 m.slot) ∧ w'.cell? ⟨wo.heap.size, 1, none⟩ = some (.slice ala m.args.length alc) ∧ w'.cell? ⟨wo.heap.size, 2, none⟩ = some (.int .i64 m.ret) ∧ w'.cell? ⟨wo.heap.size, 3, none⟩ = some (.int .i64 m.locals) ∧ w'.cell? ⟨wo.heap.size, 4, none⟩ = some (.int .i64 m.stack) ∧ w'.cell? ⟨wo.heap.size, 5, none⟩ = some (.slice cla m.code.length clc) ∧ w'.cell? ⟨wo.heap.size, 6, none⟩ = some (.slice fla m.frames.length flc))) (by kernel_rfl) ?_ (fun hHeld => ?_)
     ·exact HS8.out
     refine take_d (some 24) (i := 0) (v := ?_) rfl rfl (by kernel_rfl) (by kernel_rfl) (by kernel_rfl) (fun _ _ _ h => h) (Or.inl ⟨by rfl, ?_⟩) (by assumption) ?_
     rotate_left
     ·intro w' hSw
      try dsimp only at hSw
      go_simp
      all_goals with_reducible rfl
     try simp only [Act.put, List.setIfInBounds_toArray, List.set_cons_zero, List.set_cons_succ]
     refine take_d (some 25) (i := 1) (v := ?_) rfl rfl (by kernel_rfl) (by kernel_rfl) (by kernel_rfl) (fun _ _ _ h => h) (Or.inl ⟨by rfl, ?_⟩) (by assumption) ?_
     rotate_left
     ·intro w' hSw
      try dsimp only at hSw
      go_simp
      all_goals with_reducible rfl
     try simp only [Act.put, List.setIfInBounds_toArray, List.set_cons_zero, List.set_cons_succ]
     refine wpAnyH_ready (rs := [2]) (by kernel_rfl) (by simp) ?_
     refine AllReadyH.cons rfl (fun K hK => ?_) AllReadyH.nil
     go_simp
     refine (code_headholds_eq hbare _ _ _ _ _ (prog_keep (Keeps.of_below ((Below.refl _ _).drew)) (unhide HPZ)) ((unhide HVZ).keep (Keeps.of_below ((Below.refl _ _).drew))) hz hml hwm).mono ?_
     rintro e w1 ⟨rfl, hb1⟩
     have HB1 := hide (below_call hb1)
     clear hb1
     go_wp2_with fail
     refine hK.out _ _ (eight_keep HS8.out HB1.out) (fun hHeld2 => ?_)
     clear hK K hHeld
     try simp only [Act.put, List.setIfInBounds_toArray, List.set_cons_zero, List.set_cons_succ]
     refine take_d (some 27) (i := 3) (v := .bool true) rfl rfl (by kernel_rfl) (by kernel_rfl) (by kernel_rfl) (fun _ _ _ h => h) (Or.inl ⟨by rfl, fun w' hSw => by go_simp⟩) (by assumption) ?_
     try simp only [Act.put, List.setIfInBounds_toArray, List.set_cons_zero, List.set_cons_succ]
     refine take_d (some 28) (i := 4) (v := .bool true) rfl rfl (by kernel_rfl) (by kernel_rfl) (by kernel_rfl) (fun _ _ _ h => h) (Or.inl ⟨by rfl, fun w' hSw => by go_simp⟩) (by assumption) ?_
     try simp only [Act.put, List.setIfInBounds_toArray, List.set_cons_zero, List.set_cons_succ]
     refine take_d (some 29) (i := 5) (v := undef) rfl rfl (by kernel_rfl) (by kernel_rfl) (by kernel_rfl) (fun _ _ _ h => h) (Or.inr ⟨by rfl, rfl⟩) (by assumption) ?_
     try simp only [Act.put, List.setIfInBounds_toArray, List.set_cons_zero, List.set_cons_succ]
     refine take_d (some 30) (i := 6) (v := undef) rfl rfl (by kernel_rfl) (by kernel_rfl) (by kernel_rfl) (fun _ _ _ h => h) (Or.inr ⟨by rfl, rfl⟩) (by assumption) ?_
     try simp only [Act.put, List.setIfInBounds_toArray, List.set_cons_zero, List.set_cons_succ]
     refine take_d (some 31) (i := 7) (v := undef) rfl rfl (by kernel_rfl) (by kernel_rfl) (by kernel_rfl) (fun _ _ _ h => h) (Or.inr ⟨by rfl, rfl⟩) (by assumption) ?_
     try simp only [Act.put, List.setIfInBounds_toArray, List.set_cons_zero, List.set_cons_succ]
     refine take_d (some 32) (i := 8) (v := undef) rfl rfl (by kernel_rfl) (by kernel_rfl) (by kernel_rfl) (fun _ _ _ h => h) (Or.inr ⟨by rfl, rfl⟩) (by assumption) ?_
     try simp only [Act.put, List.setIfInBounds_toArray, List.set_cons_zero, List.set_cons_succ]
     refine take_d (some 33) (i := 9) (v := undef) rfl rfl (by kernel_rfl) (by kernel_rfl) (by kernel_rfl) (fun _ _ _ h => h) (Or.inr ⟨by rfl, rfl⟩) (by assumption) ?_
     try simp only [Act.put, List.setIfInBounds_toArray, List.set_cons_zero, List.set_cons_succ]
     refine take_d (some 34) (i := 10) (v := undef) rfl rfl (by kernel_rfl) (by kernel_rfl) (by kernel_rfl) (fun _ _ _ h => h) (Or.inr ⟨by rfl, rfl⟩) (by assumption) ?_
     try simp only [Act.put, List.setIfInBounds_toArray, List.set_cons_zero, List.set_cons_succ]
     refine take_d (some 35) (i := 11) (v := .bool true) rfl rfl (by kernel_rfl) (by kernel_rfl) (by kernel_rfl) (fun _ _ _ h => h) (Or.inl ⟨by rfl, fun w' hSw => by go_simp⟩) (by assumption) ?_
     try simp only [Act.put, List.setIfInBounds_toArray, List.set_cons_zero, List.set_cons_succ]
     refine take_d (some 36) (i := 12) (v := .bool true) rfl rfl (by kernel_rfl) (by kernel_rfl) (by kernel_rfl) (fun _ _ _ h => h) (Or.inl ⟨by rfl, fun w' hSw => by go_simp⟩) (by assumption) ?_
     try simp only [Act.put, List.setIfInBounds_toArray, List.set_cons_zero, List.set_cons_succ]
     refine take_d (some 37) (i := 13) (v := undef) rfl rfl (by kernel_rfl) (by kernel_rfl) (by kernel_rfl) (fun _ _ _ h => h) (Or.inr ⟨by rfl, rfl⟩) (by assumption) ?_
     try simp only [Act.put, List.setIfInBounds_toArray, List.set_cons_zero, List.set_cons_succ]
     refine take_d (some 38) (i := 14) (v := undef) rfl rfl (by kernel_rfl) (by kernel_rfl) (by kernel_rfl) (fun _ _ _ h => h) (Or.inr ⟨by rfl, rfl⟩) (by assumption) ?_
     try simp only [Act.put, List.setIfInBounds_toArray, List.set_cons_zero, List.set_cons_succ]
     refine take_d (some 39) (i := 15) (v := undef) rfl rfl (by kernel_rfl) (by kernel_rfl) (by kernel_rfl) (fun _ _ _ h => h) (Or.inr ⟨by rfl, rfl⟩) (by assumption) ?_
     try simp only [Act.put, List.setIfInBounds_toArray, List.set_cons_zero, List.set_cons_succ]
     refine take_d (some 40) (i := 16) (v := undef) rfl rfl (by kernel_rfl) (by kernel_rfl) (by kernel_rfl) (fun _ _ _ h => h) (Or.inr ⟨by rfl, rfl⟩) (by assumption) ?_
     try simp only [Act.put, List.setIfInBounds_toArray, List.set_cons_zero, List.set_cons_succ]
     refine take_d (some 41) (i := 17) (v := undef) rfl rfl (by kernel_rfl) (by kernel_rfl) (by kernel_rfl) (fun _ _ _ h => h) (Or.inr ⟨by rfl, rfl⟩) (by assumption) ?_
     try simp only [Act.put, List.setIfInBounds_toArray, List.set_cons_zero, List.set_cons_succ]
     refine take_d (some 42) (i := 18) (v := .bool true) rfl rfl (by kernel_rfl) (by kernel_rfl) (by kernel_rfl) (fun _ _ _ h => h) (Or.inl ⟨by rfl, fun w' hSw => by go_simp⟩) (by assumption) ?_
     try simp only [Act.put, List.setIfInBounds_toArray, List.set_cons_zero, List.set_cons_succ]
     refine wpAnyH_done (by kernel_rfl) ?_ _
     refine NoPanic.normal ?_
     go_wp2_with fail
     go_ret
     refine ⟨ret_bool ?_, hbel.trans ((hbz.trans (HB1.out.mono hbz.size)).mono hbel.size)⟩
     rw [unhide HDEC, range_all_false hlt (by rw [headAt_some (unhide HK)]; unfold headB; rw [hbare]; rfl)]
     rfl
    ·cases hsl : ((x.meths.take k).all fun o => !(o.slot == m.slot))
     ·refine wp_region_noPanic ?_
      refine wp_region_held_drew (S := (fun w' => w'.cell? ⟨w.heap.size, 0, none⟩ = some (.slice (some ⟨pb, poff, none⟩) p.length pcap) ∧ w'.cell? ⟨wo.heap.size, 0, none⟩ = some (.int .i64 m.slot) ∧ w'.cell? ⟨wo.heap.size, 1, none⟩ = some (.slice ala m.args.length alc) ∧ w'.cell? ⟨wo.heap.size, 2, none⟩ = some (.int .i64 m.ret) ∧ w'.cell? ⟨wo.heap.size, 3, none⟩ = some (.int .i64 m.locals) ∧ w'.cell? ⟨wo.heap.size, 4, none⟩ = some (.int .i64 m.stack) ∧ w'.cell? ⟨wo.heap.size, 5, none⟩ = some (.slice cla m.code.length clc) ∧ w'.cell? ⟨wo.heap.size, 6, none⟩ = some (.slice fla m.frames.length flc))) (by kernel_rfl) ?_ (fun hHeld => ?_)
      ·exact HS8.out
      refine take_x (some 24) 0 rfl rfl ?_
      refine take_x (some 25) 1 rfl rfl ?_
      refine wpAnyH_ready (rs := [2]) (by kernel_rfl) (by simp) ?_
      refine AllReadyH.cons rfl (fun K hK => ?_) AllReadyH.nil
      go_simp
      refine (code_headholds_eq hbare _ _ _ _ _ (prog_keep (Keeps.of_below ((Below.refl _ _).drew)) (unhide HPZ)) ((unhide HVZ).keep (Keeps.of_below ((Below.refl _ _).drew))) hz hml hwm).mono ?_
      rintro e w1 ⟨rfl, hb1⟩
      have HB1 := hide (below_call hb1)
      clear hb1
      go_wp2_with fail
      refine hK.out _ _ (eight_keep HS8.out HB1.out) (fun hHeld => ?_)
      clear hK K
      try simp only [Act.put, List.setIfInBounds_toArray, List.set_cons_zero, List.set_cons_succ]
      refine take_d (some 27) (i := 3) (v := .bool false) rfl rfl (by kernel_rfl) (by kernel_rfl) (by kernel_rfl) (fun _ _ _ h => h) (Or.inl ⟨by rfl, fun w' hSw => by (try dsimp only at hSw); go_simp⟩) (by assumption) ?_
      try simp only [Act.put, List.setIfInBounds_toArray, List.set_cons_zero, List.set_cons_succ]
      refine take_d (some 28) (i := 4) (v := .bool false) rfl rfl (by kernel_rfl) (by kernel_rfl) (by kernel_rfl) (fun _ _ _ h => h) (Or.inl ⟨by rfl, fun w' hSw => by (try dsimp only at hSw); go_simp⟩) (by assumption) ?_
      try simp only [Act.put, List.setIfInBounds_toArray, List.set_cons_zero, List.set_cons_succ]
      refine take_x (some 29) 5 rfl rfl ?_
      refine take_x (some 30) 6 rfl rfl ?_
      refine take_x (some 31) 7 rfl rfl ?_
      refine take_x (some 32) 8 rfl rfl ?_
      refine take_x (some 33) 9 rfl rfl ?_
      refine wpAnyH_ready (rs := [10]) (by kernel_rfl) (by simp) ?_
      refine AllReadyH.cons rfl (fun K hK => ?_) AllReadyH.nil
      go_simp
      refine (code_hasslot_eq hsl _ _ (sl_take (meths_keep (Keeps.of_below HB1.out) (unhide HMZ)) hk) (by rw [List.length_take]; omega)).mono ?_
      rintro e w2 ⟨rfl, hb2⟩
      have HB2 := hide (HB1.out.trans (hb2.mono HB1.out.size))
      clear hb2
      go_wp2_with fail
      refine hK.out _ _ (eight_keep HS8.out HB2.out) (fun hHeld => ?_)
      clear hK K
      try simp only [Act.put, List.setIfInBounds_toArray, List.set_cons_zero, List.set_cons_succ]
      refine take_d (some 35) (i := 11) (v := .bool true) rfl rfl (by kernel_rfl) (by kernel_rfl) (by kernel_rfl) (fun _ _ _ h => h) (Or.inl ⟨by rfl, fun w' hSw => by (try dsimp only at hSw); go_simp⟩) (by assumption) ?_
      try simp only [Act.put, List.setIfInBounds_toArray, List.set_cons_zero, List.set_cons_succ]
      refine take_d (some 36) (i := 12) (v := .bool true) rfl rfl (by kernel_rfl) (by kernel_rfl) (by kernel_rfl) (fun _ _ _ h => h) (Or.inl ⟨by rfl, fun w' hSw => by (try dsimp only at hSw); go_simp⟩) (by assumption) ?_
      try simp only [Act.put, List.setIfInBounds_toArray, List.set_cons_zero, List.set_cons_succ]
      refine take_d (some 37) (i := 13) (v := undef) rfl rfl (by kernel_rfl) (by kernel_rfl) (by kernel_rfl) (fun _ _ _ h => h) (Or.inr ⟨by rfl, rfl⟩) (by assumption) ?_
      try simp only [Act.put, List.setIfInBounds_toArray, List.set_cons_zero, List.set_cons_succ]
      refine take_d (some 38) (i := 14) (v := undef) rfl rfl (by kernel_rfl) (by kernel_rfl) (by kernel_rfl) (fun _ _ _ h => h) (Or.inr ⟨by rfl, rfl⟩) (by assumption) ?_
      try simp only [Act.put, List.setIfInBounds_toArray, List.set_cons_zero, List.set_cons_succ]
      refine take_d (some 39) (i := 15) (v := undef) rfl rfl (by kernel_rfl) (by kernel_rfl) (by kernel_rfl) (fun _ _ _ h => h) (Or.inr ⟨by rfl, rfl⟩) (by assumption) ?_
      try simp only [Act.put, List.setIfInBounds_toArray, List.set_cons_zero, List.set_cons_succ]
      refine take_d (some 40) (i := 16) (v := undef) rfl rfl (by kernel_rfl) (by kernel_rfl) (by kernel_rfl) (fun _ _ _ h => h) (Or.inr ⟨by rfl, rfl⟩) (by assumption) ?_
      try simp only [Act.put, List.setIfInBounds_toArray, List.set_cons_zero, List.set_cons_succ]
      refine take_d (some 41) (i := 17) (v := undef) rfl rfl (by kernel_rfl) (by kernel_rfl) (by kernel_rfl) (fun _ _ _ h => h) (Or.inr ⟨by rfl, rfl⟩) (by assumption) ?_
      try simp only [Act.put, List.setIfInBounds_toArray, List.set_cons_zero, List.set_cons_succ]
      refine take_d (some 42) (i := 18) (v := .bool true) rfl rfl (by kernel_rfl) (by kernel_rfl) (by kernel_rfl) (fun _ _ _ h => h) (Or.inl ⟨by rfl, fun w' hSw => by (try dsimp only at hSw); go_simp⟩) (by assumption) ?_
      try simp only [Act.put, List.setIfInBounds_toArray, List.set_cons_zero, List.set_cons_succ]
      refine wpAnyH_done (by kernel_rfl) ?_ _
      refine NoPanic.normal ?_
      all_goals
       go_wp2_with fail
       go_ret
       refine ⟨ret_bool ?_, hbel.trans ((hbz.trans (HB2.out.mono hbz.size)).mono hbel.size)⟩
       rw [unhide HDEC, range_all_false hlt (by rw [headAt_some (unhide HK)]; unfold headB; rw [hsl, Bool.and_false, Bool.false_and])]
       rfl
     ·cases hov : overB p x m
      all_goals
       have hsl' := hsl
       go_region_held3 (fun w' => w'.cell? ⟨w.heap.size, 0, none⟩ = some (.slice (some ⟨pb, poff, none⟩) p.length pcap) ∧ w'.cell? ⟨wo.heap.size, 0, none⟩ = some (.int .i64 m.slot) ∧ w'.cell? ⟨wo.heap.size, 1, none⟩ = some (.slice ala m.args.length alc) ∧ w'.cell? ⟨wo.heap.size, 2, none⟩ = some (.int .i64 m.ret) ∧ w'.cell? ⟨wo.heap.size, 3, none⟩ = some (.int .i64 m.locals) ∧ w'.cell? ⟨wo.heap.size, 4, none⟩ = some (.int .i64 m.stack) ∧ w'.cell? ⟨wo.heap.size, 5, none⟩ = some (.slice cla m.code.length clc) ∧ w'.cell? ⟨wo.heap.size, 6, none⟩ = some (.slice fla m.frames.length flc))
        (first
          | with_reducible exact eight_keep HS8.out HB3.out
          | with_reducible exact eight_keep HS8.out HB2.out
          | with_reducible exact eight_keep HS8.out HB1.out
          | go_keep)
        (first | ((go_at_call 185; refine (code_headholds_eq hbare _ _ _ _ _ (prog_keep (Keeps.of_below ((Below.refl _ _).drew)) (unhide HPZ)) ((unhide HVZ).keep (Keeps.of_below ((Below.refl _ _).drew))) hz hml hwm).mono ?_); rintro e w1 ⟨rfl, hb1⟩; have HB1 := hide (below_call hb1); clear hb1)
               | ((go_at_call 186; refine (code_hasslot_eq hsl _ _ (sl_take (meths_keep (Keeps.of_below HB1.out) (unhide HMZ)) hk) (by rw [List.length_take]; omega)).mono ?_); rintro e w2 ⟨rfl, hb2⟩; have HB2 := hide (HB1.out.trans (hb2.mono HB1.out.size)); clear hb2)
               | ((go_at_call 187; refine (code_overrides_eq hov _ _ _ _ _ _ (prog_keep (Keeps.of_below HB2.out) (unhide HPZ)) hs (unhide HX) ((unhide HVZ).keep (Keeps.of_below HB2.out)) hz hml).mono ?_); rintro e w3 ⟨rfl, hb3⟩; have HB3 := hide (HB2.out.trans (hb3.mono HB2.out.size)); clear hb3))
      ·go_wp2_with fail
       go_ret
       refine ⟨ret_bool ?_, hbel.trans ((hbz.trans (HB3.out.mono hbz.size)).mono hbel.size)⟩
       rw [unhide HDEC, range_all_false hlt (by rw [headAt_some (unhide HK)]; unfold headB; rw [hov, Bool.and_false])]
       rfl
      ·go_wp2_with fail
       exact ⟨⟨k + 1, by omega, by go_num, by rw [range_all_snoc, unhide HA, headAt_some (unhide HK)]; unfold headB; rw [hbare, hsl, hov]; rfl, hbz.trans (HB3.out.mono hbz.size)⟩, by simp [intOf]; omega⟩
   ·go_wp2
    go_ret
    have : k = x.meths.length := by omega
    subst this
    exact ⟨ret_bool (by rw [unhide HDEC, unhide HA]; rfl), hfin⟩
 ·have h6' : (6 : Int) < (x.meths.length : Int) := by omega
  have HDEC := hide (decide_eq_false h6)
  clear h6
  go_wp2_with fail
  go_ret
  exact ⟨ret_bool (by rw [unhide HDEC]; rfl), box_below _ _⟩
end Go.Proofs.YtiiokkllmchohaaGreat
