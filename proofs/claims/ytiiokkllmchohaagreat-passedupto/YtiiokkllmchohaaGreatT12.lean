/- Walk of the document's answer: a method's head, the good case. -/
import Derived.Test.YtiiokkllmchohaaGreatT10
namespace Go.Proofs.YtiiokkllmchohaaGreat
open Go.RowKit
attribute [local go_sem ↓] Go.wp_at_zero Go.wp_at_succ
set_option maxHeartbeats 4000000 in
set_option maxRecDepth 100000 in
theorem ref_head_yes (p : List LClass) (vc : Value) (c k : Nat) (x : LClass) (m : LMeth) (w : World) (hp : RProg w vc p) (hs : SupOk p (c + 1)) (hX : p[c]? = some x) (hM : x.meths[k]? = some m) (hwf : wfProg p) (hz : szProg p ≤ 4194304) (hb : bareB p.length m = true) :
  Calls Tryz.prog 93 #[.agg #[vc], .int .i64 c, .int .i64 k] w fun e w' => e = .returned (.bool (headB p x k m)) ∧ Below w.heap.size w w' := by
 obtain ⟨g1, g2, g3, hA, hR, g4, g5, g6, g7⟩ := bareB_iff.1 hb
 have HB := hide hb
 clear hb
 obtain ⟨hi, hxe⟩ := List.getElem?_eq_some_iff.1 hX
 obtain ⟨hk, hme⟩ := List.getElem?_eq_some_iff.1 hM
 have hxm : x ∈ p := hxe ▸ List.getElem_mem hi
 have hmm : m ∈ x.meths := hme ▸ List.getElem_mem hk
 have hwx := hwf x hxm
 have hwm := hwx.2.2 m hmm
 have hpl : p.length ≤ 4194304 := Nat.le_trans (szProg_len p) hz
 have hxl : szClass x ≤ 4194304 := Nat.le_trans (szClass_le hxm) hz
 have hml : szMeth m ≤ 4194304 := Nat.le_trans (szMeth_le hmm) hxl
 have hms : x.meths.length ≤ 4194304 := Nat.le_trans (szMeths_le x) hxl
 have hal : m.args.length ≤ 4194304 := by unfold szMeth at hml; omega
 obtain ⟨a, b, off, cap, rfl, hcap, ha, hr⟩ := sl_open hp
 obtain rfl := ha (ne_nil_of_lt hi)
 obtain ⟨vf, vm, c0, c1, c2, hf, hmt⟩ := hr c hi
 rw [hxe] at c0 hf hmt
 obtain ⟨ma, mb, moff, mcap, rfl, hmcap, hma, hmr⟩ := sl_open hmt
 obtain rfl := hma (ne_nil_of_lt hk)
 obtain ⟨va, vcd, vfr, hmv, m0, m1, m2, m3, m4, m5, m6⟩ := hmr k hk
 rw [hme] at m0 m2 m3 m4 hmv
 obtain ⟨ha0, hc0, hf0⟩ := hmv
 have HA0 := hide ha0
 obtain ⟨aa, ab, aoff, acap, rfl, _, _, _⟩ := sl_open ha0
 obtain ⟨ca, cb, coff, ccap, rfl, _, _, _⟩ := sl_open hc0
 obtain ⟨fa, fb, foff, fcap, rfl, _, _, _⟩ := sl_open hf0
 clear ha0 hc0 hf0
 have hlt := cell_lt c0
 have hlt' := cell_lt m0
 have HXE := hide hxe
 have HME := hide hme
 have HX := hide hX
 have HM := hide hM
 have HMR := hide hmr
 clear hr hf hxe hme hX hM hmr
 go_enter Tryz.func93, Tryz.ntmps93
 go_wp2_with fail
 generalize hW : (w.alloc _).alloc _ = W
 have hbel : Below w.heap.size w W := by rw [← hW]; exact box2_below _ _ _
 have hbox : W.cell? ⟨w.heap.size, 0, none⟩ = some (.slice (some ⟨b, off, none⟩) p.length cap) := by rw [← hW]; exact box2_fst _ _ _ _ 0
 have l0 : W.cell? ⟨w.heap.size + 1, 0, none⟩ = some (.int .i64 m.slot) := by rw [← hW]; exact box2_snd _ _ _ _ 0
 have l1 : W.cell? ⟨w.heap.size + 1, 1, none⟩ = some (.slice aa m.args.length acap) := by rw [← hW]; exact box2_snd _ _ _ _ 1
 have l2 : W.cell? ⟨w.heap.size + 1, 2, none⟩ = some (.int .i64 m.ret) := by rw [← hW]; exact box2_snd _ _ _ _ 2
 have l3 : W.cell? ⟨w.heap.size + 1, 3, none⟩ = some (.int .i64 m.locals) := by rw [← hW]; exact box2_snd _ _ _ _ 3
 have l4 : W.cell? ⟨w.heap.size + 1, 4, none⟩ = some (.int .i64 m.stack) := by rw [← hW]; exact box2_snd _ _ _ _ 4
 clear hW
 have hkp := Keeps.of_below hbel
 have KP := hide hkp
 have d0 := hkp _ _ c0
 have d2 := hkp _ _ c2
 clear hkp c0 c1 c2 m0 m1 m2 m3 m4 m5 m6
 refine (ref_alldeclared _ _ _ _ (ints_keep (unhide KP) (unhide HA0)) hwm.2.1 hal).mono ?_
 rintro e w1 ⟨rfl, rfl⟩
 go_wp2_with fail
 refine (ref_declared _ _ _ hwm.2.2.1).mono ?_
 rintro e w2 ⟨rfl, rfl⟩
 have hslot : ∀ (j : Nat) (hj : j < x.meths.length), w2.cell? ⟨mb, moff + j * 7, none⟩ = some (.int .i64 x.meths[j].slot) := fun j hj => by
  obtain ⟨_, _, _, _, h, _⟩ := unhide HMR j hj; exact unhide KP _ _ h
 go_wp2_with fail
 go_loopw [11] (fun s wr => ∃ i : Nat, i ≤ k ∧ s = .int .i64 i ∧ (∀ (j : Nat) (hj : j < x.meths.length), j < i → x.meths[j].slot ≠ m.slot) ∧ ∃ nq, wr = w2.drewN nq) (fun s _ => k - (intOf s).toNat)
 case atStart => exact ⟨0, Nat.zero_le _, rfl, fun j _ h => absurd h (Nat.not_lt_zero j), 0, rfl⟩
 case round =>
  obtain ⟨i, hik, rfl, hno, nq, rfl⟩ := hrel
  have HNO := hide hno
  clear hno
  by_cases hlt : i < k
  ·have hin : i < x.meths.length := by omega
   have hci : (c : Int) < (p.length : Int) := by omega
   have hii : (i : Int) < (x.meths.length : Int) := by omega
   go_wp2
   go_quiet (fail)
   go_wp2
   ·go_ret
    have hx : x.meths[i].slot = m.slot := by simpa using ‹(x.meths[i].slot == m.slot) = true›
    exact ⟨ret_bool (head_dup hin hlt hx).symm, below_drewN (below_drewN hbel _) _⟩
   ·have hx : x.meths[i].slot ≠ m.slot := by simpa using ‹(x.meths[i].slot == m.slot) = false›
    exact ⟨⟨i + 1, by omega, by go_num, fun j hj h => by
     rcases Nat.lt_or_ge j i with g | g
     ·exact unhide HNO j hj g
     ·obtain rfl : j = i := by omega
      exact hx, _, rfl⟩, by simp [intOf]; omega⟩
  ·have HE := hide (head_eq (p := p) (k := k) (unhide HB) fun j hj h => unhide HNO j hj (by omega))
   have hbN : Below w.heap.size w (w2.drewN nq) := below_drewN hbel _
   by_cases hc0 : c = 0
   ·have hc0' : ((c : Int) == 0) = true := by subst hc0; rfl
    have hsup := supB_zero (hc0 ▸ hs c x (by omega) (unhide HX))
    have HC := hide hc0
    clear hc0
    go_wp2
    go_ret
    refine ⟨ret_bool ?_, hbN⟩
    rw [unhide HE]
    unfold overB
    rw [methOf_neg p _ (by omega)]
   ·have hc0' : ((c : Int) == 0) = false := by simpa using hc0
    have hci : (c : Int) < (p.length : Int) := by omega
    have hcz : (0 : Int) ≤ (c : Int) := by omega
    have hsup := supB_pos (by omega) (hs c x (by omega) (unhide HX))
    have hpW := prog_keep (Keeps.of_below hbN) hp
    have HPW := hide hpW
    clear hpW
    have e0 : (w2.drewN nq).cell? ⟨w.heap.size, 0, none⟩ = some (.slice (some ⟨b, off, none⟩) p.length cap) := by simpa using hbox
    go_wp2
    go_region_held3 (fun w' => w'.cell? ⟨w.heap.size, 0, none⟩ = some (.slice (some ⟨b, off, none⟩) p.length cap) ∧ w'.cell? ⟨b, off + c * 3, none⟩ = some (.int .i64 x.sup) ∧ w'.cell? ⟨w.heap.size + 1, 0, none⟩ = some (.int .i64 m.slot))
     (first | go_keep | (exact ⟨Keeps.of_below hb1 _ _ (by simpa using hbox), Keeps.of_below hb1 _ _ (by simpa using d0), Keeps.of_below hb1 _ _ (by simpa using l0)⟩))
     (first | ((go_at_call 116; refine (ref_method p _ (c + 1) _ _ _ (prog_keep (Keeps.of_below ((Below.refl _ _).drew)) (unhide HPW)) hs (by omega) (by omega) (by omega) hz).mono ?_); rintro e w3 ⟨rfl, hb1⟩))
    have hW3 : Below w.heap.size w w3 := hbN.drew.trans (hb1.mono (by simpa using hbN.size))
    have k0 : w3.cell? ⟨w.heap.size, 0, none⟩ = some (.slice (some ⟨b, off, none⟩) p.length cap) := Keeps.of_below hb1 _ _ (by simpa using hbox)
    have k1 : w3.cell? ⟨w.heap.size + 1, 1, none⟩ = some (.slice aa m.args.length acap) := Keeps.of_below hb1 _ _ (by simpa using l1)
    have k2 : w3.cell? ⟨w.heap.size + 1, 2, none⟩ = some (.int .i64 m.ret) := Keeps.of_below hb1 _ _ (by simpa using l2)
    have hkp := Keeps.of_below hW3
    clear hb1 hbN e0 hbel hbox l0 l1 l2 l3 l4 d0 d2 hslot
    cases hmo : methOf p x.sup m.slot with
    | none =>
     have hover : overB p x m = true := by unfold overB; rw [hmo]
     have hm1 : (methC p x.sup m.slot).1 = -1 := by unfold methC; rw [hmo]
     have hm2 : (methC p x.sup m.slot).2 = -1 := by unfold methC; rw [hmo]
     have HO := hide hover
     rw [hm1, hm2]
     clear hm1 hm2 hmo hover
     go_wp2
     go_ret
     exact ⟨ret_bool (by rw [unhide HE, unhide HO]), hW3⟩
    | some ij =>
     obtain ⟨i2, j2⟩ := ij
     obtain ⟨d, hd⟩ := Int.eq_ofNat_of_zero_le hsup.1
     obtain ⟨y, o, hy, ho, hid, _⟩ := methOf_some p hs m.slot d (by omega) (by rw [← hd]; exact hmo)
     have hover : overB p x m = (o.args == m.args && o.ret == m.ret) := by unfold overB methAt; rw [hmo]; simp only [hy, Option.bind_some, ho]
     have hm1 : (methC p x.sup m.slot).1 = i2 := by unfold methC; rw [hmo]
     have hm2 : (methC p x.sup m.slot).2 = j2 := by unfold methC; rw [hmo]
     have HO := hide hover
     rw [hm1, hm2]
     obtain ⟨hi2, hye⟩ := List.getElem?_eq_some_iff.1 hy
     obtain ⟨hj2, hoe⟩ := List.getElem?_eq_some_iff.1 ho
     have hyl : szClass y ≤ 4194304 := Nat.le_trans (szClass_le (hye ▸ List.getElem_mem hi2)) hz
     have hol : szMeth o ≤ 4194304 := Nat.le_trans (szMeth_le (hoe ▸ List.getElem_mem hj2)) hyl
     have hoal : o.args.length ≤ 4194304 := by unfold szMeth at hol; omega
     have hys : y.meths.length ≤ 4194304 := Nat.le_trans (szMeths_le y) hyl
     obtain ⟨_, b', off', _, he1, _, ha1, hr1⟩ := sl_open hp
     have he2 := ha1 (ne_nil_of_lt hi2)
     injection he1 with he3 he4 he5
     rw [he2] at he3
     injection he3 with he6
     injection he6 with he7 he8
     subst he7 he8
     obtain ⟨vf2, vm2, q0, q1, q2, qf, qm⟩ := (hr1 i2 hi2).keep hkp
     rw [hye] at qf qm
     obtain ⟨ma2, mb2, moff2, mcap2, rfl, hmcap2, hma2, hmr2⟩ := sl_open qm
     obtain rfl := hma2 (ne_nil_of_lt hj2)
     obtain ⟨va2, vcd2, vfr2, ⟨ra, rc, rf⟩, n0, n1, n2, n3, n4, n5, n6⟩ := hmr2 j2 hj2
     rw [hoe] at n0 n2 n3 n4 ra rc rf
     have RA := hide ra
     obtain ⟨aa2, ab2, aoff2, acap2, rfl, _, _, _⟩ := sl_open ra
     obtain ⟨ca2, cb2, coff2, ccap2, rfl, _, _, _⟩ := sl_open rc
     obtain ⟨fa2, fb2, foff2, fcap2, rfl, _, _, _⟩ := sl_open rf
     have hlt2 := cell_lt q2
     have hlt3 := cell_lt n0
     have hsz3 := hW3.size
     have hlt4 := cell_lt k1
     clear hm1 hm2 hmo hover hr1 qf hmr2 ra rc rf hye hoe hy ho hd hkp
     go_wp2_with fail
     generalize hW4 : w3.alloc _ = w4
     have hb4 : Below w3.heap.size w3 w4 := by rw [← hW4]; exact box_below _ _
     have t2 : w4.cell? ⟨w3.heap.size, 2, none⟩ = some (.int .i64 o.ret) := by rw [← hW4]; exact box_cell _ _ _ 2
     clear hW4
     have t3 := Keeps.of_below hb4 _ _ k2
     refine (ref_sametypes _ _ _ _ _ (ints_keep (Keeps.of_below hb4) (unhide RA)) (ints_keep (Keeps.of_below (hW3.trans (hb4.mono hsz3))) (unhide HA0)) hoal hal).mono ?_
     rintro e w5 ⟨rfl, n5, rfl⟩
     have hfin : Below w.heap.size w (w4.drewN n5) := below_drewN (hW3.trans (hb4.mono hsz3)) _
     cases hsa : (o.args == m.args)
     ·go_wp2
      go_ret
      exact ⟨ret_bool (by rw [unhide HE, unhide HO, hsa]; rfl), hfin⟩
     ·go_wp2
      go_ret
      exact ⟨ret_bool (by rw [unhide HE, unhide HO, hsa]; simp), hfin⟩

theorem ref_head (p : List LClass) (vc : Value) (c k : Nat) (x : LClass) (m : LMeth) (w : World) (hp : RProg w vc p) (hs : SupOk p (c + 1)) (hX : p[c]? = some x) (hM : x.meths[k]? = some m) (hwf : wfProg p) (hz : szProg p ≤ 4194304) :
  Calls Tryz.prog 93 #[.agg #[vc], .int .i64 c, .int .i64 k] w fun e w' => e = .returned (.bool (headB p x k m)) ∧ Below w.heap.size w w' := by
 cases hb : bareB p.length m
 ·exact ref_head_no p vc c k x m w hp hX hM hwf hz hb
 ·exact ref_head_yes p vc c k x m w hp hs hX hM hwf hz hb
end Go.Proofs.YtiiokkllmchohaaGreat
