/- The law: Form and Encode are as the document says. -/
import Derived.Test.YtiiokkllmchohaaT09
import Derived.Test.YtiiokkllmchohaaT14
import Derived.Test.YtiiokkllmchohaaT19
/- LawB -/
namespace Go.Proofs.Ytiiokkllmchohaa
open Go.RowKit
attribute [local go_sem ↓] Go.wp_at_zero Go.wp_at_succ

theorem one_keep {A B : World} {a : Addr} {x : Value} (h : A.cell? a = some x) (k : Below A.heap.size A B) : B.cell? a = some x := Keeps.of_below k _ _ h
theorem below_none {w w' : World} (h : Below w.heap.size w w') : Mods (fun _ => False) w w' := (Mods.of_below h).mono (fun i hi e => absurd e (by omega))
theorem set6_same {cs cs0 : List Value} (hl : cs.length = cs0.length) (n0 : cs0[0]? = some (.slice none 0 0)) (n1 : cs0[1]? = some (.slice none 0 0)) (n2 : cs0[2]? = some (.slice none 0 0)) (n3 : cs0[3]? = some (.slice none 0 0)) (n4 : cs0[4]? = some (.slice none 0 0)) (n5 : cs0[5]? = some (.slice none 0 0)) (hr : ∀ j, 5 ≤ j → cs[j]? = cs0[j]?) :
    (((((cs.set 0 (.slice none 0 0)).set 1 (.slice none 0 0)).set 2 (.slice none 0 0)).set 3 (.slice none 0 0)).set 4 (.slice none 0 0)).set 5 (.slice none 0 0) = cs0 := by
  have hlen : 6 ≤ cs.length := by
    rw [hl]
    rcases Nat.lt_or_ge cs0.length 6 with h | h
    · rw [List.getElem?_eq_none (by omega)] at n5; cases n5
    · exact h
  apply List.ext_getElem?
  intro j
  rcases Nat.lt_or_ge 5 j with h | h
  · rw [List.getElem?_set_ne (by omega), List.getElem?_set_ne (by omega), List.getElem?_set_ne (by omega), List.getElem?_set_ne (by omega), List.getElem?_set_ne (by omega), List.getElem?_set_ne (by omega)]
    exact hr j (by omega)
  · have : j = 0 ∨ j = 1 ∨ j = 2 ∨ j = 3 ∨ j = 4 ∨ j = 5 := by omega
    rcases this with rfl | rfl | rfl | rfl | rfl | rfl
    · rw [List.getElem?_set_ne (by omega), List.getElem?_set_ne (by omega), List.getElem?_set_ne (by omega), List.getElem?_set_ne (by omega), List.getElem?_set_ne (by omega), List.getElem?_set_self (by omega)]; exact n0.symm
    · rw [List.getElem?_set_ne (by omega), List.getElem?_set_ne (by omega), List.getElem?_set_ne (by omega), List.getElem?_set_ne (by omega), List.getElem?_set_self (by simp only [List.length_set]; omega)]; exact n1.symm
    · rw [List.getElem?_set_ne (by omega), List.getElem?_set_ne (by omega), List.getElem?_set_ne (by omega), List.getElem?_set_self (by simp only [List.length_set]; omega)]; exact n2.symm
    · rw [List.getElem?_set_ne (by omega), List.getElem?_set_ne (by omega), List.getElem?_set_self (by simp only [List.length_set]; omega)]; exact n3.symm
    · rw [List.getElem?_set_ne (by omega), List.getElem?_set_self (by simp only [List.length_set]; omega)]; exact n4.symm
    · rw [List.getElem?_set_self (by simp only [List.length_set]; omega)]; exact n5.symm

set_option maxHeartbeats 4000000 in
set_option maxRecDepth 100000 in
theorem law_formed (p : List LClass) (vp : Value) (w : World) (bh : Nat) (cs0 : List Value) (hp : SlAt 3 (GClass (cellLt bh w)) vp p) (hh : HBlk w bh cs0) (n0 : cs0[0]? = some (.slice none 0 0)) (n1 : cs0[1]? = some (.slice none 0 0)) (n2 : cs0[2]? = some (.slice none 0 0)) (n3 : cs0[3]? = some (.slice none 0 0)) (n4 : cs0[4]? = some (.slice none 0 0)) (n5 : cs0[5]? = some (.slice none 0 0)) (hwf : wfProg p) (hz : szProg p ≤ 1048576) :
    Calls Try.prog 7 #[.pointer (some ⟨bh, 0, none⟩), .agg #[vp]] w fun e w' => e = .returned (.bool true) ∧ HBlk w' bh cs0 ∧ Mods (fun k => k = bh) w w' := by
  have hbh := hh.1.lt
  have HP := hide hp
  have m0 := (Mods.refl (fun _ => False) w).alloc (.cells #[vp] 24)
  have bp := Blk.new w #[vp] 24
  have hh0 : HBlk (w.alloc (.cells #[vp] 24)) bh cs0 := ⟨hh.1.alloc _, hh.2⟩
  have hs0 : (w.alloc (.cells #[vp] 24)).heap.size = w.heap.size + 1 := by simp
  have HS0 := hide hs0
  obtain ⟨pa, _, _, pcap, rfl, _⟩ := hp
  clear hs0
  go_enter Try.func7, Try.ntmps7
  go_wp2_with fail
  generalize w.alloc _ = W at *
  have hpW := prog_keep (cellLt_mods (n := bh) m0 (fun _ _ f => f)) (unhide HP)
  have HPW := hide hpW
  refine Calls.mono (lend_prog p _ W bh cs0 hpW hh0 hh0.1.lt n0 n1 n2 n3 n4 hz) ?_
  rintro e w1 ⟨gl, rfl, vt, vi, vf, vm, vc, ts, is, fs, ms, ks, cs, hL, t1, t2, t3', t4', t5'⟩
  have ML := hide hL.mods
  have bp1 := bp.mods hL.mods (by omega)
  have m2 := (Mods.refl (fun _ => False) w1).alloc (.cells #[.slice (some ⟨gl, 0, none⟩) p.length (p.length + 1)] 24)
  have bx := Blk.new w1 #[.slice (some ⟨gl, 0, none⟩) p.length (p.length + 1)] 24
  have bp2 := bp1.alloc (.cells #[.slice (some ⟨gl, 0, none⟩) p.length (p.length + 1)] 24)
  have lp2 : RProg (w1.alloc (.cells #[.slice (some ⟨gl, 0, none⟩) p.length (p.length + 1)] 24)) (.slice (some ⟨gl, 0, none⟩) p.length (p.length + 1)) p := prog_keep (GLe.trans (cellS_le t5 w1) (box_keeps w1 _)) hL.prog
  have HL := hide hL
  clear hL bp1 bp hh0 hpW
  go_wp2_with fail
  generalize w1.alloc _ = w2 at *
  have LP2 := hide lp2
  refine Calls.mono (code_form p _ w2 lp2 hwf (by omega)) ?_
  rintro e w3 ⟨rfl, hb3⟩
  have m3 := m2.trans (below_none hb3) (fun _ _ f => f)
  have bx3 := bx.below hb3 bx.lt
  have bp3 := bp2.below hb3 bp2.lt
  have x3 : w3.cell? ⟨w1.heap.size, 0, none⟩ = some (.slice (some ⟨gl, 0, none⟩) p.length (p.length + 1)) := bx3.cell 0
  have lp3 := prog_keep (Keeps.of_below hb3) (unhide LP2)
  clear lp2 m2 bx bp2 hb3
  go_wp2_with fail
  refine Calls.mono (code_encode p _ w3 lp3 hwf (by omega)) ?_
  rintro e w4 ⟨rfl, hb4⟩
  have m4 := m3.trans (below_none hb4) (fun _ _ f => f)
  have bx4 := bx3.below hb4 bx3.lt
  have bp4 := bp3.below hb4 bp3.lt
  have x4 : w4.cell? ⟨w1.heap.size, 0, none⟩ = some (.slice (some ⟨gl, 0, none⟩) p.length (p.length + 1)) := bx4.cell 0
  have p4 : w4.cell? ⟨w.heap.size, 0, none⟩ = some (.slice pa p.length pcap) := bp4.cell 0
  have lp4 := prog_keep (Keeps.of_below hb4) lp3
  have pp4 : RProg w4 (.slice pa p.length pcap) p := prog_keep (GLe.trans (cellLt_mods (n := bh) (unhide ML) (fun k hk e => by omega)) (GLe.trans (cellLt_mods (n := bh) m4 (fun _ _ f => f)) (cellLt_le bh w4))) (unhide HPW)
  have hs4 := (unhide HL).hs.stay m4 (fun _ _ _ _ f => f.elim)
  have hM4 := (unhide HL).m.mods m4 (fun _ _ _ f => f) (fun _ _ _ f => f)
  have hC4 := (unhide HL).c.mods m4 (fun _ _ _ f => f) (fun _ _ _ f => f)
  clear m3 bx3 bp3 x3 lp3 hb4 bx4
  go_wp2_with fail
  have hWs := unhide HS0
  refine Calls.mono (law_back w4 W.heap.size bh cs vt vi vf vm vc ts is fs ms ks p _ _ hs4 hM4 hC4 (unhide HL).c3 (unhide HL).c4 (by rw [(unhide HL).rest 5 (Nat.le_refl _)]; exact n5) lp4 pp4 hz (by omega) (by omega) (by omega) (by omega) (by omega)) ?_
  rintro e w5 ⟨rfl, hH5, m5⟩
  have hcs : (((((cs.set 0 (.slice none 0 0)).set 1 (.slice none 0 0)).set 2 (.slice none 0 0)).set 3 (.slice none 0 0)).set 4 (.slice none 0 0)).set 5 (.slice none 0 0) = cs0 := set6_same (by rw [hs4.hands.2, hh.2]) n0 n1 n2 n3 n4 n5 (unhide HL).rest
  rw [hcs] at hH5
  have bp5 := bp4.mods m5 (fun e => by omega)
  have p5 : w5.cell? ⟨w.heap.size, 0, none⟩ = some (.slice pa p.length pcap) := bp5.cell 0
  have M5 : Mods (fun k => k = bh) w w5 := ((((m0.mono (fun _ _ f => f.elim)).trans (unhide ML) (fun _ _ e => e)).trans m4 (fun _ _ f => f.elim)).trans m5 (fun k hk e => by omega))
  have pp5 : RProg w5 (.slice pa p.length pcap) p := prog_keep (GLe.trans (cellLt_mods (n := bh) M5 (fun k hk e => by omega)) (cellLt_le bh w5)) (unhide HP)
  have HM5 := hide M5
  have HH5 := hide hH5
  clear hs4 hM4 hC4 lp4 pp4 m4 m5 x4 p4 bp4 hcs M5 hH5 HL ML
  go_wp2_with fail
  refine Calls.mono (ref_encode p _ w5 pp5 hwf (by omega)) ?_
  rintro e w6 ⟨rfl, hb6⟩
  have bp6 := bp5.below hb6 bp5.lt
  have p6 : w6.cell? ⟨w.heap.size, 0, none⟩ = some (.slice pa p.length pcap) := bp6.cell 0
  have pp6 := prog_keep (Keeps.of_below hb6) pp5
  have HP6 := hide pp6
  have HH6 := hide (show HBlk w6 bh cs0 from ⟨(unhide HH5).1.below hb6 (unhide HH5).1.lt, (unhide HH5).2⟩)
  have HM6 := hide ((unhide HM5).trans (below_none hb6) (fun _ _ f => f.elim))
  clear p5 pp5 bp5 hb6 HH5 HM5 pp6 bp6
  go_wp2_with fail
  go_region_held3 (fun w' => w'.cell? ⟨w.heap.size, 0, none⟩ = some (.slice pa p.length pcap))
    (first
      | with_reducible exact one_keep p6 HB7.out
      | go_keep)
    (first | ((go_at_call 18; refine (law_num _ _).mono ?_); rintro e z ⟨rfl, rfl⟩)
           | ((go_at_call 19; refine (ref_form p _ _ ?_ hwf ?_).mono ?_); (exact prog_keep (Keeps.of_below ((Below.refl _ _).drew)) (unhide HP6)); omega; rintro e w7 ⟨rfl, hb7⟩; have HB7 := hide (below_call hb7); clear hb7))
  all_goals
    go_wp2_with fail
    go_ret
    refine ⟨by simp, ⟨(unhide HH6).1.below HB7.out (unhide HH6).1.lt, (unhide HH6).2⟩, (unhide HM6).trans (below_none HB7.out) (fun _ _ f => f.elim)⟩
end Go.Proofs.Ytiiokkllmchohaa
