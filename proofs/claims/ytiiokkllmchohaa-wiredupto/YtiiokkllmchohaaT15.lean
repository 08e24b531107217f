/- Walks of the code's own tests: a class's methods. -/
import Derived.Test.YtiiokkllmchohaaT14
/- CodeH -/
namespace Go.Proofs.Ytiiokkllmchohaa
open Go.RowKit
attribute [local go_sem ↓] Go.wp_at_zero Go.wp_at_succ

def headAt (p : List LClass) (x : LClass) (k : Nat) : Bool := match x.meths[k]? with
  | none => true
  | some m => headB p x k m
theorem headAt_some {p : List LClass} {x : LClass} {k : Nat} {m : LMeth} (h : x.meths[k]? = some m) : headAt p x k = headB p x k m := by unfold headAt; rw [h]
theorem sl_take {α : Type} {sz : Nat} {R : α → Nat → Nat → Prop} {a : Option Addr} {n cap : Nat} {l : List α} (h : SlAt sz R (.slice a n cap) l) {k : Nat} (hk : k ≤ l.length) : SlAt sz R (.slice a k cap) (l.take k) := by
  obtain ⟨a', b, off, cap', h1, h2, h3, h4⟩ := h
  injection h1 with e1 e2 e3
  subst e1 e3
  refine ⟨a, b, off, cap, by rw [List.length_take]; congr 1; omega, by rw [List.length_take]; omega, ⟨fun hne => h3.1 (fun e => hne (by rw [e]; simp)), h3.2.imp_right (fun x => x.imp_right fun y => ⟨by rw [y.1, List.take_nil], y.2⟩)⟩, fun j x hj => h4 j x ?_⟩
  rw [List.getElem?_take] at hj
  split at hj
  · exact hj
  · cases hj
theorem code_headholds_eq {p : List LClass} {m : LMeth} {q : Bool} (h : bareB p.length m = q) (vc va vcd vfr : Value) (w : World) (hp : RProg w vc p) (hm : MVals w m va vcd vfr) (hz : szProg p ≤ 4194304) (hml : szMeth m ≤ 4194304) (hwm : wfMeth m) :
    Calls Try.prog 75 #[.agg #[vc], methV m va vcd vfr] w fun e w' => e = .returned (.bool q) ∧ Below w.heap.size w w' := h ▸ code_headholds p vc m va vcd vfr w hp hm hz hml hwm
theorem code_hasslot_eq {ms : List LMeth} {slot : Int} {q : Bool} (h : (ms.all fun o => !(o.slot == slot)) = q) (vm : Value) (w : World) (hp : SlAt 7 (RMeth w) vm ms) (hz : ms.length ≤ 4194304) :
    Calls Try.prog 76 #[vm, .int .i64 slot] w fun e w' => e = .returned (.bool (!q)) ∧ Below w.heap.size w w' := h ▸ code_hasslot ms vm slot w hp hz
theorem code_overrides_eq {p : List LClass} {x : LClass} {m : LMeth} {q : Bool} (h : overB p x m = q) (vc : Value) (c : Nat) (va vcd vfr : Value) (w : World) (hp : RProg w vc p) (hs : SupOk p p.length) (hX : p[c]? = some x) (hm : MVals w m va vcd vfr) (hz : szProg p ≤ 4194304) (hml : szMeth m ≤ 4194304) :
    Calls Try.prog 77 #[.agg #[vc], .int .i64 c, methV m va vcd vfr] w fun e w' => e = .returned (.bool q) ∧ Below w.heap.size w w' := h ▸ code_overrides p vc c x m va vcd vfr w hp hs hX hm hz hml
theorem eight_keep {A B : World} {a0 a1 a2 a3 a4 a5 a6 a7 : Addr} {x0 x1 x2 x3 x4 x5 x6 x7 : Value} (h : A.cell? a0 = some x0 ∧ A.cell? a1 = some x1 ∧ A.cell? a2 = some x2 ∧ A.cell? a3 = some x3 ∧ A.cell? a4 = some x4 ∧ A.cell? a5 = some x5 ∧ A.cell? a6 = some x6 ∧ A.cell? a7 = some x7) (k : Below A.heap.size A B) :
    B.cell? a0 = some x0 ∧ B.cell? a1 = some x1 ∧ B.cell? a2 = some x2 ∧ B.cell? a3 = some x3 ∧ B.cell? a4 = some x4 ∧ B.cell? a5 = some x5 ∧ B.cell? a6 = some x6 ∧ B.cell? a7 = some x7 :=
  have K := Keeps.of_below k
  ⟨K _ _ h.1, K _ _ h.2.1, K _ _ h.2.2.1, K _ _ h.2.2.2.1, K _ _ h.2.2.2.2.1, K _ _ h.2.2.2.2.2.1, K _ _ h.2.2.2.2.2.2.1, K _ _ h.2.2.2.2.2.2.2⟩

set_option maxHeartbeats 4000000 in
set_option maxRecDepth 100000 in
theorem code_methodshold (p : List LClass) (vc : Value) (c : Nat) (x : LClass) (w : World) (hp : RProg w vc p) (hs : SupOk p p.length) (hX : p[c]? = some x) (hwf : wfProg p) (hz : szProg p ≤ 4194304) :
    Calls Try.prog 54 #[.agg #[vc], .int .i64 c] w fun e w' => e = .returned (.bool (decide (x.meths.length ≤ 6) && (List.range x.meths.length).all (headAt p x))) ∧ Below w.heap.size w w' := by
  have hpl : p.length ≤ 4194304 := Nat.le_trans (szProg_len p) hz
  obtain ⟨hi, hxe⟩ := List.getElem?_eq_some_iff.1 hX
  have hxm : x ∈ p := hxe ▸ List.getElem_mem hi
  have hwx := (hwf x hxm).2.2
  have hxl : szClass x ≤ 4194304 := Nat.le_trans (szClass_le hxm) hz
  have hms : x.meths.length ≤ 4194304 := Nat.le_trans (szMeths_le x) hxl
  have HP := hide hp
  obtain ⟨pa, pb, poff, pcap, rfl, _, hpa, hpr⟩ := sl_open hp
  obtain rfl := hpa (ne_nil_of_lt hi)
  obtain ⟨vf, vm, c0, c1, c2, hf, hmt⟩ := hpr c hi
  rw [hxe] at hmt
  have HMT := hide hmt
  obtain ⟨ma, mb, moff, mcap, rfl, hmcap, hma, hmr⟩ := sl_open hmt
  have HMR := hide hmr
  have hci : (c : Int) < (p.length : Int) := by omega
  have hcz : (0 : Int) ≤ (c : Int) := by omega
  have HX := hide hX
  have hltb := cell_lt c0
  clear hX hxe hpr hmt hmr c0 c1 hf hp
  go_enter Try.func54, Try.ntmps54
  by_cases h6 : x.meths.length ≤ 6
  · have h6' : ¬ (6 : Int) < (x.meths.length : Int) := by omega
    have HDEC := hide (decide_eq_true h6)
    clear h6
    go_wp2_with fail
    generalize hW : w.alloc _ = W
    have hbel : Below w.heap.size w W := by rw [← hW]; exact box_below _ _
    have hbox : W.cell? ⟨w.heap.size, 0, none⟩ = some (.slice (some ⟨pb, poff, none⟩) p.length pcap) := by rw [← hW]; exact box_cell _ _ _ 0
    clear hW
    go_loopw [19] (fun s wr => ∃ k : Nat, k ≤ x.meths.length ∧ s = .int .i64 k ∧ (List.range k).all (headAt p x) = true ∧ Below W.heap.size W wr) (fun s _ => x.meths.length - (intOf s).toNat)
    case atStart => exact ⟨0, Nat.zero_le _, rfl, rfl, Below.refl _ _⟩
    case round =>
      obtain ⟨k, hk, rfl, hall, hbr⟩ := hrel
      have HA := hide hall
      clear hall
      have hfin : Below w.heap.size w wr := hbel.trans (hbr.mono hbel.size)
      by_cases hlt : k < x.meths.length
      · obtain rfl := hma (ne_nil_of_lt hlt)
        obtain ⟨va, vcd, vfr, hv, m0, m1, m2, m3, m4, m5, m6⟩ := (unhide HMR k hlt).keep (Keeps.of_below hfin)
        have HV := hide hv
        obtain ⟨ala, _, _, alc, rfl, _⟩ := hv.1
        obtain ⟨cla, _, _, clc, rfl, _⟩ := hv.2.1
        obtain ⟨fla, _, _, flc, rfl, _⟩ := hv.2.2
        have HK := hide (List.getElem?_eq_getElem hlt)
        have hmm := List.getElem_mem hlt
        have hwm := hwx _ hmm
        have hml : szMeth x.meths[k] ≤ 4194304 := Nat.le_trans (szMeth_le hmm) hxl
        have hlt2 := cell_lt m0
        have e0 := Keeps.of_below hbr _ _ hbox
        clear hv hmm
        generalize x.meths[k] = m at *
        have hkm : (k : Int) ≤ (mcap : Int) := by omega
        have hkz : (0 : Int) ≤ (k : Int) := by omega
        go_wp2_with fail
        obtain ⟨wo, rfl⟩ : ∃ wo : World, wo = wr := ⟨_, rfl⟩
        generalize hZ : wo.alloc _ = Z
        have hbz : Below W.heap.size W Z := by rw [← hZ]; exact hbr.trans ((box_below _ _).mono hbr.size)
        have q1 : Z.cell? ⟨wo.heap.size, 0, none⟩ = some (.int .i64 m.slot) := by rw [← hZ]; exact box_cell _ _ _ 0
        have q2 : Z.cell? ⟨wo.heap.size, 1, none⟩ = some (.slice ala m.args.length alc) := by rw [← hZ]; exact box_cell _ _ _ 1
        have q3 : Z.cell? ⟨wo.heap.size, 2, none⟩ = some (.int .i64 m.ret) := by rw [← hZ]; exact box_cell _ _ _ 2
        have q4 : Z.cell? ⟨wo.heap.size, 3, none⟩ = some (.int .i64 m.locals) := by rw [← hZ]; exact box_cell _ _ _ 3
        have q5 : Z.cell? ⟨wo.heap.size, 4, none⟩ = some (.int .i64 m.stack) := by rw [← hZ]; exact box_cell _ _ _ 4
        have q6 : Z.cell? ⟨wo.heap.size, 5, none⟩ = some (.slice cla m.code.length clc) := by rw [← hZ]; exact box_cell _ _ _ 5
        have q7 : Z.cell? ⟨wo.heap.size, 6, none⟩ = some (.slice fla m.frames.length flc) := by rw [← hZ]; exact box_cell _ _ _ 6
        have q0 : Z.cell? ⟨w.heap.size, 0, none⟩ = some (.slice (some ⟨pb, poff, none⟩) p.length pcap) := Keeps.of_below hbz _ _ hbox
        have hkz2 : Keeps wo Z := by rw [← hZ]; exact box_keeps _ _
        clear hZ m0 m1 m2 m3 m4 m5 m6 e0 c2
        have hfz : Below w.heap.size w Z := hbel.trans (hbz.mono hbel.size)
        have HPZ := hide (prog_keep (Keeps.of_below hfz) (unhide HP))
        have HVZ := hide ((unhide HV).keep hkz2)
        have HMZ := hide (meths_keep (Keeps.of_below hfz) (unhide HMT))
        have HS8 := hide (And.intro q0 (And.intro q1 (And.intro q2 (And.intro q3 (And.intro q4 (And.intro q5 (And.intro q6 q7)))))))
        clear hkz2 HV
        cases hbare : bareB p.length m
        · refine wp_region_noPanic ?_
          refine wp_region_held_drew (S := (fun w' => w'.cell? ⟨w.heap.size, 0, none⟩ = some (.slice (some ⟨pb, poff, none⟩) p.length pcap) ∧ w'.cell? ⟨wo.heap.size, 0, none⟩ = some (.int .i64 m.slot) ∧ w'.cell? ⟨wo.heap.size, 1, none⟩ = some (.slice ala m.args.length alc) ∧ w'.cell? ⟨wo.heap.size, 2, none⟩ = some (.int .i64 m.ret) ∧ w'.cell? ⟨wo.heap.size, 3, none⟩ = some (.int .i64 m.locals) ∧ w'.cell? ⟨wo.heap.size, 4, none⟩ = some (.int .i64 m.stack) ∧ w'.cell? ⟨wo.heap.size, 5, none⟩ = some (.slice cla m.code.length clc) ∧ w'.cell? ⟨wo.heap.size, 6, none⟩ = some (.slice fla m.frames.length flc))) (by kernel_rfl) ?_ (fun hHeld => ?_)
          · exact HS8.out
          refine take_d (some 24) (i := 0) (v := ?_) rfl rfl (by kernel_rfl) (by kernel_rfl) (by kernel_rfl) (fun _ _ _ h => h) (Or.inl ⟨by rfl, ?_⟩) (by assumption) ?_
          rotate_left
          · intro w' hSw
            try dsimp only at hSw
            go_simp
            all_goals with_reducible rfl
          try simp only [Act.put, List.setIfInBounds_toArray, List.set_cons_zero, List.set_cons_succ]
          refine take_d (some 25) (i := 1) (v := ?_) rfl rfl (by kernel_rfl) (by kernel_rfl) (by kernel_rfl) (fun _ _ _ h => h) (Or.inl ⟨by rfl, ?_⟩) (by assumption) ?_
          rotate_left
          · intro w' hSw
            try dsimp only at hSw
            go_simp
            all_goals with_reducible rfl
          try simp only [Act.put, List.setIfInBounds_toArray, List.set_cons_zero, List.set_cons_succ]
          refine wpAnyH_ready (rs := [2]) (by kernel_rfl) (by simp) ?_
          refine AllReadyH.cons rfl (fun K hK => ?_) AllReadyH.nil
          go_simp
          refine (code_headholds_eq hbare _ _ _ _ _ (prog_keep (Keeps.of_below ((Below.refl _ _).drew)) (unhide HPZ)) ((unhide HVZ).keep (Keeps.of_below ((Below.refl _ _).drew))) hz hml hwm).mono ?_
          rintro e w1 ⟨rfl, hb1⟩
          have HB1 := hide (below_call hb1)
          clear hb1
          go_wp2_with fail
          refine hK.out _ _ (eight_keep HS8.out HB1.out) (fun hHeld2 => ?_)
          clear hK K hHeld
          try simp only [Act.put, List.setIfInBounds_toArray, List.set_cons_zero, List.set_cons_succ]
          refine take_d (some 27) (i := 3) (v := .bool true) rfl rfl (by kernel_rfl) (by kernel_rfl) (by kernel_rfl) (fun _ _ _ h => h) (Or.inl ⟨by rfl, fun w' hSw => by go_simp⟩) (by assumption) ?_
          try simp only [Act.put, List.setIfInBounds_toArray, List.set_cons_zero, List.set_cons_succ]
          refine take_d (some 28) (i := 4) (v := .bool true) rfl rfl (by kernel_rfl) (by kernel_rfl) (by kernel_rfl) (fun _ _ _ h => h) (Or.inl ⟨by rfl, fun w' hSw => by go_simp⟩) (by assumption) ?_
          try simp only [Act.put, List.setIfInBounds_toArray, List.set_cons_zero, List.set_cons_succ]
          refine take_d (some 29) (i := 5) (v := undef) rfl rfl (by kernel_rfl) (by kernel_rfl) (by kernel_rfl) (fun _ _ _ h => h) (Or.inr ⟨by rfl, rfl⟩) (by assumption) ?_
          try simp only [Act.put, List.setIfInBounds_toArray, List.set_cons_zero, List.set_cons_succ]
          refine take_d (some 30) (i := 6) (v := undef) rfl rfl (by kernel_rfl) (by kernel_rfl) (by kernel_rfl) (fun _ _ _ h => h) (Or.inr ⟨by rfl, rfl⟩) (by assumption) ?_
          try simp only [Act.put, List.setIfInBounds_toArray, List.set_cons_zero, List.set_cons_succ]
          refine take_d (some 31) (i := 7) (v := undef) rfl rfl (by kernel_rfl) (by kernel_rfl) (by kernel_rfl) (fun _ _ _ h => h) (Or.inr ⟨by rfl, rfl⟩) (by assumption) ?_
          try simp only [Act.put, List.setIfInBounds_toArray, List.set_cons_zero, List.set_cons_succ]
          refine take_d (some 32) (i := 8) (v := undef) rfl rfl (by kernel_rfl) (by kernel_rfl) (by kernel_rfl) (fun _ _ _ h => h) (Or.inr ⟨by rfl, rfl⟩) (by assumption) ?_
          try simp only [Act.put, List.setIfInBounds_toArray, List.set_cons_zero, List.set_cons_succ]
          refine take_d (some 33) (i := 9) (v := undef) rfl rfl (by kernel_rfl) (by kernel_rfl) (by kernel_rfl) (fun _ _ _ h => h) (Or.inr ⟨by rfl, rfl⟩) (by assumption) ?_
          try simp only [Act.put, List.setIfInBounds_toArray, List.set_cons_zero, List.set_cons_succ]
          refine take_d (some 34) (i := 10) (v := undef) rfl rfl (by kernel_rfl) (by kernel_rfl) (by kernel_rfl) (fun _ _ _ h => h) (Or.inr ⟨by rfl, rfl⟩) (by assumption) ?_
          try simp only [Act.put, List.setIfInBounds_toArray, List.set_cons_zero, List.set_cons_succ]
          refine take_d (some 35) (i := 11) (v := .bool true) rfl rfl (by kernel_rfl) (by kernel_rfl) (by kernel_rfl) (fun _ _ _ h => h) (Or.inl ⟨by rfl, fun w' hSw => by go_simp⟩) (by assumption) ?_
          try simp only [Act.put, List.setIfInBounds_toArray, List.set_cons_zero, List.set_cons_succ]
          refine take_d (some 36) (i := 12) (v := .bool true) rfl rfl (by kernel_rfl) (by kernel_rfl) (by kernel_rfl) (fun _ _ _ h => h) (Or.inl ⟨by rfl, fun w' hSw => by go_simp⟩) (by assumption) ?_
          try simp only [Act.put, List.setIfInBounds_toArray, List.set_cons_zero, List.set_cons_succ]
          refine take_d (some 37) (i := 13) (v := undef) rfl rfl (by kernel_rfl) (by kernel_rfl) (by kernel_rfl) (fun _ _ _ h => h) (Or.inr ⟨by rfl, rfl⟩) (by assumption) ?_
          try simp only [Act.put, List.setIfInBounds_toArray, List.set_cons_zero, List.set_cons_succ]
          refine take_d (some 38) (i := 14) (v := undef) rfl rfl (by kernel_rfl) (by kernel_rfl) (by kernel_rfl) (fun _ _ _ h => h) (Or.inr ⟨by rfl, rfl⟩) (by assumption) ?_
          try simp only [Act.put, List.setIfInBounds_toArray, List.set_cons_zero, List.set_cons_succ]
          refine take_d (some 39) (i := 15) (v := undef) rfl rfl (by kernel_rfl) (by kernel_rfl) (by kernel_rfl) (fun _ _ _ h => h) (Or.inr ⟨by rfl, rfl⟩) (by assumption) ?_
          try simp only [Act.put, List.setIfInBounds_toArray, List.set_cons_zero, List.set_cons_succ]
          refine take_d (some 40) (i := 16) (v := undef) rfl rfl (by kernel_rfl) (by kernel_rfl) (by kernel_rfl) (fun _ _ _ h => h) (Or.inr ⟨by rfl, rfl⟩) (by assumption) ?_
          try simp only [Act.put, List.setIfInBounds_toArray, List.set_cons_zero, List.set_cons_succ]
          refine take_d (some 41) (i := 17) (v := undef) rfl rfl (by kernel_rfl) (by kernel_rfl) (by kernel_rfl) (fun _ _ _ h => h) (Or.inr ⟨by rfl, rfl⟩) (by assumption) ?_
          try simp only [Act.put, List.setIfInBounds_toArray, List.set_cons_zero, List.set_cons_succ]
          refine take_d (some 42) (i := 18) (v := .bool true) rfl rfl (by kernel_rfl) (by kernel_rfl) (by kernel_rfl) (fun _ _ _ h => h) (Or.inl ⟨by rfl, fun w' hSw => by go_simp⟩) (by assumption) ?_
          try simp only [Act.put, List.setIfInBounds_toArray, List.set_cons_zero, List.set_cons_succ]
          refine wpAnyH_done (by kernel_rfl) ?_ _
          refine NoPanic.normal ?_
          go_wp2_with fail
          go_ret
          refine ⟨ret_bool ?_, hbel.trans ((hbz.trans (HB1.out.mono hbz.size)).mono hbel.size)⟩
          rw [unhide HDEC, range_all_false hlt (by rw [headAt_some (unhide HK)]; unfold headB; rw [hbare]; rfl)]
          rfl
        · cases hsl : ((x.meths.take k).all fun o => !(o.slot == m.slot))
          · refine wp_region_noPanic ?_
            refine wp_region_held_drew (S := (fun w' => w'.cell? ⟨w.heap.size, 0, none⟩ = some (.slice (some ⟨pb, poff, none⟩) p.length pcap) ∧ w'.cell? ⟨wo.heap.size, 0, none⟩ = some (.int .i64 m.slot) ∧ w'.cell? ⟨wo.heap.size, 1, none⟩ = some (.slice ala m.args.length alc) ∧ w'.cell? ⟨wo.heap.size, 2, none⟩ = some (.int .i64 m.ret) ∧ w'.cell? ⟨wo.heap.size, 3, none⟩ = some (.int .i64 m.locals) ∧ w'.cell? ⟨wo.heap.size, 4, none⟩ = some (.int .i64 m.stack) ∧ w'.cell? ⟨wo.heap.size, 5, none⟩ = some (.slice cla m.code.length clc) ∧ w'.cell? ⟨wo.heap.size, 6, none⟩ = some (.slice fla m.frames.length flc))) (by kernel_rfl) ?_ (fun hHeld => ?_)
            · exact HS8.out
            refine take_d (some 24) (i := 0) (v := ?_) rfl rfl (by kernel_rfl) (by kernel_rfl) (by kernel_rfl) (fun _ _ _ h => h) (Or.inl ⟨by rfl, ?_⟩) (by assumption) ?_
            rotate_left
            · intro w' hSw
              try dsimp only at hSw
              go_simp
              all_goals with_reducible rfl
            try simp only [Act.put, List.setIfInBounds_toArray, List.set_cons_zero, List.set_cons_succ]
            refine take_d (some 25) (i := 1) (v := ?_) rfl rfl (by kernel_rfl) (by kernel_rfl) (by kernel_rfl) (fun _ _ _ h => h) (Or.inl ⟨by rfl, ?_⟩) (by assumption) ?_
            rotate_left
            · intro w' hSw
              try dsimp only at hSw
              go_simp
              all_goals with_reducible rfl
            try simp only [Act.put, List.setIfInBounds_toArray, List.set_cons_zero, List.set_cons_succ]
            refine wpAnyH_ready (rs := [2]) (by kernel_rfl) (by simp) ?_
            refine AllReadyH.cons rfl (fun K hK => ?_) AllReadyH.nil
            go_simp
            refine (code_headholds_eq hbare _ _ _ _ _ (prog_keep (Keeps.of_below ((Below.refl _ _).drew)) (unhide HPZ)) ((unhide HVZ).keep (Keeps.of_below ((Below.refl _ _).drew))) hz hml hwm).mono ?_
            rintro e w1 ⟨rfl, hb1⟩
            have HB1 := hide (below_call hb1)
            clear hb1
            go_wp2_with fail
            refine hK.out _ _ (eight_keep HS8.out HB1.out) (fun hHeld => ?_)
            clear hK K
            try simp only [Act.put, List.setIfInBounds_toArray, List.set_cons_zero, List.set_cons_succ]
            refine take_d (some 27) (i := 3) (v := .bool false) rfl rfl (by kernel_rfl) (by kernel_rfl) (by kernel_rfl) (fun _ _ _ h => h) (Or.inl ⟨by rfl, fun w' hSw => by (try dsimp only at hSw); go_simp⟩) (by assumption) ?_
            try simp only [Act.put, List.setIfInBounds_toArray, List.set_cons_zero, List.set_cons_succ]
            refine take_d (some 28) (i := 4) (v := .bool false) rfl rfl (by kernel_rfl) (by kernel_rfl) (by kernel_rfl) (fun _ _ _ h => h) (Or.inl ⟨by rfl, fun w' hSw => by (try dsimp only at hSw); go_simp⟩) (by assumption) ?_
            try simp only [Act.put, List.setIfInBounds_toArray, List.set_cons_zero, List.set_cons_succ]
            refine take_d (some 29) (i := 5) (v := ?_) rfl rfl (by kernel_rfl) (by kernel_rfl) (by kernel_rfl) (fun _ _ _ h => h) (Or.inl ⟨by rfl, ?_⟩) (by assumption) ?_
            rotate_left
            · intro w' hSw
              try dsimp only at hSw
              go_simp
              all_goals with_reducible rfl
            try simp only [Act.put, List.setIfInBounds_toArray, List.set_cons_zero, List.set_cons_succ]
            refine take_d (some 30) (i := 6) (v := ?_) rfl rfl (by kernel_rfl) (by kernel_rfl) (by kernel_rfl) (fun _ _ _ h => h) (Or.inl ⟨by rfl, ?_⟩) (by assumption) ?_
            rotate_left
            · intro w' hSw
              try dsimp only at hSw
              go_simp
              all_goals with_reducible rfl
            try simp only [Act.put, List.setIfInBounds_toArray, List.set_cons_zero, List.set_cons_succ]
            refine take_d (some 31) (i := 7) (v := ?_) rfl rfl (by kernel_rfl) (by kernel_rfl) (by kernel_rfl) (fun _ _ _ h => h) (Or.inl ⟨by rfl, ?_⟩) (by assumption) ?_
            rotate_left
            · intro w' hSw
              try dsimp only at hSw
              go_simp
              all_goals with_reducible rfl
            try simp only [Act.put, List.setIfInBounds_toArray, List.set_cons_zero, List.set_cons_succ]
            refine take_d (some 32) (i := 8) (v := ?_) rfl rfl (by kernel_rfl) (by kernel_rfl) (by kernel_rfl) (fun _ _ _ h => h) (Or.inl ⟨by rfl, ?_⟩) (by assumption) ?_
            rotate_left
            · intro w' hSw
              try dsimp only at hSw
              go_simp
              all_goals with_reducible rfl
            try simp only [Act.put, List.setIfInBounds_toArray, List.set_cons_zero, List.set_cons_succ]
            refine take_d (some 33) (i := 9) (v := ?_) rfl rfl (by kernel_rfl) (by kernel_rfl) (by kernel_rfl) (fun _ _ _ h => h) (Or.inl ⟨by rfl, ?_⟩) (by assumption) ?_
            rotate_left
            · intro w' hSw
              try dsimp only at hSw
              go_simp
              all_goals with_reducible rfl
            try simp only [Act.put, List.setIfInBounds_toArray, List.set_cons_zero, List.set_cons_succ]
            refine wpAnyH_ready (rs := [10]) (by kernel_rfl) (by simp) ?_
            refine AllReadyH.cons rfl (fun K hK => ?_) AllReadyH.nil
            go_simp
            refine (code_hasslot_eq hsl _ _ (sl_take (meths_keep (Keeps.of_below HB1.out) (unhide HMZ)) hk) (by rw [List.length_take]; omega)).mono ?_
            rintro e w2 ⟨rfl, hb2⟩
            have HB2 := hide (HB1.out.trans (hb2.mono HB1.out.size))
            clear hb2
            go_wp2_with fail
            refine hK.out _ _ (eight_keep HS8.out HB2.out) (fun hHeld => ?_)
            clear hK K
            try simp only [Act.put, List.setIfInBounds_toArray, List.set_cons_zero, List.set_cons_succ]
            refine take_d (some 35) (i := 11) (v := .bool true) rfl rfl (by kernel_rfl) (by kernel_rfl) (by kernel_rfl) (fun _ _ _ h => h) (Or.inl ⟨by rfl, fun w' hSw => by (try dsimp only at hSw); go_simp⟩) (by assumption) ?_
            try simp only [Act.put, List.setIfInBounds_toArray, List.set_cons_zero, List.set_cons_succ]
            refine take_d (some 36) (i := 12) (v := .bool true) rfl rfl (by kernel_rfl) (by kernel_rfl) (by kernel_rfl) (fun _ _ _ h => h) (Or.inl ⟨by rfl, fun w' hSw => by (try dsimp only at hSw); go_simp⟩) (by assumption) ?_
            try simp only [Act.put, List.setIfInBounds_toArray, List.set_cons_zero, List.set_cons_succ]
            refine take_d (some 37) (i := 13) (v := undef) rfl rfl (by kernel_rfl) (by kernel_rfl) (by kernel_rfl) (fun _ _ _ h => h) (Or.inr ⟨by rfl, rfl⟩) (by assumption) ?_
            try simp only [Act.put, List.setIfInBounds_toArray, List.set_cons_zero, List.set_cons_succ]
            refine take_d (some 38) (i := 14) (v := undef) rfl rfl (by kernel_rfl) (by kernel_rfl) (by kernel_rfl) (fun _ _ _ h => h) (Or.inr ⟨by rfl, rfl⟩) (by assumption) ?_
            try simp only [Act.put, List.setIfInBounds_toArray, List.set_cons_zero, List.set_cons_succ]
            refine take_d (some 39) (i := 15) (v := undef) rfl rfl (by kernel_rfl) (by kernel_rfl) (by kernel_rfl) (fun _ _ _ h => h) (Or.inr ⟨by rfl, rfl⟩) (by assumption) ?_
            try simp only [Act.put, List.setIfInBounds_toArray, List.set_cons_zero, List.set_cons_succ]
            refine take_d (some 40) (i := 16) (v := undef) rfl rfl (by kernel_rfl) (by kernel_rfl) (by kernel_rfl) (fun _ _ _ h => h) (Or.inr ⟨by rfl, rfl⟩) (by assumption) ?_
            try simp only [Act.put, List.setIfInBounds_toArray, List.set_cons_zero, List.set_cons_succ]
            refine take_d (some 41) (i := 17) (v := undef) rfl rfl (by kernel_rfl) (by kernel_rfl) (by kernel_rfl) (fun _ _ _ h => h) (Or.inr ⟨by rfl, rfl⟩) (by assumption) ?_
            try simp only [Act.put, List.setIfInBounds_toArray, List.set_cons_zero, List.set_cons_succ]
            refine take_d (some 42) (i := 18) (v := .bool true) rfl rfl (by kernel_rfl) (by kernel_rfl) (by kernel_rfl) (fun _ _ _ h => h) (Or.inl ⟨by rfl, fun w' hSw => by (try dsimp only at hSw); go_simp⟩) (by assumption) ?_
            try simp only [Act.put, List.setIfInBounds_toArray, List.set_cons_zero, List.set_cons_succ]
            refine wpAnyH_done (by kernel_rfl) ?_ _
            refine NoPanic.normal ?_
            all_goals
              go_wp2_with fail
              go_ret
              refine ⟨ret_bool ?_, hbel.trans ((hbz.trans (HB2.out.mono hbz.size)).mono hbel.size)⟩
              rw [unhide HDEC, range_all_false hlt (by rw [headAt_some (unhide HK)]; unfold headB; rw [hsl, Bool.and_false, Bool.false_and])]
              rfl
          · cases hov : overB p x m
            all_goals
              have hsl' := hsl
              go_region_held3 (fun w' => w'.cell? ⟨w.heap.size, 0, none⟩ = some (.slice (some ⟨pb, poff, none⟩) p.length pcap) ∧ w'.cell? ⟨wo.heap.size, 0, none⟩ = some (.int .i64 m.slot) ∧ w'.cell? ⟨wo.heap.size, 1, none⟩ = some (.slice ala m.args.length alc) ∧ w'.cell? ⟨wo.heap.size, 2, none⟩ = some (.int .i64 m.ret) ∧ w'.cell? ⟨wo.heap.size, 3, none⟩ = some (.int .i64 m.locals) ∧ w'.cell? ⟨wo.heap.size, 4, none⟩ = some (.int .i64 m.stack) ∧ w'.cell? ⟨wo.heap.size, 5, none⟩ = some (.slice cla m.code.length clc) ∧ w'.cell? ⟨wo.heap.size, 6, none⟩ = some (.slice fla m.frames.length flc))
                (first
                  | with_reducible exact eight_keep HS8.out HB3.out
                  | with_reducible exact eight_keep HS8.out HB2.out
                  | with_reducible exact eight_keep HS8.out HB1.out
                  | go_keep)
                (first | ((go_at_call 75; refine (code_headholds_eq hbare _ _ _ _ _ (prog_keep (Keeps.of_below ((Below.refl _ _).drew)) (unhide HPZ)) ((unhide HVZ).keep (Keeps.of_below ((Below.refl _ _).drew))) hz hml hwm).mono ?_); rintro e w1 ⟨rfl, hb1⟩; have HB1 := hide (below_call hb1); clear hb1)
                       | ((go_at_call 76; refine (code_hasslot_eq hsl _ _ (sl_take (meths_keep (Keeps.of_below HB1.out) (unhide HMZ)) hk) (by rw [List.length_take]; omega)).mono ?_); rintro e w2 ⟨rfl, hb2⟩; have HB2 := hide (HB1.out.trans (hb2.mono HB1.out.size)); clear hb2)
                       | ((go_at_call 77; refine (code_overrides_eq hov _ _ _ _ _ _ (prog_keep (Keeps.of_below HB2.out) (unhide HPZ)) hs (unhide HX) ((unhide HVZ).keep (Keeps.of_below HB2.out)) hz hml).mono ?_); rintro e w3 ⟨rfl, hb3⟩; have HB3 := hide (HB2.out.trans (hb3.mono HB2.out.size)); clear hb3))
            · go_wp2_with fail
              go_ret
              refine ⟨ret_bool ?_, hbel.trans ((hbz.trans (HB3.out.mono hbz.size)).mono hbel.size)⟩
              rw [unhide HDEC, range_all_false hlt (by rw [headAt_some (unhide HK)]; unfold headB; rw [hov, Bool.and_false])]
              rfl
            · go_wp2_with fail
              exact ⟨⟨k + 1, by omega, by go_num, by rw [range_all_snoc, unhide HA, headAt_some (unhide HK)]; unfold headB; rw [hbare, hsl, hov]; rfl, hbz.trans (HB3.out.mono hbz.size)⟩, by simp [intOf]; omega⟩
      · go_wp2
        go_ret
        have : k = x.meths.length := by omega
        subst this
        exact ⟨ret_bool (by rw [unhide HDEC, unhide HA]; rfl), hfin⟩
  · have h6' : (6 : Int) < (x.meths.length : Int) := by omega
    have HDEC := hide (decide_eq_false h6)
    clear h6
    go_wp2_with fail
    go_ret
    exact ⟨ret_bool (by rw [unhide HDEC]; rfl), box_below _ _⟩
end Go.Proofs.Ytiiokkllmchohaa
