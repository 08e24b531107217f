/- The machine that asks: what PUT and CALL take. -/
import Derived.Test.YtiiokkllmchohaaGreatT23
/- MacP -/
namespace Go.Proofs.YtiiokkllmchohaaGreat
open Go.RowKit Go.Shelf
attribute [local go_sem ↓] Go.wp_at_zero Go.wp_at_succ
attribute [local go_sem] frz_drew

theorem fld_args (s r l k : Int) (x y z : Value) (w : World) : (Instr.field 63 (.agg #[.int .i64 s, x, .int .i64 r, .int .i64 l, .int .i64 k, y, z]) 1).run Tryz.prog w = .ok x w := by kernel_rfl
attribute [local go_sem] fld_args
section
variable (p : List LClass) (vp : Value) (w0 w : World) (mb fb : Nat) (a b : Int)
set_option maxHeartbeats 1000000 in
set_option maxRecDepth 100000 in
theorem wn_11 (hp : RProg w0 vp p) (hb0 : Below w0.heap.size w0 w) (hc : w.cell? ⟨mb, 0, none⟩ = some vp) (hs : SupOk p p.length) (hz : szProg p ≤ 4194304) (a0 : 0 ≤ a) (a1 : a < (p.length : Int)) (b0 : 0 ≤ b) (b1 : b < ((fieldsOf p a).length : Int)) :
  Calls Tryz.prog 229 #[.pointer (some ⟨mb, 0, none⟩), .pointer (some ⟨fb, 0, none⟩), .agg #[.int .i64 11, .int .i64 a, .int .i64 b]] w fun e w' => WantR [a + 3, fieldT p a b] w w' e := by
 have HP := hide hp
 have hzp := Nat.le_trans (szProg_len p) hz
 obtain ⟨pa, _, _, pcap, rfl, _⟩ := hp
 have hbel := box_below w (.cells #[.int .i64 11, .int .i64 a, .int .i64 b] 60)
 have B0 := Blk.new w #[.int .i64 11, .int .i64 a, .int .i64 b] 60
 have hc' := Keeps.of_below hbel _ _ hc
 go_enter Tryz.func229, Tryz.ntmps229
 go_wp2_with fail
 generalize w.alloc _ = W at *
 have q1 : W.cell? ⟨w.heap.size, 1, none⟩ = some (.int .i64 a) := B0.cell 1
 have q2 : W.cell? ⟨w.heap.size, 2, none⟩ = some (.int .i64 b) := B0.cell 2
 have hbW := hb0.trans (hbel.mono hb0.size)
 refine wp_region_noPanic ?_
 refine wp_region_held_drew (S := (fun w' => w'.cell? ⟨mb, 0, none⟩ = some (.slice pa p.length pcap) ∧ w'.cell? ⟨w.heap.size, 1, none⟩ = some (.int .i64 a) ∧ w'.cell? ⟨w.heap.size, 2, none⟩ = some (.int .i64 b))) (by kernel_rfl) ?_ (fun hHeld => ?_)
 ·exact ⟨hc', q1, q2⟩
 refine take_x (some 40) 0 rfl rfl ?_
 refine take_x (some 41) 1 rfl rfl ?_
 refine take_x (some 43) 3 rfl rfl ?_
 refine take_x (some 44) 4 rfl rfl ?_
 refine take_x (some 45) 5 rfl rfl ?_
 refine take_x (some 46) 6 rfl rfl ?_
 refine take_x (some 47) 7 rfl rfl ?_
 refine take_x (some 48) 8 rfl rfl ?_
 refine take_x (some 50) 10 rfl rfl ?_
 refine take_x (some 51) 11 rfl rfl ?_
 refine wpAnyH_ready (rs := [2]) (by kernel_rfl) (by simp) ?_
 refine AllReadyH.cons rfl (fun K hK => ?_) AllReadyH.nil
 go_simp
 refine (code_of a (by omega) (by omega) _).mono ?_
 rintro e w' ⟨rfl, rfl⟩
 go_wp2_with fail
 refine hK.out _ _ ⟨hc', q1, q2⟩ (fun hHeld => ?_)
 clear hK K
 try simp only [Act.put, List.setIfInBounds_toArray, List.set_cons_zero, List.set_cons_succ]
 refine wpAnyH_ready (rs := [9]) (by kernel_rfl) (by simp) ?_
 refine AllReadyH.cons rfl (fun K hK => ?_) AllReadyH.nil
 go_simp
 refine (code_fields p hs hz (a + 1).toNat a _ _ (prog_keep (Keeps.of_below hbW.drew) (unhide HP)) (by omega) a1 (Nat.le_refl _)).mono ?_
 rintro e w2 ⟨v', rfl, hown, hb2⟩
 have hb2' : Below W.heap.size W w2 := ⟨hb2.os, hb2.tape, hb2.output, hb2.size, hb2.block⟩
 obtain ⟨bn, rfl⟩ : ∃ bn : Nat, b = (bn : Int) := ⟨b.toNat, by omega⟩
 have hbn : bn < (fieldsOf p a).length := by omega
 obtain ⟨g, cap, rfl, hcap, _, hrd⟩ := own_read hown (by omega)
 have r0 : w2.cell? ⟨g, bn, none⟩ = some (.int .i64 (fieldT p a (bn : Int))) := by
  rw [hrd _ (by omega), List.getElem?_map]
  unfold fieldT
  rw [Int.toNat_natCast, List.getD_eq_getElem?_getD, List.getElem?_eq_getElem hbn]; rfl
 have k2 := Keeps.of_below hb2'
 have HS2 := hide (And.intro (k2 _ _ hc') (And.intro (k2 _ _ q1) (k2 _ _ q2)))
 generalize hft : fieldT p a (bn : Int) = ft at *
 have HFT := hide hft
 clear hft
 generalize hF : fieldsOf p a = F at *
 clear hF hrd hown
 go_wp2_with fail
 refine hK.out _ _ (unhide HS2) (fun hHeld => ?_)
 clear hK K
 try simp only [Act.put, List.setIfInBounds_toArray, List.set_cons_zero, List.set_cons_succ]
 refine take_x (some 52) 12 rfl rfl ?_
 refine wpAnyH_ready (rs := [13]) (by kernel_rfl) (by simp) ?_
 refine AllReadyH.cons rfl (fun K hK => ?_) AllReadyH.nil
 go_simp
 refine hK.out _ _ (unhide HS2) (fun hHeld => ?_)
 clear hK K
 try simp only [Act.put, List.setIfInBounds_toArray, List.set_cons_zero, List.set_cons_succ]
 refine wpAnyH_ready (rs := [14]) (by kernel_rfl) (by simp) ?_
 refine AllReadyH.cons rfl (fun K hK => ?_) AllReadyH.nil
 go_simp
 have k3 := Keeps.of_below (hb2'.alloc hb2'.size (.cells #[.int .i64 (a + 3), .int .i64 ft] 43))
 refine hK.out _ _ ⟨k3 _ _ hc', k3 _ _ q1, k3 _ _ q2⟩ (fun hHeld => ?_)
 clear hK K
 try simp only [Act.put, List.setIfInBounds_toArray, List.set_cons_zero, List.set_cons_succ]
 refine take_x (some 6) 15 rfl rfl ?_
 refine wpAnyH_done (by kernel_rfl) ?_ _
 refine NoPanic.normal ?_
 have hbw2 := hbel.trans (hb2'.mono hbel.size)
 have HF : Hid (WantR [a + 3, ft] w (w2.alloc (.cells #[.int .i64 (a + 3), .int .i64 ft] 43)) (.returned (.slice (some ⟨w2.heap.size, 0, none⟩) 2 2))) :=
  ⟨_, rfl, own_base (own_new w2 43 [.int .i64 (a + 3), .int .i64 ft] (by simp)) hbw2.size, hbw2.alloc hbw2.size _⟩
 go_wp2_with fail
 go_ret
 rw [unhide HFT]
 exact unhide HF
set_option maxHeartbeats 1000000 in
set_option maxRecDepth 100000 in
theorem wn_12 (hp : RProg w0 vp p) (hb0 : Below w0.heap.size w0 w) (hc : w.cell? ⟨mb, 0, none⟩ = some vp) (hs : SupOk p p.length) (hz : szProg p ≤ 4194304) (a0 : 0 ≤ a) (a1 : a < (p.length : Int)) (hm : (methOf p a b).isSome = true) (hal : (findM p a b).args.length ≤ 4194303) :
  Calls Tryz.prog 229 #[.pointer (some ⟨mb, 0, none⟩), .pointer (some ⟨fb, 0, none⟩), .agg #[.int .i64 12, .int .i64 a, .int .i64 b]] w fun e w' => WantR ((a + 3) :: (findM p a b).args) w w' e := by
 obtain ⟨i0, hi0, hz0, hz1, hz2⟩ := info_parts infoType
 have HP := hide hp
 have hzp := Nat.le_trans (szProg_len p) hz
 have hbel := box_below w (.cells #[.int .i64 12, .int .i64 a, .int .i64 b] 60)
 have B0 := Blk.new w #[.int .i64 12, .int .i64 a, .int .i64 b] 60
 have hc' := Keeps.of_below hbel _ _ hc
 go_enter Tryz.func229, Tryz.ntmps229
 go_wp2_with fail
 generalize w.alloc _ = W at *
 have q1 : W.cell? ⟨w.heap.size, 1, none⟩ = some (.int .i64 a) := B0.cell 1
 have q2 : W.cell? ⟨w.heap.size, 2, none⟩ = some (.int .i64 b) := B0.cell 2
 have hbW := hb0.trans (hbel.mono hb0.size)
 have lW : w.heap.size < W.heap.size := B0.lt
 refine wp_region_noPanic ?_
 refine wp_region_held_drew (S := (fun w' => w'.cell? ⟨w.heap.size, 1, none⟩ = some (.int .i64 a) ∧ w'.cell? ⟨w.heap.size, 2, none⟩ = some (.int .i64 b))) (by kernel_rfl) ?_ (fun hHeld => ?_)
 ·exact ⟨q1, q2⟩
 refine take_x (some 57) 0 rfl rfl ?_
 refine take_x (some 58) 1 rfl rfl ?_
 refine take_x (some 61) 4 rfl rfl ?_
 refine take_x (some 62) 5 rfl rfl ?_
 refine take_x (some 63) 6 rfl rfl ?_
 refine take_x (some 64) 7 rfl rfl ?_
 refine take_x (some 65) 8 rfl rfl ?_
 refine wpAnyH_ready (rs := [2]) (by kernel_rfl) (by simp) ?_
 refine AllReadyH.cons rfl (fun K hK => ?_) AllReadyH.nil
 go_simp
 refine (code_of a (by omega) (by omega) _).mono ?_
 rintro e w' ⟨rfl, rfl⟩
 go_wp2_with fail
 refine hK.out _ _ ⟨q1, q2⟩ (fun hHeld => ?_)
 clear hK K
 try simp only [Act.put, List.setIfInBounds_toArray, List.set_cons_zero, List.set_cons_succ]
 refine wpAnyH_ready (rs := [3, 9]) (by kernel_rfl) (by simp) ?_
 refine AllReadyH.cons rfl (fun K hK => ?_) (AllReadyH.cons rfl (fun K hK => ?_) AllReadyH.nil)
 ·go_simp
  have hal1 : Below W.heap.size W (W.drew.alloc (.cells #[.int .i64 (a + 3)] 43)) := ⟨rfl, rfl, rfl, by simp, fun i hi => Below.heap_alloc W.drew _ i hi⟩
  have k1 := Keeps.of_below hal1
  have hR1 := own_new W.drew 43 [.int .i64 (a + 3)] (by simp)
  refine hK.out _ _ ⟨k1 _ _ q1, k1 _ _ q2⟩ (fun hHeld => ?_)
  clear hK K
  try simp only [Act.put, List.setIfInBounds_toArray, List.set_cons_zero, List.set_cons_succ]
  refine wpAnyH_ready (rs := [9]) (by kernel_rfl) (by simp) ?_
  refine AllReadyH.cons rfl (fun K hK => ?_) AllReadyH.nil
  go_simp
  refine (ma_find p vp a b w0 (W.drew.alloc (.cells #[.int .i64 (a + 3)] 43)) mb (unhide HP) (hbW.trans (hal1.mono hbW.size)) (k1 _ _ hc') hs hz a0 a1 hm).mono ?_
  rintro e w3 ⟨va, vco, vf, rfl, hG, hb3⟩
  have hb3' : Below W.heap.size W w3 := hal1.trans (hb3.mono (by simp))
  have hbw3 := hbel.trans (hb3'.mono hbel.size)
  have hbz := hb0.trans (hbw3.mono hb0.size)
  obtain ⟨bb, hbb⟩ : ∃ bb, bb = W.heap.size := ⟨_, rfl⟩
  have hrow : w3.ownsRow w.heap.size 43 1 (.slice (some ⟨bb, 0, none⟩) 1 1) 1 [.int .i64 (a + 3)] := by
   have := own_mods (w' := w3) hR1 (Mods.of_below hb3) (fun g hg e => by have := (hR1.lt g hg).2; omega)
   rw [hbb]
   exact own_base this hbel.size
  have hbw : w.heap.size < bb := by omega
  rw [← hbb]
  clear hbb hR1
  obtain ⟨hva, hvc, hvf⟩ := hG
  obtain ⟨sa, scap, rfl, hnil, hsrc⟩ := ints_src hva
  obtain ⟨fa, _, _, fcap, rfl, _⟩ := hvf
  obtain ⟨ca, _, _, ccap, rfl, _⟩ := hvc
  have q1w : w3.cell? ⟨w.heap.size, 1, none⟩ = some (.int .i64 a) := Keeps.of_below hb3' _ _ q1
  have q2w : w3.cell? ⟨w.heap.size, 2, none⟩ = some (.int .i64 b) := Keeps.of_below hb3' _ _ q2
  have hMw4 : ∀ w4, w3.grownBy w4 (Value.slice (some ⟨bb, 0, none⟩) 1 1).ownBlock → Mods (fun k => (Value.slice (some ⟨bb, 0, none⟩) 1 1).ownBlock = some k) w3 w4 := fun w4 hg => (Mods.refl _ w3).grown hg (fun k e _ => e)
  unfold methV
  generalize hoe : findM p a b = o at *
  have HOE := hide hoe
  clear hoe
  go_wp2_with fail
  refine hK.out _ _ ⟨q1w, q2w⟩ (fun hHeld => ?_)
  clear hK K
  try simp only [Act.put, List.setIfInBounds_toArray, List.set_cons_zero, List.set_cons_succ]
  refine take_x (some 67) 10 rfl rfl ?_
  refine wpAnyH_ready (rs := [11]) (by kernel_rfl) (by simp) ?_
  refine AllReadyH.cons rfl (fun K hK => ?_) AllReadyH.nil
  refine wp_append_sl (.tmp 60) (.tmp 67) 40 rfl w.heap.size 43 i0 (.int .i64 0) 1 8 Tryz.underlying40 hi0 hz0 hz1 hz2 rfl (by decide) (.slice (some ⟨bb, 0, none⟩) 1 1) 1 [.int .i64 (a + 3)] rfl hrow sa o.args.length scap (o.args.map (Value.int .i64)) rfl (by simp) (fun e => ⟨by rw [(hnil e).1]; rfl, (hnil e).2⟩) (fun ad e j u hu => Keeps.of_below hbz _ _ (hsrc ad e j u hu)) (oneCell_ints _) (by unfold maxLen; omega) (by omega) hbw3.size ?_
  intro v4 w4 hown4 hg4 hat4
  obtain ⟨a4, cap4, rfl⟩ := own_form hown4
  have hb4 : Below w.heap.size w w4 := hbw3.trans ((Mods.refl (fun k => (Value.slice (some ⟨bb, 0, none⟩) 1 1).ownBlock = some k) w3).grown hg4 (fun k e _ => e) |>.below hbw3.size (fun k hk e => by have := (hrow.lt k e).1; omega))
  have k4 := Keeps.of_below hb4
  have q14 : w4.cell? ⟨w.heap.size, 1, none⟩ = some (.int .i64 a) := (hMw4 w4 hg4).cell q1w (fun e => by have := Option.some.inj (show some bb = some w.heap.size from e); omega)
  have q24 : w4.cell? ⟨w.heap.size, 2, none⟩ = some (.int .i64 b) := (hMw4 w4 hg4).cell q2w (fun e => by have := Option.some.inj (show some bb = some w.heap.size from e); omega)
  go_simp
  refine hK.out _ _ ⟨q14, q24⟩ (fun hHeld => ?_)
  clear hK K
  try simp only [Act.put, List.setIfInBounds_toArray, List.set_cons_zero, List.set_cons_succ]
  refine take_x (some 6) 12 rfl rfl ?_
  refine wpAnyH_done (by kernel_rfl) ?_ _
  refine NoPanic.normal ?_
  have HF : Hid (WantR ((a + 3) :: o.args) w w4 (.returned (.slice a4 (1 + o.args.length) cap4))) := ⟨_, rfl, by rw [show ((a + 3) :: o.args).length = 1 + o.args.length by simp; omega]; exact hown4, hb4⟩
  clear hown4 hg4 hat4
  go_wp2_with fail
  go_ret
  rw [unhide HOE]
  exact unhide HF
 ·go_simp
  refine (ma_find p vp a b w0 W.drew mb (unhide HP) hbW.drew hc' hs hz a0 a1 hm).mono ?_
  rintro e w2 ⟨va, vco, vf, rfl, hG, hb2⟩
  have hb2' : Below W.heap.size W w2 := ⟨hb2.os, hb2.tape, hb2.output, hb2.size, hb2.block⟩
  have k2 := Keeps.of_below hb2'
  have hz2' := hb2'.size
  obtain ⟨w3, hw3⟩ : ∃ w3, w3 = w2.alloc (.cells #[.int .i64 (a + 3)] 43) := ⟨_, rfl⟩
  have hb3' : Below W.heap.size W w3 := by rw [hw3]; exact hb2'.alloc hb2'.size _
  have hbw3 := hbel.trans (hb3'.mono hbel.size)
  have hbz := hb0.trans (hbw3.mono hb0.size)
  obtain ⟨bb, hbb⟩ : ∃ bb, bb = w2.heap.size := ⟨_, rfl⟩
  have hrow : w3.ownsRow w.heap.size 43 1 (.slice (some ⟨bb, 0, none⟩) 1 1) 1 [.int .i64 (a + 3)] := by
   rw [hbb, hw3]
   exact own_base (own_new w2 43 [.int .i64 (a + 3)] (by simp)) (by omega)
  have hbw : w.heap.size < bb := by omega
  obtain ⟨hva, hvc, hvf⟩ := hG
  obtain ⟨sa, scap, rfl, hnil, hsrc⟩ := ints_src hva
  obtain ⟨fa, _, _, fcap, rfl, _⟩ := hvf
  obtain ⟨ca, _, _, ccap, rfl, _⟩ := hvc
  have q1w : w3.cell? ⟨w.heap.size, 1, none⟩ = some (.int .i64 a) := Keeps.of_below hb3' _ _ q1
  have q2w : w3.cell? ⟨w.heap.size, 2, none⟩ = some (.int .i64 b) := Keeps.of_below hb3' _ _ q2
  have hMw4 : ∀ w4, w3.grownBy w4 (Value.slice (some ⟨bb, 0, none⟩) 1 1).ownBlock → Mods (fun k => (Value.slice (some ⟨bb, 0, none⟩) 1 1).ownBlock = some k) w3 w4 := fun w4 hg => (Mods.refl _ w3).grown hg (fun k e _ => e)
  unfold methV
  generalize hoe : findM p a b = o at *
  have HOE := hide hoe
  clear hoe
  go_wp2_with fail
  refine hK.out _ _ ⟨k2 _ _ q1, k2 _ _ q2⟩ (fun hHeld => ?_)
  clear hK K
  try simp only [Act.put, List.setIfInBounds_toArray, List.set_cons_zero, List.set_cons_succ]
  refine take_x (some 67) 10 rfl rfl ?_
  refine wpAnyH_ready (rs := [3]) (by kernel_rfl) (by simp) ?_
  refine AllReadyH.cons rfl (fun K hK => ?_) AllReadyH.nil
  go_simp
  rw [← hbb, ← hw3]
  refine hK.out _ _ ⟨q1w, q2w⟩ (fun hHeld => ?_)
  clear hK K
  try simp only [Act.put, List.setIfInBounds_toArray, List.set_cons_zero, List.set_cons_succ]
  clear hbb hw3
  refine wpAnyH_ready (rs := [11]) (by kernel_rfl) (by simp) ?_
  refine AllReadyH.cons rfl (fun K hK => ?_) AllReadyH.nil
  refine wp_append_sl (.tmp 60) (.tmp 67) 40 rfl w.heap.size 43 i0 (.int .i64 0) 1 8 Tryz.underlying40 hi0 hz0 hz1 hz2 rfl (by decide) (.slice (some ⟨bb, 0, none⟩) 1 1) 1 [.int .i64 (a + 3)] rfl hrow sa o.args.length scap (o.args.map (Value.int .i64)) rfl (by simp) (fun e => ⟨by rw [(hnil e).1]; rfl, (hnil e).2⟩) (fun ad e j u hu => Keeps.of_below hbz _ _ (hsrc ad e j u hu)) (oneCell_ints _) (by unfold maxLen; omega) (by omega) hbw3.size ?_
  intro v4 w4 hown4 hg4 hat4
  obtain ⟨a4, cap4, rfl⟩ := own_form hown4
  have hb4 : Below w.heap.size w w4 := hbw3.trans ((Mods.refl (fun k => (Value.slice (some ⟨bb, 0, none⟩) 1 1).ownBlock = some k) w3).grown hg4 (fun k e _ => e) |>.below hbw3.size (fun k hk e => by have := (hrow.lt k e).1; omega))
  have k4 := Keeps.of_below hb4
  have q14 : w4.cell? ⟨w.heap.size, 1, none⟩ = some (.int .i64 a) := (hMw4 w4 hg4).cell q1w (fun e => by have := Option.some.inj (show some bb = some w.heap.size from e); omega)
  have q24 : w4.cell? ⟨w.heap.size, 2, none⟩ = some (.int .i64 b) := (hMw4 w4 hg4).cell q2w (fun e => by have := Option.some.inj (show some bb = some w.heap.size from e); omega)
  go_simp
  refine hK.out _ _ ⟨q14, q24⟩ (fun hHeld => ?_)
  clear hK K
  try simp only [Act.put, List.setIfInBounds_toArray, List.set_cons_zero, List.set_cons_succ]
  refine take_x (some 6) 12 rfl rfl ?_
  refine wpAnyH_done (by kernel_rfl) ?_ _
  refine NoPanic.normal ?_
  have HF : Hid (WantR ((a + 3) :: o.args) w w4 (.returned (.slice a4 (1 + o.args.length) cap4))) := ⟨_, rfl, by rw [show ((a + 3) :: o.args).length = 1 + o.args.length by simp; omega]; exact hown4, hb4⟩
  clear hown4 hg4 hat4
  go_wp2_with fail
  go_ret
  rw [unhide HOE]
  exact unhide HF
end
end Go.Proofs.YtiiokkllmchohaaGreat
/- The machine that asks: isReady. -/
namespace Go.Proofs.YtiiokkllmchohaaGreat
open Go.RowKit Go.Shelf
attribute [local go_sem ↓] Go.wp_at_zero Go.wp_at_succ
attribute [local go_sem] frz_drew

structure InsOk (p : List LClass) (m : LMeth) (op a b : Int) : Prop where
 op0 : 0 ≤ op
 op1 : op ≤ 20
 cls : (op = 9 ∨ op = 17 ∨ op = 10 ∨ op = 11 ∨ op = 12) → 0 ≤ a ∧ a < (p.length : Int)
 loc : (op = 1 ∨ op = 2) → 0 ≤ a ∧ a < m.locals
 fld : (op = 10 ∨ op = 11) → 0 ≤ b ∧ b < ((fieldsOf p a).length : Int)
 call : op = 12 → (methOf p a b).isSome = true
 jmp : (op = 7 ∨ op = 8 ∨ op = 18) → 0 ≤ a ∧ a < (m.code.length : Int)
theorem ins_ok {p : List LClass} {m : LMeth} {op a b : Int} (hi : insB p m ⟨op, a, b⟩ = true) : InsOk p m op a b := by
 have hop : 0 ≤ op ∧ op ≤ 20 := by
  unfold insB at hi
  dsimp only at hi
  repeat' split at hi
  all_goals first | omega | (simp only [Bool.and_eq_true, placeB_iff] at hi; omega)
 refine ⟨hop.1, hop.2, fun ho => ?_, fun ho => ?_, fun ho => ?_, fun ho => ?_, fun ho => ?_⟩
 ·unfold insB at hi
  dsimp only at hi
  rcases ho with rfl | rfl | rfl | rfl | rfl <;> simp [placeB_iff] at hi <;> exact hi.1
 ·unfold insB at hi
  dsimp only at hi
  rcases ho with rfl | rfl <;> simp [placeB_iff] at hi <;> exact hi.1
 ·unfold insB at hi
  dsimp only at hi
  rcases ho with rfl | rfl <;> simp [placeB_iff] at hi <;> exact hi.2
 ·subst ho
  unfold insB at hi
  dsimp only at hi
  simp [placeB_iff] at hi
  exact hi.2
 ·unfold insB at hi
  dsimp only at hi
  rcases ho with rfl | rfl | rfl <;> simp [placeB_iff] at hi <;> exact hi.1
theorem ma_wants (p : List LClass) (vp : Value) (w0 w : World) (mb fb : Nat) (m : LMeth) (op a b : Int) (I : InsOk p m op a b) (G : Good p) (hp : RProg w0 vp p) (hb0 : Below w0.heap.size w0 w) (hc : w.cell? ⟨mb, 0, none⟩ = some vp) (hr : w.cell? ⟨fb, 2, none⟩ = some (.int .i64 m.ret)) (hal : ∀ a b, (methOf p a b).isSome = true → 0 ≤ a → a < (p.length : Int) → (findM p a b).args.length ≤ 4194303) :
  Calls Tryz.prog 229 #[.pointer (some ⟨mb, 0, none⟩), .pointer (some ⟨fb, 0, none⟩), .agg #[.int .i64 op, .int .i64 a, .int .i64 b]] w fun e w' => WantR (wantsM p m.ret op a b) w w' e := by
 have o0 := I.op0
 have o1 := I.op1
 have hzp := Nat.le_trans (szProg_len p) G.sz
 obtain rfl | rfl | rfl | rfl | rfl | rfl | rfl | rfl | rfl | rfl | rfl | rfl | rfl | rfl | rfl | rfl | rfl | rfl | rfl | rfl | rfl : op = 0 ∨ op = 1 ∨ op = 2 ∨ op = 3 ∨ op = 4 ∨ op = 5 ∨ op = 6 ∨ op = 7 ∨ op = 8 ∨ op = 9 ∨ op = 10 ∨ op = 11 ∨ op = 12 ∨ op = 13 ∨ op = 14 ∨ op = 15 ∨ op = 16 ∨ op = 17 ∨ op = 18 ∨ op = 19 ∨ op = 20 := by omega
 ·exact wn_0 w mb fb a b
 ·exact wn_1 w mb fb a b
 ·exact wn_2 w mb fb a b
 ·exact wn_3 w mb fb a b
 ·exact wn_4 w mb fb a b
 ·exact wn_5 w mb fb a b
 ·exact wn_6 w mb fb a b
 ·exact wn_7 w mb fb a b
 ·exact wn_8 w mb fb a b
 ·exact wn_9 w mb fb a b
 ·have h := I.cls (by omega)
  exact wn_10 w mb fb a b h.1 (by omega)
 ·have h := I.cls (by omega)
  have h' := I.fld (by omega)
  exact wn_11 p vp w0 w mb fb a b hp hb0 hc G.sup G.sz h.1 h.2 h'.1 h'.2
 ·have h := I.cls (by omega)
  have h' := I.call rfl
  exact wn_12 p vp w0 w mb fb a b hp hb0 hc G.sup G.sz h.1 h.2 h' (hal a b h' h.1 h.2)
 ·exact wn_13 w mb fb a b m.ret hr
 ·exact wn_14 w mb fb a b
 ·exact wn_15 w mb fb a b
 ·exact wn_16 w mb fb a b
 ·exact wn_17 w mb fb a b
 ·exact wn_18 w mb fb a b
 ·exact wn_19 w mb fb a b
 ·exact wn_20 w mb fb a b
def roomB (op : Int) : Bool := op == 0 || op == 1 || op == 9 || op == 16 || op == 15
theorem ma_needsRoom (op : Int) (w : World) : Calls Tryz.prog 230 #[.int .i64 op] w fun e w' => e = .returned (.bool (roomB op)) ∧ w' = w := by
 unfold roomB
 cases h0 : op == 0 with
 | true =>
  go_enter Tryz.func230, Tryz.ntmps230
  go_wp2_with fail
  go_ret
  exact ⟨rfl, rfl⟩
 | false =>
  cases h1 : op == 1 with
  | true =>
   go_enter Tryz.func230, Tryz.ntmps230
   go_wp2_with fail
   go_ret
   exact ⟨rfl, rfl⟩
  | false =>
   cases h9 : op == 9 with
   | true =>
    go_enter Tryz.func230, Tryz.ntmps230
    go_wp2_with fail
    go_ret
    exact ⟨rfl, rfl⟩
   | false =>
    cases h16 : op == 16 with
    | true =>
     go_enter Tryz.func230, Tryz.ntmps230
     go_wp2_with fail
     go_ret
     exact ⟨rfl, rfl⟩
    | false =>
     cases h15 : op == 15 with
     | true =>
      go_enter Tryz.func230, Tryz.ntmps230
      go_wp2_with fail
      go_ret
      exact ⟨rfl, rfl⟩
     | false =>
      go_enter Tryz.func230, Tryz.ntmps230
      go_wp2_with fail
      go_ret
      exact ⟨rfl, rfl⟩
def wantK (p : List LClass) (ws : List Int) (stk : List LVal) (k : Nat) : Bool := (List.range k).all fun j => belowB p (stk.getD (stk.length - ws.length + j) nothV).kind (ws.getD j 0)
def readyB (p : List LClass) (m : LMeth) (loc stk : List LVal) (op a b : Int) : Bool :=
 decide ((wantsM p m.ret op a b).length ≤ stk.length) && wantK p (wantsM p m.ret op a b) stk (wantsM p m.ret op a b).length && !(op == 1 && (loc.getD a.toNat nothV).kind == 2) && (!roomB op || decide ((stk.length : Int) < m.stack))
end Go.Proofs.YtiiokkllmchohaaGreat
/- The machine that asks: isReady, walked. -/
namespace Go.Proofs.YtiiokkllmchohaaGreat
open Go.RowKit Go.Shelf
attribute [local go_sem ↓] Go.wp_at_zero Go.wp_at_succ
attribute [local go_sem] frz_drew

def ReadyR (b : Bool) (w w' : World) (e : Ending) : Prop := e = .returned (.bool b) ∧ Below w.heap.size w w'
theorem wantK_no {p : List LClass} {ws : List Int} {stk : List LVal} {k : Nat} (h : wantK p ws stk (k + 1) = false) (hk : k < ws.length) : wantK p ws stk ws.length = false := by
 unfold wantK at *
 rw [List.all_eq_false] at *
 obtain ⟨j, hj, hb⟩ := h
 exact ⟨j, List.mem_range.2 (by have := List.mem_range.1 hj; omega), hb⟩
theorem wantK_succ (p : List LClass) (ws : List Int) (stk : List LVal) (k : Nat) : wantK p ws stk (k + 1) = (wantK p ws stk k && belowB p (stk.getD (stk.length - ws.length + k) nothV).kind (ws.getD k 0)) := by
 unfold wantK
 rw [List.range_succ, List.all_append]; simp
set_option maxHeartbeats 2000000 in
set_option maxRecDepth 100000 in
theorem ma_isReady (p : List LClass) (vp : Value) (w0 w : World) (mb fb : Nat) (A : List Nat) (m : LMeth) (va vco vf : Value) (pc : Int) (vl : Value) (loc : List LVal) (vs : Value) (stk : List LVal) (op a b : Int) (h : FrA w w0.heap.size A fb (methCs m va vco vf) pc vl loc vs stk) (I : InsOk p m op a b) (G : Good p) (hp : RProg w0 vp p) (hb0 : Below w0.heap.size w0 w) (hc : w.cell? ⟨mb, 0, none⟩ = some vp) (hal : ∀ a b, (methOf p a b).isSome = true → 0 ≤ a → a < (p.length : Int) → (findM p a b).args.length ≤ 4194303)
  (hwt : ∀ t ∈ wantsM p m.ret op a b, tyOk p.length t) (hwl : (wantsM p m.ret op a b).length ≤ 4194304) (hkt : ∀ v ∈ stk, tyOk p.length v.kind) (hsl : stk.length ≤ 4194304) (hll : loc.length ≤ 4194304) (hlm : m.locals = (loc.length : Int)) :
  Calls Tryz.prog 212 #[.pointer (some ⟨mb, 0, none⟩), .pointer (some ⟨fb, 0, none⟩), .agg #[.int .i64 op, .int .i64 a, .int .i64 b]] w fun e w' => ReadyR (readyB p m loc stk op a b) w w' e := by
 have HP := hide hp
 have hzp := Nat.le_trans (szProg_len p) G.sz
 have hbel := box_below w (.cells #[.int .i64 op, .int .i64 a, .int .i64 b] 60)
 have B0 := Blk.new w #[.int .i64 op, .int .i64 a, .int .i64 b] 60
 have hr : w.cell? ⟨fb, 2, none⟩ = some (.int .i64 m.ret) := h.blk.cell 2
 have hk4 : w.cell? ⟨fb, 4, none⟩ = some (.int .i64 m.stack) := h.blk.cell 4
 have HB : Hid (readyB p m loc stk op a b = (decide ((wantsM p m.ret op a b).length ≤ stk.length) && wantK p (wantsM p m.ret op a b) stk (wantsM p m.ret op a b).length && !(op == 1 && (loc.getD a.toNat nothV).kind == 2) && (!roomB op || decide ((stk.length : Int) < m.stack)))) := rfl
 obtain ⟨rb, hrb⟩ : ∃ rb, rb = readyB p m loc stk op a b := ⟨_, rfl⟩
 rw [← hrb] at HB ⊢
 clear hrb
 obtain ⟨pa, _, _, pcap, rfl, _⟩ := hp
 obtain ⟨sa, scap, rfl⟩ := own_form h.st
 have c9 := h.c7.2.2
 have c8 := h.c7.2.1
 have k1 := Keeps.of_below hbel
 have hbW := hb0.trans (hbel.mono hb0.size)
 go_enter Tryz.func212, Tryz.ntmps212
 have i0 : (w.alloc (.cells #[.int .i64 op, .int .i64 a, .int .i64 b] 60)).cell? ⟨w.heap.size, 0, none⟩ = some (.int .i64 op) := B0.cell 0
 have i1 : (w.alloc (.cells #[.int .i64 op, .int .i64 a, .int .i64 b] 60)).cell? ⟨w.heap.size, 1, none⟩ = some (.int .i64 a) := B0.cell 1
 have i2 : (w.alloc (.cells #[.int .i64 op, .int .i64 a, .int .i64 b] 60)).cell? ⟨w.heap.size, 2, none⟩ = some (.int .i64 b) := B0.cell 2
 go_wp2_with fail
 have hcW := k1 _ _ hc
 have hrW := k1 _ _ hr
 generalize w.alloc _ = W at *
 refine (ma_wants p _ w0 W mb fb m op a b I G (unhide HP) hbW hcW hrW hal).mono ?_
 rintro e w1 ⟨v', rfl, hown, hb1⟩
 have hbw1 := hbel.trans (hb1.mono hbel.size)
 have kw := Keeps.of_below hbw1
 have kW := Keeps.of_below hb1
 have d9 := kw _ _ c9
 have d8 := kw _ _ c8
 have d4 := kw _ _ hk4
 have dp := kw _ _ hc
 have j0 := kW _ _ i0
 have j1 := kW _ _ i1
 obtain ⟨ta, tcap, rfl⟩ := own_form hown
 have h1 := h.below hbw1 (Nat.le_refl _)
 generalize hws : wantsM p m.ret op a b = ws at *
 clear hws
 have HS := hide h1
 have HOW := hide hown
 have HWT := hide hwt
 have HKT := hide hkt
 have HB1 := hide hb1
 clear i0 i1 i2 k1 kw kW c9 c8 hr hrW hc hcW h h1 hown hwt hkt B0 hb1
 by_cases hle : ws.length ≤ stk.length
 ·have hsub : (stk.length : Int) - (ws.length : Int) = ((stk.length - ws.length : Nat) : Int) := by omega
  have hnn : ¬ ((stk.length - ws.length : Nat) : Int) < 0 := by omega
  have hwr : IntKind.i64.wrap ((stk.length - ws.length : Nat) : Int) = ((stk.length - ws.length : Nat) : Int) := by rw [IntKind.wrap_i64]; omega
  have HLE := hide hle
  clear hle
  go_wp2_with fail
  go_loopw [27] (fun i wr => ∃ (k : Nat), k ≤ ws.length ∧ i = .int .i64 k ∧ wantK p ws stk k = true ∧ Below w1.heap.size w1 wr) (fun i _ => ws.length - (intOf i).toNat)
  case atStart => exact ⟨0, Nat.zero_le _, rfl, rfl, Below.refl _ _⟩
  case round =>
   obtain ⟨k, hk, rfl, hwk, hbr⟩ := hrel
   have HWK := hide hwk
   clear hwk
   have hle := unhide HLE
   have kr := Keeps.of_below hbr
   have e9 := kr _ _ d9
   have e8 := kr _ _ d8
   have e4 := kr _ _ d4
   have ep := kr _ _ dp
   have f0 := kr _ _ j0
   have f1 := kr _ _ j1
   have hbz := hbw1.trans (hbr.mono hbw1.size)
   have HRP := hide (prog_keep (Keeps.of_below (hb0.trans (hbz.mono hb0.size))) (unhide HP))
   by_cases hlt : k < ws.length
   ·obtain ⟨g, cap, hge, hcap, _, hrd⟩ := own_read (unhide HOW) (by omega)
    simp only [Value.slice.injEq, true_and] at hge
    obtain ⟨rfl, rfl⟩ := hge
    obtain ⟨sg, cap2, hge2, hcap2, _, hrd2⟩ := own_read (unhide HS).st (by omega)
    simp only [Value.slice.injEq, true_and] at hge2
    obtain ⟨rfl, rfl⟩ := hge2
    obtain ⟨t, ht⟩ : ∃ t, ws[k]? = some t := ⟨_, List.getElem?_eq_getElem hlt⟩
    obtain ⟨n, hn⟩ : ∃ n, n = stk.length - ws.length + k := ⟨_, rfl⟩
    have hnl : n < stk.length := by omega
    obtain ⟨u, hu⟩ : ∃ u, stk[n]? = some u := ⟨_, List.getElem?_eq_getElem hnl⟩
    have r0 := kr _ _ (show w1.cell? ⟨g, k, none⟩ = some (.int .i64 t) by rw [hrd _ (by omega), List.getElem?_map, ht]; rfl)
    have r1 := kr _ _ (show w1.cell? ⟨sg, n * 3, none⟩ = some (.int .i64 u.kind) by rw [hrd2 _ (by omega)]; exact encL_get A _ _ u hu 0 (by omega))
    have ht1 : tyOk p.length t := (unhide HWT) t (List.mem_of_getElem? ht)
    have hu1 : tyOk p.length u.kind := (unhide HKT) u (List.mem_of_getElem? hu)
    have HKS : Hid (wantK p ws stk (k + 1) = belowB p u.kind t) := by
     show _ = _
     rw [wantK_succ, unhide HWK, ← hn, List.getD_eq_getElem?_getD, hu, List.getD_eq_getElem?_getD, ht]; rfl
    have k0 : (0 : Int) ≤ (k : Int) := by omega
    have k1 : (k : Int) < (ws.length : Int) := by omega
    have hadd : ((stk.length - ws.length : Nat) : Int) + (k : Int) = (n : Int) := by omega
    have hwn : IntKind.i64.wrap (n : Int) = (n : Int) := by rw [IntKind.wrap_i64]; omega
    have n0 : (0 : Int) ≤ (n : Int) := by omega
    have n1 : (n : Int) < (stk.length : Int) := by omega
    have HHN := hide hn
    clear hrd hrd2 ht hu hn hle kr
    go_wp2_with fail
    refine wp_region_noPanic ?_
    refine wp_region_held_drew (S := (fun w' => w'.cell? ⟨mb, 0, none⟩ = some (.slice pa p.length pcap) ∧ w'.cell? ⟨fb, 9, none⟩ = some (.slice (some ⟨sg, 0, none⟩) stk.length scap) ∧ w'.cell? ⟨sg, n * 3, none⟩ = some (.int .i64 u.kind))) (by kernel_rfl) ?_ (fun hHeld => ?_)
    ·exact ⟨ep, e9, r1⟩
    refine take_x (some 32) 0 rfl rfl ?_
    refine take_x (some 33) 1 rfl rfl ?_
    refine take_x (some 34) 2 rfl rfl ?_
    refine take_x (some 35) 3 rfl rfl ?_
    refine take_x (some 36) 4 rfl rfl ?_
    refine take_x (some 37) 5 rfl rfl ?_
    refine take_x (some 38) 6 rfl rfl ?_
    refine take_x (some 39) 7 rfl rfl ?_
    refine take_x (some 40) 8 rfl rfl ?_
    refine take_x (some 41) 9 rfl rfl ?_
    refine take_x (some 42) 10 rfl rfl ?_
    refine take_x (some 43) 11 rfl rfl ?_
    refine take_x (some 44) 12 rfl rfl ?_
    refine take_x (some 45) 13 rfl rfl ?_
    refine take_x (some 46) 14 rfl rfl ?_
    refine wpAnyH_ready (rs := [15]) (by kernel_rfl) (by simp) ?_
    refine AllReadyH.cons rfl (fun K hK => ?_) AllReadyH.nil
    go_simp
    refine (code_kbelow p _ u.kind t _ (prog_keep (Keeps.of_below (Below.refl wr.heap.size wr).drew) (unhide HRP)) G.sup hzp hu1 ht1).mono ?_
    rintro e w2 ⟨rfl, hb2⟩
    have hb2' : Below wr.heap.size wr w2 := ⟨hb2.os, hb2.tape, hb2.output, hb2.size, hb2.block⟩
    have k2 := Keeps.of_below hb2'
    rw [← unhide HKS]
    have HS2 := hide (And.intro (k2 _ _ ep) (And.intro (k2 _ _ e9) (k2 _ _ r1)))
    have hb12 := hbr.trans (hb2'.mono hbr.size)
    cases hq : wantK p ws stk (k + 1) with
    | true =>
     have HQ := hide hq
     clear hq
     go_wp2_with fail
     refine hK.out _ _ (unhide HS2) (fun hHeld => ?_)
     clear hK K
     try simp only [Act.put, List.setIfInBounds_toArray, List.set_cons_zero, List.set_cons_succ]
     refine take_x (some 48) 16 rfl rfl ?_
     refine wpAnyH_done (by kernel_rfl) ?_ _
     refine NoPanic.normal ?_
     go_wp2_with fail
     refine ⟨⟨k + 1, by omega, by go_num, unhide HQ, hb12⟩, by simp [intOf]; omega⟩
    | false =>
     have HF : Hid (ReadyR rb w w2 (.returned (.bool false))) := by
      refine ⟨?_, hbw1.trans (hb12.mono hbw1.size)⟩
      rw [unhide HB, wantK_no hq hlt]; simp
     clear hq
     go_wp2_with fail
     refine hK.out _ _ (unhide HS2) (fun hHeld => ?_)
     clear hK K
     try simp only [Act.put, List.setIfInBounds_toArray, List.set_cons_zero, List.set_cons_succ]
     refine take_x (some 48) 16 rfl rfl ?_
     refine wpAnyH_done (by kernel_rfl) ?_ _
     refine NoPanic.normal ?_
     go_wp2_with fail
     go_ret
     exact unhide HF
   ·obtain rfl : k = ws.length := by omega
    have HB2 : Hid (rb = (!(op == 1 && (loc.getD a.toNat nothV).kind == 2) && (!roomB op || decide ((stk.length : Int) < m.stack)))) := by
     show _ = _
     rw [unhide HB, decide_eq_true hle, unhide HWK]; simp
    clear hle HLE HWK
    cases hop : op == 1 with
    | false =>
     have HB3 : Hid (rb = (!roomB op || decide ((stk.length : Int) < m.stack))) := by
      show _ = _
      rw [unhide HB2, hop]; simp
     go_wp2_with fail
     refine wp_region_noPanic ?_
     refine wp_region_held_drew (S := (fun w' => w'.cell? ⟨w.heap.size, 0, none⟩ = some (.int .i64 op))) (by kernel_rfl) ?_ (fun hHeld => ?_)
     ·exact f0
     refine take_x (some 50) 0 rfl rfl ?_
     refine take_x (some 51) 1 rfl rfl ?_
     refine take_x (some 52) 2 rfl rfl ?_
     refine take_x (some 53) 3 rfl rfl ?_
     refine take_d (some 54) (i := 4) (v := undef) rfl rfl (by kernel_rfl) (by kernel_rfl) (by kernel_rfl) (fun _ _ _ h => h) (Or.inr ⟨by rfl, rfl⟩) (by assumption) ?_
     try simp only [Act.put, List.setIfInBounds_toArray, List.set_cons_zero, List.set_cons_succ]
     refine take_d (some 55) (i := 5) (v := undef) rfl rfl (by kernel_rfl) (by kernel_rfl) (by kernel_rfl) (fun _ _ _ h => h) (Or.inr ⟨by rfl, rfl⟩) (by assumption) ?_
     try simp only [Act.put, List.setIfInBounds_toArray, List.set_cons_zero, List.set_cons_succ]
     refine take_d (some 56) (i := 6) (v := undef) rfl rfl (by kernel_rfl) (by kernel_rfl) (by kernel_rfl) (fun _ _ _ h => h) (Or.inr ⟨by rfl, rfl⟩) (by assumption) ?_
     try simp only [Act.put, List.setIfInBounds_toArray, List.set_cons_zero, List.set_cons_succ]
     refine take_d (some 57) (i := 7) (v := undef) rfl rfl (by kernel_rfl) (by kernel_rfl) (by kernel_rfl) (fun _ _ _ h => h) (Or.inr ⟨by rfl, rfl⟩) (by assumption) ?_
     try simp only [Act.put, List.setIfInBounds_toArray, List.set_cons_zero, List.set_cons_succ]
     refine take_d (some 58) (i := 8) (v := undef) rfl rfl (by kernel_rfl) (by kernel_rfl) (by kernel_rfl) (fun _ _ _ h => h) (Or.inr ⟨by rfl, rfl⟩) (by assumption) ?_
     try simp only [Act.put, List.setIfInBounds_toArray, List.set_cons_zero, List.set_cons_succ]
     refine take_d (some 59) (i := 9) (v := undef) rfl rfl (by kernel_rfl) (by kernel_rfl) (by kernel_rfl) (fun _ _ _ h => h) (Or.inr ⟨by rfl, rfl⟩) (by assumption) ?_
     try simp only [Act.put, List.setIfInBounds_toArray, List.set_cons_zero, List.set_cons_succ]
     refine take_d (some 60) (i := 10) (v := undef) rfl rfl (by kernel_rfl) (by kernel_rfl) (by kernel_rfl) (fun _ _ _ h => h) (Or.inr ⟨by rfl, rfl⟩) (by assumption) ?_
     try simp only [Act.put, List.setIfInBounds_toArray, List.set_cons_zero, List.set_cons_succ]
     refine take_d (some 61) (i := 11) (v := undef) rfl rfl (by kernel_rfl) (by kernel_rfl) (by kernel_rfl) (fun _ _ _ h => h) (Or.inr ⟨by rfl, rfl⟩) (by assumption) ?_
     try simp only [Act.put, List.setIfInBounds_toArray, List.set_cons_zero, List.set_cons_succ]
     refine take_d (some 62) (i := 12) (v := undef) rfl rfl (by kernel_rfl) (by kernel_rfl) (by kernel_rfl) (fun _ _ _ h => h) (Or.inr ⟨by rfl, rfl⟩) (by assumption) ?_
     try simp only [Act.put, List.setIfInBounds_toArray, List.set_cons_zero, List.set_cons_succ]
     refine take_d (some 63) (i := 13) (v := undef) rfl rfl (by kernel_rfl) (by kernel_rfl) (by kernel_rfl) (fun _ _ _ h => h) (Or.inr ⟨by rfl, rfl⟩) (by assumption) ?_
     try simp only [Act.put, List.setIfInBounds_toArray, List.set_cons_zero, List.set_cons_succ]
     refine take_x (some 64) 14 rfl rfl ?_
     refine wpAnyH_done (by kernel_rfl) ?_ _
     refine NoPanic.normal ?_
     go_wp2_with fail
     refine wp_region_noPanic ?_
     refine wp_region_held_drew (S := (fun w' => w'.cell? ⟨w.heap.size, 0, none⟩ = some (.int .i64 op) ∧ w'.cell? ⟨fb, 9, none⟩ = some (.slice sa stk.length scap) ∧ w'.cell? ⟨fb, 4, none⟩ = some (.int .i64 m.stack))) (by kernel_rfl) ?_ (fun hHeld => ?_)
     ·exact ⟨f0, e9, e4⟩
     refine take_x (some 65) 0 rfl rfl ?_
     refine take_x (some 66) 1 rfl rfl ?_
     refine wpAnyH_ready (rs := [2]) (by kernel_rfl) (by simp) ?_
     refine AllReadyH.cons rfl (fun K hK => ?_) AllReadyH.nil
     go_simp
     refine (ma_needsRoom op _).mono ?_
     rintro e w5 ⟨rfl, rfl⟩
     cases hrm : roomB op with
     | true =>
      have HF : Hid (ReadyR rb w wr.drew.drew (.returned (.bool (decide ((stk.length : Int) < m.stack))))) := by
       refine ⟨?_, hbz.drew.drew⟩
       rw [unhide HB3, hrm]; simp
      clear hrm
      go_wp2_with fail
      refine hK.out _ _ ⟨f0, e9, e4⟩ (fun hHeld => ?_)
      clear hK K
      try simp only [Act.put, List.setIfInBounds_toArray, List.set_cons_zero, List.set_cons_succ]
      refine take_x (some 68) 3 rfl rfl ?_
      refine take_x (some 69) 4 rfl rfl ?_
      refine take_x (some 70) 5 rfl rfl ?_
      refine take_x (some 71) 6 rfl rfl ?_
      refine take_x (some 72) 7 rfl rfl ?_
      refine take_x (some 73) 8 rfl rfl ?_
      refine take_x (some 74) 9 rfl rfl ?_
      refine take_x (some 75) 10 rfl rfl ?_
      refine take_x (some 76) 11 rfl rfl ?_
      refine take_x (some 77) 12 rfl rfl ?_
      refine take_x (some 78) 13 rfl rfl ?_
      refine take_x (some 79) 14 rfl rfl ?_
      refine take_x (some 80) 15 rfl rfl ?_
      refine take_x (some 81) 16 rfl rfl ?_
      refine take_x (some 6) 17 rfl rfl ?_
      refine wpAnyH_done (by kernel_rfl) ?_ _
      refine NoPanic.normal ?_
      go_wp2_with fail
      go_ret
      exact unhide HF
     | false =>
      have HF : Hid (ReadyR rb w wr.drew.drew (.returned (.bool true))) := by
       refine ⟨?_, hbz.drew.drew⟩
       rw [unhide HB3, hrm]; simp
      clear hrm
      go_wp2_with fail
      refine hK.out _ _ ⟨f0, e9, e4⟩ (fun hHeld => ?_)
      clear hK K
      try simp only [Act.put, List.setIfInBounds_toArray, List.set_cons_zero, List.set_cons_succ]
      refine take_x (some 68) 3 rfl rfl ?_
      refine take_x (some 69) 4 rfl rfl ?_
      refine take_d (some 70) (i := 5) (v := undef) rfl rfl (by kernel_rfl) (by kernel_rfl) (by kernel_rfl) (fun _ _ _ h => h) (Or.inr ⟨by rfl, rfl⟩) (by assumption) ?_
      try simp only [Act.put, List.setIfInBounds_toArray, List.set_cons_zero, List.set_cons_succ]
      refine take_d (some 71) (i := 6) (v := undef) rfl rfl (by kernel_rfl) (by kernel_rfl) (by kernel_rfl) (fun _ _ _ h => h) (Or.inr ⟨by rfl, rfl⟩) (by assumption) ?_
      try simp only [Act.put, List.setIfInBounds_toArray, List.set_cons_zero, List.set_cons_succ]
      refine take_d (some 72) (i := 7) (v := undef) rfl rfl (by kernel_rfl) (by kernel_rfl) (by kernel_rfl) (fun _ _ _ h => h) (Or.inr ⟨by rfl, rfl⟩) (by assumption) ?_
      try simp only [Act.put, List.setIfInBounds_toArray, List.set_cons_zero, List.set_cons_succ]
      refine take_d (some 73) (i := 8) (v := undef) rfl rfl (by kernel_rfl) (by kernel_rfl) (by kernel_rfl) (fun _ _ _ h => h) (Or.inr ⟨by rfl, rfl⟩) (by assumption) ?_
      try simp only [Act.put, List.setIfInBounds_toArray, List.set_cons_zero, List.set_cons_succ]
      refine take_d (some 74) (i := 9) (v := undef) rfl rfl (by kernel_rfl) (by kernel_rfl) (by kernel_rfl) (fun _ _ _ h => h) (Or.inr ⟨by rfl, rfl⟩) (by assumption) ?_
      try simp only [Act.put, List.setIfInBounds_toArray, List.set_cons_zero, List.set_cons_succ]
      refine take_d (some 75) (i := 10) (v := undef) rfl rfl (by kernel_rfl) (by kernel_rfl) (by kernel_rfl) (fun _ _ _ h => h) (Or.inr ⟨by rfl, rfl⟩) (by assumption) ?_
      try simp only [Act.put, List.setIfInBounds_toArray, List.set_cons_zero, List.set_cons_succ]
      refine take_d (some 76) (i := 11) (v := undef) rfl rfl (by kernel_rfl) (by kernel_rfl) (by kernel_rfl) (fun _ _ _ h => h) (Or.inr ⟨by rfl, rfl⟩) (by assumption) ?_
      try simp only [Act.put, List.setIfInBounds_toArray, List.set_cons_zero, List.set_cons_succ]
      refine take_d (some 77) (i := 12) (v := undef) rfl rfl (by kernel_rfl) (by kernel_rfl) (by kernel_rfl) (fun _ _ _ h => h) (Or.inr ⟨by rfl, rfl⟩) (by assumption) ?_
      try simp only [Act.put, List.setIfInBounds_toArray, List.set_cons_zero, List.set_cons_succ]
      refine take_d (some 78) (i := 13) (v := undef) rfl rfl (by kernel_rfl) (by kernel_rfl) (by kernel_rfl) (fun _ _ _ h => h) (Or.inr ⟨by rfl, rfl⟩) (by assumption) ?_
      try simp only [Act.put, List.setIfInBounds_toArray, List.set_cons_zero, List.set_cons_succ]
      refine take_d (some 79) (i := 14) (v := undef) rfl rfl (by kernel_rfl) (by kernel_rfl) (by kernel_rfl) (fun _ _ _ h => h) (Or.inr ⟨by rfl, rfl⟩) (by assumption) ?_
      try simp only [Act.put, List.setIfInBounds_toArray, List.set_cons_zero, List.set_cons_succ]
      refine take_d (some 80) (i := 15) (v := undef) rfl rfl (by kernel_rfl) (by kernel_rfl) (by kernel_rfl) (fun _ _ _ h => h) (Or.inr ⟨by rfl, rfl⟩) (by assumption) ?_
      try simp only [Act.put, List.setIfInBounds_toArray, List.set_cons_zero, List.set_cons_succ]
      refine take_x (some 81) 16 rfl rfl ?_
      refine take_x (some 6) 17 rfl rfl ?_
      refine wpAnyH_done (by kernel_rfl) ?_ _
      refine NoPanic.normal ?_
      go_wp2_with fail
      go_ret
      exact unhide HF
    | true =>
     obtain rfl : op = 1 := by simpa using hop
     obtain ⟨a0, a1⟩ := I.loc (.inl rfl)
     obtain ⟨ka, rfl⟩ : ∃ ka : Nat, a = (ka : Int) := ⟨a.toNat, by omega⟩
     have hka : ka < loc.length := by omega
     obtain ⟨lg, lcap, rfl, hlc, _, hrdl⟩ := own_read (unhide HS).lo (by omega)
     obtain ⟨x, hx⟩ : ∃ x, loc[ka]? = some x := ⟨_, List.getElem?_eq_getElem hka⟩
     have r1 := kr _ _ (show w1.cell? ⟨lg, ka * 3, none⟩ = some (.int .i64 x.kind) by rw [hrdl _ (by omega)]; exact encL_get A _ _ x hx 0 (by omega))
     have hgx : loc.getD (ka : Int).toNat nothV = x := by rw [Int.toNat_natCast, List.getD_eq_getElem?_getD, hx]; rfl
     have HB4 : Hid (rb = (!(x.kind == 2) && (!roomB 1 || decide ((stk.length : Int) < m.stack)))) := by
      show _ = _
      rw [unhide HB2, hgx]; simp
     have la0 : (0 : Int) ≤ (ka : Int) := by omega
     have la1 : (ka : Int) < (loc.length : Int) := by omega
     clear hgx hx hrdl HB2 hop hka
     cases hxk : x.kind == 2 with
     | true =>
      have HF : Hid (ReadyR rb w wr.drew (.returned (.bool false))) := by
       refine ⟨?_, hbz.drew⟩
       rw [unhide HB4, hxk]; simp
      go_wp2_with fail
      refine wp_region_noPanic ?_
      refine wp_region_held_drew (S := (fun w' => w'.cell? ⟨w.heap.size, 0, none⟩ = some (.int .i64 1) ∧ w'.cell? ⟨w.heap.size, 1, none⟩ = some (.int .i64 (ka : Int)) ∧ w'.cell? ⟨fb, 8, none⟩ = some (.slice (some ⟨lg, 0, none⟩) loc.length lcap) ∧ w'.cell? ⟨lg, ka * 3, none⟩ = some (.int .i64 x.kind))) (by kernel_rfl) ?_ (fun hHeld => ?_)
      ·exact ⟨f0, f1, e8, r1⟩
      refine take_x (some 50) 0 rfl rfl ?_
      refine take_x (some 51) 1 rfl rfl ?_
      refine take_x (some 52) 2 rfl rfl ?_
      refine take_x (some 53) 3 rfl rfl ?_
      refine take_x (some 54) 4 rfl rfl ?_
      refine take_x (some 55) 5 rfl rfl ?_
      refine take_x (some 56) 6 rfl rfl ?_
      refine take_x (some 57) 7 rfl rfl ?_
      refine take_x (some 58) 8 rfl rfl ?_
      refine take_x (some 59) 9 rfl rfl ?_
      refine take_x (some 60) 10 rfl rfl ?_
      refine take_x (some 61) 11 rfl rfl ?_
      refine take_x (some 62) 12 rfl rfl ?_
      refine take_x (some 63) 13 rfl rfl ?_
      refine take_x (some 64) 14 rfl rfl ?_
      refine wpAnyH_done (by kernel_rfl) ?_ _
      refine NoPanic.normal ?_
      go_wp2_with fail
      go_ret
      exact unhide HF
     | false =>
      have HB3 : Hid (rb = (!roomB 1 || decide ((stk.length : Int) < m.stack))) := by
       show _ = _
       rw [unhide HB4, hxk]; simp
      go_wp2_with fail
      refine wp_region_noPanic ?_
      refine wp_region_held_drew (S := (fun w' => w'.cell? ⟨w.heap.size, 0, none⟩ = some (.int .i64 1) ∧ w'.cell? ⟨w.heap.size, 1, none⟩ = some (.int .i64 (ka : Int)) ∧ w'.cell? ⟨fb, 8, none⟩ = some (.slice (some ⟨lg, 0, none⟩) loc.length lcap) ∧ w'.cell? ⟨lg, ka * 3, none⟩ = some (.int .i64 x.kind))) (by kernel_rfl) ?_ (fun hHeld => ?_)
      ·exact ⟨f0, f1, e8, r1⟩
      refine take_x (some 50) 0 rfl rfl ?_
      refine take_x (some 51) 1 rfl rfl ?_
      refine take_x (some 52) 2 rfl rfl ?_
      refine take_x (some 53) 3 rfl rfl ?_
      refine take_x (some 54) 4 rfl rfl ?_
      refine take_x (some 55) 5 rfl rfl ?_
      refine take_x (some 56) 6 rfl rfl ?_
      refine take_x (some 57) 7 rfl rfl ?_
      refine take_x (some 58) 8 rfl rfl ?_
      refine take_x (some 59) 9 rfl rfl ?_
      refine take_x (some 60) 10 rfl rfl ?_
      refine take_x (some 61) 11 rfl rfl ?_
      refine take_x (some 62) 12 rfl rfl ?_
      refine take_x (some 63) 13 rfl rfl ?_
      refine take_x (some 64) 14 rfl rfl ?_
      refine wpAnyH_done (by kernel_rfl) ?_ _
      refine NoPanic.normal ?_
      go_wp2_with fail
      refine wp_region_noPanic ?_
      refine wp_region_held_drew (S := (fun w' => w'.cell? ⟨w.heap.size, 0, none⟩ = some (.int .i64 1) ∧ w'.cell? ⟨fb, 9, none⟩ = some (.slice sa stk.length scap) ∧ w'.cell? ⟨fb, 4, none⟩ = some (.int .i64 m.stack))) (by kernel_rfl) ?_ (fun hHeld => ?_)
      ·exact ⟨f0, e9, e4⟩
      refine take_x (some 65) 0 rfl rfl ?_
      refine take_x (some 66) 1 rfl rfl ?_
      refine wpAnyH_ready (rs := [2]) (by kernel_rfl) (by simp) ?_
      refine AllReadyH.cons rfl (fun K hK => ?_) AllReadyH.nil
      go_simp
      refine (ma_needsRoom 1 _).mono ?_
      rintro e w5 ⟨rfl, rfl⟩
      cases hrm : roomB 1 with
      | true =>
       have HF : Hid (ReadyR rb w wr.drew.drew (.returned (.bool (decide ((stk.length : Int) < m.stack))))) := by
        refine ⟨?_, hbz.drew.drew⟩
        rw [unhide HB3, hrm]; simp
       clear hrm
       go_wp2_with fail
       refine hK.out _ _ ⟨f0, e9, e4⟩ (fun hHeld => ?_)
       clear hK K
       try simp only [Act.put, List.setIfInBounds_toArray, List.set_cons_zero, List.set_cons_succ]
       refine take_x (some 68) 3 rfl rfl ?_
       refine take_x (some 69) 4 rfl rfl ?_
       refine take_x (some 70) 5 rfl rfl ?_
       refine take_x (some 71) 6 rfl rfl ?_
       refine take_x (some 72) 7 rfl rfl ?_
       refine take_x (some 73) 8 rfl rfl ?_
       refine take_x (some 74) 9 rfl rfl ?_
       refine take_x (some 75) 10 rfl rfl ?_
       refine take_x (some 76) 11 rfl rfl ?_
       refine take_x (some 77) 12 rfl rfl ?_
       refine take_x (some 78) 13 rfl rfl ?_
       refine take_x (some 79) 14 rfl rfl ?_
       refine take_x (some 80) 15 rfl rfl ?_
       refine take_x (some 81) 16 rfl rfl ?_
       refine take_x (some 6) 17 rfl rfl ?_
       refine wpAnyH_done (by kernel_rfl) ?_ _
       refine NoPanic.normal ?_
       go_wp2_with fail
       go_ret
       exact unhide HF
      | false =>
       have HF : Hid (ReadyR rb w wr.drew.drew (.returned (.bool true))) := by
        refine ⟨?_, hbz.drew.drew⟩
        rw [unhide HB3, hrm]; simp
       clear hrm
       go_wp2_with fail
       refine hK.out _ _ ⟨f0, e9, e4⟩ (fun hHeld => ?_)
       clear hK K
       try simp only [Act.put, List.setIfInBounds_toArray, List.set_cons_zero, List.set_cons_succ]
       refine take_x (some 68) 3 rfl rfl ?_
       refine take_x (some 69) 4 rfl rfl ?_
       refine take_d (some 70) (i := 5) (v := undef) rfl rfl (by kernel_rfl) (by kernel_rfl) (by kernel_rfl) (fun _ _ _ h => h) (Or.inr ⟨by rfl, rfl⟩) (by assumption) ?_
       try simp only [Act.put, List.setIfInBounds_toArray, List.set_cons_zero, List.set_cons_succ]
       refine take_d (some 71) (i := 6) (v := undef) rfl rfl (by kernel_rfl) (by kernel_rfl) (by kernel_rfl) (fun _ _ _ h => h) (Or.inr ⟨by rfl, rfl⟩) (by assumption) ?_
       try simp only [Act.put, List.setIfInBounds_toArray, List.set_cons_zero, List.set_cons_succ]
       refine take_d (some 72) (i := 7) (v := undef) rfl rfl (by kernel_rfl) (by kernel_rfl) (by kernel_rfl) (fun _ _ _ h => h) (Or.inr ⟨by rfl, rfl⟩) (by assumption) ?_
       try simp only [Act.put, List.setIfInBounds_toArray, List.set_cons_zero, List.set_cons_succ]
       refine take_d (some 73) (i := 8) (v := undef) rfl rfl (by kernel_rfl) (by kernel_rfl) (by kernel_rfl) (fun _ _ _ h => h) (Or.inr ⟨by rfl, rfl⟩) (by assumption) ?_
       try simp only [Act.put, List.setIfInBounds_toArray, List.set_cons_zero, List.set_cons_succ]
       refine take_d (some 74) (i := 9) (v := undef) rfl rfl (by kernel_rfl) (by kernel_rfl) (by kernel_rfl) (fun _ _ _ h => h) (Or.inr ⟨by rfl, rfl⟩) (by assumption) ?_
       try simp only [Act.put, List.setIfInBounds_toArray, List.set_cons_zero, List.set_cons_succ]
       refine take_d (some 75) (i := 10) (v := undef) rfl rfl (by kernel_rfl) (by kernel_rfl) (by kernel_rfl) (fun _ _ _ h => h) (Or.inr ⟨by rfl, rfl⟩) (by assumption) ?_
       try simp only [Act.put, List.setIfInBounds_toArray, List.set_cons_zero, List.set_cons_succ]
       refine take_d (some 76) (i := 11) (v := undef) rfl rfl (by kernel_rfl) (by kernel_rfl) (by kernel_rfl) (fun _ _ _ h => h) (Or.inr ⟨by rfl, rfl⟩) (by assumption) ?_
       try simp only [Act.put, List.setIfInBounds_toArray, List.set_cons_zero, List.set_cons_succ]
       refine take_d (some 77) (i := 12) (v := undef) rfl rfl (by kernel_rfl) (by kernel_rfl) (by kernel_rfl) (fun _ _ _ h => h) (Or.inr ⟨by rfl, rfl⟩) (by assumption) ?_
       try simp only [Act.put, List.setIfInBounds_toArray, List.set_cons_zero, List.set_cons_succ]
       refine take_d (some 78) (i := 13) (v := undef) rfl rfl (by kernel_rfl) (by kernel_rfl) (by kernel_rfl) (fun _ _ _ h => h) (Or.inr ⟨by rfl, rfl⟩) (by assumption) ?_
       try simp only [Act.put, List.setIfInBounds_toArray, List.set_cons_zero, List.set_cons_succ]
       refine take_d (some 79) (i := 14) (v := undef) rfl rfl (by kernel_rfl) (by kernel_rfl) (by kernel_rfl) (fun _ _ _ h => h) (Or.inr ⟨by rfl, rfl⟩) (by assumption) ?_
       try simp only [Act.put, List.setIfInBounds_toArray, List.set_cons_zero, List.set_cons_succ]
       refine take_d (some 80) (i := 15) (v := undef) rfl rfl (by kernel_rfl) (by kernel_rfl) (by kernel_rfl) (fun _ _ _ h => h) (Or.inr ⟨by rfl, rfl⟩) (by assumption) ?_
       try simp only [Act.put, List.setIfInBounds_toArray, List.set_cons_zero, List.set_cons_succ]
       refine take_x (some 81) 16 rfl rfl ?_
       refine take_x (some 6) 17 rfl rfl ?_
       refine wpAnyH_done (by kernel_rfl) ?_ _
       refine NoPanic.normal ?_
       go_wp2_with fail
       go_ret
       exact unhide HF
 ·have hlt : (stk.length : Int) - (ws.length : Int) < 0 := by omega
  have hwr : IntKind.i64.wrap ((stk.length : Int) - (ws.length : Int)) = (stk.length : Int) - (ws.length : Int) := by rw [IntKind.wrap_i64]; omega
  have HF : Hid (ReadyR rb w w1 (.returned (.bool false))) := by
   refine ⟨?_, hbw1⟩
   rw [unhide HB, decide_eq_false hle]; simp
  clear hle
  go_wp2_with fail
  go_ret
  exact unhide HF
end Go.Proofs.YtiiokkllmchohaaGreat
