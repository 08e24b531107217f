/- The solver: a state is given to an instruction whose state is not above it. -/
import Derived.Test.YtiiokkllmchohaaGreatT15
import Derived.Test.YtiiokkllmchohaaGreatT17
/- SolU -/
namespace Go.Proofs.YtiiokkllmchohaaGreat
open Go.RowKit Go.Shelf
attribute [local go_sem ↓] Go.wp_at_zero Go.wp_at_succ
attribute [local go_sem] frz_drew

def JoinL (p : List LClass) (i : Nat) (g : TSt) (s : SvSt) (bs : Nat) (vp : Value) (mc : List Value) (w w' : World) (e : Ending) : Prop :=
 ((s.st.getD i zeroS).stk.length = g.stk.length → e = .returned (.tuple #[]) ∧ SvAt w' bs vp mc (putP s i (joinS p (s.st.getD i zeroS) g))) ∧ ((s.st.getD i zeroS).stk.length ≠ g.stk.length → e = .panicked (refC 5)) ∧ Mods (fun k => k = bs) w w'
set_option maxHeartbeats 1000000 in
set_option maxRecDepth 100000 in
theorem sv_reach_join (p : List LClass) (i : Nat) (g : TSt) (c : List Value) (w : World) (bs : Nat) (vp : Value) (mc : List Value) (s : SvSt) (h : SvAt w bs vp mc s) (hm : mc.length = 7) (hi : i < 40) (hg : StC g c) (hre : s.re.getD i false = true) (hp : RProg w vp p) (hs : SupOk p p.length) (hz : p.length ≤ 4194304)
  (k k' : Int) (tg : TyS p.length k g) (ti : TyS p.length k' (s.st.getD i zeroS)) (hbl : belowS p g (s.st.getD i zeroS) = false) :
  Calls Tryz.prog 78 #[.pointer (some ⟨bs, 0, none⟩), .int .i64 (i : Int), .agg c.toArray] w fun e w' => JoinL p i g s bs vp mc w w' e := by
 have HP := hide hp
 obtain ⟨pa, _, _, pcap, rfl, _⟩ := hp
 obtain ⟨css, hC, hB⟩ := h
 have hbs := hB.lt
 have hl := hg.len
 have hil : i < s.st.length := by rw [hC.l1]; exact hi
 have hcl : i < css.length := by rw [hC.lc]; exact hi
 have hgi : StC (s.st.getD i zeroS) css[i] := by
  have e : s.st.getD i zeroS = s.st[i] := by rw [List.getD_eq_getElem?_getD, List.getElem?_eq_getElem hil]; rfl
  rw [e]
  exact hC.cs i _ _ (List.getElem?_eq_getElem hil) (List.getElem?_eq_getElem hcl)
 have hsv := fun j v (e : css[i][j]? = some v) => sv_state (vp := .slice pa p.length pcap) hC hm (List.getElem?_eq_getElem hcl) j v e
 have hli := hgi.len
 unfold JoinL
 generalize css[i] = ci at *
 generalize s.st.getD i zeroS = u at *
 have BW := hB.alloc (.cells c.toArray 130)
 have BX := Blk.new w c.toArray 130
 have r0 : (w.alloc (.cells c.toArray 130)).cell? ⟨bs, 688 + i, none⟩ = some (.bool true) := by rw [BW.cell, sv_re hC hm hi, hre]
 have hbw := box_below w (.cells c.toArray 130)
 have HRP := hide (prog_keep (Keeps.of_below hbw) (unhide HP))
 have i0 : (0 : Int) ≤ (i : Int) := by omega
 have i40 : (i : Int) < 40 := by omega
 have hlen : (svCells (.slice pa p.length pcap) mc css s).length = 768 := by
  unfold svCells
  rw [List.length_append, List.length_append, List.length_append, List.length_map, List.length_map, flt_len css hC.all, List.length_cons, hm, hC.lc, hC.l2, hC.l3]
 go_enter Tryz.func78, Tryz.ntmps78
 go_wp2_with fail
 generalize w.alloc _ = W at *
 have c0 : W.cell? ⟨bs, 0, none⟩ = some (.slice pa p.length pcap) := BW.cell 0
 refine wp_region_held_drew (S := (fun w' => Blk w' w.heap.size 130 c ∧ Blk w' bs 134 (svCells (.slice pa p.length pcap) mc css s) ∧ w'.cell? ⟨bs, 0, none⟩ = some (.slice pa p.length pcap))) (by kernel_rfl) ?_ (fun hHeld => ?_)
 ·exact (And.intro BX (And.intro BW c0))
 refine take_d (some 14) (i := 0) (v := .agg c.toArray) rfl rfl (by kernel_rfl) (by kernel_rfl) (by kernel_rfl) (fun _ _ _ h => h) (Or.inl ⟨by rfl, fun w' hSw => exec_load_blk aggSt hSw.1 0 c hl (fun j v e => by simpa using e) rfl rfl⟩) (by assumption) ?_
 try simp only [Act.put, List.setIfInBounds_toArray, List.set_cons_zero, List.set_cons_succ]
 refine take_x (some 15) 1 rfl rfl ?_
 refine take_x (some 16) 2 rfl rfl ?_
 refine take_x (some 17) 3 rfl rfl ?_
 refine take_x (some 18) 4 rfl rfl ?_
 refine take_x (some 19) 5 rfl rfl ?_
 refine take_x (some 20) 6 rfl rfl ?_
 refine take_x (some 21) 7 rfl rfl ?_
 refine take_x (some 22) 8 rfl rfl ?_
 refine take_x (some 23) 9 rfl rfl ?_
 refine take_d (some 24) (i := 10) (v := .agg ci.toArray) rfl rfl (by kernel_rfl) (by kernel_rfl) (by kernel_rfl) (fun _ _ _ h => h) (Or.inl ⟨by rfl, fun w' hSw => exec_load_blk aggSt hSw.2.1 (8 + i * 17) ci hli hsv rfl rfl⟩) (by assumption) ?_
 try simp only [Act.put, List.setIfInBounds_toArray, List.set_cons_zero, List.set_cons_succ]
 refine wpAnyH_ready (rs := [11]) (by kernel_rfl) (by simp) ?_
 refine AllReadyH.cons rfl (fun K hK => ?_) AllReadyH.nil
 go_simp
 refine (st_below p _ g u c ci _ (prog_keep (Keeps.of_below ((Below.refl _ _).drew)) (unhide HRP)) hs hz hg hgi tg.1 tg.2.1 ti.1 ti.2.1).mono ?_
 rintro e w3 ⟨rfl, hb3⟩
 have hb3' : Below W.heap.size W w3 := ⟨hb3.os, hb3.tape, hb3.output, hb3.size, hb3.block⟩
 have hBf := BW.below hb3' BW.lt
 have hXf := BX.below hb3' BX.lt
 have hbw3 := hbw.trans (hb3'.mono hbw.size)
 have HRP3 := hide (prog_keep (Keeps.of_below hbw3) (unhide HP))
 rw [hbl]
 go_wp2_with fail
 refine hK.out _ _ (And.intro hXf (And.intro hBf (hBf.cell 0))) (fun hHeld => ?_)
 clear hK K
 try simp only [Act.put, List.setIfInBounds_toArray, List.set_cons_zero, List.set_cons_succ]
 refine wpAnyH_done (by kernel_rfl) ?_ _
 clear HRP BW BX c0 r0 hbw hb3 hb3'
 go_wp2_with fail
 have c3 : w3.cell? ⟨bs, 0, none⟩ = some (.slice pa p.length pcap) := hBf.cell 0
 refine wp_region_noPanic ?_
 refine wp_region_held_drew (S := (fun w' => Blk w' w.heap.size 130 c ∧ Blk w' bs 134 (svCells (.slice pa p.length pcap) mc css s) ∧ w'.cell? ⟨bs, 0, none⟩ = some (.slice pa p.length pcap))) (by kernel_rfl) ?_ (fun hHeld => ?_)
 ·exact (And.intro hXf (And.intro hBf c3))
 refine take_x (some 27) 0 rfl rfl ?_
 refine take_x (some 28) 1 rfl rfl ?_
 refine take_x (some 29) 2 rfl rfl ?_
 refine take_x (some 30) 3 rfl rfl ?_
 refine take_x (some 31) 4 rfl rfl ?_
 refine take_d (some 32) (i := 5) (v := .agg ci.toArray) rfl rfl (by kernel_rfl) (by kernel_rfl) (by kernel_rfl) (fun _ _ _ h => h) (Or.inl ⟨by rfl, fun w' hSw => exec_load_blk aggSt hSw.2.1 (8 + i * 17) ci hli hsv rfl rfl⟩) (by assumption) ?_
 try simp only [Act.put, List.setIfInBounds_toArray, List.set_cons_zero, List.set_cons_succ]
 refine take_x (some 33) 6 rfl rfl ?_
 refine take_x (some 34) 7 rfl rfl ?_
 refine take_x (some 35) 8 rfl rfl ?_
 refine take_x (some 36) 9 rfl rfl ?_
 refine take_d (some 37) (i := 10) (v := .agg c.toArray) rfl rfl (by kernel_rfl) (by kernel_rfl) (by kernel_rfl) (fun _ _ _ h => h) (Or.inl ⟨by rfl, fun w' hSw => exec_load_blk aggSt hSw.1 0 c hl (fun j v e => by simpa using e) rfl rfl⟩) (by assumption) ?_
 try simp only [Act.put, List.setIfInBounds_toArray, List.set_cons_zero, List.set_cons_succ]
 by_cases hst : u.stk.length = g.stk.length
 ·refine wpAnyH_ready (rs := [11, 15]) (by kernel_rfl) (by simp) ?_
  refine AllReadyH.cons rfl (fun K hK => ?_) (AllReadyH.cons rfl (fun K hK => ?_) AllReadyH.nil)
  ·go_simp
   refine (st_join p _ u g ci c _ (prog_keep (Keeps.of_below ((Below.refl _ _).drew)) (unhide HRP3)) hs hz hgi hg ti.1 ti.2.1 tg.1 tg.2.1).mono ?_
   rintro e w4 ⟨h1, h2, hb4⟩
   obtain ⟨cj, rfl, hJ⟩ := h1 hst
   have hb4' : Below w3.heap.size w3 w4 := ⟨hb4.os, hb4.tape, hb4.output, hb4.size, hb4.block⟩
   have hBg := hBf.below hb4' hBf.lt
   have hXg := hXf.below hb4' hXf.lt
   go_wp2_with fail
   refine hK.out _ _ (And.intro hXg (And.intro hBg (hBg.cell 0))) (fun hHeld => ?_)
   clear hK K
   try simp only [Act.put, List.setIfInBounds_toArray, List.set_cons_zero, List.set_cons_succ]
   refine take_x (some 26) 12 rfl rfl ?_
   refine take_x (some 39) 13 rfl rfl ?_
   refine take_x (some 40) 14 rfl rfl ?_
   refine wpAnyH_ready (rs := [15]) (by kernel_rfl) (by simp) ?_
   refine AllReadyH.cons rfl (fun K hK => ?_) AllReadyH.nil
   go_simp
   have hz4 := hb4'.size
   generalize hV : w4.alloc _ = V
   have hb0 : Below w3.heap.size w3 V := by rw [← hV]; exact hb4'.alloc hb4'.size _
   have B6 : Blk V w4.heap.size 130 zero17 := by rw [← hV]; exact Blk.new w4 zero17.toArray 130
   have BJ := hBg.alloc (.cells zero17.toArray 130)
   have XJ := hXg.alloc (.cells zero17.toArray 130)
   replace BJ : Blk V bs 134 (svCells (.slice pa p.length pcap) mc css s) := by rw [← hV]; exact BJ
   replace XJ : Blk V w.heap.size 130 c := by rw [← hV]; exact XJ
   clear hV
   refine hK.out _ _ (And.intro XJ (And.intro BJ (BJ.cell 0))) (fun hHeld => ?_)
   clear hK K
   try simp only [Act.put, List.setIfInBounds_toArray, List.set_cons_zero, List.set_cons_succ]
   obtain ⟨b6, hb6⟩ : ∃ b, b = w4.heap.size := ⟨_, rfl⟩
   have hb6' : w3.heap.size ≤ b6 := by omega
   rw [← hb6] at B6 ⊢
   clear hBg hXg hb4 hb4' hz4 hb6 h1 h2 hHeld
   refine wpAnyH_ready (rs := [16]) (by kernel_rfl) (by simp) ?_
   refine AllReadyH.cons rfl (fun K hK => ?_) AllReadyH.nil
   refine wp_store_blk aggSt B6 0 cj hJ.len (by simp [zero17]) hJ.one (.tmp 6) (.tmp 39) rfl rfl rfl ?_
   intro w5 hB5 hM5 hs5
   rw [putAt_all (by rw [hJ.len]; rfl)] at hB5
   have lx := hXf.lt
   have lb := hBf.lt
   have XK := XJ.mods hM5 (by omega)
   have BK := BJ.mods hM5 (by omega)
   have hb5 : Below w3.heap.size w3 w5 := hb0.trans (hM5.below hb0.size (fun k hk e => by omega))
   refine hK.out _ _ (And.intro XK (And.intro BK (BK.cell 0))) (fun hHeld => ?_)
   clear hK K
   try simp only [Act.put]
   refine take_x (some 7) 17 rfl rfl ?_ (ha := rfl)
   simp only [Act.put, List.setIfInBounds_toArray]
   refine wpAnyH_done (by kernel_rfl) ?_ _
   refine NoPanic.normal ?_
   clear hHeld XJ BJ B6 hb0 hs5 hM5
   go_wp2_with (first
    | refine wpList_load_blk aggSt hB5 0 cj hJ.len (fun j v e => by simpa using e) (.tmp 6) rfl rfl rfl ?_
    | (refine wpList_store_blk aggSt XK 0 cj hJ.len (by simp [hl]) hJ.one (.tmp 5) (.tmp 44) rfl rfl rfl rfl ?_; intro w6 hB6 hM6 hs6))
   rw [putAt_all (by rw [hJ.len, hl])] at hB6
   have l5 := hB5.lt
   have BX := hB6
   have BW := BK.mods hM6 (by omega)
   have hb6w : Below w.heap.size w w6 := hbw3.trans ((hb5.mono hbw3.size).trans (hM6.below (by have := hb5.size; have := hbw3.size; omega) (fun k hk e => by omega)))
   have HM := hide (bnone (S := fun k => k = bs) hb6w)
   clear hM6 hs6 XK BK hb5 hB5 hB6
   refine wp_region_noPanic ?_
   refine wp_region_held_drew (S := (fun w' => Blk w' w.heap.size 130 cj)) (by kernel_rfl) ?_ (fun hHeld => ?_)
   ·exact BX
   refine take_x (some 45) 0 rfl rfl ?_
   refine take_x (some 46) 1 rfl rfl ?_
   refine take_x (some 47) 2 rfl rfl ?_
   refine take_x (some 48) 3 rfl rfl ?_
   refine take_x (some 49) 4 rfl rfl ?_
   refine take_x (some 50) 5 rfl rfl ?_
   refine take_d (some 51) (i := 6) (v := .agg cj.toArray) rfl rfl (by kernel_rfl) (by kernel_rfl) (by kernel_rfl) (fun _ _ _ h => h) (Or.inl ⟨by rfl, fun w' hSw => exec_load_blk aggSt hSw 0 cj hJ.len (fun j v e => by simpa using e) rfl rfl⟩) (by assumption) ?_
   try simp only [Act.put, List.setIfInBounds_toArray, List.set_cons_zero, List.set_cons_succ]
   refine take_x (some 52) 7 rfl rfl ?_
   refine take_x (some 53) 8 rfl rfl ?_
   refine take_x (some 54) 9 rfl rfl ?_
   refine take_x (some 55) 11 rfl rfl ?_
   refine take_x (some 56) 12 rfl rfl ?_
   refine take_x (some 58) 15 rfl rfl ?_
   refine take_x (some 59) 16 rfl rfl ?_
   refine wpAnyH_ready (rs := [10]) (by kernel_rfl) (by simp) ?_
   refine AllReadyH.cons rfl (fun K hK => ?_) AllReadyH.nil
   refine wp_store_blk aggSt BW.drew (8 + i * 17) cj hJ.len (by rw [hlen]; omega) hJ.one (.tmp 54) (.tmp 51) rfl rfl rfl ?_
   intro w2 hB2 hM2 hs2
   rw [sv_put hC hm hi hJ.len] at hB2
   have hX2 := BX.drew.mods hM2 (by omega)
   have hC2 := hC.setst i hJ
   have hM3 := (unhide HM).drew.trans hM2 (fun _ _ e => e)
   have hB2' : Blk w2 bs 134 (svCells (.slice pa p.length pcap) mc (css.set i cj) { s with st := s.st.set i (joinS p u g) }) := hB2
   have a14 : ∃ b, w2.cell? ⟨bs, 688 + i, none⟩ = some (.bool b) := ⟨_, by rw [hB2'.cell, sv_re hC2 hm hi]⟩
   obtain ⟨b14, a14⟩ := a14
   have f14 := hB2'.frozen (688 + i)
   go_simp
   refine hK.out _ _ hX2 (fun hHeld => ?_)
   clear hK K
   try simp only [Act.put, List.setIfInBounds_toArray, List.set_cons_zero, List.set_cons_succ]
   refine take_x (some 57) 13 rfl rfl ?_
   have hB3 := hB2'.setCell (688 + i) (.bool true)
   rw [sv_setre hC2 hm hi] at hB3
   have hC3 := hC2.setre i true
   have hX3 := hX2.setCell_ne (p := ⟨bs, 688 + i, none⟩) (by dsimp only; omega) (.bool true)
   refine wpAnyH_ready (rs := [14]) (by kernel_rfl) (by simp) ?_
   refine AllReadyH.cons rfl (fun K hK => ?_) AllReadyH.nil
   go_simp
   refine hK.out _ _ hX3 (fun hHeld => ?_)
   clear hK K
   try simp only [Act.put, List.setIfInBounds_toArray, List.set_cons_zero, List.set_cons_succ]
   have hM4 := hM3.setCell (p := ⟨bs, 688 + i, none⟩) (fun _ => rfl) (.bool true)
   generalize w2.setCell _ _ = w7 at *
   refine take_x (some 60) 17 rfl rfl ?_
   have a18 : ∃ b, w7.cell? ⟨bs, 728 + i, none⟩ = some (.bool b) := ⟨_, by rw [hB3.cell, sv_ra hC3 hm hi]⟩
   obtain ⟨b18, a18⟩ := a18
   have f18 := hB3.frozen (728 + i)
   have hB4 := hB3.setCell (728 + i) (.bool true)
   rw [sv_setra hC3 hm hi] at hB4
   have hC4 := hC3.setra i true
   refine wpAnyH_ready (rs := [18]) (by kernel_rfl) (by simp) ?_
   refine AllReadyH.cons rfl (fun K hK => ?_) AllReadyH.nil
   go_simp
   refine hK.out _ _ (hX3.setCell_ne (p := ⟨bs, 728 + i, none⟩) (by dsimp only; omega) (.bool true)) (fun hHeld => ?_)
   clear hK K
   try simp only [Act.put, List.setIfInBounds_toArray, List.set_cons_zero, List.set_cons_succ]
   refine wpAnyH_done (by kernel_rfl) ?_ _
   refine NoPanic.normal ?_
   have HF := hide (And.intro (show SvAt _ bs (.slice pa p.length pcap) mc (putP s i (joinS p u g)) from ⟨_, hC4, hB4⟩) (hM4.setCell (p := ⟨bs, 728 + i, none⟩) (fun _ => rfl) (.bool true)))
   have HST := hide hst
   clear hst
   go_wp2_with fail
   go_end0
   exact ⟨fun _ => ⟨rfl, (unhide HF).1⟩, fun e => absurd (unhide HST) e, (unhide HF).2⟩
  ·go_simp
   have hb0' : Below w3.heap.size w3 (w3.alloc (.cells zero17.toArray 130)) := box_below _ _
   have B6' := Blk.new w3 zero17.toArray 130
   have BJ' := hBf.alloc (.cells zero17.toArray 130)
   have XJ' := hXf.alloc (.cells zero17.toArray 130)
   have hps : RProg (w3.drew.alloc (.cells zero17.toArray 130)) (.slice pa p.length pcap) p := prog_keep (Keeps.of_below hb0'.drew) (unhide HRP3)
   refine hK.out _ _ (And.intro XJ' (And.intro BJ' (BJ'.cell 0))) (fun hHeld => ?_)
   clear hK K
   try simp only [Act.put, List.setIfInBounds_toArray, List.set_cons_zero, List.set_cons_succ]
   refine wpAnyH_ready (rs := [11]) (by kernel_rfl) (by simp) ?_
   refine AllReadyH.cons rfl (fun K hK => ?_) AllReadyH.nil
   go_simp
   refine (st_join p _ u g ci c _ hps hs hz hgi hg ti.1 ti.2.1 tg.1 tg.2.1).mono ?_
   rintro e V ⟨h1, h2, hb4⟩
   obtain ⟨cj, rfl, hJ⟩ := h1 hst
   have hb4' : Below (w3.heap.size + 1) (w3.alloc (.cells zero17.toArray 130)) V := ⟨hb4.os, hb4.tape, hb4.output, by have := hb4.size; simpa using this, fun i hi => hb4.block i (by simpa using hi)⟩
   have hb0 := hb0'.trans (hb4'.mono (by simp))
   have B6 := B6'.below hb4' (by omega)
   have BJ := BJ'.below hb4' (by have := hBf.lt; omega)
   have XJ := XJ'.below hb4' (by have := hXf.lt; omega)
   go_wp2_with fail
   refine hK.out _ _ (And.intro XJ (And.intro BJ (BJ.cell 0))) (fun hHeld => ?_)
   clear hK K
   try simp only [Act.put, List.setIfInBounds_toArray, List.set_cons_zero, List.set_cons_succ]
   refine take_x (some 26) 12 rfl rfl ?_
   refine take_x (some 39) 13 rfl rfl ?_
   refine take_x (some 40) 14 rfl rfl ?_
   obtain ⟨b6, hb6⟩ : ∃ b, b = w3.heap.size := ⟨_, rfl⟩
   have hb6' : w3.heap.size ≤ b6 := by omega
   change Blk V w3.heap.size 130 zero17 at B6
   rw [← hb6] at B6 ⊢
   clear B6' BJ' XJ' hb0' hb4 hb4' hb6 h1 h2 hHeld hps
   refine wpAnyH_ready (rs := [16]) (by kernel_rfl) (by simp) ?_
   refine AllReadyH.cons rfl (fun K hK => ?_) AllReadyH.nil
   refine wp_store_blk aggSt B6 0 cj hJ.len (by simp [zero17]) hJ.one (.tmp 6) (.tmp 39) rfl rfl rfl ?_
   intro w5 hB5 hM5 hs5
   rw [putAt_all (by rw [hJ.len]; rfl)] at hB5
   have lx := hXf.lt
   have lb := hBf.lt
   have XK := XJ.mods hM5 (by omega)
   have BK := BJ.mods hM5 (by omega)
   have hb5 : Below w3.heap.size w3 w5 := hb0.trans (hM5.below hb0.size (fun k hk e => by omega))
   refine hK.out _ _ (And.intro XK (And.intro BK (BK.cell 0))) (fun hHeld => ?_)
   clear hK K
   try simp only [Act.put]
   refine take_x (some 7) 17 rfl rfl ?_ (ha := rfl)
   simp only [Act.put, List.setIfInBounds_toArray]
   refine wpAnyH_done (by kernel_rfl) ?_ _
   refine NoPanic.normal ?_
   clear hHeld XJ BJ B6 hb0 hs5 hM5
   go_wp2_with (first
    | refine wpList_load_blk aggSt hB5 0 cj hJ.len (fun j v e => by simpa using e) (.tmp 6) rfl rfl rfl ?_
    | (refine wpList_store_blk aggSt XK 0 cj hJ.len (by simp [hl]) hJ.one (.tmp 5) (.tmp 44) rfl rfl rfl rfl ?_; intro w6 hB6 hM6 hs6))
   rw [putAt_all (by rw [hJ.len, hl])] at hB6
   have l5 := hB5.lt
   have BX := hB6
   have BW := BK.mods hM6 (by omega)
   have hb6w : Below w.heap.size w w6 := hbw3.trans ((hb5.mono hbw3.size).trans (hM6.below (by have := hb5.size; have := hbw3.size; omega) (fun k hk e => by omega)))
   have HM := hide (bnone (S := fun k => k = bs) hb6w)
   clear hM6 hs6 XK BK hb5 hB5 hB6
   refine wp_region_noPanic ?_
   refine wp_region_held_drew (S := (fun w' => Blk w' w.heap.size 130 cj)) (by kernel_rfl) ?_ (fun hHeld => ?_)
   ·exact BX
   refine take_x (some 45) 0 rfl rfl ?_
   refine take_x (some 46) 1 rfl rfl ?_
   refine take_x (some 47) 2 rfl rfl ?_
   refine take_x (some 48) 3 rfl rfl ?_
   refine take_x (some 49) 4 rfl rfl ?_
   refine take_x (some 50) 5 rfl rfl ?_
   refine take_d (some 51) (i := 6) (v := .agg cj.toArray) rfl rfl (by kernel_rfl) (by kernel_rfl) (by kernel_rfl) (fun _ _ _ h => h) (Or.inl ⟨by rfl, fun w' hSw => exec_load_blk aggSt hSw 0 cj hJ.len (fun j v e => by simpa using e) rfl rfl⟩) (by assumption) ?_
   try simp only [Act.put, List.setIfInBounds_toArray, List.set_cons_zero, List.set_cons_succ]
   refine take_x (some 52) 7 rfl rfl ?_
   refine take_x (some 53) 8 rfl rfl ?_
   refine take_x (some 54) 9 rfl rfl ?_
   refine take_x (some 55) 11 rfl rfl ?_
   refine take_x (some 56) 12 rfl rfl ?_
   refine take_x (some 58) 15 rfl rfl ?_
   refine take_x (some 59) 16 rfl rfl ?_
   refine wpAnyH_ready (rs := [10]) (by kernel_rfl) (by simp) ?_
   refine AllReadyH.cons rfl (fun K hK => ?_) AllReadyH.nil
   refine wp_store_blk aggSt BW.drew (8 + i * 17) cj hJ.len (by rw [hlen]; omega) hJ.one (.tmp 54) (.tmp 51) rfl rfl rfl ?_
   intro w2 hB2 hM2 hs2
   rw [sv_put hC hm hi hJ.len] at hB2
   have hX2 := BX.drew.mods hM2 (by omega)
   have hC2 := hC.setst i hJ
   have hM3 := (unhide HM).drew.trans hM2 (fun _ _ e => e)
   have hB2' : Blk w2 bs 134 (svCells (.slice pa p.length pcap) mc (css.set i cj) { s with st := s.st.set i (joinS p u g) }) := hB2
   have a14 : ∃ b, w2.cell? ⟨bs, 688 + i, none⟩ = some (.bool b) := ⟨_, by rw [hB2'.cell, sv_re hC2 hm hi]⟩
   obtain ⟨b14, a14⟩ := a14
   have f14 := hB2'.frozen (688 + i)
   go_simp
   refine hK.out _ _ hX2 (fun hHeld => ?_)
   clear hK K
   try simp only [Act.put, List.setIfInBounds_toArray, List.set_cons_zero, List.set_cons_succ]
   refine take_x (some 57) 13 rfl rfl ?_
   have hB3 := hB2'.setCell (688 + i) (.bool true)
   rw [sv_setre hC2 hm hi] at hB3
   have hC3 := hC2.setre i true
   have hX3 := hX2.setCell_ne (p := ⟨bs, 688 + i, none⟩) (by dsimp only; omega) (.bool true)
   refine wpAnyH_ready (rs := [14]) (by kernel_rfl) (by simp) ?_
   refine AllReadyH.cons rfl (fun K hK => ?_) AllReadyH.nil
   go_simp
   refine hK.out _ _ hX3 (fun hHeld => ?_)
   clear hK K
   try simp only [Act.put, List.setIfInBounds_toArray, List.set_cons_zero, List.set_cons_succ]
   have hM4 := hM3.setCell (p := ⟨bs, 688 + i, none⟩) (fun _ => rfl) (.bool true)
   generalize w2.setCell _ _ = w7 at *
   refine take_x (some 60) 17 rfl rfl ?_
   have a18 : ∃ b, w7.cell? ⟨bs, 728 + i, none⟩ = some (.bool b) := ⟨_, by rw [hB3.cell, sv_ra hC3 hm hi]⟩
   obtain ⟨b18, a18⟩ := a18
   have f18 := hB3.frozen (728 + i)
   have hB4 := hB3.setCell (728 + i) (.bool true)
   rw [sv_setra hC3 hm hi] at hB4
   have hC4 := hC3.setra i true
   refine wpAnyH_ready (rs := [18]) (by kernel_rfl) (by simp) ?_
   refine AllReadyH.cons rfl (fun K hK => ?_) AllReadyH.nil
   go_simp
   refine hK.out _ _ (hX3.setCell_ne (p := ⟨bs, 728 + i, none⟩) (by dsimp only; omega) (.bool true)) (fun hHeld => ?_)
   clear hK K
   try simp only [Act.put, List.setIfInBounds_toArray, List.set_cons_zero, List.set_cons_succ]
   refine wpAnyH_done (by kernel_rfl) ?_ _
   refine NoPanic.normal ?_
   have HF := hide (And.intro (show SvAt _ bs (.slice pa p.length pcap) mc (putP s i (joinS p u g)) from ⟨_, hC4, hB4⟩) (hM4.setCell (p := ⟨bs, 728 + i, none⟩) (fun _ => rfl) (.bool true)))
   have HST := hide hst
   clear hst
   go_wp2_with fail
   go_end0
   exact ⟨fun _ => ⟨rfl, (unhide HF).1⟩, fun e => absurd (unhide HST) e, (unhide HF).2⟩
 ·refine wpAnyH_ready (rs := [11, 15]) (by kernel_rfl) (by simp) ?_
  refine AllReadyH.cons rfl (fun K hK => ?_) (AllReadyH.cons rfl (fun K hK => ?_) AllReadyH.nil)
  ·go_simp
   refine (st_join p _ u g ci c _ (prog_keep (Keeps.of_below ((Below.refl _ _).drew)) (unhide HRP3)) hs hz hgi hg ti.1 ti.2.1 tg.1 tg.2.1).mono ?_
   rintro e w4 ⟨h1, h2, hb4⟩
   obtain rfl := h2 hst
   have hb4' : Below w3.heap.size w3 w4 := ⟨hb4.os, hb4.tape, hb4.output, hb4.size, hb4.block⟩
   have hBg := hBf.below hb4' hBf.lt
   have hXg := hXf.below hb4' hXf.lt
   go_wp2_with fail
   refine hK.out _ _ (And.intro hXg (And.intro hBg (hBg.cell 0))) (fun hHeld => ?_)
   clear hK K
   try simp only [Act.put, List.setIfInBounds_toArray, List.set_cons_zero, List.set_cons_succ]
   refine take_x (some 26) 12 rfl rfl ?_
   refine take_x (some 39) 13 rfl rfl ?_
   refine take_x (some 40) 14 rfl rfl ?_
   refine wpAnyH_ready (rs := [15]) (by kernel_rfl) (by simp) ?_
   refine AllReadyH.cons rfl (fun K hK => ?_) AllReadyH.nil
   go_simp
   have hz4 := hb4'.size
   generalize hV : w4.alloc _ = V
   have hb0 : Below w3.heap.size w3 V := by rw [← hV]; exact hb4'.alloc hb4'.size _
   have B6 : Blk V w4.heap.size 130 zero17 := by rw [← hV]; exact Blk.new w4 zero17.toArray 130
   have BJ := hBg.alloc (.cells zero17.toArray 130)
   have XJ := hXg.alloc (.cells zero17.toArray 130)
   replace BJ : Blk V bs 134 (svCells (.slice pa p.length pcap) mc css s) := by rw [← hV]; exact BJ
   replace XJ : Blk V w.heap.size 130 c := by rw [← hV]; exact XJ
   clear hV
   refine hK.out _ _ (And.intro XJ (And.intro BJ (BJ.cell 0))) (fun hHeld => ?_)
   clear hK K
   try simp only [Act.put, List.setIfInBounds_toArray, List.set_cons_zero, List.set_cons_succ]
   obtain ⟨b6, hb6⟩ : ∃ b, b = w4.heap.size := ⟨_, rfl⟩
   have hb6' : w3.heap.size ≤ b6 := by omega
   rw [← hb6] at B6 ⊢
   clear hBg hXg hb4 hb4' hz4 hb6 h1 h2 hHeld
   refine wpAnyH_ready (rs := [16]) (by kernel_rfl) (by simp) ?_
   refine AllReadyH.cons rfl (fun K hK => ?_) AllReadyH.nil
   refine wp_store_blk aggSt B6 0 zero17 rfl (by simp [zero17]) zero17_one (.tmp 6) (.tmp 39) rfl rfl rfl ?_
   intro w5 hB5 hM5 hs5
   have lx := hXf.lt
   have lb := hBf.lt
   have XK := XJ.mods hM5 (by omega)
   have BK := BJ.mods hM5 (by omega)
   have hb5 : Below w3.heap.size w3 w5 := hb0.trans (hM5.below hb0.size (fun k hk e => by omega))
   refine hK.out _ _ (And.intro XK (And.intro BK (BK.cell 0))) (fun hHeld => ?_)
   clear hK K
   try simp only [Act.put]
   refine take_x (some 7) 17 rfl rfl ?_ (ha := rfl)
   simp only [Act.put, List.setIfInBounds_toArray]
   refine wpAnyH_done (by kernel_rfl) ?_ _
   refine NoPanic.normal ?_
   have HM := hide (bnone (S := fun k => k = bs) (hbw3.trans (hb5.mono hbw3.size)))
   have HST := hide hst
   clear hHeld XJ BJ B6 hb0 hs5 hM5 hst hB5 XK BK
   go_wp2_with fail
   refine (code_giveUp 5 _).mono ?_
   rintro e w6 ⟨rfl, rfl⟩
   go_wp2_with fail
   exact ⟨rfl, fun e => absurd e (unhide HST), fun _ => rfl, unhide HM⟩
  ·go_simp
   have hb0' : Below w3.heap.size w3 (w3.alloc (.cells zero17.toArray 130)) := box_below _ _
   have B6' := Blk.new w3 zero17.toArray 130
   have BJ' := hBf.alloc (.cells zero17.toArray 130)
   have XJ' := hXf.alloc (.cells zero17.toArray 130)
   have hps : RProg (w3.drew.alloc (.cells zero17.toArray 130)) (.slice pa p.length pcap) p := prog_keep (Keeps.of_below hb0'.drew) (unhide HRP3)
   refine hK.out _ _ (And.intro XJ' (And.intro BJ' (BJ'.cell 0))) (fun hHeld => ?_)
   clear hK K
   try simp only [Act.put, List.setIfInBounds_toArray, List.set_cons_zero, List.set_cons_succ]
   refine wpAnyH_ready (rs := [11]) (by kernel_rfl) (by simp) ?_
   refine AllReadyH.cons rfl (fun K hK => ?_) AllReadyH.nil
   go_simp
   refine (st_join p _ u g ci c _ hps hs hz hgi hg ti.1 ti.2.1 tg.1 tg.2.1).mono ?_
   rintro e V ⟨h1, h2, hb4⟩
   obtain rfl := h2 hst
   have hb4' : Below (w3.heap.size + 1) (w3.alloc (.cells zero17.toArray 130)) V := ⟨hb4.os, hb4.tape, hb4.output, by have := hb4.size; simpa using this, fun i hi => hb4.block i (by simpa using hi)⟩
   have hb0 := hb0'.trans (hb4'.mono (by simp))
   have B6 := B6'.below hb4' (by omega)
   have BJ := BJ'.below hb4' (by have := hBf.lt; omega)
   have XJ := XJ'.below hb4' (by have := hXf.lt; omega)
   go_wp2_with fail
   refine hK.out _ _ (And.intro XJ (And.intro BJ (BJ.cell 0))) (fun hHeld => ?_)
   clear hK K
   try simp only [Act.put, List.setIfInBounds_toArray, List.set_cons_zero, List.set_cons_succ]
   refine take_x (some 26) 12 rfl rfl ?_
   refine take_x (some 39) 13 rfl rfl ?_
   refine take_x (some 40) 14 rfl rfl ?_
   obtain ⟨b6, hb6⟩ : ∃ b, b = w3.heap.size := ⟨_, rfl⟩
   have hb6' : w3.heap.size ≤ b6 := by omega
   change Blk V w3.heap.size 130 zero17 at B6
   rw [← hb6] at B6 ⊢
   clear B6' BJ' XJ' hb0' hb4 hb4' hb6 h1 h2 hHeld hps
   refine wpAnyH_ready (rs := [16]) (by kernel_rfl) (by simp) ?_
   refine AllReadyH.cons rfl (fun K hK => ?_) AllReadyH.nil
   refine wp_store_blk aggSt B6 0 zero17 rfl (by simp [zero17]) zero17_one (.tmp 6) (.tmp 39) rfl rfl rfl ?_
   intro w5 hB5 hM5 hs5
   have lx := hXf.lt
   have lb := hBf.lt
   have XK := XJ.mods hM5 (by omega)
   have BK := BJ.mods hM5 (by omega)
   have hb5 : Below w3.heap.size w3 w5 := hb0.trans (hM5.below hb0.size (fun k hk e => by omega))
   refine hK.out _ _ (And.intro XK (And.intro BK (BK.cell 0))) (fun hHeld => ?_)
   clear hK K
   try simp only [Act.put]
   refine take_x (some 7) 17 rfl rfl ?_ (ha := rfl)
   simp only [Act.put, List.setIfInBounds_toArray]
   refine wpAnyH_done (by kernel_rfl) ?_ _
   refine NoPanic.normal ?_
   have HM := hide (bnone (S := fun k => k = bs) (hbw3.trans (hb5.mono hbw3.size)))
   have HST := hide hst
   clear hHeld XJ BJ B6 hb0 hs5 hM5 hst hB5 XK BK
   go_wp2_with fail
   refine (code_giveUp 5 _).mono ?_
   rintro e w6 ⟨rfl, rfl⟩
   go_wp2_with fail
   exact ⟨rfl, fun e => absurd e (unhide HST), fun _ => rfl, unhide HM⟩
end Go.Proofs.YtiiokkllmchohaaGreat
/- The solver: reach, whole; goOn. -/
namespace Go.Proofs.YtiiokkllmchohaaGreat
open Go.RowKit Go.Shelf
attribute [local go_sem ↓] Go.wp_at_zero Go.wp_at_succ
attribute [local go_sem] frz_drew
attribute [local go_sem] Oper.semAt_some

def SvR (p : List LClass) (k : Int) (r : Option SvSt) (bs : Nat) (vp : Value) (mc : List Value) (w w' : World) (e : Ending) : Prop :=
 (∀ s', r = some s' → e = .returned (.tuple #[]) ∧ SvAt w' bs vp mc s' ∧ SvTy p k s') ∧ (r = none → e = .panicked (refC 5)) ∧ Mods (fun k => k = bs) w w'
theorem SvR.yes {p : List LClass} {k : Int} {r : Option SvSt} {s' : SvSt} {bs : Nat} {vp : Value} {mc : List Value} {w w' : World} {e : Ending} (hr : r = some s') (he : e = .returned (.tuple #[])) (hS : SvAt w' bs vp mc s') (hT : SvTy p k s') (hM : Mods (fun k => k = bs) w w') : SvR p k r bs vp mc w w' e :=
 ⟨fun s2 e2 => (by rw [hr] at e2; obtain rfl := Option.some.inj e2; exact ⟨he, hS, hT⟩), fun e2 => (by rw [hr] at e2; cases e2), hM⟩
theorem SvR.no {p : List LClass} {k : Int} {r : Option SvSt} {bs : Nat} {vp : Value} {mc : List Value} {w w' : World} (hr : r = none) (hM : Mods (fun k => k = bs) w w') : SvR p k r bs vp mc w w' (.panicked (refC 5)) :=
 ⟨fun s2 e2 => (by rw [hr] at e2; cases e2), fun _ => rfl, hM⟩
theorem sv_reach (p : List LClass) (i : Nat) (g : TSt) (c : List Value) (w : World) (bs : Nat) (vp : Value) (mc : List Value) (s : SvSt) (h : SvAt w bs vp mc s) (hm : mc.length = 7) (hi : i < 40) (hg : StC g c) (hp : RProg w vp p) (hs : SupOk p p.length) (hz : p.length ≤ 4194304)
  (k : Int) (tg : TyS p.length k g) (ti : SvTy p k s) :
  Calls Tryz.prog 78 #[.pointer (some ⟨bs, 0, none⟩), .int .i64 (i : Int), .agg c.toArray] w fun e w' => SvR p k (reachP p i g s) bs vp mc w w' e := by
 have hl : i < s.st.length := by obtain ⟨_, hC, _⟩ := h; rw [hC.l1]; exact hi
 cases hre : s.re.getD i false with
 | false =>
  have hr : reachP p i g s = some (putP s i g) := by unfold reachP; rw [hre]; rfl
  refine (sv_reach_new i g c w bs vp mc s h hm hi hg hre).mono ?_
  rintro e w' ⟨h1, h2, h3⟩
  exact SvR.yes hr h1 h2 (ti.reach hl tg hr) h3
 | true =>
  cases hb : belowS p g (s.st.getD i zeroS) with
  | true =>
   have hr : reachP p i g s = some s := by unfold reachP; rw [if_pos hre, if_pos hb]
   refine (sv_reach_below p i g c w bs vp mc s h hm hi hg hre hp hs hz k k tg (ti.get hl) hb).mono ?_
   rintro e w' ⟨h1, h2, h3⟩
   exact SvR.yes hr h1 h2 (ti.reach hl tg hr) h3
  | false =>
   refine (sv_reach_join p i g c w bs vp mc s h hm hi hg hre hp hs hz k k tg (ti.get hl) hb).mono ?_
   rintro e w' ⟨h1, h2, h3⟩
   by_cases hq : (s.st.getD i zeroS).stk.length = g.stk.length
   ·have hr : reachP p i g s = some (putP s i (joinS p (s.st.getD i zeroS) g)) := by unfold reachP; rw [if_pos hre, if_neg (by rw [hb]; decide), if_pos hq]
    exact SvR.yes hr (h1 hq).1 (h1 hq).2 (ti.reach hl tg hr) h3
   ·have hr : reachP p i g s = none := by unfold reachP; rw [if_pos hre, if_neg (by rw [hb]; decide), if_neg hq]
    obtain rfl := h2 hq
    exact SvR.no hr h3

def outQ (K : Act → World → Prop) (R : Ending → World → Prop) : Exit → Act → World → Prop
 | .normal, a, w => K a w
 | .panic c, a, w => a.defers = [] ∧ R (.panicked c) w
 | _, _, _ => False
theorem wpF_seq_out {P : Program} {f : FuncId} {fn : Func} {R : Ending → World → Prop} {a : Act} {w : World} {x y : Code} (h : x.wp P (outQ (wpF P f y (marksPost P fn R)) R) a w) : wpF P f (Code.seq x y) (marksPost P fn R) a w := by
 refine wpF_seq_wp (Code.wp_mono ?_ h)
 intro e a w hq
 cases e with
 | normal => exact hq
 | panic c =>
  obtain ⟨hd, hR⟩ := hq
  obtain ⟨tmps, defers⟩ := a
  obtain rfl : defers = [] := hd
  exact hR
 | ret => exact hq.elim
 | exit id => exact hq.elim
 | goto l => exact hq.elim
 | outgrown => exact hq.elim
def methCs (m : LMeth) (va vco vf : Value) : List Value := [.int .i64 m.slot, va, .int .i64 m.ret, .int .i64 m.locals, .int .i64 m.stack, vco, vf]
def GoI (p : List LClass) (k : Int) (n : TSt) (outs : List (Int × Bool)) (s : SvSt) (bs b2 b4 : Nat) (vp : Value) (mc cn : List Value) (w : World) (sz : Nat) (xs : List (Int × Bool)) (V : World) : Prop :=
 ∃ s1, SvAt V bs vp mc s1 ∧ SvTy p k s1 ∧ reachAll p n xs s1 = reachAll p n outs s ∧ (∃ dn, outs = dn ++ xs) ∧ Mods (fun k => k = bs) w V ∧ sz ≤ V.heap.size ∧ Blk V b4 130 cn ∧ Blk V b2 208 [.pointer (some ⟨bs, 0, none⟩)]
theorem SvAt.mods {S : Nat → Prop} {w w' : World} {bs : Nat} {vp : Value} {mc : List Value} {s : SvSt} (h : SvAt w bs vp mc s) (m : Mods S w w') (hb : ¬ S bs) : SvAt w' bs vp mc s := by
 obtain ⟨css, hC, hB⟩ := h
 exact ⟨css, hC, hB.mods m hb⟩
theorem GoI.own {p : List LClass} {k : Int} {n : TSt} {outs : List (Int × Bool)} {s : SvSt} {bs b2 b4 : Nat} {vp : Value} {mc cn : List Value} {w : World} {sz : Nat} {xs : List (Int × Bool)} {V V' : World} (h : GoI p k n outs s bs b2 b4 vp mc cn w sz xs V) (hm : Mods (fun k => sz ≤ k) V V') (h1 : bs < sz) (h2 : b2 < sz) (h4 : b4 < sz) (hw : w.heap.size ≤ sz) : GoI p k n outs s bs b2 b4 vp mc cn w sz xs V' := by
 obtain ⟨s1, hA, hT, hR, hd, hM, hz, hB4, hB2⟩ := h
 exact ⟨s1, hA.mods hm (by omega), hT, hR, hd, hM.trans hm (fun k hk e => by omega), Nat.le_trans hz hm.size, hB4.mods hm (by omega), hB2.mods hm (by omega)⟩
set_option maxHeartbeats 1000000 in
set_option maxRecDepth 100000 in
theorem sv_goOn (p : List LClass) (vp : Value) (m : LMeth) (va vco vf : Value) (i : Nat) (w0 w : World) (bs : Nat) (s : SvSt) (h : SvAt w bs vp (methCs m va vco vf) s) (hp : RProg w0 vp p) (hv : GVals w0.cell? m va vco vf) (hbw : Below w0.heap.size w0 w) (hbs : w0.heap.size ≤ bs)
  (hi : i < m.code.length) (h40 : m.code.length ≤ 40) (T : SvTy p m.stack s) (G : Good p) (M : MOk p m) (hins : ∀ i ∈ m.code, insB p m i = true) :
  Calls Tryz.prog 145 #[.pointer (some ⟨bs, 0, none⟩), .int .i64 (i : Int)] w fun e w' => SvR p m.stack (goOnP p m i s) bs vp (methCs m va vco vf) w w' e := by
 have HP := hide hp
 have HV := hide hv
 obtain ⟨css, hC, hB⟩ := h
 have hs40 : i < 40 := by omega
 have hz : p.length ≤ 4194304 := Nat.le_trans (szProg_len p) G.sz
 have hil : i < s.st.length := by rw [hC.l1]; omega
 have hcl : i < css.length := by rw [hC.lc]; omega
 have hgi : StC (s.st.getD i zeroS) css[i] := by
  have e : s.st.getD i zeroS = s.st[i] := by rw [List.getD_eq_getElem?_getD, List.getElem?_eq_getElem hil]; rfl
  rw [e]
  exact hC.cs i _ _ (List.getElem?_eq_getElem hil) (List.getElem?_eq_getElem hcl)
 have hTi := T.get hil
 have HG0 : Hid (goOnP p m i s = (nextS p m i (s.st.getD i zeroS)).bind fun n => reachAll p n (onwardL (insAt m i) i) s) := rfl
 obtain ⟨pa, _, _, pcap, rfl, _⟩ := hp
 obtain ⟨hva, hvc, hvf⟩ := hv
 obtain ⟨aa, _, _, acap, rfl, _⟩ := hva
 obtain ⟨fa, _, _, fcap, rfl, _⟩ := hvf
 obtain ⟨ca, cb, off, ccap, rfl, hccap, hca, hcr⟩ := sl_open hvc
 obtain rfl := hca (ne_nil_of_lt hi)
 have hX := hcr i hi
 have hIA : insAt m i = m.code[i] := by unfold insAt; rw [List.getElem?_eq_getElem hi]; rfl
 have hsv := fun j v (e : css[i][j]? = some v) => sv_state (vp := .slice pa p.length pcap) hC (show (methCs m (.slice aa m.args.length acap) (.slice (some ⟨cb, off, none⟩) m.code.length ccap) (.slice fa m.frames.length fcap)).length = 7 from rfl) (List.getElem?_eq_getElem hcl) j v e
 have hli := hgi.len
 generalize css[i] = ci at *
 generalize s.st.getD i zeroS = u at *
 generalize m.code[i] = x at *
 obtain ⟨x0, x1, x2⟩ := hX
 clear hcr hvc
 have HM := hide M
 have HI := hide hins
 have i0 : (0 : Int) ≤ (i : Int) := by omega
 have i40 : (i : Int) < 40 := by omega
 have i41 : (i : Int) < (m.code.length : Int) := by omega
 refine calls_of_wpF Tryz.func145 rfl ?_
 simp only [Tryz.ntmps145, List.size_toArray, List.length_cons, List.length_nil, Nat.reduceAdd, Nat.reduceSub, Array.replicate_succ, Array.replicate_zero, List.push_toArray, List.append_toArray, List.nil_append, List.cons_append]
 refine wpF_seq_wp ?_
 go_wp2_with fail
 have hbs' := hB.lt
 have A0 := hB.alloc (.cells #[.pointer (some ⟨bs, 0, none⟩)] 208)
 have A1 := Blk.new w #[.pointer (some ⟨bs, 0, none⟩)] 208
 have hb1 := box_below w (.cells #[.pointer (some ⟨bs, 0, none⟩)] 208)
 generalize w.alloc _ = W at *
 have hbW : Below w0.heap.size w0 W := hbw.trans (hb1.mono hbw.size)
 have a2 : W.cell? ⟨w.heap.size, 0, none⟩ = some (.pointer (some ⟨bs, 0, none⟩)) := A1.cell 0
 have k0 : W.cell? ⟨bs, 0, none⟩ = some (.slice pa p.length pcap) := A0.cell 0
 have m0 : W.cell? ⟨bs, 1, none⟩ = some (.int .i64 m.slot) := A0.cell 1
 have m1 : W.cell? ⟨bs, 2, none⟩ = some (.slice aa m.args.length acap) := A0.cell 2
 have m2 : W.cell? ⟨bs, 3, none⟩ = some (.int .i64 m.ret) := A0.cell 3
 have m3 : W.cell? ⟨bs, 4, none⟩ = some (.int .i64 m.locals) := A0.cell 4
 have m4 : W.cell? ⟨bs, 5, none⟩ = some (.int .i64 m.stack) := A0.cell 5
 have m5 : W.cell? ⟨bs, 6, none⟩ = some (.slice (some ⟨cb, off, none⟩) m.code.length ccap) := A0.cell 6
 have m6 : W.cell? ⟨bs, 7, none⟩ = some (.slice fa m.frames.length fcap) := A0.cell 7
 refine wpF_seq_out ?_
 refine wp_region_held_drew (S := (fun w' => Blk w' bs 134 (svCells (.slice pa p.length pcap) (methCs m (.slice aa m.args.length acap) (.slice (some ⟨cb, off, none⟩) m.code.length ccap) (.slice fa m.frames.length fcap)) css s) ∧ w'.cell? ⟨w.heap.size, 0, none⟩ = some (.pointer (some ⟨bs, 0, none⟩)) ∧ w'.cell? ⟨bs, 0, none⟩ = some (.slice pa p.length pcap) ∧ w'.cell? ⟨bs, 1, none⟩ = some (.int .i64 m.slot) ∧ w'.cell? ⟨bs, 2, none⟩ = some (.slice aa m.args.length acap) ∧ w'.cell? ⟨bs, 3, none⟩ = some (.int .i64 m.ret) ∧ w'.cell? ⟨bs, 4, none⟩ = some (.int .i64 m.locals) ∧ w'.cell? ⟨bs, 5, none⟩ = some (.int .i64 m.stack) ∧ w'.cell? ⟨bs, 6, none⟩ = some (.slice (some ⟨cb, off, none⟩) m.code.length ccap) ∧ w'.cell? ⟨bs, 7, none⟩ = some (.slice fa m.frames.length fcap))) (by kernel_rfl) ?_ (fun hHeld => ?_)
 ·exact ⟨A0, a2, k0, m0, m1, m2, m3, m4, m5, m6⟩
 refine take_x (some 6) 0 rfl rfl ?_
 refine take_x (some 7) 1 rfl rfl ?_
 refine take_x (some 8) 2 rfl rfl ?_
 refine take_x (some 9) 3 rfl rfl ?_
 refine take_x (some 10) 4 rfl rfl ?_
 refine take_x (some 11) 5 rfl rfl ?_
 refine take_x (some 12) 6 rfl rfl ?_
 refine take_x (some 13) 7 rfl rfl ?_
 refine take_x (some 14) 8 rfl rfl ?_
 refine take_x (some 15) 9 rfl rfl ?_
 refine take_x (some 16) 10 rfl rfl ?_
 refine take_x (some 17) 11 rfl rfl ?_
 refine take_x (some 18) 12 rfl rfl ?_
 refine take_x (some 19) 13 rfl rfl ?_
 refine take_d (some 20) (i := 14) (v := .agg ci.toArray) rfl rfl (by kernel_rfl) (by kernel_rfl) (by kernel_rfl) (fun _ _ _ h => h) (Or.inl ⟨by rfl, fun w' hSw => exec_load_blk aggSt hSw.1 (8 + i * 17) ci hli hsv rfl rfl⟩) (by assumption) ?_
 try simp only [Act.put, List.setIfInBounds_toArray, List.set_cons_zero, List.set_cons_succ]
 have HGV := hide (GVals.keep (Keeps.of_below hbW) (unhide HV))
 have HRP := hide (prog_keep (Keeps.of_below hbW) (unhide HP))
 have hold : ∀ U, Below W.heap.size W U → (Blk U bs 134 (svCells (.slice pa p.length pcap) (methCs m (.slice aa m.args.length acap) (.slice (some ⟨cb, off, none⟩) m.code.length ccap) (.slice fa m.frames.length fcap)) css s) ∧ U.cell? ⟨w.heap.size, 0, none⟩ = some (.pointer (some ⟨bs, 0, none⟩)) ∧ U.cell? ⟨bs, 0, none⟩ = some (.slice pa p.length pcap) ∧ U.cell? ⟨bs, 1, none⟩ = some (.int .i64 m.slot) ∧ U.cell? ⟨bs, 2, none⟩ = some (.slice aa m.args.length acap) ∧ U.cell? ⟨bs, 3, none⟩ = some (.int .i64 m.ret) ∧ U.cell? ⟨bs, 4, none⟩ = some (.int .i64 m.locals) ∧ U.cell? ⟨bs, 5, none⟩ = some (.int .i64 m.stack) ∧ U.cell? ⟨bs, 6, none⟩ = some (.slice (some ⟨cb, off, none⟩) m.code.length ccap) ∧ U.cell? ⟨bs, 7, none⟩ = some (.slice fa m.frames.length fcap)) := fun U hU =>
  have k := Keeps.of_below hU
  ⟨A0.below hU A0.lt, k _ _ a2, k _ _ k0, k _ _ m0, k _ _ m1, k _ _ m2, k _ _ m3, k _ _ m4, k _ _ m5, k _ _ m6⟩
 have HO := hide hold
 clear hold
 cases hn : nextS p m i u with
 | none =>
  have HN : Hid (goOnP p m i s = none) := by show _ = _; rw [unhide HG0, hn]; rfl
  refine wpAnyH_ready (rs := [15, 16]) (by kernel_rfl) (by simp) ?_
  refine AllReadyH.cons rfl (fun K hK => ?_) (AllReadyH.cons rfl (fun K hK => ?_) AllReadyH.nil)
  ·go_simp
   refine (fit_next p _ m _ _ _ i u ci _ (prog_keep (Keeps.of_below ((Below.refl _ _).drew)) (unhide HRP)) (GVals.keep (Keeps.of_below ((Below.refl _ _).drew)) (unhide HGV)) hi h40 hgi hTi G (unhide HM) (unhide HI)).mono ?_
   rintro e w2 ⟨_, h2, hb2⟩
   obtain rfl := h2 hn
   have hb2' : Below W.heap.size W w2 := ⟨hb2.os, hb2.tape, hb2.output, hb2.size, hb2.block⟩
   have HF := hide (bnone (S := fun k => k = bs) (hb1.trans (hb2'.mono hb1.size)))
   clear hn h2 hb2 hb2'
   go_wp2_with fail
   exact ⟨rfl, SvR.no (unhide HN) (unhide HF)⟩
  ·go_simp
   have hz1 := box_below W.drew (.cells zero17.toArray 130)
   have hz2 : Below W.heap.size W (W.drew.alloc (.cells zero17.toArray 130)) := ⟨hz1.os, hz1.tape, hz1.output, hz1.size, hz1.block⟩
   refine hK.out _ _ ((unhide HO) _ hz2) (fun hHeld => ?_)
   clear hK K
   try simp only [Act.put, List.setIfInBounds_toArray, List.set_cons_zero, List.set_cons_succ]
   refine wpAnyH_ready (rs := [15]) (by kernel_rfl) (by simp) ?_
   refine AllReadyH.cons rfl (fun K hK => ?_) AllReadyH.nil
   go_simp
   refine (fit_next p _ m _ _ _ i u ci _ (prog_keep (Keeps.of_below hz2) (unhide HRP)) (GVals.keep (Keeps.of_below hz2) (unhide HGV)) hi h40 hgi hTi G (unhide HM) (unhide HI)).mono ?_
   rintro e w2 ⟨_, h2, hb2⟩
   obtain rfl := h2 hn
   have HF := hide (bnone (S := fun k => k = bs) (hb1.trans ((hz2.trans (hb2.mono (by simp))).mono hb1.size)))
   clear hn h2 hb2
   go_wp2_with fail
   exact ⟨rfl, SvR.no (unhide HN) (unhide HF)⟩
 | some n =>
  have HN : Hid (goOnP p m i s = reachAll p n (onwardL x i) s) := by show _ = _; rw [unhide HG0, hn, hIA]; rfl
  have hin := onward_in hi (unhide HI) hn
  rw [hIA] at hin
  refine wpAnyH_ready (rs := [15, 16]) (by kernel_rfl) (by simp) ?_
  refine AllReadyH.cons rfl (fun K hK => ?_) (AllReadyH.cons rfl (fun K hK => ?_) AllReadyH.nil)
  ·go_simp
   refine (fit_next p _ m _ _ _ i u ci _ (prog_keep (Keeps.of_below ((Below.refl _ _).drew)) (unhide HRP)) (GVals.keep (Keeps.of_below ((Below.refl _ _).drew)) (unhide HGV)) hi h40 hgi hTi G (unhide HM) (unhide HI)).mono ?_
   rintro e w2 ⟨h1, _, hb2⟩
   obtain ⟨cn, rfl, hN, hNT⟩ := h1 n hn
   have hb2' : Below W.heap.size W w2 := ⟨hb2.os, hb2.tape, hb2.output, hb2.size, hb2.block⟩
   clear hb2 h1 hn
   go_wp2_with fail
   refine hK.out _ _ ((unhide HO) _ hb2') (fun hHeld => ?_)
   clear hK K
   try simp only [Act.put, List.setIfInBounds_toArray, List.set_cons_zero, List.set_cons_succ]
   refine wpAnyH_ready (rs := [16]) (by kernel_rfl) (by simp) ?_
   refine AllReadyH.cons rfl (fun K hK => ?_) AllReadyH.nil
   go_simp
   generalize hV : w2.alloc _ = V
   have hbV : Below W.heap.size W V := by rw [← hV]; exact hb2'.alloc hb2'.size _
   have B4 : Blk V w2.heap.size 130 zero17 := by rw [← hV]; exact Blk.new w2 zero17.toArray 130
   have hz2 := hb2'.size
   clear hV
   refine hK.out _ _ ((unhide HO) _ hbV) (fun hHeld => ?_)
   clear hK K
   try simp only [Act.put, List.setIfInBounds_toArray, List.set_cons_zero, List.set_cons_succ]
   obtain ⟨b4, hb4⟩ : ∃ b, b = w2.heap.size := ⟨_, rfl⟩
   have hb4' : W.heap.size ≤ b4 := by omega
   rw [← hb4] at B4 ⊢
   clear hb4 hb2' hz2 hHeld
   refine wpAnyH_ready (rs := [17]) (by kernel_rfl) (by simp) ?_
   refine AllReadyH.cons rfl (fun K hK => ?_) AllReadyH.nil
   refine wp_store_blk aggSt B4 0 cn hN.len (by simp [zero17]) hN.one (.tmp 4) (.tmp 21) rfl rfl rfl ?_
   intro w3 hB3 hM3 hs3
   rw [putAt_all (by rw [hN.len]; rfl)] at hB3
   have hb3 : Below W.heap.size W w3 := hbV.trans (hM3.below hbV.size (fun k hk e => by omega))
   refine hK.out _ _ ((unhide HO) _ hb3) (fun hHeld => ?_)
   clear hK K
   try simp only [Act.put]
   refine wpAnyH_done (by kernel_rfl) ?_ _
   have HH := hide ((unhide HO) _ hb3)
   have hbw3 := hb1.trans (hb3.mono hb1.size)
   have B2 := A1.below hb3 A1.lt
   have a2' : w3.cell? ⟨w.heap.size, 0, none⟩ = some (.pointer (some ⟨bs, 0, none⟩)) := B2.cell 0
   have BS3 := A0.below hb3 A0.lt
   have m5' : w3.cell? ⟨bs, 6, none⟩ = some (.slice (some ⟨cb, off, none⟩) m.code.length ccap) := BS3.cell 6
   clear hHeld B4 hbV hs3 hM3 hb1 m0 m1 m2 m3 m4 m6 k0 a2 m5 HH HO
   show wpF _ _ _ _ _ _
   refine wpF_seq_wp ?_
   go_wp2_with fail
   refine (flow_onward _ _ _ _ _).mono ?_
   rintro e w4 ⟨rfl, hw4⟩
   have hb4w : Below w3.heap.size w3 w4 := by rw [hw4]; exact box2_below _ _ _
   have o1 : w4.cell? ⟨w3.heap.size, 0, none⟩ = some (.slice (some ⟨cb, off, none⟩) m.code.length ccap) := by rw [hw4]; exact box2_fst _ _ _ _ 0
   have o2 : w4.cell? ⟨w3.heap.size + 1, 0, none⟩ = some (.int .i64 (i : Int)) := by rw [hw4]; exact box2_snd _ _ _ _ 0
   clear hw4
   have C2 := B2.below hb4w B2.lt
   have C4 := hB3.below hb4w hB3.lt
   have CS := BS3.below hb4w BS3.lt
   have hbw4 := hbw3.trans (hb4w.mono hbw3.size)
   have hbv4 := hbw.trans (hbw4.mono hbw.size)
   have z0 := Keeps.of_below hbv4 _ _ x0
   have z1 := Keeps.of_below hbv4 _ _ x1
   have z2 := Keeps.of_below hbv4 _ _ x2
   have l3 := BS3.lt
   have HSeq := hide (onward_seq x i m.code.length ccap cb off w3.heap.size (w3.heap.size + 1) (fun k => k = bs) w4 hi (by omega) o1 o2 ⟨z0, z1, z2⟩ (by omega) (fun k e => by have := CS.lt; omega))
   have HI0 : Hid (GoI p m.stack n (onwardL x i) s bs w.heap.size b4 (.slice pa p.length pcap) (methCs m (.slice aa m.args.length acap) (.slice (some ⟨cb, off, none⟩) m.code.length ccap) (.slice fa m.frames.length fcap)) cn w w4.heap.size (onwardL x i) w4) :=
    ⟨s, ⟨css, hC, CS⟩, T, rfl, ⟨[], rfl⟩, bnone hbw4, Nat.le_refl _, C4, C2⟩
   have lb4 := hB3.lt
   have lw := B2.lt
   clear a2' m5' o1 o2
   go_wp2_with fail
   refine wpF_block ?_
   refine wpF_range Tryz.func145 (gf := 158) (lb := #[.pointer (some ⟨w3.heap.size, 0, none⟩), .pointer (some ⟨w3.heap.size + 1, 0, none⟩)]) rfl (enters_of Tryz.func158 (by kernel_rfl) rfl) (unhide HSeq) rfl (fun k e => by have := CS.lt; omega)
    (GoI p m.stack n (onwardL x i) s bs w.heap.size b4 (.slice pa p.length pcap) (methCs m (.slice aa m.args.length acap) (.slice (some ⟨cb, off, none⟩) m.code.length ccap) (.slice fa m.frames.length fcap)) cn w w4.heap.size)
    (fun c V => c = refC 5 ∧ reachAll p n (onwardL x i) s = none ∧ Mods (fun k => k = bs) w V) ?ownx (unhide HI0) ?a1x ?assignx ?bodyx ?donex ?panicx
   case assignx =>
    intro l y V K hK
    rw [fold_two]
    simp only [List.setIfInBounds_toArray, List.set_cons_zero, List.set_cons_succ]
    gi_wp2
    exact hK
   case ownx =>
    rintro xs V V' hI hm
    have := hb4w.size
    exact hI.own hm (by omega) (by omega) (by omega) (by have := hbw4.size; omega)
   case bodyx =>
    rintro l ⟨y1, y2⟩ xs V ⟨s1, hA, hT, hR, ⟨dn, hdn⟩, hMV, hsz, VB4, VB2⟩
    obtain ⟨hy0, hy1⟩ := hin (y1, y2) (by rw [hdn]; simp)
    dsimp only at hy0 hy1
    obtain ⟨j, rfl⟩ : ∃ j : Nat, y1 = (j : Int) := ⟨y1.toNat, by omega⟩
    have hpV : RProg V (.slice pa p.length pcap) p := prog_keep (Keeps.of_below (hbw.trans (hMV.below hbw.size (fun k hk e => by omega)))) (unhide HP)
    have v2 : V.cell? ⟨w.heap.size, 0, none⟩ = some (.pointer (some ⟨bs, 0, none⟩)) := VB2.cell 0
    gi_wp2_with (refine wpListIn_load_blk aggSt VB4 0 cn hN.len (fun j v e => by simpa using e) (.tmp 4) rfl rfl rfl ?_)
    refine ⟨trivial, rfl, ?_⟩
    refine (CallsIn.inRound l (callsIn_wide.2 (sv_reach p j n cn _ bs _ _ s1 hA rfl (by omega) hN hpV G.sup hz m.stack hNT hT))).mono ?_
    rintro e V2 ⟨h1, h2, hM2⟩
    have hRj : reachAll p n ((↑j, y2) :: xs) s1 = (reachP p j n s1).bind (reachAll p n xs) := rfl
    rw [hRj] at hR
    cases hr : reachP p j n s1 with
    | none =>
     obtain rfl := h2 hr
     rw [hr] at hR
     have HR := hide hR
     have HMM := hide (hMV.trans hM2 (fun _ _ e => e))
     clear hr h1 h2 hR hRj
     gi_wp2_with fail
     exact ⟨rfl, hM2, rfl, (unhide HR).symm, unhide HMM⟩
    | some s2 =>
     obtain ⟨rfl, hA2, hT2⟩ := h1 s2 hr
     rw [hr] at hR
     have HI2 : Hid (GoI p m.stack n (onwardL x i) s bs w.heap.size b4 (.slice pa p.length pcap) (methCs m (.slice aa m.args.length acap) (.slice (some ⟨cb, off, none⟩) m.code.length ccap) (.slice fa m.frames.length fcap)) cn w w4.heap.size xs V2) :=
      ⟨s2, hA2, hT2, hR, ⟨dn ++ [((j : Int), y2)], by rw [hdn]; simp⟩, hMV.trans hM2 (fun _ _ e => e), Nat.le_trans hsz hM2.size, VB4.mods hM2 (by have := A0.lt; omega), VB2.mods hM2 (by omega)⟩
     clear hr h1 h2 hR hRj hdn
     gi_wp2_with fail
     exact ⟨hM2, unhide HI2⟩
   case donex =>
    rintro D V hD ⟨s1, hA, hT, hR, _, hMV, hsz, VB4, VB2⟩ hK
    have hm := Mods.putObj (S := fun k => k = D) (W := V) (l := D) (.deferred none) rfl
    have := hb4w.size
    have hF : SvR p m.stack (goOnP p m i s) bs (.slice pa p.length pcap) (methCs m (.slice aa m.args.length acap) (.slice (some ⟨cb, off, none⟩) m.code.length ccap) (.slice fa m.frames.length fcap)) w (V.putObj D (.deferred none)) (.returned (.tuple #[])) :=
     SvR.yes ((unhide HN).trans hR.symm) rfl (hA.mods hm (by omega)) hT (hMV.trans hm (fun k hk e => by omega))
    exact marks_ret1 hK (results_none rfl _ _ _) hF
   case panicx =>
    rintro D c V hD ⟨rfl, hR, hMV⟩ hK
    have hm := Mods.putObj (S := fun k => k = D) (W := V) (l := D) (.deferred none) rfl
    have := hb4w.size
    exact marks_panic1 hK (SvR.no ((unhide HN).trans hR) (hMV.trans hm (fun k hk e => by have := hbw4.size; omega)))
  ·go_simp
   have hz1 := box_below W.drew (.cells zero17.toArray 130)
   have hz2 : Below W.heap.size W (W.drew.alloc (.cells zero17.toArray 130)) := ⟨hz1.os, hz1.tape, hz1.output, hz1.size, hz1.block⟩
   refine hK.out _ _ ((unhide HO) _ hz2) (fun hHeld => ?_)
   clear hK K
   try simp only [Act.put, List.setIfInBounds_toArray, List.set_cons_zero, List.set_cons_succ]
   refine wpAnyH_ready (rs := [15]) (by kernel_rfl) (by simp) ?_
   refine AllReadyH.cons rfl (fun K hK => ?_) AllReadyH.nil
   go_simp
   refine (fit_next p _ m _ _ _ i u ci _ (prog_keep (Keeps.of_below hz2) (unhide HRP)) (GVals.keep (Keeps.of_below hz2) (unhide HGV)) hi h40 hgi hTi G (unhide HM) (unhide HI)).mono ?_
   rintro e V ⟨h1, _, hb2⟩
   obtain ⟨cn, rfl, hN, hNT⟩ := h1 n hn
   have hb2' : Below (W.heap.size + 1) (W.drew.alloc (.cells zero17.toArray 130)) V := ⟨hb2.os, hb2.tape, hb2.output, by have := hb2.size; simpa using this, fun i hi => hb2.block i (by simpa using hi)⟩
   have hbV : Below W.heap.size W V := hz2.trans (hb2'.mono (by simp))
   have B4' : Blk (W.drew.alloc (.cells zero17.toArray 130)) W.heap.size 130 zero17 := Blk.new W.drew zero17.toArray 130
   have B4 := B4'.below hb2' (by omega)
   clear hb2 h1 hn
   go_wp2_with fail
   refine hK.out _ _ ((unhide HO) _ hbV) (fun hHeld => ?_)
   clear hK K
   try simp only [Act.put, List.setIfInBounds_toArray, List.set_cons_zero, List.set_cons_succ]
   obtain ⟨b4, hb4⟩ : ∃ b, b = W.heap.size := ⟨_, rfl⟩
   have hb4' : W.heap.size ≤ b4 := by omega
   rw [← hb4] at B4 ⊢
   clear hb4 hb2' hz2 hz1 hHeld B4'
   refine wpAnyH_ready (rs := [17]) (by kernel_rfl) (by simp) ?_
   refine AllReadyH.cons rfl (fun K hK => ?_) AllReadyH.nil
   refine wp_store_blk aggSt B4 0 cn hN.len (by simp [zero17]) hN.one (.tmp 4) (.tmp 21) rfl rfl rfl ?_
   intro w3 hB3 hM3 hs3
   rw [putAt_all (by rw [hN.len]; rfl)] at hB3
   have hb3 : Below W.heap.size W w3 := hbV.trans (hM3.below hbV.size (fun k hk e => by omega))
   refine hK.out _ _ ((unhide HO) _ hb3) (fun hHeld => ?_)
   clear hK K
   try simp only [Act.put]
   refine wpAnyH_done (by kernel_rfl) ?_ _
   have HH := hide ((unhide HO) _ hb3)
   have hbw3 := hb1.trans (hb3.mono hb1.size)
   have B2 := A1.below hb3 A1.lt
   have a2' : w3.cell? ⟨w.heap.size, 0, none⟩ = some (.pointer (some ⟨bs, 0, none⟩)) := B2.cell 0
   have BS3 := A0.below hb3 A0.lt
   have m5' : w3.cell? ⟨bs, 6, none⟩ = some (.slice (some ⟨cb, off, none⟩) m.code.length ccap) := BS3.cell 6
   clear hHeld B4 hbV hs3 hM3 hb1 m0 m1 m2 m3 m4 m6 k0 a2 m5 HH HO
   show wpF _ _ _ _ _ _
   refine wpF_seq_wp ?_
   go_wp2_with fail
   refine (flow_onward _ _ _ _ _).mono ?_
   rintro e w4 ⟨rfl, hw4⟩
   have hb4w : Below w3.heap.size w3 w4 := by rw [hw4]; exact box2_below _ _ _
   have o1 : w4.cell? ⟨w3.heap.size, 0, none⟩ = some (.slice (some ⟨cb, off, none⟩) m.code.length ccap) := by rw [hw4]; exact box2_fst _ _ _ _ 0
   have o2 : w4.cell? ⟨w3.heap.size + 1, 0, none⟩ = some (.int .i64 (i : Int)) := by rw [hw4]; exact box2_snd _ _ _ _ 0
   clear hw4
   have C2 := B2.below hb4w B2.lt
   have C4 := hB3.below hb4w hB3.lt
   have CS := BS3.below hb4w BS3.lt
   have hbw4 := hbw3.trans (hb4w.mono hbw3.size)
   have hbv4 := hbw.trans (hbw4.mono hbw.size)
   have z0 := Keeps.of_below hbv4 _ _ x0
   have z1 := Keeps.of_below hbv4 _ _ x1
   have z2 := Keeps.of_below hbv4 _ _ x2
   have l3 := BS3.lt
   have HSeq := hide (onward_seq x i m.code.length ccap cb off w3.heap.size (w3.heap.size + 1) (fun k => k = bs) w4 hi (by omega) o1 o2 ⟨z0, z1, z2⟩ (by omega) (fun k e => by have := CS.lt; omega))
   have HI0 : Hid (GoI p m.stack n (onwardL x i) s bs w.heap.size b4 (.slice pa p.length pcap) (methCs m (.slice aa m.args.length acap) (.slice (some ⟨cb, off, none⟩) m.code.length ccap) (.slice fa m.frames.length fcap)) cn w w4.heap.size (onwardL x i) w4) :=
    ⟨s, ⟨css, hC, CS⟩, T, rfl, ⟨[], rfl⟩, bnone hbw4, Nat.le_refl _, C4, C2⟩
   have lb4 := hB3.lt
   have lw := B2.lt
   clear a2' m5' o1 o2
   go_wp2_with fail
   refine wpF_block ?_
   refine wpF_range Tryz.func145 (gf := 158) (lb := #[.pointer (some ⟨w3.heap.size, 0, none⟩), .pointer (some ⟨w3.heap.size + 1, 0, none⟩)]) rfl (enters_of Tryz.func158 (by kernel_rfl) rfl) (unhide HSeq) rfl (fun k e => by have := CS.lt; omega)
    (GoI p m.stack n (onwardL x i) s bs w.heap.size b4 (.slice pa p.length pcap) (methCs m (.slice aa m.args.length acap) (.slice (some ⟨cb, off, none⟩) m.code.length ccap) (.slice fa m.frames.length fcap)) cn w w4.heap.size)
    (fun c V => c = refC 5 ∧ reachAll p n (onwardL x i) s = none ∧ Mods (fun k => k = bs) w V) ?owny (unhide HI0) ?a1y ?assigny ?bodyy ?doney ?panicy
   case assigny =>
    intro l y V K hK
    rw [fold_two]
    simp only [List.setIfInBounds_toArray, List.set_cons_zero, List.set_cons_succ]
    gi_wp2
    exact hK
   case owny =>
    rintro xs V V' hI hm
    have := hb4w.size
    exact hI.own hm (by omega) (by omega) (by omega) (by have := hbw4.size; omega)
   case bodyy =>
    rintro l ⟨y1, y2⟩ xs V ⟨s1, hA, hT, hR, ⟨dn, hdn⟩, hMV, hsz, VB4, VB2⟩
    obtain ⟨hy0, hy1⟩ := hin (y1, y2) (by rw [hdn]; simp)
    dsimp only at hy0 hy1
    obtain ⟨j, rfl⟩ : ∃ j : Nat, y1 = (j : Int) := ⟨y1.toNat, by omega⟩
    have hpV : RProg V (.slice pa p.length pcap) p := prog_keep (Keeps.of_below (hbw.trans (hMV.below hbw.size (fun k hk e => by omega)))) (unhide HP)
    have v2 : V.cell? ⟨w.heap.size, 0, none⟩ = some (.pointer (some ⟨bs, 0, none⟩)) := VB2.cell 0
    gi_wp2_with (refine wpListIn_load_blk aggSt VB4 0 cn hN.len (fun j v e => by simpa using e) (.tmp 4) rfl rfl rfl ?_)
    refine ⟨trivial, rfl, ?_⟩
    refine (CallsIn.inRound l (callsIn_wide.2 (sv_reach p j n cn _ bs _ _ s1 hA rfl (by omega) hN hpV G.sup hz m.stack hNT hT))).mono ?_
    rintro e V2 ⟨h1, h2, hM2⟩
    have hRj : reachAll p n ((↑j, y2) :: xs) s1 = (reachP p j n s1).bind (reachAll p n xs) := rfl
    rw [hRj] at hR
    cases hr : reachP p j n s1 with
    | none =>
     obtain rfl := h2 hr
     rw [hr] at hR
     have HR := hide hR
     have HMM := hide (hMV.trans hM2 (fun _ _ e => e))
     clear hr h1 h2 hR hRj
     gi_wp2_with fail
     exact ⟨rfl, hM2, rfl, (unhide HR).symm, unhide HMM⟩
    | some s2 =>
     obtain ⟨rfl, hA2, hT2⟩ := h1 s2 hr
     rw [hr] at hR
     have HI2 : Hid (GoI p m.stack n (onwardL x i) s bs w.heap.size b4 (.slice pa p.length pcap) (methCs m (.slice aa m.args.length acap) (.slice (some ⟨cb, off, none⟩) m.code.length ccap) (.slice fa m.frames.length fcap)) cn w w4.heap.size xs V2) :=
      ⟨s2, hA2, hT2, hR, ⟨dn ++ [((j : Int), y2)], by rw [hdn]; simp⟩, hMV.trans hM2 (fun _ _ e => e), Nat.le_trans hsz hM2.size, VB4.mods hM2 (by have := A0.lt; omega), VB2.mods hM2 (by omega)⟩
     clear hr h1 h2 hR hRj hdn
     gi_wp2_with fail
     exact ⟨hM2, unhide HI2⟩
   case doney =>
    rintro D V hD ⟨s1, hA, hT, hR, _, hMV, hsz, VB4, VB2⟩ hK
    have hm := Mods.putObj (S := fun k => k = D) (W := V) (l := D) (.deferred none) rfl
    have := hb4w.size
    have hF : SvR p m.stack (goOnP p m i s) bs (.slice pa p.length pcap) (methCs m (.slice aa m.args.length acap) (.slice (some ⟨cb, off, none⟩) m.code.length ccap) (.slice fa m.frames.length fcap)) w (V.putObj D (.deferred none)) (.returned (.tuple #[])) :=
     SvR.yes ((unhide HN).trans hR.symm) rfl (hA.mods hm (by omega)) hT (hMV.trans hm (fun k hk e => by omega))
    exact marks_ret1 hK (results_none rfl _ _ _) hF
   case panicy =>
    rintro D c V hD ⟨rfl, hR, hMV⟩ hK
    have hm := Mods.putObj (S := fun k => k = D) (W := V) (l := D) (.deferred none) rfl
    have := hb4w.size
    exact marks_panic1 hK (SvR.no ((unhide HN).trans hR) (hMV.trans hm (fun k hk e => by have := hbw4.size; omega)))
end Go.Proofs.YtiiokkllmchohaaGreat
