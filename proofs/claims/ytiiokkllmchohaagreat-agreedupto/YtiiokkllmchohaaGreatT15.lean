/- The least state above two: the code. -/
import Derived.Test.YtiiokkllmchohaaGreatT14
/- JoinC -/
namespace Go.Proofs.YtiiokkllmchohaaGreat
open Go.RowKit Go.Shelf
attribute [local go_sem ↓] Go.wp_at_zero Go.wp_at_succ
attribute [local go_sem] frz_drew

def JoinR (p : List LClass) (s t : TSt) (w w' : World) (e : Ending) : Prop :=
 (s.stk.length = t.stk.length → ∃ cs', e = .returned (.tuple #[.agg cs'.toArray, .bool true]) ∧ StC (joinS p s t) cs') ∧ (s.stk.length ≠ t.stk.length → e = .returned (.tuple #[.agg zero17.toArray, .bool false])) ∧ Below w.heap.size w w'
set_option maxHeartbeats 1000000 in
set_option maxRecDepth 100000 in
theorem st_join (p : List LClass) (vc : Value) (s t : TSt) (cs ds : List Value) (w : World) (hp : RProg w vc p) (hs : SupOk p p.length) (hz : p.length ≤ 4194304) (hS : StC s cs) (hT : StC t ds) (ts : ∀ x ∈ s.loc, tyOk p.length x) (ts' : ∀ x ∈ s.stk, tyOk p.length x) (tt : ∀ x ∈ t.loc, tyOk p.length x) (tt' : ∀ x ∈ t.stk, tyOk p.length x) :
  Calls Tryz.prog 142 #[.agg cs.toArray, .agg #[vc], .agg ds.toArray] w fun e w' => JoinR p s t w w' e := by
 have HP := hide hp
 have sl := hS.ok.1
 have tl := hT.ok.1
 have s8 := hS.ok.2
 obtain ⟨pa, _, _, pcap, rfl, _⟩ := hp
 have hbel : Below w.heap.size w ((((w.alloc (.cells cs.toArray 130)).alloc (.cells #[.slice pa p.length pcap] 24)).alloc (.cells ds.toArray 130)).alloc (.cells #[.int .i64 0, .int .i64 0, .int .i64 0, .int .i64 0, .int .i64 0, .int .i64 0, .int .i64 0, .int .i64 0, .int .i64 0, .int .i64 0, .int .i64 0, .int .i64 0, .int .i64 0, .int .i64 0, .int .i64 0, .int .i64 0, .int .i64 0] 130)) := (((box_below w _).alloc (by simp) _).alloc (by simp; omega) _).alloc (by simp; omega) _
 have B0 : Blk ((((w.alloc (.cells cs.toArray 130)).alloc (.cells #[.slice pa p.length pcap] 24)).alloc (.cells ds.toArray 130)).alloc (.cells #[.int .i64 0, .int .i64 0, .int .i64 0, .int .i64 0, .int .i64 0, .int .i64 0, .int .i64 0, .int .i64 0, .int .i64 0, .int .i64 0, .int .i64 0, .int .i64 0, .int .i64 0, .int .i64 0, .int .i64 0, .int .i64 0, .int .i64 0] 130)) w.heap.size 130 cs := (((Blk.new w cs.toArray _).alloc _).alloc _).alloc _
 have B1 : Blk ((((w.alloc (.cells cs.toArray 130)).alloc (.cells #[.slice pa p.length pcap] 24)).alloc (.cells ds.toArray 130)).alloc (.cells #[.int .i64 0, .int .i64 0, .int .i64 0, .int .i64 0, .int .i64 0, .int .i64 0, .int .i64 0, .int .i64 0, .int .i64 0, .int .i64 0, .int .i64 0, .int .i64 0, .int .i64 0, .int .i64 0, .int .i64 0, .int .i64 0, .int .i64 0] 130)) (w.heap.size + 1) 24 [.slice pa p.length pcap] := by
  have := Blk.new (w.alloc (.cells cs.toArray 130)) #[.slice pa p.length pcap] 24
  rw [World.size_alloc] at this
  exact (this.alloc _).alloc _
 have B2 : Blk ((((w.alloc (.cells cs.toArray 130)).alloc (.cells #[.slice pa p.length pcap] 24)).alloc (.cells ds.toArray 130)).alloc (.cells #[.int .i64 0, .int .i64 0, .int .i64 0, .int .i64 0, .int .i64 0, .int .i64 0, .int .i64 0, .int .i64 0, .int .i64 0, .int .i64 0, .int .i64 0, .int .i64 0, .int .i64 0, .int .i64 0, .int .i64 0, .int .i64 0, .int .i64 0] 130)) (w.heap.size + 1 + 1) 130 ds := by
  have := Blk.new ((w.alloc (.cells cs.toArray 130)).alloc (.cells #[.slice pa p.length pcap] 24)) ds.toArray 130
  rw [World.size_alloc, World.size_alloc] at this
  exact this.alloc _
 have B3 : Blk ((((w.alloc (.cells cs.toArray 130)).alloc (.cells #[.slice pa p.length pcap] 24)).alloc (.cells ds.toArray 130)).alloc (.cells #[.int .i64 0, .int .i64 0, .int .i64 0, .int .i64 0, .int .i64 0, .int .i64 0, .int .i64 0, .int .i64 0, .int .i64 0, .int .i64 0, .int .i64 0, .int .i64 0, .int .i64 0, .int .i64 0, .int .i64 0, .int .i64 0, .int .i64 0] 130)) (w.heap.size + 1 + 1 + 1) 130 zero17 := by
  have := Blk.new (((w.alloc (.cells cs.toArray 130)).alloc (.cells #[.slice pa p.length pcap] 24)).alloc (.cells ds.toArray 130)) #[.int .i64 0, .int .i64 0, .int .i64 0, .int .i64 0, .int .i64 0, .int .i64 0, .int .i64 0, .int .i64 0, .int .i64 0, .int .i64 0, .int .i64 0, .int .i64 0, .int .i64 0, .int .i64 0, .int .i64 0, .int .i64 0, .int .i64 0] 130
  rw [World.size_alloc, World.size_alloc, World.size_alloc] at this
  exact this
 have h0 : (((((w.alloc (.cells cs.toArray 130)).alloc (.cells #[.slice pa p.length pcap] 24)).alloc (.cells ds.toArray 130)).alloc (.cells #[.int .i64 0, .int .i64 0, .int .i64 0, .int .i64 0, .int .i64 0, .int .i64 0, .int .i64 0, .int .i64 0, .int .i64 0, .int .i64 0, .int .i64 0, .int .i64 0, .int .i64 0, .int .i64 0, .int .i64 0, .int .i64 0, .int .i64 0] 130))).cell? ⟨w.heap.size, 16, none⟩ = some (.int .i64 (s.stk.length : Int)) := by rw [B0.cell]; exact hS.ht
 have h2 : (((((w.alloc (.cells cs.toArray 130)).alloc (.cells #[.slice pa p.length pcap] 24)).alloc (.cells ds.toArray 130)).alloc (.cells #[.int .i64 0, .int .i64 0, .int .i64 0, .int .i64 0, .int .i64 0, .int .i64 0, .int .i64 0, .int .i64 0, .int .i64 0, .int .i64 0, .int .i64 0, .int .i64 0, .int .i64 0, .int .i64 0, .int .i64 0, .int .i64 0, .int .i64 0] 130))).cell? ⟨w.heap.size + 1 + 1, 16, none⟩ = some (.int .i64 (t.stk.length : Int)) := by rw [B2.cell]; exact hT.ht
 by_cases hlen : s.stk.length = t.stk.length
 ·have hq : ((s.stk.length : Int) != (t.stk.length : Int)) = false := by rw [hlen]; simp
  have HLEN := hide hlen
  clear hlen
  go_enter Tryz.func142, Tryz.ntmps142
  go_wp2_with (refine wpList_load_blk aggLoc B2 0 (t.loc.map (Value.int .i64)) (by simp [tl]) (fun j v e => by
    rw [List.getElem?_map] at e
    cases e' : t.loc[j]? with
    | none => rw [e'] at e; cases e
    | some x => rw [e'] at e; cases e; rw [Nat.zero_add]; exact hT.loc j x e') (.tmp 18) rfl rfl rfl ?_)
  clear h0 h2 hq
  generalize hW : (((w.alloc _).alloc _).alloc _).alloc _ = W
  have hbW : Below w.heap.size w W := by rw [← hW]; exact hbel
  replace B0 : Blk W w.heap.size 130 cs := by rw [← hW]; exact B0
  replace B1 : Blk W (w.heap.size + 1) 24 [.slice pa p.length pcap] := by rw [← hW]; exact B1
  replace B2 : Blk W (w.heap.size + 1 + 1) 130 ds := by rw [← hW]; exact B2
  replace B3 : Blk W (w.heap.size + 1 + 1 + 1) 130 zero17 := by rw [← hW]; exact B3
  clear hW hbel
  go_loopw [20] (fun i wr => ∃ (k : Nat) (cc : List Value), k ≤ 8 ∧ i = .int .i64 k ∧ StC (joinK p s t k) cc ∧ Blk wr w.heap.size 130 cc ∧ Blk wr (w.heap.size + 1) 24 [.slice pa p.length pcap] ∧ Blk wr (w.heap.size + 1 + 1) 130 ds ∧ Blk wr (w.heap.size + 1 + 1 + 1) 130 zero17 ∧ Below w.heap.size w wr) (fun i _ => 8 - (intOf i).toNat)
  case atStart => exact ⟨0, cs, by omega, rfl, hS, B0, B1, B2, B3, hbW⟩
  case round =>
   obtain ⟨k, cc, hk, rfl, hcc, C0, C1, C2, C3, hb⟩ := hrel
   have HRP := hide (prog_keep (Keeps.of_below hb) (unhide HP))
   have HCC := hide hcc
   by_cases hlt : k < 8
   ·have hk1 : k < s.loc.length := by omega
    have hk2 : k < t.loc.length := by omega
    have hx := ts _ (List.getElem_mem hk1)
    have hy := tt _ (List.getElem_mem hk2)
    have hgx : cc[k]? = some (.int .i64 s.loc[k]) := hcc.loc k _ (by rw [joinK_get p s t k k (Nat.le_refl _)]; exact List.getElem?_eq_getElem hk1)
    have HSET : Hid (StC (joinK p s t (k + 1)) (cc.set k (.int .i64 (joinB p s.loc[k] t.loc[k])))) := by
     have := hcc.set k (joinB p s.loc[k] t.loc[k]) hlt
     have e1 : s.loc.getD k 0 = s.loc[k] := by rw [List.getD_eq_getElem?_getD, List.getElem?_eq_getElem hk1]; rfl
     have e2 : t.loc.getD k 0 = t.loc[k] := by rw [List.getD_eq_getElem?_getD, List.getElem?_eq_getElem hk2]; rfl
     show StC (setL (joinK p s t k) k (joinB p (s.loc.getD k 0) (t.loc.getD k 0))) _
     rw [e1, e2]
     exact this
    have c0 : wr.cell? ⟨w.heap.size, k, none⟩ = some (.int .i64 s.loc[k]) := (C0.cell k).trans hgx
    have c1 : wr.cell? ⟨w.heap.size + 1, 0, none⟩ = some (.slice pa p.length pcap) := C1.cell 0
    have hv : (t.loc.map (Value.int .i64))[k]? = some (.int .i64 t.loc[k]) := by rw [List.getElem?_map, List.getElem?_eq_getElem hk2]; rfl
    generalize s.loc[k] = x at *
    generalize t.loc[k] = y at *
    have hlt' : (k : Int) < 8 := by omega
    have k0 : (0 : Int) ≤ (k : Int) := by omega
    clear hcc
    go_wp2_with (refine wpList_index_arr (.tmp 19) (.tmp 20) rfl rfl (t.loc.map (Value.int .i64)) k (.int .i64 y) rfl rfl hlt hv ?_)
    refine wp_region_noPanic ?_
    refine wp_region_held_drew (S := (fun w' => w'.cell? ⟨w.heap.size + 1, 0, none⟩ = some (.slice pa p.length pcap))) (by kernel_rfl) ?_ (fun hHeld => ?_)
    ·exact c1
    refine take_x (some 24) 0 rfl rfl ?_
    refine take_x (some 25) 1 rfl rfl ?_
    refine take_x (some 26) 2 rfl rfl ?_
    refine take_x (some 27) 3 rfl rfl ?_
    refine take_x (some 28) 4 rfl rfl ?_
    refine take_x (some 30) 6 rfl rfl ?_
    refine take_x (some 32) 8 rfl rfl ?_
    refine wpAnyH_ready (rs := [5]) (by kernel_rfl) (by simp) ?_
    refine AllReadyH.cons rfl (fun K hK => ?_) AllReadyH.nil
    go_simp
    refine hK.out _ _ c1 (fun hHeld => ?_)
    clear hK K
    try simp only [Act.put, List.setIfInBounds_toArray, List.set_cons_zero, List.set_cons_succ]
    refine wpAnyH_ready (rs := [7]) (by kernel_rfl) (by simp) ?_
    refine AllReadyH.cons rfl (fun K hK => ?_) AllReadyH.nil
    go_simp
    refine (code_join p _ x y _ (prog_keep (Keeps.of_below ((Below.refl _ _).drew)) (unhide HRP)) hs hz hx hy).mono ?_
    rintro e w3 ⟨rfl, hb3⟩
    have hb3' : Below wr.heap.size wr w3 := ⟨hb3.os, hb3.tape, hb3.output, hb3.size, hb3.block⟩
    have D0 := C0.below hb3' C0.lt
    have D1 := C1.below hb3' C1.lt
    have D2 := C2.below hb3' C2.lt
    have D3 := C3.below hb3' C3.lt
    have c13 : w3.cell? ⟨w.heap.size + 1, 0, none⟩ = some (.slice pa p.length pcap) := D1.cell 0
    have c03 : w3.cell? ⟨w.heap.size, k, none⟩ = some (.int .i64 x) := (D0.cell _).trans hgx
    have f03 := D0.frozen (k)
    go_wp2_with fail
    refine hK.out _ _ c13 (fun hHeld => ?_)
    clear hK K
    try simp only [Act.put, List.setIfInBounds_toArray, List.set_cons_zero, List.set_cons_succ]
    refine take_x (some 33) 9 rfl rfl ?_
    refine wpAnyH_ready (rs := [10]) (by kernel_rfl) (by simp) ?_
    refine AllReadyH.cons rfl (fun K hK => ?_) AllReadyH.nil
    go_simp
    refine hK.out _ _ ((D1.setCell_ne (p := ⟨w.heap.size, k, none⟩) (by dsimp only; omega) (.int .i64 (joinB p x y))).cell 0) (fun hHeld => ?_)
    clear hK K
    try simp only [Act.put, List.setIfInBounds_toArray, List.set_cons_zero, List.set_cons_succ]
    refine wpAnyH_done (by kernel_rfl) ?_ _
    refine NoPanic.normal ?_
    have HX := hide (And.intro (D0.setCell (k) (.int .i64 (joinB p x y))) (And.intro (D1.setCell_ne (p := ⟨w.heap.size, k, none⟩) (by dsimp only; omega) (.int .i64 (joinB p x y))) (And.intro (D2.setCell_ne (p := ⟨w.heap.size, k, none⟩) (by dsimp only; omega) (.int .i64 (joinB p x y))) (And.intro (D3.setCell_ne (p := ⟨w.heap.size, k, none⟩) (by dsimp only; omega) (.int .i64 (joinB p x y))) ((hb.trans (hb3'.mono hb.size)).setCell (p := ⟨w.heap.size, k, none⟩) (Nat.le_refl _) (.int .i64 (joinB p x y)))))))
    clear c13 c03 f03 D0 D1 D2 D3 hb3 hb3' C0 C1 C2 C3 hb hHeld c1 c0
    go_wp2_with fail
    obtain ⟨z0, z1, z2, z3, z4⟩ := unhide HX
    exact ⟨⟨k + 1, _, by omega, by go_num, unhide HSET, z0, z1, z2, z3, z4⟩, by simp [intOf]; omega⟩
   ·obtain rfl : k = 8 := by omega
    have q0 : wr.cell? ⟨w.heap.size, 16, none⟩ = some (.int .i64 (s.stk.length : Int)) := by
     have e := hcc.ht
     rw [joinK_stk] at e
     exact (C0.cell 16).trans e
    have n0 : (0 : Int) ≤ (s.stk.length : Int) := by omega
    have n8 : (s.stk.length : Int) ≤ 8 := by omega
    have hlt' : ¬ ((8 : Nat) : Int) < 8 := by omega
    clear hlt B0 B1 B2 B3 hbW HCC HRP
    go_wp2_with fail
    generalize wr = V at *
    go_loopw [40] (fun i wr => ∃ (k : Nat) (cc : List Value), k ≤ s.stk.length ∧ i = .int .i64 k ∧ StC (joinT p s t k) cc ∧ Blk wr w.heap.size 130 cc ∧ Blk wr (w.heap.size + 1) 24 [.slice pa p.length pcap] ∧ Blk wr (w.heap.size + 1 + 1) 130 ds ∧ Blk wr (w.heap.size + 1 + 1 + 1) 130 zero17 ∧ Below w.heap.size w wr) (fun i _ => s.stk.length - (intOf i).toNat)
    case atStart => exact ⟨0, cc, by omega, rfl, hcc, C0, C1, C2, C3, hb⟩
    case round =>
     clear C0 C1 C2 C3 hb hcc q0
     obtain ⟨k, cc, hk, rfl, hcc, C0, C1, C2, C3, hb⟩ := hrel
     have HRP := hide (prog_keep (Keeps.of_below hb) (unhide HP))
     by_cases hlt : k < s.stk.length
     ·have hk2 : k < t.stk.length := by have := unhide HLEN; omega
      have hx := ts' _ (List.getElem_mem hlt)
      have hy := tt' _ (List.getElem_mem hk2)
      have hgx : cc[8 + k]? = some (.int .i64 s.stk[k]) := hcc.stk k _ (by rw [joinT_get p s t k k (Nat.le_refl _)]; exact List.getElem?_eq_getElem hlt)
      have HSET : Hid (StC (joinT p s t (k + 1)) (cc.set (8 + k) (.int .i64 (joinB p s.stk[k] t.stk[k])))) := by
       have := hcc.setStk k (joinB p s.stk[k] t.stk[k]) (by rw [joinT_len]; exact hlt)
       have e1 : s.stk.getD k 0 = s.stk[k] := by rw [List.getD_eq_getElem?_getD, List.getElem?_eq_getElem hlt]; rfl
       have e2 : t.stk.getD k 0 = t.stk[k] := by rw [List.getD_eq_getElem?_getD, List.getElem?_eq_getElem hk2]; rfl
       show StC (setK (joinT p s t k) k (joinB p (s.stk.getD k 0) (t.stk.getD k 0))) _
       rw [e1, e2]
       exact this
      have c0 : wr.cell? ⟨w.heap.size, 8 + k, none⟩ = some (.int .i64 s.stk[k]) := (C0.cell _).trans hgx
      have c1 : wr.cell? ⟨w.heap.size + 1, 0, none⟩ = some (.slice pa p.length pcap) := C1.cell 0
      have c2 : wr.cell? ⟨w.heap.size + 1 + 1, 8 + k, none⟩ = some (.int .i64 t.stk[k]) := (C2.cell _).trans (hT.stk k _ (List.getElem?_eq_getElem hk2))
      generalize s.stk[k] = x at *
      generalize t.stk[k] = y at *
      have hlt' : (k : Int) < (s.stk.length : Int) := by omega
      have hlt8 : (k : Int) < 8 := by omega
      have k0 : (0 : Int) ≤ (k : Int) := by omega
      clear hcc
      go_wp2_with fail
      refine wp_region_noPanic ?_
      refine wp_region_held_drew (S := (fun w' => w'.cell? ⟨w.heap.size + 1, 0, none⟩ = some (.slice pa p.length pcap))) (by kernel_rfl) ?_ (fun hHeld => ?_)
      ·exact c1
      refine take_x (some 45) 0 rfl rfl ?_
      refine take_x (some 46) 1 rfl rfl ?_
      refine take_x (some 47) 2 rfl rfl ?_
      refine take_x (some 48) 3 rfl rfl ?_
      refine take_x (some 49) 4 rfl rfl ?_
      refine take_x (some 51) 6 rfl rfl ?_
      refine take_x (some 53) 8 rfl rfl ?_
      refine wpAnyH_ready (rs := [5]) (by kernel_rfl) (by simp) ?_
      refine AllReadyH.cons rfl (fun K hK => ?_) AllReadyH.nil
      go_simp
      refine hK.out _ _ c1 (fun hHeld => ?_)
      clear hK K
      try simp only [Act.put, List.setIfInBounds_toArray, List.set_cons_zero, List.set_cons_succ]
      refine wpAnyH_ready (rs := [7]) (by kernel_rfl) (by simp) ?_
      refine AllReadyH.cons rfl (fun K hK => ?_) AllReadyH.nil
      go_simp
      refine (code_join p _ x y _ (prog_keep (Keeps.of_below ((Below.refl _ _).drew)) (unhide HRP)) hs hz hx hy).mono ?_
      rintro e w3 ⟨rfl, hb3⟩
      have hb3' : Below wr.heap.size wr w3 := ⟨hb3.os, hb3.tape, hb3.output, hb3.size, hb3.block⟩
      have D0 := C0.below hb3' C0.lt
      have D1 := C1.below hb3' C1.lt
      have D2 := C2.below hb3' C2.lt
      have D3 := C3.below hb3' C3.lt
      have c13 : w3.cell? ⟨w.heap.size + 1, 0, none⟩ = some (.slice pa p.length pcap) := D1.cell 0
      have c03 : w3.cell? ⟨w.heap.size, 8 + k, none⟩ = some (.int .i64 x) := (D0.cell _).trans hgx
      have f03 := D0.frozen (8 + k)
      go_wp2_with fail
      refine hK.out _ _ c13 (fun hHeld => ?_)
      clear hK K
      try simp only [Act.put, List.setIfInBounds_toArray, List.set_cons_zero, List.set_cons_succ]
      refine take_x (some 54) 9 rfl rfl ?_
      refine wpAnyH_ready (rs := [10]) (by kernel_rfl) (by simp) ?_
      refine AllReadyH.cons rfl (fun K hK => ?_) AllReadyH.nil
      go_simp
      refine hK.out _ _ ((D1.setCell_ne (p := ⟨w.heap.size, 8 + k, none⟩) (by dsimp only; omega) (.int .i64 (joinB p x y))).cell 0) (fun hHeld => ?_)
      clear hK K
      try simp only [Act.put, List.setIfInBounds_toArray, List.set_cons_zero, List.set_cons_succ]
      refine wpAnyH_done (by kernel_rfl) ?_ _
      refine NoPanic.normal ?_
      have HX := hide (And.intro (D0.setCell (8 + k) (.int .i64 (joinB p x y))) (And.intro (D1.setCell_ne (p := ⟨w.heap.size, 8 + k, none⟩) (by dsimp only; omega) (.int .i64 (joinB p x y))) (And.intro (D2.setCell_ne (p := ⟨w.heap.size, 8 + k, none⟩) (by dsimp only; omega) (.int .i64 (joinB p x y))) (And.intro (D3.setCell_ne (p := ⟨w.heap.size, 8 + k, none⟩) (by dsimp only; omega) (.int .i64 (joinB p x y))) ((hb.trans (hb3'.mono hb.size)).setCell (p := ⟨w.heap.size, 8 + k, none⟩) (Nat.le_refl _) (.int .i64 (joinB p x y)))))))
      clear c13 c03 f03 D0 D1 D2 D3 hb3 hb3' C0 C1 C2 C3 hb hHeld c1 c0
      go_wp2_with fail
      obtain ⟨z0, z1, z2, z3, z4⟩ := unhide HX
      exact ⟨⟨k + 1, _, by omega, by go_num, unhide HSET, z0, z1, z2, z3, z4⟩, by simp [intOf]; omega⟩
     ·obtain rfl : k = s.stk.length := by omega
      have hlt' : ¬ (s.stk.length : Int) < (s.stk.length : Int) := by omega
      have hl := hcc.len
      clear hlt
      go_wp2_with (first
       | refine wpList_load_blk aggSt C0 0 cc hl (fun j v e => by simpa using e) (.tmp 3) rfl rfl rfl ?_
       | (refine wpList_store_blk aggSt C3 0 cc hl (by simp [zero17]) hcc.one (.tmp 6) (.tmp 56) rfl rfl rfl rfl ?_; intro w7 hB7 hM7 hs7))
      rw [putAt_all (by rw [hl]; rfl)] at hB7
      refine bodyPost_ret (results_blk2 rfl aggSt hB7 hl rfl) rfl ?_
      exact ⟨fun _ => ⟨cc, rfl, hcc⟩, fun e => absurd (unhide HLEN) e, hb.trans (hM7.below hb.size (fun k hk e => by omega))⟩
 ·have hq : ((s.stk.length : Int) != (t.stk.length : Int)) = true := by simp; omega
  have HN := hide hlen
  clear hlen
  go_enter Tryz.func142, Tryz.ntmps142
  go_wp2_with (refine wpList_store_blk aggSt B3 0 zero17 rfl (by simp [zero17]) zero17_one (.tmp 6) (.tmp 17) rfl rfl rfl rfl ?_; intro w7 hB7 hM7 hs7)
  rw [putAt_all (by rfl : zero17.length = zero17.length)] at hB7
  refine bodyPost_ret (results_blk2 rfl aggSt hB7 rfl rfl) rfl ?_
  exact ⟨fun e => absurd e (unhide HN), fun _ => rfl, hbel.trans (hM7.below (by simp; omega) (fun k hk e => by omega))⟩
end Go.Proofs.YtiiokkllmchohaaGreat
/- The solver's pure side: what is known at each instruction, raised until nothing moves. -/
namespace Go.Proofs.YtiiokkllmchohaaGreat
open Go.RowKit

def zeroS : TSt := ⟨List.replicate 8 0, []⟩
theorem zeroS_ok : okS zeroS := ⟨rfl, by decide⟩
theorem zeroS_cells : stCells zeroS = zero17 := rfl
structure SvSt where
 st : List TSt
 re : List Bool
 ra : List Bool
def sv0 : SvSt := ⟨List.replicate 40 zeroS, List.replicate 40 false, List.replicate 40 false⟩
def putP (s : SvSt) (i : Nat) (g : TSt) : SvSt := ⟨s.st.set i g, s.re.set i true, s.ra.set i true⟩
def reachP (p : List LClass) (i : Nat) (g : TSt) (s : SvSt) : Option SvSt :=
 if s.re.getD i false then
  if belowS p g (s.st.getD i zeroS) then some s
  else if (s.st.getD i zeroS).stk.length = g.stk.length then some (putP s i (joinS p (s.st.getD i zeroS) g)) else none
 else some (putP s i g)
def reachAll (p : List LClass) (n : TSt) : List (Int × Bool) → SvSt → Option SvSt
 | [], s => some s
 | y :: r, s => (reachP p y.1.toNat n s).bind (reachAll p n r)
def goOnP (p : List LClass) (m : LMeth) (i : Nat) (s : SvSt) : Option SvSt := (nextS p m i (s.st.getD i zeroS)).bind fun n => reachAll p n (onwardL (insAt m i) i) s
def askP (p : List LClass) (m : LMeth) (i : Nat) (s : SvSt × Bool) : Option (SvSt × Bool) :=
 if s.1.ra.getD i false then (goOnP p m i { s.1 with ra := s.1.ra.set i false }).map fun s' => (s', true) else some s
def roundP (p : List LClass) (m : LMeth) (s : SvSt) : Nat → Option (SvSt × Bool)
 | 0 => some (s, false)
 | k + 1 => (roundP p m s k).bind (askP p m k)
def solveN (p : List LClass) (m : LMeth) : Nat → SvSt → Option (Option SvSt)
 | 0, _ => none
 | n + 1, s => match roundP p m s m.code.length with
  | none => some none
  | some (s', true) => solveN p m n s'
  | some (s', false) => some (some s')

structure SvC (s : SvSt) (css : List (List Value)) : Prop where
 l1 : s.st.length = 40
 l2 : s.re.length = 40
 l3 : s.ra.length = 40
 lc : css.length = 40
 cs : ∀ (i : Nat) (x : TSt) (c : List Value), s.st[i]? = some x → css[i]? = some c → StC x c
def svCells (vp : Value) (mc : List Value) (css : List (List Value)) (s : SvSt) : List Value := vp :: mc ++ (css.flatten ++ (s.re.map Value.bool ++ s.ra.map Value.bool))
def SvAt (w : World) (bs : Nat) (vp : Value) (mc : List Value) (s : SvSt) : Prop := ∃ css, SvC s css ∧ Blk w bs 134 (svCells vp mc css s)
theorem SvC.one {s : SvSt} {css : List (List Value)} (h : SvC s css) {i : Nat} {c : List Value} (hc : css[i]? = some c) : c.length = 17 := by
 have hi : i < css.length := (List.getElem?_eq_some_iff.1 hc).1
 have hx := List.getElem?_eq_getElem (show i < s.st.length by rw [h.l1, ← h.lc]; exact hi)
 exact (h.cs i _ c hx hc).len
theorem SvC.put {s : SvSt} {css : List (List Value)} (h : SvC s css) (i : Nat) {g : TSt} {c : List Value} (hc : StC g c) : SvC (putP s i g) (css.set i c) := by
 refine ⟨by simpa [putP] using h.l1, by simpa [putP] using h.l2, by simpa [putP] using h.l3, by simpa using h.lc, fun j x d e1 e2 => ?_⟩
 have e1' : (s.st.set i g)[j]? = some x := e1
 by_cases hij : i = j
 ·subst hij
  have hi : i < s.st.length := by
   have := (List.getElem?_eq_some_iff.1 e1').1
   simpa using this
  rw [List.getElem?_set_self hi] at e1'
  rw [List.getElem?_set_self (by rw [h.lc, ← h.l1]; exact hi)] at e2
  obtain rfl := Option.some.inj e1'
  obtain rfl := Option.some.inj e2
  exact hc
 ·rw [List.getElem?_set_ne hij] at e1' e2
  exact h.cs j x d e1' e2
end Go.Proofs.YtiiokkllmchohaaGreat
/- The solver's block: rows of seventeen cells, read and written. -/
namespace Go.Proofs.YtiiokkllmchohaaGreat
open Go.RowKit

theorem flt_len : ∀ (css : List (List Value)), (∀ c ∈ css, c.length = 17) → css.flatten.length = css.length * 17
 | [], _ => rfl
 | c :: r, h => by
  rw [List.flatten_cons, List.length_append, flt_len r (fun d hd => h d (by simp [hd])), h c (by simp), List.length_cons]
  omega
theorem flt_get : ∀ (css : List (List Value)), (∀ c ∈ css, c.length = 17) → ∀ (i : Nat) (c : List Value), css[i]? = some c → ∀ (j : Nat) (v : Value), c[j]? = some v → css.flatten[i * 17 + j]? = some v
 | [], _, i, c, hc, _, _, _ => by simp at hc
 | d :: r, h, 0, c, hc, j, v, hv => by
  obtain rfl : d = c := by simpa using hc
  have hj : j < d.length := (List.getElem?_eq_some_iff.1 hv).1
  rw [List.flatten_cons, Nat.zero_mul, Nat.zero_add, List.getElem?_append_left hj]
  exact hv
 | d :: r, h, i + 1, c, hc, j, v, hv => by
  have hd : d.length = 17 := h d (by simp)
  rw [List.flatten_cons, List.getElem?_append_right (by omega), hd, show (i + 1) * 17 + j - 17 = i * 17 + j by omega]
  exact flt_get r (fun e he => h e (by simp [he])) i c (by simpa using hc) j v hv
theorem flt_set : ∀ (css : List (List Value)), (∀ c ∈ css, c.length = 17) → ∀ (i : Nat) (c : List Value), c.length = 17 → i < css.length → css.flatten.take (i * 17) ++ c ++ css.flatten.drop (i * 17 + 17) = (css.set i c).flatten
 | [], _, i, _, _, hi => by simp at hi
 | d :: r, h, 0, c, hc, _ => by
  have hd : d.length = 17 := h d (by simp)
  rw [List.flatten_cons, Nat.zero_mul, List.take_zero, List.nil_append, Nat.zero_add, List.drop_append, hd, Nat.sub_self, List.drop_zero, List.drop_of_length_le (by omega), List.nil_append, List.set_cons_zero, List.flatten_cons]
 | d :: r, h, i + 1, c, hc, hi => by
  have hd : d.length = 17 := h d (by simp)
  have ih := flt_set r (fun e he => h e (by simp [he])) i c hc (by simpa using hi)
  rw [List.flatten_cons, List.take_append, List.drop_append, hd, show (i + 1) * 17 - 17 = i * 17 by omega, show (i + 1) * 17 + 17 - 17 = i * 17 + 17 by omega, List.take_of_length_le (by omega), List.drop_of_length_le (by omega), List.nil_append, List.set_cons_succ, List.flatten_cons, ← ih]
  simp
theorem SvC.all {s : SvSt} {css : List (List Value)} (h : SvC s css) : ∀ c ∈ css, c.length = 17 := fun c hc => by
 obtain ⟨i, hi, rfl⟩ := List.getElem_of_mem hc
 exact h.one (List.getElem?_eq_getElem hi)
theorem sv_state {vp : Value} {mc : List Value} {s : SvSt} {css : List (List Value)} (h : SvC s css) (hm : mc.length = 7) {i : Nat} {c : List Value} (hc : css[i]? = some c) (j : Nat) (v : Value) (hv : c[j]? = some v) : (svCells vp mc css s)[8 + i * 17 + j]? = some v := by
 have hl := flt_len css h.all
 have hi : i < css.length := (List.getElem?_eq_some_iff.1 hc).1
 have hj : j < c.length := (List.getElem?_eq_some_iff.1 hv).1
 have h17 := h.one hc
 have h40 := h.lc
 unfold svCells
 rw [List.getElem?_append_right (by simp [hm]; omega), List.length_cons, hm, show 8 + i * 17 + j - (7 + 1) = i * 17 + j by omega, List.getElem?_append_left (by omega)]
 exact flt_get css h.all i c hc j v hv
theorem sv_re {vp : Value} {mc : List Value} {s : SvSt} {css : List (List Value)} (h : SvC s css) (hm : mc.length = 7) {i : Nat} (hi : i < 40) : (svCells vp mc css s)[688 + i]? = some (.bool (s.re.getD i false)) := by
 have hl := flt_len css h.all
 have h40 := h.lc
 have h2 := h.l2
 unfold svCells
 rw [List.getElem?_append_right (by simp [hm]; omega), List.length_cons, hm, show 688 + i - (7 + 1) = 680 + i by omega, List.getElem?_append_right (by omega), hl, h40, show 680 + i - 40 * 17 = i by omega, List.getElem?_append_left (by simp; omega), List.getElem?_map, List.getD_eq_getElem?_getD, List.getElem?_eq_getElem (by omega)]
 rfl
theorem sv_ra {vp : Value} {mc : List Value} {s : SvSt} {css : List (List Value)} (h : SvC s css) (hm : mc.length = 7) {i : Nat} (hi : i < 40) : (svCells vp mc css s)[728 + i]? = some (.bool (s.ra.getD i false)) := by
 have hl := flt_len css h.all
 have h40 := h.lc
 have h2 := h.l2
 have h3 := h.l3
 unfold svCells
 rw [List.getElem?_append_right (by simp [hm]; omega), List.length_cons, hm, show 728 + i - (7 + 1) = 720 + i by omega, List.getElem?_append_right (by omega), hl, h40, show 720 + i - 40 * 17 = 40 + i by omega, List.getElem?_append_right (by simp; omega), List.length_map, h2, Nat.add_sub_cancel_left, List.getElem?_map, List.getD_eq_getElem?_getD, List.getElem?_eq_getElem (by omega)]
 rfl
theorem sv_put {vp : Value} {mc : List Value} {s : SvSt} {css : List (List Value)} (h : SvC s css) (hm : mc.length = 7) {i : Nat} (hi : i < 40) {c : List Value} (hc : c.length = 17) : putAt (svCells vp mc css s) (8 + i * 17) c = svCells vp mc (css.set i c) s := by
 have hl := flt_len css h.all
 have h40 := h.lc
 unfold putAt svCells
 have l8 : (vp :: mc).length = 8 := by simp [hm]
 rw [List.take_append, List.drop_append, l8, Nat.add_sub_cancel_left, hc, show 8 + i * 17 + 17 - 8 = i * 17 + 17 by omega, List.take_of_length_le (by omega), List.drop_of_length_le (by omega), List.nil_append, List.take_append_of_le_length (by omega), List.drop_append_of_le_length (by omega), ← flt_set css h.all i c hc (by omega)]
 simp
theorem sv_setre {vp : Value} {mc : List Value} {s : SvSt} {css : List (List Value)} (h : SvC s css) (hm : mc.length = 7) {i : Nat} (hi : i < 40) (b : Bool) : (svCells vp mc css s).set (688 + i) (.bool b) = svCells vp mc css { s with re := s.re.set i b } := by
 have hl := flt_len css h.all
 have h40 := h.lc
 have h2 := h.l2
 have l8 : (vp :: mc).length = 8 := by simp [hm]
 unfold svCells
 rw [List.set_append_right _ _ (by omega), l8, show 688 + i - 8 = 680 + i by omega, List.set_append_right _ _ (by omega), hl, h40, show 680 + i - 40 * 17 = i by omega, List.set_append_left _ _ (by simp; omega), List.map_set]
theorem sv_setra {vp : Value} {mc : List Value} {s : SvSt} {css : List (List Value)} (h : SvC s css) (hm : mc.length = 7) {i : Nat} (_hi : i < 40) (b : Bool) : (svCells vp mc css s).set (728 + i) (.bool b) = svCells vp mc css { s with ra := s.ra.set i b } := by
 have hl := flt_len css h.all
 have h40 := h.lc
 have h2 := h.l2
 have l8 : (vp :: mc).length = 8 := by simp [hm]
 unfold svCells
 rw [List.set_append_right _ _ (by omega), l8, show 728 + i - 8 = 720 + i by omega, List.set_append_right _ _ (by omega), hl, h40, show 720 + i - 40 * 17 = 40 + i by omega, List.set_append_right _ _ (by simp; omega), List.length_map, h2, Nat.add_sub_cancel_left, List.map_set]
theorem SvC.setre {s : SvSt} {css : List (List Value)} (h : SvC s css) (i : Nat) (b : Bool) : SvC { s with re := s.re.set i b } css := ⟨h.l1, by simpa using h.l2, h.l3, h.lc, h.cs⟩
theorem SvC.setra {s : SvSt} {css : List (List Value)} (h : SvC s css) (i : Nat) (b : Bool) : SvC { s with ra := s.ra.set i b } css := ⟨h.l1, h.l2, by simpa using h.l3, h.lc, h.cs⟩
theorem SvC.setst {s : SvSt} {css : List (List Value)} (h : SvC s css) (i : Nat) {g : TSt} {c : List Value} (hc : StC g c) : SvC { s with st := s.st.set i g } (css.set i c) :=
 have k := h.put i hc
 ⟨k.l1, h.l2, h.l3, k.lc, k.cs⟩
end Go.Proofs.YtiiokkllmchohaaGreat
/- The solver: a state is given to an instruction that was not come to. -/
namespace Go.Proofs.YtiiokkllmchohaaGreat
open Go.RowKit Go.Shelf
attribute [local go_sem ↓] Go.wp_at_zero Go.wp_at_succ
attribute [local go_sem] frz_drew

theorem wp_store_blk {P : Program} {ty : TypeId} {n : Nat} (h : AggOk P ty n) {w : World} {g : Nat} {t : TypeId} {cur : List Value} (hB : Blk w g t cur) (off : Nat) (vs : List Value) (hl : vs.length = n) (hf : off + n ≤ cur.length) (h1 : ∀ v ∈ vs, v.oneCell' = true)
  {o : Oper} {a : Act} {K : Act → World → Prop} {Q : Exit → Act → World → Prop} (x y : Operand) (ho : o.op = .store ty x y) (hx : a.eval x = .pointer (some ⟨g, off, none⟩)) (hy : a.eval y = .agg vs.toArray)
  (hK : ∀ w', Blk w' g t (putAt cur off vs) → Mods (fun k => k = g) w w' → w'.heap.size = w.heap.size → K (a.put o.dst undef) w') : o.wp P a w K Q := by
 unfold Oper.wp execOp
 simp only [ho, hx, hy, Instr.storeAt, Instr.sureAddr, Sem.run_bind, Sem.run_pure, Result.andThen_ok, run_store_blk h hB off vs hl hf h1]
 obtain ⟨h1, h2, h3⟩ := store_blk hB (putAt cur off vs)
 exact hK _ h1 h2 h3
set_option maxHeartbeats 1000000 in
set_option maxRecDepth 100000 in
theorem sv_reach_new (i : Nat) (g : TSt) (c : List Value) (w : World) (bs : Nat) (vp : Value) (mc : List Value) (s : SvSt) (h : SvAt w bs vp mc s) (hm : mc.length = 7) (hi : i < 40) (hg : StC g c) (hre : s.re.getD i false = false) :
  Calls Tryz.prog 78 #[.pointer (some ⟨bs, 0, none⟩), .int .i64 (i : Int), .agg c.toArray] w fun e w' => e = .returned (.tuple #[]) ∧ SvAt w' bs vp mc (putP s i g) ∧ Mods (fun k => k = bs) w w' := by
 obtain ⟨css, hC, hB⟩ := h
 have hbs := hB.lt
 have hl := hg.len
 have BW := hB.alloc (.cells c.toArray 130)
 have BX := Blk.new w c.toArray 130
 have r0 : (w.alloc (.cells c.toArray 130)).cell? ⟨bs, 688 + i, none⟩ = some (.bool false) := by rw [BW.cell, sv_re hC hm hi, hre]
 have HM := hide (bnone (S := fun k => k = bs) (box_below w (.cells c.toArray 130)))
 have i0 : (0 : Int) ≤ (i : Int) := by omega
 have i40 : (i : Int) < 40 := by omega
 go_enter Tryz.func78, Tryz.ntmps78
 go_wp2_with fail
 generalize w.alloc _ = W at *
 refine wp_region_noPanic ?_
 refine wp_region_held_drew (S := (fun w' => Blk w' w.heap.size 130 c)) (by kernel_rfl) ?_ (fun hHeld => ?_)
 ·exact BX
 have hlen : (svCells vp mc css s).length = 768 := by
  unfold svCells
  rw [List.length_append, List.length_append, List.length_append, List.length_map, List.length_map, flt_len css hC.all, List.length_cons, hm, hC.lc, hC.l2, hC.l3]
 refine take_x (some 45) 0 rfl rfl ?_
 refine take_x (some 46) 1 rfl rfl ?_
 refine take_x (some 47) 2 rfl rfl ?_
 refine take_x (some 48) 3 rfl rfl ?_
 refine take_x (some 49) 4 rfl rfl ?_
 refine take_x (some 50) 5 rfl rfl ?_
 refine take_d (some 51) (i := 6) (v := .agg c.toArray) rfl rfl (by kernel_rfl) (by kernel_rfl) (by kernel_rfl) (fun _ _ _ h => h) (Or.inl ⟨by rfl, fun w' hSw => exec_load_blk aggSt hSw 0 c hl (fun j v e => by simpa using e) rfl rfl⟩) (by assumption) ?_
 try simp only [Act.put, List.setIfInBounds_toArray, List.set_cons_zero, List.set_cons_succ]
 refine take_x (some 52) 7 rfl rfl ?_
 refine take_x (some 53) 8 rfl rfl ?_
 refine take_x (some 54) 9 rfl rfl ?_
 refine take_x (some 55) 11 rfl rfl ?_
 refine take_x (some 56) 12 rfl rfl ?_
 refine take_x (some 58) 15 rfl rfl ?_
 refine take_x (some 59) 16 rfl rfl ?_
 refine wpAnyH_ready (rs := [10]) (by kernel_rfl) (by simp) ?_
 refine AllReadyH.cons rfl (fun K hK => ?_) AllReadyH.nil
 refine wp_store_blk aggSt BW.drew (8 + i * 17) c hl (by rw [hlen]; omega) hg.one (.tmp 54) (.tmp 51) rfl rfl rfl ?_
 intro w2 hB2 hM2 hs2
 rw [sv_put hC hm hi hl] at hB2
 have hX2 := BX.drew.mods hM2 (by omega)
 have hC2 := hC.setst i hg
 have hM3 := (unhide HM).drew.trans hM2 (fun _ _ e => e)
 have hB2' : Blk w2 bs 134 (svCells vp mc (css.set i c) { s with st := s.st.set i g }) := hB2
 have a14 : ∃ b, w2.cell? ⟨bs, 688 + i, none⟩ = some (.bool b) := ⟨_, by rw [hB2'.cell, sv_re hC2 hm hi]⟩
 obtain ⟨b14, a14⟩ := a14
 have f14 := hB2'.frozen (688 + i)
 go_simp
 refine hK.out _ _ hX2 (fun hHeld => ?_)
 clear hK K
 try simp only [Act.put, List.setIfInBounds_toArray, List.set_cons_zero, List.set_cons_succ]
 refine take_x (some 57) 13 rfl rfl ?_
 have hB3 := hB2'.setCell (688 + i) (.bool true)
 rw [sv_setre hC2 hm hi] at hB3
 have hC3 := hC2.setre i true
 have hX3 := hX2.setCell_ne (p := ⟨bs, 688 + i, none⟩) (by dsimp only; omega) (.bool true)
 refine wpAnyH_ready (rs := [14]) (by kernel_rfl) (by simp) ?_
 refine AllReadyH.cons rfl (fun K hK => ?_) AllReadyH.nil
 go_simp
 refine hK.out _ _ hX3 (fun hHeld => ?_)
 clear hK K
 try simp only [Act.put, List.setIfInBounds_toArray, List.set_cons_zero, List.set_cons_succ]
 have hM4 := hM3.setCell (p := ⟨bs, 688 + i, none⟩) (fun _ => rfl) (.bool true)
 generalize w2.setCell _ _ = w3 at *
 refine take_x (some 60) 17 rfl rfl ?_
 have a18 : ∃ b, w3.cell? ⟨bs, 728 + i, none⟩ = some (.bool b) := ⟨_, by rw [hB3.cell, sv_ra hC3 hm hi]⟩
 obtain ⟨b18, a18⟩ := a18
 have f18 := hB3.frozen (728 + i)
 have hB4 := hB3.setCell (728 + i) (.bool true)
 rw [sv_setra hC3 hm hi] at hB4
 have hC4 := hC3.setra i true
 refine wpAnyH_ready (rs := [18]) (by kernel_rfl) (by simp) ?_
 refine AllReadyH.cons rfl (fun K hK => ?_) AllReadyH.nil
 go_simp
 refine hK.out _ _ (hX3.setCell_ne (p := ⟨bs, 728 + i, none⟩) (by dsimp only; omega) (.bool true)) (fun hHeld => ?_)
 clear hK K
 try simp only [Act.put, List.setIfInBounds_toArray, List.set_cons_zero, List.set_cons_succ]
 refine wpAnyH_done (by kernel_rfl) ?_ _
 refine NoPanic.normal ?_
 have HF := hide (And.intro (show SvAt _ bs vp mc (putP s i g) from ⟨_, hC4, hB4⟩) (hM4.setCell (p := ⟨bs, 728 + i, none⟩) (fun _ => rfl) (.bool true)))
 go_wp2_with fail
 go_end0
 exact ⟨rfl, (unhide HF).1, (unhide HF).2⟩
end Go.Proofs.YtiiokkllmchohaaGreat
/- The solver: a state is given to an instruction whose state is above it. -/
namespace Go.Proofs.YtiiokkllmchohaaGreat
open Go.RowKit Go.Shelf
attribute [local go_sem ↓] Go.wp_at_zero Go.wp_at_succ
attribute [local go_sem] frz_drew

set_option maxHeartbeats 1000000 in
set_option maxRecDepth 100000 in
theorem sv_reach_below (p : List LClass) (i : Nat) (g : TSt) (c : List Value) (w : World) (bs : Nat) (vp : Value) (mc : List Value) (s : SvSt) (h : SvAt w bs vp mc s) (hm : mc.length = 7) (hi : i < 40) (hg : StC g c) (hre : s.re.getD i false = true) (hp : RProg w vp p) (hs : SupOk p p.length) (hz : p.length ≤ 4194304)
  (k k' : Int) (tg : TyS p.length k g) (ti : TyS p.length k' (s.st.getD i zeroS)) (hbl : belowS p g (s.st.getD i zeroS) = true) :
  Calls Tryz.prog 78 #[.pointer (some ⟨bs, 0, none⟩), .int .i64 (i : Int), .agg c.toArray] w fun e w' => e = .returned (.tuple #[]) ∧ SvAt w' bs vp mc s ∧ Mods (fun k => k = bs) w w' := by
 have HP := hide hp
 obtain ⟨pa, _, _, pcap, rfl, _⟩ := hp
 obtain ⟨css, hC, hB⟩ := h
 have hbs := hB.lt
 have hl := hg.len
 have hil : i < s.st.length := by rw [hC.l1]; exact hi
 have hcl : i < css.length := by rw [hC.lc]; exact hi
 have hgi : StC (s.st.getD i zeroS) css[i] := by
  have e : s.st.getD i zeroS = s.st[i] := by rw [List.getD_eq_getElem?_getD, List.getElem?_eq_getElem hil]; rfl
  rw [e]
  exact hC.cs i _ _ (List.getElem?_eq_getElem hil) (List.getElem?_eq_getElem hcl)
 have hsv := fun j v (e : css[i][j]? = some v) => sv_state (vp := .slice pa p.length pcap) hC hm (List.getElem?_eq_getElem hcl) j v e
 have hli := hgi.len
 generalize css[i] = ci at *
 generalize s.st.getD i zeroS = u at *
 have BW := hB.alloc (.cells c.toArray 130)
 have BX := Blk.new w c.toArray 130
 have r0 : (w.alloc (.cells c.toArray 130)).cell? ⟨bs, 688 + i, none⟩ = some (.bool true) := by rw [BW.cell, sv_re hC hm hi, hre]
 have hbw := box_below w (.cells c.toArray 130)
 have HRP := hide (prog_keep (Keeps.of_below hbw) (unhide HP))
 have i0 : (0 : Int) ≤ (i : Int) := by omega
 have i40 : (i : Int) < 40 := by omega
 go_enter Tryz.func78, Tryz.ntmps78
 go_wp2_with fail
 generalize w.alloc _ = W at *
 have c0 : W.cell? ⟨bs, 0, none⟩ = some (.slice pa p.length pcap) := BW.cell 0
 refine wp_region_held_drew (S := (fun w' => Blk w' w.heap.size 130 c ∧ Blk w' bs 134 (svCells (.slice pa p.length pcap) mc css s) ∧ w'.cell? ⟨bs, 0, none⟩ = some (.slice pa p.length pcap))) (by kernel_rfl) ?_ (fun hHeld => ?_)
 ·exact (And.intro BX (And.intro BW c0))
 refine take_d (some 14) (i := 0) (v := .agg c.toArray) rfl rfl (by kernel_rfl) (by kernel_rfl) (by kernel_rfl) (fun _ _ _ h => h) (Or.inl ⟨by rfl, fun w' hSw => exec_load_blk aggSt hSw.1 0 c hl (fun j v e => by simpa using e) rfl rfl⟩) (by assumption) ?_
 try simp only [Act.put, List.setIfInBounds_toArray, List.set_cons_zero, List.set_cons_succ]
 refine take_x (some 15) 1 rfl rfl ?_
 refine take_x (some 16) 2 rfl rfl ?_
 refine take_x (some 17) 3 rfl rfl ?_
 refine take_x (some 18) 4 rfl rfl ?_
 refine take_x (some 19) 5 rfl rfl ?_
 refine take_x (some 20) 6 rfl rfl ?_
 refine take_x (some 21) 7 rfl rfl ?_
 refine take_x (some 22) 8 rfl rfl ?_
 refine take_x (some 23) 9 rfl rfl ?_
 refine take_d (some 24) (i := 10) (v := .agg ci.toArray) rfl rfl (by kernel_rfl) (by kernel_rfl) (by kernel_rfl) (fun _ _ _ h => h) (Or.inl ⟨by rfl, fun w' hSw => exec_load_blk aggSt hSw.2.1 (8 + i * 17) ci hli hsv rfl rfl⟩) (by assumption) ?_
 try simp only [Act.put, List.setIfInBounds_toArray, List.set_cons_zero, List.set_cons_succ]
 refine wpAnyH_ready (rs := [11]) (by kernel_rfl) (by simp) ?_
 refine AllReadyH.cons rfl (fun K hK => ?_) AllReadyH.nil
 go_simp
 refine (st_below p _ g u c ci _ (prog_keep (Keeps.of_below ((Below.refl _ _).drew)) (unhide HRP)) hs hz hg hgi tg.1 tg.2.1 ti.1 ti.2.1).mono ?_
 rintro e w3 ⟨rfl, hb3⟩
 have hb3' : Below W.heap.size W w3 := ⟨hb3.os, hb3.tape, hb3.output, hb3.size, hb3.block⟩
 have hBf := BW.below hb3' BW.lt
 have HF := hide (And.intro (show SvAt w3 bs (.slice pa p.length pcap) mc s from ⟨css, hC, hBf⟩) (bnone (S := fun k => k = bs) (hbw.trans (hb3'.mono hbw.size))))
 rw [hbl]
 go_wp2_with fail
 refine hK.out _ _ (And.intro (BX.below hb3' BX.lt) (And.intro hBf (hBf.cell 0))) (fun hHeld => ?_)
 clear hK K
 try simp only [Act.put, List.setIfInBounds_toArray, List.set_cons_zero, List.set_cons_succ]
 refine wpAnyH_done (by kernel_rfl) ?_ _
 go_wp2_with fail
 refine bodyPost_ret (results_none rfl _ _ _) rfl ?_
 exact ⟨rfl, (unhide HF).1, (unhide HF).2⟩
end Go.Proofs.YtiiokkllmchohaaGreat
/- The solver's pure side: the types of what is joined. -/
namespace Go.Proofs.YtiiokkllmchohaaGreat
open Go.RowKit

theorem chain_lt (p : List LClass) : ∀ (f : Nat) (c : Int) (x : Nat), x ∈ chain p f c → x < p.length
 | 0, _, _, h => by simp [chain] at h
 | f + 1, c, x, h => by
  unfold chain at h
  split at h
  ·simp at h
  ·cases hp : p[c.toNat]? with
   | none => rw [hp] at h; simp at h
   | some y =>
    rw [hp] at h
    rcases List.mem_cons.1 h with rfl | h
    ·exact (List.getElem?_eq_some_iff.1 hp).1
    ·exact chain_lt p f _ x h
theorem joinB_ok (p : List LClass) (a b : Int) (hb : tyOk p.length b) : tyOk p.length (joinB p a b) := by
 unfold joinB
 split
 ·exact hb
 ·split
  ·unfold upB
   split
   ·rename_i c hc
    have := chain_lt p _ _ c (List.mem_of_find?_eq_some hc)
    exact ⟨by omega, by omega⟩
   ·exact ⟨by omega, by omega⟩
  ·exact ⟨by omega, by omega⟩
theorem getD_ok {n : Nat} {l : List Int} (h : ∀ x ∈ l, tyOk n x) (i : Nat) : tyOk n (l.getD i 0) := by
 rw [List.getD_eq_getElem?_getD]
 cases e : l[i]? with
 | none => exact ⟨by simp, by simp; omega⟩
 | some x => exact h x (List.mem_of_getElem? e)
theorem set_ok {n : Nat} {l : List Int} (h : ∀ x ∈ l, tyOk n x) (i : Nat) {t : Int} (ht : tyOk n t) : ∀ x ∈ l.set i t, tyOk n x := fun x hx => by
 rcases List.mem_or_eq_of_mem_set hx with h' | rfl
 ·exact h x h'
 ·exact ht
theorem joinK_ok {p : List LClass} {s t : TSt} (hs : ∀ x ∈ s.loc, tyOk p.length x) (ht : ∀ x ∈ t.loc, tyOk p.length x) : ∀ k, ∀ x ∈ (joinK p s t k).loc, tyOk p.length x
 | 0 => hs
 | k + 1 => set_ok (joinK_ok hs ht k) k (joinB_ok p _ _ (getD_ok ht k))
theorem joinT_loc (p : List LClass) (s t : TSt) : ∀ k, (joinT p s t k).loc = (joinK p s t 8).loc
 | 0 => rfl
 | k + 1 => joinT_loc p s t k
theorem joinT_ok {p : List LClass} {s t : TSt} (hs : ∀ x ∈ s.stk, tyOk p.length x) (ht : ∀ x ∈ t.stk, tyOk p.length x) : ∀ k, ∀ x ∈ (joinT p s t k).stk, tyOk p.length x
 | 0 => by
  show ∀ x ∈ (joinK p s t 8).stk, _
  rw [joinK_stk]; exact hs
 | k + 1 => set_ok (joinT_ok hs ht k) k (joinB_ok p _ _ (getD_ok ht k))
theorem joinS_ty {p : List LClass} {k : Int} {s t : TSt} (hs : TyS p.length k s) (ht : TyS p.length k t) : TyS p.length k (joinS p s t) := by
 refine ⟨?_, joinT_ok hs.2.1 ht.2.1 _, ?_⟩
 ·show ∀ x ∈ (joinT p s t _).loc, _
  rw [joinT_loc]; exact joinK_ok hs.1 ht.1 8
 ·show ((joinT p s t _).stk.length : Int) ≤ k
  rw [joinT_len]; exact hs.2.2
def SvTy (p : List LClass) (k : Int) (s : SvSt) : Prop := ∀ x ∈ s.st, TyS p.length k x
theorem SvTy.get {p : List LClass} {k : Int} {s : SvSt} (h : SvTy p k s) {i : Nat} (hi : i < s.st.length) : TyS p.length k (s.st.getD i zeroS) := by
 rw [List.getD_eq_getElem?_getD, List.getElem?_eq_getElem hi]
 exact h _ (List.getElem_mem hi)
theorem SvTy.put {p : List LClass} {k : Int} {s : SvSt} (h : SvTy p k s) (i : Nat) {g : TSt} (hg : TyS p.length k g) : SvTy p k (putP s i g) := fun x hx => by
 rcases List.mem_or_eq_of_mem_set hx with h' | rfl
 ·exact h x h'
 ·exact hg
theorem SvTy.reach {p : List LClass} {k : Int} {s s' : SvSt} (h : SvTy p k s) {i : Nat} (hi : i < s.st.length) {g : TSt} (hg : TyS p.length k g) (e : reachP p i g s = some s') : SvTy p k s' := by
 unfold reachP at e
 split at e
 ·split at e
  ·obtain rfl := Option.some.inj e; exact h
  ·split at e
   ·obtain rfl := Option.some.inj e; exact h.put i (joinS_ty (h.get hi) hg)
   ·cases e
 ·obtain rfl := Option.some.inj e; exact h.put i hg
theorem sv0_ty (p : List LClass) {k : Int} (hk : 0 ≤ k) : SvTy p k sv0 := fun x hx => by
 obtain rfl := List.eq_of_mem_replicate hx
 refine ⟨fun x hx => ?_, fun x hx => (by cases hx), by simpa [zeroS] using hk⟩
 obtain rfl := List.eq_of_mem_replicate hx
 exact ⟨by omega, by omega⟩
end Go.Proofs.YtiiokkllmchohaaGreat
/- The solver's pure side: where an instruction goes on; what a round keeps. -/
namespace Go.Proofs.YtiiokkllmchohaaGreat
open Go.RowKit

theorem jump_in {p : List LClass} {m : LMeth} {i : LIns} (h : insB p m i = true) (hj : jumpsB i = true) : 0 ≤ i.a ∧ i.a < (m.code.length : Int) := by
 unfold jumpsB at hj
 have ho : i.op = 7 ∨ i.op = 8 ∨ i.op = 18 := by simpa [or_assoc] using hj
 unfold insB at h
 rw [if_neg (by rcases ho with e | e | e <;> rw [e] <;> decide), if_neg (by rcases ho with e | e | e <;> rw [e] <;> decide), if_pos ho] at h
 have := (Bool.and_eq_true_iff.1 h).1
 unfold placeB at this
 simpa using this
theorem onward_in {p : List LClass} {m : LMeth} {pc : Nat} (hpc : pc < m.code.length) (hi : ∀ i ∈ m.code, insB p m i = true) {s n : TSt} (hn : nextS p m pc s = some n) : ∀ y ∈ onwardL (insAt m pc) pc, 0 ≤ y.1 ∧ y.1 < (m.code.length : Int) := by
 have he : endB m pc = false := by
  unfold nextS at hn
  cases hd : doS p m (insAt m pc) s with
  | none => rw [hd] at hn; cases hn
  | some x =>
   rw [hd] at hn
   cases he : endB m pc with
   | false => rfl
   | true => simp [he] at hn
 intro y hy
 have hne : y.1 ≠ (m.code.length : Int) := fun e => by
  have : endB m pc = true := by
   unfold endB
   exact List.any_eq_true.2 ⟨y, hy, by simpa using e⟩
  rw [he] at this; cases this
 have hX : insB p m (insAt m pc) = true := by
  unfold insAt
  rw [List.getElem?_eq_getElem hpc]
  exact hi _ (List.getElem_mem hpc)
 unfold onwardL at hy
 rcases List.mem_append.1 hy with h | h
 ·split at h
  ·rename_i hj
   obtain rfl := List.mem_singleton.1 h
   exact jump_in hX hj
  ·cases h
 ·split at h
  ·obtain rfl := List.mem_singleton.1 h
   dsimp only at hne ⊢
   omega
  ·cases h
end Go.Proofs.YtiiokkllmchohaaGreat
/- What a state tells as a frame: State.Frame. -/
namespace Go.Proofs.YtiiokkllmchohaaGreat
open Go.RowKit Go.Shelf
attribute [local go_sem ↓] Go.wp_at_zero Go.wp_at_succ
attribute [local go_sem] frz_drew

theorem addr_plus (b off j : Nat) : (⟨b, off, none⟩ : Addr).add j = ⟨b, off + j, none⟩ := by unfold Addr.add; split <;> simp_all
theorem aggFr : AggOk Tryz.prog 42 3 := ⟨by kernel_rfl, by kernel_rfl⟩
def FrR (s : TSt) (pc : Int) (n : Nat) (w w' : World) (e : Ending) : Prop :=
 ∃ vl vs, e = .returned (.agg #[.int .i64 pc, vl, vs]) ∧ w'.ownsRow w.heap.size 43 1 vl n ((s.loc.take n).map (Value.int .i64)) ∧ w'.ownsRow w.heap.size 43 1 vs s.stk.length (s.stk.map (Value.int .i64)) ∧
  (∀ g, vl.ownBlock = some g → vs.ownBlock ≠ some g) ∧ Below w.heap.size w w'
set_option maxHeartbeats 1000000 in
set_option maxRecDepth 100000 in
theorem st_frame (s : TSt) (cs : List Value) (pc : Int) (n : Nat) (w : World) (hS : StC s cs) (hn : n ≤ 8) :
  Calls Tryz.prog 146 #[.agg cs.toArray, .int .i64 pc, .int .i64 (n : Int)] w fun e w' => FrR s pc n w w' e := by
 obtain ⟨i0, hi0, hz0, hz1, hz2⟩ := info_parts infoType
 have s8 := hS.ok.2
 have l8 := hS.ok.1
 have hcl := hS.len
 have n0 : (0 : Int) ≤ (n : Int) := by omega
 have n8 : (n : Int) ≤ 8 := by omega
 have k0 : (0 : Int) ≤ (s.stk.length : Int) := by omega
 have k8 : (s.stk.length : Int) ≤ 8 := by omega
 go_enter Tryz.func146, Tryz.ntmps146
 go_wp2_with fail
 have hbel : Below w.heap.size w ((w.alloc (.cells cs.toArray 130)).alloc (.cells #[.int .i64 0, .slice none 0 0, .slice none 0 0] 42)) := box2_below _ _ _
 have B0 := (Blk.new w cs.toArray 130).alloc (.cells #[.int .i64 0, .slice none 0 0, .slice none 0 0] 42)
 have B1 := Blk.new (w.alloc (.cells cs.toArray 130)) #[.int .i64 0, .slice none 0 0, .slice none 0 0] 42
 rw [World.size_alloc] at B1
 generalize (w.alloc _).alloc _ = W at *
 have c16 : W.cell? ⟨w.heap.size, 16, none⟩ = some (.int .i64 (s.stk.length : Int)) := by rw [B0.cell]; exact hS.ht
 refine wp_region_noPanic ?_
 refine wp_region_held_drew (S := (fun w' => w'.cell? ⟨w.heap.size, 16, none⟩ = some (.int .i64 (s.stk.length : Int)))) (by kernel_rfl) ?_ (fun hHeld => ?_)
 ·exact c16
 refine take_x (some 7) 0 rfl rfl ?_
 refine take_x (some 8) 1 rfl rfl ?_
 refine take_x (some 9) 2 rfl rfl ?_
 refine take_x (some 10) 3 rfl rfl ?_
 refine take_x (some 12) 5 rfl rfl ?_
 refine take_x (some 13) 6 rfl rfl ?_
 refine take_x (some 14) 7 rfl rfl ?_
 refine take_x (some 15) 8 rfl rfl ?_
 refine wpAnyH_ready (rs := [4]) (by kernel_rfl) (by simp) ?_
 refine AllReadyH.cons rfl (fun K hK => ?_) AllReadyH.nil
 have hsrc1 : ∀ ad, some (⟨w.heap.size, 0, none⟩ : Addr) = some ad → ∀ j u, ((s.loc.take n).map (Value.int .i64))[j]? = some u → W.cell? (ad.add j) = some u := fun ad e j u h => by
  obtain rfl := Option.some.inj e
  rw [addr_plus, B0.cell]
  rw [List.getElem?_map] at h
  obtain ⟨x, hx, rfl⟩ := Option.map_eq_some_iff.1 h
  rw [Nat.zero_add]
  rw [List.getElem?_take] at hx
  split at hx
  ·exact hS.loc j x hx
  ·cases hx
 refine wp_append_sl (.const (.slice none 0 0)) (.tmp 10) 40 rfl w.heap.size 43 i0 (.int .i64 0) 1 8 Tryz.underlying40 hi0 hz0 hz1 hz2 rfl (by decide) (.slice none 0 0) 0 [] rfl (World.ownsRow_nil _ _ _ _) (some ⟨w.heap.size, 0, none⟩) n 8 ((s.loc.take n).map (Value.int .i64)) rfl (by simp; omega) (fun e => by cases e) hsrc1 (oneCell_ints _) (by unfold maxLen; omega) (by omega) hbel.size ?_
 intro v1 w1 hown1 hg1 hat1
 rw [Nat.zero_add, List.nil_append] at hown1
 obtain ⟨a1, cap1, rfl⟩ := own_form hown1
 have hm1 : Mods (fun _ => False) W w1 := ((Mods.refl _ W).drew).grown hg1 (fun k e _ => by cases e)
 have hbw1 : Below w.heap.size w w1 := hbel.trans (hm1.below hbel.size (fun _ _ f => f))
 have B01 := B0.mods hm1 (fun f => f)
 have B11 := B1.mods hm1 (fun f => f)
 have c161 : w1.cell? ⟨w.heap.size, 16, none⟩ = some (.int .i64 (s.stk.length : Int)) := by rw [B01.cell]; exact hS.ht
 go_simp
 refine hK.out _ _ c161 (fun hHeld => ?_)
 clear hK K
 try simp only [Act.put, List.setIfInBounds_toArray, List.set_cons_zero, List.set_cons_succ]
 have hsrc2 : ∀ ad, some (⟨w.heap.size, 8, none⟩ : Addr) = some ad → ∀ j u, (s.stk.map (Value.int .i64))[j]? = some u → w1.cell? (ad.add j) = some u := fun ad e j u h => by
  obtain rfl := Option.some.inj e
  rw [addr_plus, B01.cell]
  rw [List.getElem?_map] at h
  obtain ⟨x, hx, rfl⟩ := Option.map_eq_some_iff.1 h
  exact hS.stk j x hx
 refine wpAnyH_ready (rs := [9]) (by kernel_rfl) (by simp) ?_
 refine AllReadyH.cons rfl (fun K hK => ?_) AllReadyH.nil
 refine wp_append_sl (.const (.slice none 0 0)) (.tmp 15) 40 rfl w.heap.size 43 i0 (.int .i64 0) 1 8 Tryz.underlying40 hi0 hz0 hz1 hz2 rfl (by decide) (.slice none 0 0) 0 [] rfl (World.ownsRow_nil _ _ _ _) (some ⟨w.heap.size, 8, none⟩) s.stk.length 8 (s.stk.map (Value.int .i64)) rfl (by simp) (fun e => by cases e) hsrc2 (oneCell_ints _) (by unfold maxLen; omega) (by omega) hbw1.size ?_
 intro v2 w2 hown2 hg2 hat2
 rw [Nat.zero_add, List.nil_append] at hown2
 obtain ⟨a2, cap2, rfl⟩ := own_form hown2
 have hm2 : Mods (fun _ => False) w1 w2 := (Mods.refl _ w1).grown hg2 (fun k e _ => by cases e)
 have hbw2 : Below w.heap.size w w2 := hbw1.trans (hm2.below hbw1.size (fun _ _ f => f))
 have B12 := B11.mods hm2 (fun f => f)
 have c162 : w2.cell? ⟨w.heap.size, 16, none⟩ = some (.int .i64 (s.stk.length : Int)) := hm2.cell c161 (fun f => f)
 have hown1' := own_mods hown1 hm2 (fun _ _ f => f)
 go_simp
 refine hK.out _ _ c162 (fun hHeld => ?_)
 clear hK K
 try simp only [Act.put, List.setIfInBounds_toArray, List.set_cons_zero, List.set_cons_succ]
 refine take_x (some 17) 10 rfl rfl ?_
 refine wpAnyH_ready (rs := [11]) (by kernel_rfl) (by simp) ?_
 refine AllReadyH.cons rfl (fun K hK => ?_) AllReadyH.nil
 refine wp_store_blk aggFr B12 0 [.int .i64 pc, .slice a1 n cap1, .slice a2 s.stk.length cap2] rfl (by simp) (fun v hv => by
  simp only [List.mem_cons, List.not_mem_nil, or_false] at hv
  rcases hv with rfl | rfl | rfl <;> rfl) (.tmp 6) (.tmp 17) rfl rfl rfl ?_
 intro w3 hB3 hM3 hs3
 rw [putAt_all (by rfl)] at hB3
 have c163 : w3.cell? ⟨w.heap.size, 16, none⟩ = some (.int .i64 (s.stk.length : Int)) := hM3.cell c162 (by dsimp only; omega)
 refine hK.out _ _ c163 (fun hHeld => ?_)
 clear hK K
 try simp only [Act.put]
 refine wpAnyH_done (by kernel_rfl) ?_ _
 refine NoPanic.normal ?_
 have HF : Hid (FrR s pc n w w3 (.returned (.agg #[.int .i64 pc, .slice a1 n cap1, .slice a2 s.stk.length cap2]))) := by
  have b1 := B1.lt
  have z1 := hm1.size
  refine ⟨_, _, rfl, ?_, ?_, fun g h1 h2 => ?_, hbw2.trans (hM3.below hbw2.size (fun k hk e => by omega))⟩
  ·have := own_mods hown1' hM3 (fun g hg e => by
    rcases hat1 with h | h
    ·rw [h] at hg; cases hg
    ·rw [h] at hg; cases hg; change W.heap.size = _ at e; omega)
   simpa using this
  ·have := own_mods hown2 hM3 (fun g hg e => by
    rcases hat2 with h | h
    ·rw [h] at hg; cases hg
    ·rw [h] at hg; cases hg; omega)
   simpa using this
  ·have l1 := (hown1'.lt g h1).2
   rcases hat1 with h | h
   ·rw [h] at h1; cases h1
   ·rcases hat2 with h' | h'
    ·rw [h'] at h2; cases h2
    ·rw [h'] at h2; cases h2
     have := (hown1.lt _ h1).2
     omega
 go_wp2_with fail
 refine bodyPost_ret (results_blk rfl aggFr hB3 rfl rfl) rfl ?_
 exact unhide HF
end Go.Proofs.YtiiokkllmchohaaGreat
