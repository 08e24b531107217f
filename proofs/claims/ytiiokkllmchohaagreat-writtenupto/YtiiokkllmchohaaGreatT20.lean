/- The machine: end. -/
import Derived.Test.YtiiokkllmchohaaGreatT19
/- MacN -/
namespace Go.Proofs.YtiiokkllmchohaaGreat
open Go.RowKit Go.Shelf
attribute [local go_sem ↓] Go.wp_at_zero Go.wp_at_succ
attribute [local go_sem] frz_drew

section
variable {w0 w w' : World} {ρ : Nat → Nat × Nat} {mb : Nat} {vp : Value} {fuel : Int} {ask : Bool} {st : MaSt} {A : List Nat} {X : List FrX} {Y : List Value} {vr vpr : Value}
theorem MaA.own (h : MaA w0 w ρ mb vp fuel ask st A X Y vr vpr) (hM : Mods (fun k => k = mb) w w') {frs : List MFr} {X' : List FrX} {told : LVal} {vr' : Value} {steps : Nat} (hB : Blk w' mb 172 (machC vp fuel ask vr' st.objs.length A told vpr steps)) (hr : w'.ownsRow w0.heap.size 231 1 vr' X'.length (X'.map fun x => .pointer (some ⟨x.fb, 0, none⟩))) (hv : vr'.ownBlock = vr.ownBlock) (hl : X'.length = frs.length) (hf : ∀ (i : Nat) (f : MFr) (x : FrX), frs[i]? = some f → X'[i]? = some x → st.frames[i]? = some f ∧ X[i]? = some x) (ok : okV A told) :
    MaA w0 w' ρ mb vp fuel ask { st with frames := frs, told := told, steps := steps } A X' Y vr' vpr := by
  have hq : ∀ k, k < w.heap.size → k = mb → ∀ r, r ≠ (5, 0) → ρ k ≠ r := fun k _ e r hr e' => hr (e' ▸ e ▸ h.rmb)
  have s : Same w.heap.size ρ ρ := fun _ _ => rfl
  have hz := h.bel.size
  exact ⟨hB, h.base, h.rmb, hr, fun g hg => h.rvr g (hv ▸ hg), own_mods h.prn hM (fun g hg e => hq g (h.prn.lt g hg).2 e (7, 0) (by simp) (h.rpr g hg)), h.rpr, hl, fun i f x h1 h2 => (h.fr i f x (hf i f x h1 h2).1 (hf i f x h1 h2).2).mods hM s (fun k hk e => ⟨hq k hk e _ (by simp), hq k hk e _ (by simp), hq k hk e _ (by simp)⟩), h.la, h.ly, fun k o b v h1 h2 h3 => (h.ob k o b v h1 h2 h3).mods hM s (fun j hj e => ⟨hq j hj e _ (by simp), hq j hj e _ (by simp)⟩), ok, h.bel.trans (hM.below hz (fun k hk e => by have := h.base; omega)), h.low⟩
theorem MaA.below {b : Nat} (h : MaA w0 w ρ mb vp fuel ask st A X Y vr vpr) (hb : Below b w w') (hbz : w.heap.size ≤ b) : MaA w0 w' ρ mb vp fuel ask st A X Y vr vpr := by
  have hM := Mods.of_below hb
  have s : Same w.heap.size ρ ρ := fun _ _ => rfl
  have hz := h.bel.size
  have hlt := h.lt
  exact ⟨h.mach.below hb (by omega), h.base, h.rmb, own_mods h.run hM (fun g hg e => by have := (h.run.lt g hg).2; omega), h.rvr, own_mods h.prn hM (fun g hg e => by have := (h.prn.lt g hg).2; omega), h.rpr, h.lx, fun i f x h1 h2 => (h.fr i f x h1 h2).mods hM s (fun k hk e => by omega), h.la, h.ly, fun k o c v h1 h2 h3 => (h.ob k o c v h1 h2 h3).mods hM s (fun j hj e => by omega), h.okt, h.bel.trans (hb.mono (by omega)), h.low⟩
theorem MaA.drew (h : MaA w0 w ρ mb vp fuel ask st A X Y vr vpr) : MaA w0 w.drew ρ mb vp fuel ask st A X Y vr vpr := h.below (Below.refl w.heap.size w).drew (Nat.le_refl _)
end
theorem snoc_of {α : Type} {l : List α} (h : 0 < l.length) : ∃ a x, l = a ++ [x] := by
  rcases List.eq_nil_or_concat l with rfl | ⟨a, x, rfl⟩
  · simp at h
  · exact ⟨a, x, by simp⟩
def endSt (st : MaSt) (v : LVal) : MaSt := match st.frames.dropLast.getLast? with
  | none => { st with frames := [], told := v }
  | some g => { st with frames := st.frames.dropLast.dropLast ++ [{ g with stk := g.stk ++ [v] }], told := v }
theorem endSt_nil {st : MaSt} {f : MFr} (v : LVal) (h : st.frames = [] ++ [f]) : endSt st v = { st with frames := [], told := v } := by
  unfold endSt
  rw [h]; rfl
theorem endSt_cons {st : MaSt} {fs : List MFr} {g f : MFr} (v : LVal) (h : st.frames = fs ++ [g] ++ [f]) : endSt st v = { st with frames := fs ++ [{ g with stk := g.stk ++ [v] }], told := v } := by
  unfold endSt
  rw [h, List.dropLast_concat, List.getLast?_concat, List.dropLast_concat]
set_option maxHeartbeats 1000000 in
set_option maxRecDepth 100000 in
theorem ma_end (w0 w : World) (ρ : Nat → Nat × Nat) (mb : Nat) (vp : Value) (fuel : Int) (ask : Bool) (st : MaSt) (A : List Nat) (X : List FrX) (Y : List Value) (vr vpr : Value) (h : MaA w0 w ρ mb vp fuel ask st A X Y vr vpr) (v : LVal) (okv : okV A v) (fs : List MFr) (f : MFr) (hfs : st.frames = fs ++ [f]) (hX : X.length ≤ 4194304) (hst : ∀ g ∈ st.frames, g.stk.length ≤ 4194304) :
    Calls Tryz.prog 172 #[.pointer (some ⟨mb, 0, none⟩), .agg (encV A v).toArray] w fun e w' => BegR w0 mb vp fuel ask (endSt st v) A w' e := by
  have hone := encV_one A v
  have hbel := box_below w (.cells (encV A v).toArray 170)
  have B0 := Blk.new w (encV A v).toArray 170
  have hm1 := h.mach.alloc (.cells (encV A v).toArray 170)
  have hlt := h.lt
  have hxl : X.length = fs.length + 1 := by rw [h.lx, hfs]; simp
  obtain ⟨X0, x, rfl⟩ : ∃ X0 x, X = X0 ++ [x] := snoc_of (by omega)
  have hx0 : X0.length = fs.length := by simpa using hxl
  have hxx : (X0 ++ [x]).length = X0.length + 1 := by simp
  obtain ⟨g, rcap, rfl, hcap, _, hrd⟩ := own_read h.run (by omega)
  have hless := own_less h.run (m := X0.length) (by omega)
  rw [Nat.mul_one, List.map_append, List.take_append_of_le_length (by simp), List.take_of_length_le (by simp)] at hless
  go_enter Tryz.func172, Tryz.ntmps172
  go_wp2_with (first
    | refine wpList_load_blk aggVal B0 0 (encV A v) rfl (fun j u e => by simpa using e) (.tmp 3) rfl rfl rfl ?_
    | (refine wpList_store_blk aggVal hm1 5 (encV A v) rfl (by simp [machC]) hone (.tmp 7) (.tmp 5) rfl rfl rfl rfl ?_; intro w2 hB2 hM2 hs2))
  have hB2' : Blk w2 mb 172 (machC vp fuel ask (.slice (some ⟨g, 0, none⟩) (X0.length + 1) rcap) st.objs.length A v vpr st.steps) := by
    rw [← hxx]; exact hB2
  have n3 : w2.cell? ⟨mb, 3, none⟩ = some (.slice (some ⟨g, 0, none⟩) (X0.length + 1) rcap) := hB2'.cell 3
  have f3 := hB2'.frozen 3
  have hM3 : Mods (fun k => k = mb) w (w2.setCell ⟨mb, 3, none⟩ (.slice (some ⟨g, 0, none⟩) X0.length rcap)) := ((bnone hbel).trans hM2 (fun _ _ e => e)).setCell (p := ⟨mb, 3, none⟩) (fun _ => rfl) _
  have hB3 : Blk (w2.setCell ⟨mb, 3, none⟩ (.slice (some ⟨g, 0, none⟩) X0.length rcap)) mb 172 (machC vp fuel ask (.slice (some ⟨g, 0, none⟩) X0.length rcap) st.objs.length A v vpr st.steps) := hB2'.setCell 3 _
  have HW2 : Hid (MaA w0 (w2.setCell ⟨mb, 3, none⟩ (.slice (some ⟨g, 0, none⟩) X0.length rcap)) ρ mb vp fuel ask { st with frames := fs, told := v } A X0 Y (.slice (some ⟨g, 0, none⟩) X0.length rcap) vpr ∧ Blk (w2.setCell ⟨mb, 3, none⟩ (.slice (some ⟨g, 0, none⟩) X0.length rcap)) w.heap.size 170 (encV A v)) := by
    refine ⟨h.own hM3 hB3 (own_mods hless hM3 (fun j hj e => ?_)) rfl hx0 (fun i f' x' h1 h2 => ?_) okv, ((B0.mods hM2 (by omega)).setCell_ne (by dsimp only; omega) _)⟩
    · have := own_ne h.run h.mach tp_ne_ma
      exact this (e ▸ hj)
    · rw [hfs]
      exact ⟨by rw [List.getElem?_append_left (List.getElem?_eq_some_iff.1 h1).1]; exact h1, by rw [List.getElem?_append_left (List.getElem?_eq_some_iff.1 h2).1]; exact h2⟩
  have HX0 := hide hx0
  have HXL := hide (show X0.length ≤ 4194303 by omega)
  have n0 : (0 : Int) ≤ (X0.length : Int) := by omega
  have hc0 : (X0.length : Int) ≤ (rcap : Int) := by omega
  have hwr : IntKind.i64.wrap (X0.length : Int) = (X0.length : Int) := by rw [IntKind.wrap_i64]; omega
  have hsub : ((X0.length : Int) + 1) - 1 = (X0.length : Int) := by omega
  clear hB2 hM2 hs2 hB2' hM3 hB3 hless hm1 B0 hbel hx0 hxl hxx hX
  go_cut [] (fun wx => MaA w0 wx ρ mb vp fuel ask { st with frames := fs, told := v } A X0 Y (.slice (some ⟨g, 0, none⟩) X0.length rcap) vpr ∧ Blk wx w.heap.size 170 (encV A v))
  case first =>
    refine wp_region_held_drew (S := (fun _ => True)) (by kernel_rfl) ?_ (fun hHeld => ?_)
    · exact trivial
    refine take_x (some 8) 0 rfl rfl ?_
    try simp only [Act.put, List.setIfInBounds_toArray, List.set_cons_zero, List.set_cons_succ]
    refine take_x (some 9) 1 rfl rfl ?_
    try simp only [Act.put, List.setIfInBounds_toArray, List.set_cons_zero, List.set_cons_succ]
    refine take_x (some 10) 2 rfl rfl ?_
    try simp only [Act.put, List.setIfInBounds_toArray, List.set_cons_zero, List.set_cons_succ]
    refine take_x (some 11) 3 rfl rfl ?_
    try simp only [Act.put, List.setIfInBounds_toArray, List.set_cons_zero, List.set_cons_succ]
    refine take_x (some 13) 5 rfl rfl ?_
    try simp only [Act.put, List.setIfInBounds_toArray, List.set_cons_zero, List.set_cons_succ]
    refine take_x (some 14) 6 rfl rfl ?_
    try simp only [Act.put, List.setIfInBounds_toArray, List.set_cons_zero, List.set_cons_succ]
    refine take_x (some 15) 7 rfl rfl ?_
    try simp only [Act.put, List.setIfInBounds_toArray, List.set_cons_zero, List.set_cons_succ]
    refine wpAnyH_ready (rs := [4, 8]) (by kernel_rfl) (by simp) ?_
    refine AllReadyH.cons rfl (fun K hK => ?_) (AllReadyH.cons rfl (fun K hK => ?_) AllReadyH.nil)
    · go_simp
      refine hK.out _ _ trivial (fun hHeld => ?_)
      clear hK K
      try simp only [Act.put, List.setIfInBounds_toArray, List.set_cons_zero, List.set_cons_succ]
      refine wpAnyH_ready (rs := [8]) (by kernel_rfl) (by simp) ?_
      refine AllReadyH.cons rfl (fun K hK => ?_) AllReadyH.nil
      go_simp
      refine hK.out _ _ trivial (fun hHeld => ?_)
      clear hK K
      try simp only [Act.put, List.setIfInBounds_toArray, List.set_cons_zero, List.set_cons_succ]
      refine take_x (some 17) 9 rfl rfl ?_
      try simp only [Act.put, List.setIfInBounds_toArray, List.set_cons_zero, List.set_cons_succ]
      refine take_x (some 18) 10 rfl rfl ?_
      try simp only [Act.put, List.setIfInBounds_toArray, List.set_cons_zero, List.set_cons_succ]
      refine take_x (some 19) 11 rfl rfl ?_
      try simp only [Act.put, List.setIfInBounds_toArray, List.set_cons_zero, List.set_cons_succ]
      refine take_x (some 20) 12 rfl rfl ?_
      try simp only [Act.put, List.setIfInBounds_toArray, List.set_cons_zero, List.set_cons_succ]
      refine take_x (some 21) 13 rfl rfl ?_
      try simp only [Act.put, List.setIfInBounds_toArray, List.set_cons_zero, List.set_cons_succ]
      refine wpAnyH_ready (rs := [14]) (by kernel_rfl) (by simp) ?_
      refine AllReadyH.cons rfl (fun K hK => ?_) AllReadyH.nil
      go_simp
      refine hK.out _ _ trivial (fun hHeld => ?_)
      clear hK K
      try simp only [Act.put, List.setIfInBounds_toArray, List.set_cons_zero, List.set_cons_succ]
      refine wpAnyH_done (by kernel_rfl) ?_ _
      go_wp2_with fail
      go_meet
      case rel => exact ⟨(unhide HW2).1.drew, (unhide HW2).2.drew⟩
    · go_simp
      refine hK.out _ _ trivial (fun hHeld => ?_)
      clear hK K
      try simp only [Act.put, List.setIfInBounds_toArray, List.set_cons_zero, List.set_cons_succ]
      refine take_x (some 17) 9 rfl rfl ?_
      try simp only [Act.put, List.setIfInBounds_toArray, List.set_cons_zero, List.set_cons_succ]
      refine take_x (some 18) 10 rfl rfl ?_
      try simp only [Act.put, List.setIfInBounds_toArray, List.set_cons_zero, List.set_cons_succ]
      refine wpAnyH_ready (rs := [4]) (by kernel_rfl) (by simp) ?_
      refine AllReadyH.cons rfl (fun K hK => ?_) AllReadyH.nil
      go_simp
      refine hK.out _ _ trivial (fun hHeld => ?_)
      clear hK K
      try simp only [Act.put, List.setIfInBounds_toArray, List.set_cons_zero, List.set_cons_succ]
      refine take_x (some 19) 11 rfl rfl ?_
      try simp only [Act.put, List.setIfInBounds_toArray, List.set_cons_zero, List.set_cons_succ]
      refine take_x (some 20) 12 rfl rfl ?_
      try simp only [Act.put, List.setIfInBounds_toArray, List.set_cons_zero, List.set_cons_succ]
      refine take_x (some 21) 13 rfl rfl ?_
      try simp only [Act.put, List.setIfInBounds_toArray, List.set_cons_zero, List.set_cons_succ]
      refine wpAnyH_ready (rs := [14]) (by kernel_rfl) (by simp) ?_
      refine AllReadyH.cons rfl (fun K hK => ?_) AllReadyH.nil
      go_simp
      refine hK.out _ _ trivial (fun hHeld => ?_)
      clear hK K
      try simp only [Act.put, List.setIfInBounds_toArray, List.set_cons_zero, List.set_cons_succ]
      refine wpAnyH_done (by kernel_rfl) ?_ _
      go_wp2_with fail
      go_meet
      case rel => exact ⟨(unhide HW2).1.drew, (unhide HW2).2.drew⟩
  case rest =>
    obtain ⟨hA, hB⟩ := hcut
    have n3' : wc.cell? ⟨mb, 3, none⟩ = some (.slice (some ⟨g, 0, none⟩) X0.length rcap) := hA.mach.cell 3
    have HA := hide hA
    by_cases h0 : X0.length = 0
    · have hfn : fs = [] := List.eq_nil_of_length_eq_zero (by rw [← unhide HX0]; exact h0)
      have HF : Hid (BegR w0 mb vp fuel ask (endSt st v) A wc (.returned (.tuple #[]))) := by
        refine ⟨rfl, ρ, X0, Y, .slice (some ⟨g, 0, none⟩) X0.length rcap, vpr, ?_⟩
        rw [endSt_nil (f := f) v (by rw [hfs, hfn])]
        rw [hfn] at hA
        exact hA
      have h1 : ¬ (0 : Int) < (X0.length : Int) := by omega
      clear hA h0 hfn
      go_wp2_with fail
      go_end0
      exact unhide HF
    · obtain ⟨X1, y, rfl⟩ := snoc_of (l := X0) (by omega)
      obtain ⟨gs, gf, rfl⟩ := snoc_of (l := fs) (by rw [← unhide HX0]; omega)
      have hl1 : X1.length = gs.length := by simpa using unhide HX0
      have hyy : (X1 ++ [y]).length = X1.length + 1 := by simp
      have hx4 := unhide HXL
      obtain ⟨g2, cap2, hge, _, _, hrd2⟩ := own_read hA.run (by omega)
      simp only [Value.slice.injEq, Option.some.injEq, Addr.mk.injEq, and_true, true_and] at hge
      obtain ⟨rfl, rfl⟩ := hge
      have r0 : wc.cell? ⟨g, X1.length, none⟩ = some (.pointer (some ⟨y.fb, 0, none⟩)) := by
        rw [hrd2 _ (by omega), List.map_append, List.getElem?_append_right (by simp)]; simp
      have F := hA.fr X1.length gf y (by show (gs ++ [gf])[X1.length]? = _; rw [hl1]; simp) (by simp)
      have HFr := hide F
      rw [hyy] at n3'
      have b0 : wc.cell? ⟨w.heap.size, 0, none⟩ = some (.int .i64 v.kind) := hB.cell 0
      have b1 : wc.cell? ⟨w.heap.size, 1, none⟩ = some (.int .i64 v.num) := hB.cell 1
      have b2 : wc.cell? ⟨w.heap.size, 2, none⟩ = some (objP A v.obj) := hB.cell 2
      have hev : encV A v = [.int .i64 v.kind, .int .i64 v.num, objP A v.obj] := rfl
      have hwr1 : IntKind.i64.wrap (X1.length : Int) = (X1.length : Int) := by rw [IntKind.wrap_i64]; omega
      have m0 : (0 : Int) ≤ (X1.length : Int) := by omega
      have m1 : (X1.length : Int) < (X1.length : Int) + 1 := by omega
      have m2 : (0 : Int) < (X1.length : Int) + 1 := by omega
      have HL1 := hide hl1
      have HYY := hide hyy
      have hgst : gf.stk.length ≤ 4194304 := hst gf (by rw [hfs]; simp)
      have hbase := hA.bel.size
      have hrne : ¬ (g = y.fb ∨ y.vs.ownBlock = some g) := fun e => by
        rcases e with e | e
        · exact own_ne hA.run F.fr.blk (by decide) (show _ = some y.fb from e ▸ rfl)
        · exact own_tne hA.run F.fr.st (by decide) g rfl e
      have hmne : ¬ (mb = y.fb ∨ y.vs.ownBlock = some mb) := fun e => by
        rcases e with e | e
        · exact absurd (F.fr.blk.uniq (e ▸ hA.mach)) (by decide)
        · exact own_ne F.fr.st hA.mach (by decide) e
      have F0 := h.fr X1.length gf y (by rw [hfs, hl1]; simp) (by simp)
      have hwne : ¬ (w.heap.size = y.fb ∨ y.vs.ownBlock = some w.heap.size) := fun e => by
        rcases e with e | e
        · have := F0.fr.blk.lt; omega
        · have := (F0.fr.st.lt _ e).2; omega
      clear hA F hB hrd2 hl1 hyy hx4 h0 hrd F0
      go_wp2_with fail
      refine wp_region_held_drew (S := (fun w' => w'.cell? ⟨mb, 3, none⟩ = some (.slice (some ⟨g, 0, none⟩) (X1.length + 1) rcap) ∧ w'.cell? ⟨g, X1.length, none⟩ = some (.pointer (some ⟨y.fb, 0, none⟩)) ∧ w'.cell? ⟨w.heap.size, 0, none⟩ = some (.int .i64 v.kind) ∧ w'.cell? ⟨w.heap.size, 1, none⟩ = some (.int .i64 v.num) ∧ w'.cell? ⟨w.heap.size, 2, none⟩ = some (objP A v.obj))) (by kernel_rfl) ?_ (fun hHeld => ?_)
      · exact ⟨n3', r0, b0, b1, b2⟩
      refine take_x (some 28) 0 rfl rfl ?_
      try simp only [Act.put, List.setIfInBounds_toArray, List.set_cons_zero, List.set_cons_succ]
      refine take_x (some 29) 1 rfl rfl ?_
      try simp only [Act.put, List.setIfInBounds_toArray, List.set_cons_zero, List.set_cons_succ]
      refine take_x (some 30) 2 rfl rfl ?_
      try simp only [Act.put, List.setIfInBounds_toArray, List.set_cons_zero, List.set_cons_succ]
      refine take_x (some 31) 3 rfl rfl ?_
      try simp only [Act.put, List.setIfInBounds_toArray, List.set_cons_zero, List.set_cons_succ]
      refine take_x (some 32) 4 rfl rfl ?_
      try simp only [Act.put, List.setIfInBounds_toArray, List.set_cons_zero, List.set_cons_succ]
      refine take_x (some 33) 5 rfl rfl ?_
      try simp only [Act.put, List.setIfInBounds_toArray, List.set_cons_zero, List.set_cons_succ]
      refine take_x (some 34) 6 rfl rfl ?_
      try simp only [Act.put, List.setIfInBounds_toArray, List.set_cons_zero, List.set_cons_succ]
      refine take_x (some 35) 7 rfl rfl ?_
      try simp only [Act.put, List.setIfInBounds_toArray, List.set_cons_zero, List.set_cons_succ]
      refine take_x (some 36) 8 rfl rfl ?_
      try simp only [Act.put, List.setIfInBounds_toArray, List.set_cons_zero, List.set_cons_succ]
      refine take_x (some 37) 9 rfl rfl ?_
      try simp only [Act.put, List.setIfInBounds_toArray, List.set_cons_zero, List.set_cons_succ]
      refine take_x (some 38) 10 rfl rfl ?_
      try simp only [Act.put, List.setIfInBounds_toArray, List.set_cons_zero, List.set_cons_succ]
      refine take_x (some 39) 11 rfl rfl ?_
      try simp only [Act.put, List.setIfInBounds_toArray, List.set_cons_zero, List.set_cons_succ]
      refine take_x (some 40) 12 rfl rfl ?_
      try simp only [Act.put, List.setIfInBounds_toArray, List.set_cons_zero, List.set_cons_succ]
      refine wpAnyH_ready (rs := [13]) (by kernel_rfl) (by simp) ?_
      refine AllReadyH.cons rfl (fun K hK => ?_) AllReadyH.nil
      go_simp
      have hP0 := ma_push w0.heap.size A y.fb y.mc (gf.pc : Int) y.vl gf.loc y.vs gf.stk v wc.drew ((unhide HFr).fr.below (Below.refl wc.heap.size wc).drew (Nat.le_refl _)) hbase hgst
      rw [hev] at hP0
      refine hP0.mono ?_
      rintro e w5 hP
      have hm0 : Mods (fun k => k = y.fb ∨ y.vs.ownBlock = some k ∨ y.vl.ownBlock = some k) wc wc.drew := (Mods.refl _ wc).drew
      have hMv := hP.move hm0 (.inl rfl)
      have hMw := hP.choose_spec.2.2.1
      have hl1 := unhide HL1
      have F1 := (unhide HFr)
      obtain ⟨rfl, ρ', vs', hA5⟩ := (unhide HA).move (i := X1.length) (f := gf) (x := y) (by show (gs ++ [gf])[X1.length]? = _; rw [hl1]; simp) (by simp) hMv F1.okl (fun u hu => by
        rcases List.mem_append.1 hu with hu | hu
        · exact F1.oks u hu
        · obtain rfl := List.mem_singleton.1 hu; exact okv)
      have HF : Hid (BegR w0 mb vp fuel ask (endSt st v) A w5 (.returned (.tuple #[]))) := by
        have hX := (show MaX w0 w5 mb vp fuel ask _ A from ⟨ρ', _, _, _, _, hA5⟩)
        have he : (gs ++ [gf]).set X1.length { gf with loc := gf.loc, stk := gf.stk ++ [v] } = gs ++ [{ gf with stk := gf.stk ++ [v] }] := by
          rw [hl1, List.set_append_right _ _ (Nat.le_refl _), Nat.sub_self]; rfl
        simp only [he] at hX
        refine ⟨rfl, ?_⟩
        rw [endSt_cons (f := f) v hfs]
        exact hX
      clear hA5 hMv hP0 F1 hl1
      go_wp2_with fail
      refine hK.out _ _ ⟨hMw.cell (w := wc.drew) n3' hmne, hMw.cell (w := wc.drew) r0 hrne, hMw.cell (w := wc.drew) b0 hwne, hMw.cell (w := wc.drew) b1 hwne, hMw.cell (w := wc.drew) b2 hwne⟩ (fun hHeld => ?_)
      clear hK K
      try simp only [Act.put, List.setIfInBounds_toArray, List.set_cons_zero, List.set_cons_succ]
      refine wpAnyH_done (by kernel_rfl) ?_ _
      clear hP hMw
      go_wp2_with fail
      go_end0
      exact unhide HF
end Go.Proofs.YtiiokkllmchohaaGreat
/- The machine that asks: what an instruction takes. -/
namespace Go.Proofs.YtiiokkllmchohaaGreat
open Go.RowKit Go.Shelf
attribute [local go_sem ↓] Go.wp_at_zero Go.wp_at_succ
attribute [local go_sem] frz_drew

def wantsM (p : List LClass) (ret op a b : Int) : List Int :=
  if op = 2 ∨ op = 14 ∨ op = 15 then [2]
  else if op = 20 then [2, 2]
  else if op = 3 ∨ op = 4 ∨ op = 5 ∨ op = 6 then [0, 0]
  else if op = 8 ∨ op = 19 then [0]
  else if op = 18 ∨ op = 17 then [3]
  else if op = 10 then [a + 3]
  else if op = 11 then [a + 3, fieldT p a b]
  else if op = 12 then (a + 3) :: (findM p a b).args
  else if op = 13 then [ret]
  else []
def WantR (l : List Int) (w w' : World) (e : Ending) : Prop := ∃ v, e = .returned v ∧ w'.ownsRow w.heap.size 43 1 v l.length (l.map (Value.int .i64)) ∧ Below w.heap.size w w'
theorem own_new (W : World) (e : TypeId) (cs : List Value) (hn : cs.length ≤ 4194304) : (W.alloc (.cells cs.toArray e)).ownsRow W.heap.size e 1 (.slice (some ⟨W.heap.size, 0, none⟩) cs.length cs.length) cs.length cs := by
  refine ⟨by omega, .inr ⟨W.heap.size, cs.length, cs.toArray, rfl, Nat.le_refl _, World.alloc_heap_new W _, Nat.le_refl _, by unfold maxLen; omega, by simp, by simp⟩⟩
theorem want_new (w : World) (o : Obj) (l : List Int) (hl : l.length ≤ 4194304) : WantR l w ((w.alloc o).alloc (.cells (l.map (Value.int .i64)).toArray 43)) (.returned (.slice (some ⟨w.heap.size + 1, 0, none⟩) l.length l.length)) := by
  have h := own_new (w.alloc o) 43 (l.map (Value.int .i64)) (by simpa using hl)
  rw [List.length_map, World.size_alloc] at h
  exact ⟨_, rfl, own_base h (by omega), box2_below _ _ _⟩
theorem want_nil (w : World) (o : Obj) : WantR [] w (w.alloc o) (.returned (.slice none 0 0)) := ⟨_, rfl, World.ownsRow_nil _ _ _ _, box_below _ _⟩
section
variable (p : List LClass) (vp : Value) (w0 w : World) (mb fb : Nat) (a b : Int)
theorem wn_2 : Calls Tryz.prog 229 #[.pointer (some ⟨mb, 0, none⟩), .pointer (some ⟨fb, 0, none⟩), .agg #[.int .i64 2, .int .i64 a, .int .i64 b]] w fun e w' => WantR [2] w w' e := by
  go_enter Tryz.func229, Tryz.ntmps229
  go_wp2_with fail
  go_ret
  exact want_new w _ [2] (by decide)
theorem wn_14 : Calls Tryz.prog 229 #[.pointer (some ⟨mb, 0, none⟩), .pointer (some ⟨fb, 0, none⟩), .agg #[.int .i64 14, .int .i64 a, .int .i64 b]] w fun e w' => WantR [2] w w' e := by
  go_enter Tryz.func229, Tryz.ntmps229
  go_wp2_with fail
  go_ret
  exact want_new w _ [2] (by decide)
theorem wn_15 : Calls Tryz.prog 229 #[.pointer (some ⟨mb, 0, none⟩), .pointer (some ⟨fb, 0, none⟩), .agg #[.int .i64 15, .int .i64 a, .int .i64 b]] w fun e w' => WantR [2] w w' e := by
  go_enter Tryz.func229, Tryz.ntmps229
  go_wp2_with fail
  go_ret
  exact want_new w _ [2] (by decide)
theorem wn_20 : Calls Tryz.prog 229 #[.pointer (some ⟨mb, 0, none⟩), .pointer (some ⟨fb, 0, none⟩), .agg #[.int .i64 20, .int .i64 a, .int .i64 b]] w fun e w' => WantR [2, 2] w w' e := by
  go_enter Tryz.func229, Tryz.ntmps229
  go_wp2_with fail
  go_ret
  exact want_new w _ [2, 2] (by decide)
theorem wn_3 : Calls Tryz.prog 229 #[.pointer (some ⟨mb, 0, none⟩), .pointer (some ⟨fb, 0, none⟩), .agg #[.int .i64 3, .int .i64 a, .int .i64 b]] w fun e w' => WantR [0, 0] w w' e := by
  go_enter Tryz.func229, Tryz.ntmps229
  go_wp2_with fail
  go_ret
  exact want_new w _ [0, 0] (by decide)
theorem wn_4 : Calls Tryz.prog 229 #[.pointer (some ⟨mb, 0, none⟩), .pointer (some ⟨fb, 0, none⟩), .agg #[.int .i64 4, .int .i64 a, .int .i64 b]] w fun e w' => WantR [0, 0] w w' e := by
  go_enter Tryz.func229, Tryz.ntmps229
  go_wp2_with fail
  go_ret
  exact want_new w _ [0, 0] (by decide)
theorem wn_5 : Calls Tryz.prog 229 #[.pointer (some ⟨mb, 0, none⟩), .pointer (some ⟨fb, 0, none⟩), .agg #[.int .i64 5, .int .i64 a, .int .i64 b]] w fun e w' => WantR [0, 0] w w' e := by
  go_enter Tryz.func229, Tryz.ntmps229
  go_wp2_with fail
  go_ret
  exact want_new w _ [0, 0] (by decide)
theorem wn_6 : Calls Tryz.prog 229 #[.pointer (some ⟨mb, 0, none⟩), .pointer (some ⟨fb, 0, none⟩), .agg #[.int .i64 6, .int .i64 a, .int .i64 b]] w fun e w' => WantR [0, 0] w w' e := by
  go_enter Tryz.func229, Tryz.ntmps229
  go_wp2_with fail
  go_ret
  exact want_new w _ [0, 0] (by decide)
theorem wn_8 : Calls Tryz.prog 229 #[.pointer (some ⟨mb, 0, none⟩), .pointer (some ⟨fb, 0, none⟩), .agg #[.int .i64 8, .int .i64 a, .int .i64 b]] w fun e w' => WantR [0] w w' e := by
  go_enter Tryz.func229, Tryz.ntmps229
  go_wp2_with fail
  go_ret
  exact want_new w _ [0] (by decide)
theorem wn_19 : Calls Tryz.prog 229 #[.pointer (some ⟨mb, 0, none⟩), .pointer (some ⟨fb, 0, none⟩), .agg #[.int .i64 19, .int .i64 a, .int .i64 b]] w fun e w' => WantR [0] w w' e := by
  go_enter Tryz.func229, Tryz.ntmps229
  go_wp2_with fail
  go_ret
  exact want_new w _ [0] (by decide)
theorem wn_0 : Calls Tryz.prog 229 #[.pointer (some ⟨mb, 0, none⟩), .pointer (some ⟨fb, 0, none⟩), .agg #[.int .i64 0, .int .i64 a, .int .i64 b]] w fun e w' => WantR [] w w' e := by
  go_enter Tryz.func229, Tryz.ntmps229
  go_wp2_with fail
  go_ret
  exact want_nil w _
theorem wn_1 : Calls Tryz.prog 229 #[.pointer (some ⟨mb, 0, none⟩), .pointer (some ⟨fb, 0, none⟩), .agg #[.int .i64 1, .int .i64 a, .int .i64 b]] w fun e w' => WantR [] w w' e := by
  go_enter Tryz.func229, Tryz.ntmps229
  go_wp2_with fail
  go_ret
  exact want_nil w _
theorem wn_7 : Calls Tryz.prog 229 #[.pointer (some ⟨mb, 0, none⟩), .pointer (some ⟨fb, 0, none⟩), .agg #[.int .i64 7, .int .i64 a, .int .i64 b]] w fun e w' => WantR [] w w' e := by
  go_enter Tryz.func229, Tryz.ntmps229
  go_wp2_with fail
  go_ret
  exact want_nil w _
theorem wn_9 : Calls Tryz.prog 229 #[.pointer (some ⟨mb, 0, none⟩), .pointer (some ⟨fb, 0, none⟩), .agg #[.int .i64 9, .int .i64 a, .int .i64 b]] w fun e w' => WantR [] w w' e := by
  go_enter Tryz.func229, Tryz.ntmps229
  go_wp2_with fail
  go_ret
  exact want_nil w _
theorem wn_16 : Calls Tryz.prog 229 #[.pointer (some ⟨mb, 0, none⟩), .pointer (some ⟨fb, 0, none⟩), .agg #[.int .i64 16, .int .i64 a, .int .i64 b]] w fun e w' => WantR [] w w' e := by
  go_enter Tryz.func229, Tryz.ntmps229
  go_wp2_with fail
  go_ret
  exact want_nil w _
theorem wn_17 : Calls Tryz.prog 229 #[.pointer (some ⟨mb, 0, none⟩), .pointer (some ⟨fb, 0, none⟩), .agg #[.int .i64 17, .int .i64 a, .int .i64 b]] w fun e w' => WantR [3] w w' e := by
  go_enter Tryz.func229, Tryz.ntmps229
  go_wp2_with fail
  refine (code_of 0 (by omega) (by omega) _).mono ?_
  rintro e w' ⟨rfl, rfl⟩
  go_wp2_with fail
  go_ret
  exact want_new w _ [3] (by decide)
theorem wn_18 : Calls Tryz.prog 229 #[.pointer (some ⟨mb, 0, none⟩), .pointer (some ⟨fb, 0, none⟩), .agg #[.int .i64 18, .int .i64 a, .int .i64 b]] w fun e w' => WantR [3] w w' e := by
  go_enter Tryz.func229, Tryz.ntmps229
  go_wp2_with fail
  refine (code_of 0 (by omega) (by omega) _).mono ?_
  rintro e w' ⟨rfl, rfl⟩
  go_wp2_with fail
  go_ret
  exact want_new w _ [3] (by decide)
theorem wn_10 (h0 : 0 ≤ a) (h1 : a ≤ 4194304) : Calls Tryz.prog 229 #[.pointer (some ⟨mb, 0, none⟩), .pointer (some ⟨fb, 0, none⟩), .agg #[.int .i64 10, .int .i64 a, .int .i64 b]] w fun e w' => WantR [a + 3] w w' e := by
  go_enter Tryz.func229, Tryz.ntmps229
  go_wp2_with fail
  refine (code_of a (by omega) (by omega) _).mono ?_
  rintro e w' ⟨rfl, rfl⟩
  go_wp2_with fail
  go_ret
  exact want_new w _ [a + 3] (by simp)
theorem wn_13 (ret : Int) (hr : w.cell? ⟨fb, 2, none⟩ = some (.int .i64 ret)) : Calls Tryz.prog 229 #[.pointer (some ⟨mb, 0, none⟩), .pointer (some ⟨fb, 0, none⟩), .agg #[.int .i64 13, .int .i64 a, .int .i64 b]] w fun e w' => WantR [ret] w w' e := by
  have hr' := Keeps.of_below (box_below w (.cells #[.int .i64 13, .int .i64 a, .int .i64 b] 60)) _ _ hr
  go_enter Tryz.func229, Tryz.ntmps229
  go_wp2_with fail
  go_ret
  exact want_new w _ [ret] (by simp)
end
end Go.Proofs.YtiiokkllmchohaaGreat
/- The machine that asks: what PUT and CALL take. -/
namespace Go.Proofs.YtiiokkllmchohaaGreat
open Go.RowKit Go.Shelf
attribute [local go_sem ↓] Go.wp_at_zero Go.wp_at_succ
attribute [local go_sem] frz_drew

theorem fld_args (s r l k : Int) (x y z : Value) (w : World) : (Instr.field 63 (.agg #[.int .i64 s, x, .int .i64 r, .int .i64 l, .int .i64 k, y, z]) 1).run Tryz.prog w = .ok x w := by kernel_rfl
attribute [local go_sem] fld_args
section
variable (p : List LClass) (vp : Value) (w0 w : World) (mb fb : Nat) (a b : Int)
set_option maxHeartbeats 1000000 in
set_option maxRecDepth 100000 in
theorem wn_11 (hp : RProg w0 vp p) (hb0 : Below w0.heap.size w0 w) (hc : w.cell? ⟨mb, 0, none⟩ = some vp) (hs : SupOk p p.length) (hz : szProg p ≤ 4194304) (a0 : 0 ≤ a) (a1 : a < (p.length : Int)) (b0 : 0 ≤ b) (b1 : b < ((fieldsOf p a).length : Int)) :
    Calls Tryz.prog 229 #[.pointer (some ⟨mb, 0, none⟩), .pointer (some ⟨fb, 0, none⟩), .agg #[.int .i64 11, .int .i64 a, .int .i64 b]] w fun e w' => WantR [a + 3, fieldT p a b] w w' e := by
  have HP := hide hp
  have hzp := Nat.le_trans (szProg_len p) hz
  obtain ⟨pa, _, _, pcap, rfl, _⟩ := hp
  have hbel := box_below w (.cells #[.int .i64 11, .int .i64 a, .int .i64 b] 60)
  have B0 := Blk.new w #[.int .i64 11, .int .i64 a, .int .i64 b] 60
  have hc' := Keeps.of_below hbel _ _ hc
  go_enter Tryz.func229, Tryz.ntmps229
  go_wp2_with fail
  generalize w.alloc _ = W at *
  have q1 : W.cell? ⟨w.heap.size, 1, none⟩ = some (.int .i64 a) := B0.cell 1
  have q2 : W.cell? ⟨w.heap.size, 2, none⟩ = some (.int .i64 b) := B0.cell 2
  have hbW := hb0.trans (hbel.mono hb0.size)
  refine wp_region_noPanic ?_
  refine wp_region_held_drew (S := (fun w' => w'.cell? ⟨mb, 0, none⟩ = some (.slice pa p.length pcap) ∧ w'.cell? ⟨w.heap.size, 1, none⟩ = some (.int .i64 a) ∧ w'.cell? ⟨w.heap.size, 2, none⟩ = some (.int .i64 b))) (by kernel_rfl) ?_ (fun hHeld => ?_)
  · exact ⟨hc', q1, q2⟩
  refine take_x (some 40) 0 rfl rfl ?_
  try simp only [Act.put, List.setIfInBounds_toArray, List.set_cons_zero, List.set_cons_succ]
  refine take_x (some 41) 1 rfl rfl ?_
  try simp only [Act.put, List.setIfInBounds_toArray, List.set_cons_zero, List.set_cons_succ]
  refine take_x (some 43) 3 rfl rfl ?_
  try simp only [Act.put, List.setIfInBounds_toArray, List.set_cons_zero, List.set_cons_succ]
  refine take_x (some 44) 4 rfl rfl ?_
  try simp only [Act.put, List.setIfInBounds_toArray, List.set_cons_zero, List.set_cons_succ]
  refine take_x (some 45) 5 rfl rfl ?_
  try simp only [Act.put, List.setIfInBounds_toArray, List.set_cons_zero, List.set_cons_succ]
  refine take_x (some 46) 6 rfl rfl ?_
  try simp only [Act.put, List.setIfInBounds_toArray, List.set_cons_zero, List.set_cons_succ]
  refine take_x (some 47) 7 rfl rfl ?_
  try simp only [Act.put, List.setIfInBounds_toArray, List.set_cons_zero, List.set_cons_succ]
  refine take_x (some 48) 8 rfl rfl ?_
  try simp only [Act.put, List.setIfInBounds_toArray, List.set_cons_zero, List.set_cons_succ]
  refine take_x (some 50) 10 rfl rfl ?_
  try simp only [Act.put, List.setIfInBounds_toArray, List.set_cons_zero, List.set_cons_succ]
  refine take_x (some 51) 11 rfl rfl ?_
  try simp only [Act.put, List.setIfInBounds_toArray, List.set_cons_zero, List.set_cons_succ]
  refine wpAnyH_ready (rs := [2]) (by kernel_rfl) (by simp) ?_
  refine AllReadyH.cons rfl (fun K hK => ?_) AllReadyH.nil
  go_simp
  refine (code_of a (by omega) (by omega) _).mono ?_
  rintro e w' ⟨rfl, rfl⟩
  go_wp2_with fail
  refine hK.out _ _ ⟨hc', q1, q2⟩ (fun hHeld => ?_)
  clear hK K
  try simp only [Act.put, List.setIfInBounds_toArray, List.set_cons_zero, List.set_cons_succ]
  refine wpAnyH_ready (rs := [9]) (by kernel_rfl) (by simp) ?_
  refine AllReadyH.cons rfl (fun K hK => ?_) AllReadyH.nil
  go_simp
  refine (code_fields p hs hz (a + 1).toNat a _ _ (prog_keep (Keeps.of_below hbW.drew) (unhide HP)) (by omega) a1 (Nat.le_refl _)).mono ?_
  rintro e w2 ⟨v', rfl, hown, hb2⟩
  have hb2' : Below W.heap.size W w2 := ⟨hb2.os, hb2.tape, hb2.output, hb2.size, hb2.block⟩
  obtain ⟨bn, rfl⟩ : ∃ bn : Nat, b = (bn : Int) := ⟨b.toNat, by omega⟩
  have hbn : bn < (fieldsOf p a).length := by omega
  obtain ⟨g, cap, rfl, hcap, _, hrd⟩ := own_read hown (by omega)
  have r0 : w2.cell? ⟨g, bn, none⟩ = some (.int .i64 (fieldT p a (bn : Int))) := by
    rw [hrd _ (by omega), List.getElem?_map]
    unfold fieldT
    rw [Int.toNat_natCast, List.getD_eq_getElem?_getD, List.getElem?_eq_getElem hbn]; rfl
  have k2 := Keeps.of_below hb2'
  have HS2 := hide (And.intro (k2 _ _ hc') (And.intro (k2 _ _ q1) (k2 _ _ q2)))
  generalize hft : fieldT p a (bn : Int) = ft at *
  have HFT := hide hft
  clear hft
  generalize hF : fieldsOf p a = F at *
  clear hF hrd hown
  go_wp2_with fail
  refine hK.out _ _ (unhide HS2) (fun hHeld => ?_)
  clear hK K
  try simp only [Act.put, List.setIfInBounds_toArray, List.set_cons_zero, List.set_cons_succ]
  refine take_x (some 52) 12 rfl rfl ?_
  try simp only [Act.put, List.setIfInBounds_toArray, List.set_cons_zero, List.set_cons_succ]
  refine wpAnyH_ready (rs := [13]) (by kernel_rfl) (by simp) ?_
  refine AllReadyH.cons rfl (fun K hK => ?_) AllReadyH.nil
  go_simp
  refine hK.out _ _ (unhide HS2) (fun hHeld => ?_)
  clear hK K
  try simp only [Act.put, List.setIfInBounds_toArray, List.set_cons_zero, List.set_cons_succ]
  refine wpAnyH_ready (rs := [14]) (by kernel_rfl) (by simp) ?_
  refine AllReadyH.cons rfl (fun K hK => ?_) AllReadyH.nil
  go_simp
  have k3 := Keeps.of_below (hb2'.alloc hb2'.size (.cells #[.int .i64 (a + 3), .int .i64 ft] 43))
  refine hK.out _ _ ⟨k3 _ _ hc', k3 _ _ q1, k3 _ _ q2⟩ (fun hHeld => ?_)
  clear hK K
  try simp only [Act.put, List.setIfInBounds_toArray, List.set_cons_zero, List.set_cons_succ]
  refine take_x (some 6) 15 rfl rfl ?_
  try simp only [Act.put, List.setIfInBounds_toArray, List.set_cons_zero, List.set_cons_succ]
  refine wpAnyH_done (by kernel_rfl) ?_ _
  refine NoPanic.normal ?_
  have hbw2 := hbel.trans (hb2'.mono hbel.size)
  have HF : Hid (WantR [a + 3, ft] w (w2.alloc (.cells #[.int .i64 (a + 3), .int .i64 ft] 43)) (.returned (.slice (some ⟨w2.heap.size, 0, none⟩) 2 2))) :=
    ⟨_, rfl, own_base (own_new w2 43 [.int .i64 (a + 3), .int .i64 ft] (by simp)) hbw2.size, hbw2.alloc hbw2.size _⟩
  go_wp2_with fail
  go_ret
  rw [unhide HFT]
  exact unhide HF
set_option maxHeartbeats 1000000 in
set_option maxRecDepth 100000 in
theorem wn_12 (hp : RProg w0 vp p) (hb0 : Below w0.heap.size w0 w) (hc : w.cell? ⟨mb, 0, none⟩ = some vp) (hs : SupOk p p.length) (hz : szProg p ≤ 4194304) (a0 : 0 ≤ a) (a1 : a < (p.length : Int)) (hm : (methOf p a b).isSome = true) (hal : (findM p a b).args.length ≤ 4194303) :
    Calls Tryz.prog 229 #[.pointer (some ⟨mb, 0, none⟩), .pointer (some ⟨fb, 0, none⟩), .agg #[.int .i64 12, .int .i64 a, .int .i64 b]] w fun e w' => WantR ((a + 3) :: (findM p a b).args) w w' e := by
  obtain ⟨i0, hi0, hz0, hz1, hz2⟩ := info_parts infoType
  have HP := hide hp
  have hzp := Nat.le_trans (szProg_len p) hz
  have hbel := box_below w (.cells #[.int .i64 12, .int .i64 a, .int .i64 b] 60)
  have B0 := Blk.new w #[.int .i64 12, .int .i64 a, .int .i64 b] 60
  have hc' := Keeps.of_below hbel _ _ hc
  go_enter Tryz.func229, Tryz.ntmps229
  go_wp2_with fail
  generalize w.alloc _ = W at *
  have q1 : W.cell? ⟨w.heap.size, 1, none⟩ = some (.int .i64 a) := B0.cell 1
  have q2 : W.cell? ⟨w.heap.size, 2, none⟩ = some (.int .i64 b) := B0.cell 2
  have hbW := hb0.trans (hbel.mono hb0.size)
  have lW : w.heap.size < W.heap.size := B0.lt
  refine wp_region_noPanic ?_
  refine wp_region_held_drew (S := (fun w' => w'.cell? ⟨w.heap.size, 1, none⟩ = some (.int .i64 a) ∧ w'.cell? ⟨w.heap.size, 2, none⟩ = some (.int .i64 b))) (by kernel_rfl) ?_ (fun hHeld => ?_)
  · exact ⟨q1, q2⟩
  refine take_x (some 57) 0 rfl rfl ?_
  try simp only [Act.put, List.setIfInBounds_toArray, List.set_cons_zero, List.set_cons_succ]
  refine take_x (some 58) 1 rfl rfl ?_
  try simp only [Act.put, List.setIfInBounds_toArray, List.set_cons_zero, List.set_cons_succ]
  refine take_x (some 61) 4 rfl rfl ?_
  try simp only [Act.put, List.setIfInBounds_toArray, List.set_cons_zero, List.set_cons_succ]
  refine take_x (some 62) 5 rfl rfl ?_
  try simp only [Act.put, List.setIfInBounds_toArray, List.set_cons_zero, List.set_cons_succ]
  refine take_x (some 63) 6 rfl rfl ?_
  try simp only [Act.put, List.setIfInBounds_toArray, List.set_cons_zero, List.set_cons_succ]
  refine take_x (some 64) 7 rfl rfl ?_
  try simp only [Act.put, List.setIfInBounds_toArray, List.set_cons_zero, List.set_cons_succ]
  refine take_x (some 65) 8 rfl rfl ?_
  try simp only [Act.put, List.setIfInBounds_toArray, List.set_cons_zero, List.set_cons_succ]
  refine wpAnyH_ready (rs := [2]) (by kernel_rfl) (by simp) ?_
  refine AllReadyH.cons rfl (fun K hK => ?_) AllReadyH.nil
  go_simp
  refine (code_of a (by omega) (by omega) _).mono ?_
  rintro e w' ⟨rfl, rfl⟩
  go_wp2_with fail
  refine hK.out _ _ ⟨q1, q2⟩ (fun hHeld => ?_)
  clear hK K
  try simp only [Act.put, List.setIfInBounds_toArray, List.set_cons_zero, List.set_cons_succ]
  refine wpAnyH_ready (rs := [3, 9]) (by kernel_rfl) (by simp) ?_
  refine AllReadyH.cons rfl (fun K hK => ?_) (AllReadyH.cons rfl (fun K hK => ?_) AllReadyH.nil)
  · go_simp
    have hal1 : Below W.heap.size W (W.drew.alloc (.cells #[.int .i64 (a + 3)] 43)) := ⟨rfl, rfl, rfl, by simp, fun i hi => Below.heap_alloc W.drew _ i hi⟩
    have k1 := Keeps.of_below hal1
    have hR1 := own_new W.drew 43 [.int .i64 (a + 3)] (by simp)
    refine hK.out _ _ ⟨k1 _ _ q1, k1 _ _ q2⟩ (fun hHeld => ?_)
    clear hK K
    try simp only [Act.put, List.setIfInBounds_toArray, List.set_cons_zero, List.set_cons_succ]
    refine wpAnyH_ready (rs := [9]) (by kernel_rfl) (by simp) ?_
    refine AllReadyH.cons rfl (fun K hK => ?_) AllReadyH.nil
    go_simp
    refine (ma_find p vp a b w0 (W.drew.alloc (.cells #[.int .i64 (a + 3)] 43)) mb (unhide HP) (hbW.trans (hal1.mono hbW.size)) (k1 _ _ hc') hs hz a0 a1 hm).mono ?_
    rintro e w3 ⟨va, vco, vf, rfl, hG, hb3⟩
    have hb3' : Below W.heap.size W w3 := hal1.trans (hb3.mono (by simp))
    have hbw3 := hbel.trans (hb3'.mono hbel.size)
    have hbz := hb0.trans (hbw3.mono hb0.size)
    obtain ⟨bb, hbb⟩ : ∃ bb, bb = W.heap.size := ⟨_, rfl⟩
    have hrow : w3.ownsRow w.heap.size 43 1 (.slice (some ⟨bb, 0, none⟩) 1 1) 1 [.int .i64 (a + 3)] := by
      have := own_mods (w' := w3) hR1 (Mods.of_below hb3) (fun g hg e => by have := (hR1.lt g hg).2; omega)
      rw [hbb]
      exact own_base this hbel.size
    have hbw : w.heap.size < bb := by omega
    rw [← hbb]
    clear hbb hR1
    obtain ⟨hva, hvc, hvf⟩ := hG
    obtain ⟨sa, scap, rfl, hnil, hsrc⟩ := ints_src hva
    obtain ⟨fa, _, _, fcap, rfl, _⟩ := hvf
    obtain ⟨ca, _, _, ccap, rfl, _⟩ := hvc
    have q1w : w3.cell? ⟨w.heap.size, 1, none⟩ = some (.int .i64 a) := Keeps.of_below hb3' _ _ q1
    have q2w : w3.cell? ⟨w.heap.size, 2, none⟩ = some (.int .i64 b) := Keeps.of_below hb3' _ _ q2
    have hMw4 : ∀ w4, w3.grownBy w4 (Value.slice (some ⟨bb, 0, none⟩) 1 1).ownBlock → Mods (fun k => (Value.slice (some ⟨bb, 0, none⟩) 1 1).ownBlock = some k) w3 w4 := fun w4 hg => (Mods.refl _ w3).grown hg (fun k e _ => e)
    unfold methV
    generalize hoe : findM p a b = o at *
    have HOE := hide hoe
    clear hoe
    go_wp2_with fail
    refine hK.out _ _ ⟨q1w, q2w⟩ (fun hHeld => ?_)
    clear hK K
    try simp only [Act.put, List.setIfInBounds_toArray, List.set_cons_zero, List.set_cons_succ]
    refine take_x (some 67) 10 rfl rfl ?_
    try simp only [Act.put, List.setIfInBounds_toArray, List.set_cons_zero, List.set_cons_succ]
    refine wpAnyH_ready (rs := [11]) (by kernel_rfl) (by simp) ?_
    refine AllReadyH.cons rfl (fun K hK => ?_) AllReadyH.nil
    refine wp_append_sl (.tmp 60) (.tmp 67) 40 rfl w.heap.size 43 i0 (.int .i64 0) 1 8 Tryz.underlying40 hi0 hz0 hz1 hz2 rfl (by decide) (.slice (some ⟨bb, 0, none⟩) 1 1) 1 [.int .i64 (a + 3)] rfl hrow sa o.args.length scap (o.args.map (Value.int .i64)) rfl (by simp) (fun e => ⟨by rw [(hnil e).1]; rfl, (hnil e).2⟩) (fun ad e j u hu => Keeps.of_below hbz _ _ (hsrc ad e j u hu)) (oneCell_ints _) (by unfold maxLen; omega) (by omega) hbw3.size ?_
    intro v4 w4 hown4 hg4 hat4
    obtain ⟨a4, cap4, rfl⟩ := own_form hown4
    have hb4 : Below w.heap.size w w4 := hbw3.trans ((Mods.refl (fun k => (Value.slice (some ⟨bb, 0, none⟩) 1 1).ownBlock = some k) w3).grown hg4 (fun k e _ => e) |>.below hbw3.size (fun k hk e => by have := (hrow.lt k e).1; omega))
    have k4 := Keeps.of_below hb4
    have q14 : w4.cell? ⟨w.heap.size, 1, none⟩ = some (.int .i64 a) := (hMw4 w4 hg4).cell q1w (fun e => by have := Option.some.inj (show some bb = some w.heap.size from e); omega)
    have q24 : w4.cell? ⟨w.heap.size, 2, none⟩ = some (.int .i64 b) := (hMw4 w4 hg4).cell q2w (fun e => by have := Option.some.inj (show some bb = some w.heap.size from e); omega)
    go_simp
    refine hK.out _ _ ⟨q14, q24⟩ (fun hHeld => ?_)
    clear hK K
    try simp only [Act.put, List.setIfInBounds_toArray, List.set_cons_zero, List.set_cons_succ]
    refine take_x (some 6) 12 rfl rfl ?_
    try simp only [Act.put, List.setIfInBounds_toArray, List.set_cons_zero, List.set_cons_succ]
    refine wpAnyH_done (by kernel_rfl) ?_ _
    refine NoPanic.normal ?_
    have HF : Hid (WantR ((a + 3) :: o.args) w w4 (.returned (.slice a4 (1 + o.args.length) cap4))) := ⟨_, rfl, by rw [show ((a + 3) :: o.args).length = 1 + o.args.length by simp; omega]; exact hown4, hb4⟩
    clear hown4 hg4 hat4
    go_wp2_with fail
    go_ret
    rw [unhide HOE]
    exact unhide HF
  · go_simp
    refine (ma_find p vp a b w0 W.drew mb (unhide HP) hbW.drew hc' hs hz a0 a1 hm).mono ?_
    rintro e w2 ⟨va, vco, vf, rfl, hG, hb2⟩
    have hb2' : Below W.heap.size W w2 := ⟨hb2.os, hb2.tape, hb2.output, hb2.size, hb2.block⟩
    have k2 := Keeps.of_below hb2'
    have hz2' := hb2'.size
    obtain ⟨w3, hw3⟩ : ∃ w3, w3 = w2.alloc (.cells #[.int .i64 (a + 3)] 43) := ⟨_, rfl⟩
    have hb3' : Below W.heap.size W w3 := by rw [hw3]; exact hb2'.alloc hb2'.size _
    have hbw3 := hbel.trans (hb3'.mono hbel.size)
    have hbz := hb0.trans (hbw3.mono hb0.size)
    obtain ⟨bb, hbb⟩ : ∃ bb, bb = w2.heap.size := ⟨_, rfl⟩
    have hrow : w3.ownsRow w.heap.size 43 1 (.slice (some ⟨bb, 0, none⟩) 1 1) 1 [.int .i64 (a + 3)] := by
      rw [hbb, hw3]
      exact own_base (own_new w2 43 [.int .i64 (a + 3)] (by simp)) (by omega)
    have hbw : w.heap.size < bb := by omega
    obtain ⟨hva, hvc, hvf⟩ := hG
    obtain ⟨sa, scap, rfl, hnil, hsrc⟩ := ints_src hva
    obtain ⟨fa, _, _, fcap, rfl, _⟩ := hvf
    obtain ⟨ca, _, _, ccap, rfl, _⟩ := hvc
    have q1w : w3.cell? ⟨w.heap.size, 1, none⟩ = some (.int .i64 a) := Keeps.of_below hb3' _ _ q1
    have q2w : w3.cell? ⟨w.heap.size, 2, none⟩ = some (.int .i64 b) := Keeps.of_below hb3' _ _ q2
    have hMw4 : ∀ w4, w3.grownBy w4 (Value.slice (some ⟨bb, 0, none⟩) 1 1).ownBlock → Mods (fun k => (Value.slice (some ⟨bb, 0, none⟩) 1 1).ownBlock = some k) w3 w4 := fun w4 hg => (Mods.refl _ w3).grown hg (fun k e _ => e)
    unfold methV
    generalize hoe : findM p a b = o at *
    have HOE := hide hoe
    clear hoe
    go_wp2_with fail
    refine hK.out _ _ ⟨k2 _ _ q1, k2 _ _ q2⟩ (fun hHeld => ?_)
    clear hK K
    try simp only [Act.put, List.setIfInBounds_toArray, List.set_cons_zero, List.set_cons_succ]
    refine take_x (some 67) 10 rfl rfl ?_
    try simp only [Act.put, List.setIfInBounds_toArray, List.set_cons_zero, List.set_cons_succ]
    refine wpAnyH_ready (rs := [3]) (by kernel_rfl) (by simp) ?_
    refine AllReadyH.cons rfl (fun K hK => ?_) AllReadyH.nil
    go_simp
    rw [← hbb, ← hw3]
    refine hK.out _ _ ⟨q1w, q2w⟩ (fun hHeld => ?_)
    clear hK K
    try simp only [Act.put, List.setIfInBounds_toArray, List.set_cons_zero, List.set_cons_succ]
    clear hbb hw3
    refine wpAnyH_ready (rs := [11]) (by kernel_rfl) (by simp) ?_
    refine AllReadyH.cons rfl (fun K hK => ?_) AllReadyH.nil
    refine wp_append_sl (.tmp 60) (.tmp 67) 40 rfl w.heap.size 43 i0 (.int .i64 0) 1 8 Tryz.underlying40 hi0 hz0 hz1 hz2 rfl (by decide) (.slice (some ⟨bb, 0, none⟩) 1 1) 1 [.int .i64 (a + 3)] rfl hrow sa o.args.length scap (o.args.map (Value.int .i64)) rfl (by simp) (fun e => ⟨by rw [(hnil e).1]; rfl, (hnil e).2⟩) (fun ad e j u hu => Keeps.of_below hbz _ _ (hsrc ad e j u hu)) (oneCell_ints _) (by unfold maxLen; omega) (by omega) hbw3.size ?_
    intro v4 w4 hown4 hg4 hat4
    obtain ⟨a4, cap4, rfl⟩ := own_form hown4
    have hb4 : Below w.heap.size w w4 := hbw3.trans ((Mods.refl (fun k => (Value.slice (some ⟨bb, 0, none⟩) 1 1).ownBlock = some k) w3).grown hg4 (fun k e _ => e) |>.below hbw3.size (fun k hk e => by have := (hrow.lt k e).1; omega))
    have k4 := Keeps.of_below hb4
    have q14 : w4.cell? ⟨w.heap.size, 1, none⟩ = some (.int .i64 a) := (hMw4 w4 hg4).cell q1w (fun e => by have := Option.some.inj (show some bb = some w.heap.size from e); omega)
    have q24 : w4.cell? ⟨w.heap.size, 2, none⟩ = some (.int .i64 b) := (hMw4 w4 hg4).cell q2w (fun e => by have := Option.some.inj (show some bb = some w.heap.size from e); omega)
    go_simp
    refine hK.out _ _ ⟨q14, q24⟩ (fun hHeld => ?_)
    clear hK K
    try simp only [Act.put, List.setIfInBounds_toArray, List.set_cons_zero, List.set_cons_succ]
    refine take_x (some 6) 12 rfl rfl ?_
    try simp only [Act.put, List.setIfInBounds_toArray, List.set_cons_zero, List.set_cons_succ]
    refine wpAnyH_done (by kernel_rfl) ?_ _
    refine NoPanic.normal ?_
    have HF : Hid (WantR ((a + 3) :: o.args) w w4 (.returned (.slice a4 (1 + o.args.length) cap4))) := ⟨_, rfl, by rw [show ((a + 3) :: o.args).length = 1 + o.args.length by simp; omega]; exact hown4, hb4⟩
    clear hown4 hg4 hat4
    go_wp2_with fail
    go_ret
    rw [unhide HOE]
    exact unhide HF
end
end Go.Proofs.YtiiokkllmchohaaGreat
