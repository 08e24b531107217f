/- The machine: do, for PRINT. -/
import Derived.Test.YtiiokkllmchohaaGreatT29
import Derived.Test.YtiiokkllmchohaaGreatT30
/- MacY -/
namespace Go.Proofs.YtiiokkllmchohaaGreat
open Go.RowKit Go.Shelf
attribute [local go_sem ↓] Go.wp_at_zero Go.wp_at_succ
attribute [local go_sem] frz_drew
attribute [local go_sem] fld_num fld_obj

theorem infoInt : (Tryz.prog.info? 3).map (fun i => (i.zero, i.size, i.bytes)) = some (some (.int .i64 0), 1, 8) := by kernel_rfl
theorem ti_ne_ma : 3 ≠ 172 := by decide
section
variable {w0 w w' : World} {ρ : Nat → Nat × Nat} {mb : Nat} {vp : Value} {fuel : Int} {ask : Bool} {st : MaSt} {A : List Nat} {X : List FrX} {Y : List Value} {vr vpr : Value}
theorem MaA.print (h : MaA w0 w ρ mb vp fuel ask st A X Y vr vpr) {W U : World} {n : Int} {v' : Value} (hM : Mods (fun k => vpr.ownBlock = some k) w W) (hO : W.ownsRow w0.heap.size 3 1 v' (st.out.length + 1) (st.out.map (Value.int .i64) ++ [.int .i64 n])) (hv : v'.ownBlock = vpr.ownBlock ∨ ∃ k, w.heap.size ≤ k ∧ v'.ownBlock = some k) (hU : U = W.setCell ⟨mb, 8, none⟩ v') :
    (∃ ρ', MaA w0 U ρ' mb vp fuel ask { st with out := st.out ++ [n] } A X Y vr v') ∧ W.cell? ⟨mb, 8, none⟩ = some vpr ∧ W.frozen? ⟨mb, 8, none⟩ = false := by
  subst hU
  have hne : ¬ vpr.ownBlock = some mb := own_ne h.prn h.mach ti_ne_ma
  have hB := h.mach.mods hM hne
  have hM5 : Mods (fun k => k = mb) W (W.setCell ⟨mb, 8, none⟩ v') := (Mods.refl (fun k => k = mb) W).setCell (p := ⟨mb, 8, none⟩) (fun _ => rfl) _
  have hMA : Mods (fun k => k = mb ∨ vpr.ownBlock = some k) w (W.setCell ⟨mb, 8, none⟩ v') := (hM.mono (fun _ _ e => .inr e)).trans hM5 (fun _ _ e => .inl e)
  have hz := h.bel.size
  have hq : ∀ k, k < w.heap.size → (k = mb ∨ vpr.ownBlock = some k) → ∀ r, r ≠ (5, 0) → r ≠ (7, 0) → ρ k ≠ r := fun k _ e r h5 h7 e' => by
    rcases e with e | e
    · exact h5 (e' ▸ e ▸ h.rmb)
    · exact h7 (e' ▸ h.rpr k e)
  refine ⟨⟨fun k => if w.heap.size ≤ k then (7, 0) else ρ k, ?_⟩, hB.cell 8, hB.frozen 8⟩
  have s : Same w.heap.size ρ (fun k => if w.heap.size ≤ k then (7, 0) else ρ k) := fun k hk => by show (if _ then _ else _) = _; rw [if_neg (by omega)]
  refine ⟨hB.setCell 8 v', h.base, (s _ h.lt).trans h.rmb, own_mods h.run hMA (fun g hg e => hq g (h.run.lt g hg).2 e (6, 0) (by simp) (by simp) (h.rvr g hg)), h.rvr.same s (fun g hg => (h.run.lt g hg).2), ?_, fun g hg => ?_, h.lx, fun i f x hf hx => (h.fr i f x hf hx).mods hMA s (fun k hk e => ⟨hq k hk e _ (by simp) (by simp), hq k hk e _ (by simp) (by simp), hq k hk e _ (by simp) (by simp)⟩), h.la, h.ly, fun k o b v h1 h2 h3 => (h.ob k o b v h1 h2 h3).mods hMA s (fun j hj e => ⟨hq j hj e _ (by simp) (by simp), hq j hj e _ (by simp) (by simp)⟩), h.okt, ?_, fun k hk => (s k (by omega)).trans (h.low k hk)⟩
  · show World.ownsRow _ _ _ _ _ (st.out ++ [n]).length ((st.out ++ [n]).map _)
    rw [List.length_append, List.map_append]
    exact own_mods hO hM5 (fun g hg e => own_ne hO hB ti_ne_ma (e ▸ hg))
  · rcases hv with e | ⟨k, hk, e⟩
    · rw [e] at hg
      exact (s g (h.prn.lt g hg).2).trans (h.rpr g hg)
    · rw [e] at hg; cases hg
      show (if _ then _ else _) = _
      rw [if_pos hk]
  · refine h.bel.trans (hMA.below hz (fun k hk e => ?_))
    rcases e with e | e
    · have := h.base; omega
    · have := (h.prn.lt k e).1; omega
end
def prnP (st : MaSt) (i : Nat) (f : MFr) : MaSt := { setF st i f f.loc f.stk.dropLast with out := st.out ++ [(topV f.stk).num] }
section
variable (p : List LClass) (vp : Value) (w0 w : World) (ρ : Nat → Nat × Nat) (mb : Nat) (fuel : Int) (ask : Bool) (st : MaSt) (A : List Nat) (X : List FrX) (Y : List Value) (vr vpr : Value) (i : Nat) (f : MFr) (x : FrX) (a b : Int)
set_option maxHeartbeats 1000000 in
set_option maxRecDepth 100000 in
theorem do_print (h : MaA w0 w ρ mb vp fuel ask st A X Y vr vpr) (hf : st.frames[i]? = some f) (hx : X[i]? = some x) (S : StkOk 19 f.stk) (hsl : f.stk.length < 4194303) (hol : st.out.length ≤ 4194304) :
    Calls Tryz.prog 173 #[.pointer (some ⟨mb, 0, none⟩), .pointer (some ⟨x.fb, 0, none⟩), .agg #[.int .i64 19, .int .i64 a, .int .i64 b]] w fun e w' => DoX i x.fb w0 mb vp fuel ask (prnP st i f) 0 w' e := by
  obtain ⟨i0, hi0, hz0, hz1, hz2⟩ := info_parts infoInt
  have hs1 := S.s1 (by omega)
  have hst := top_snoc (l := f.stk) (by omega)
  have hdl : f.stk.dropLast.length = f.stk.length - 1 := List.length_dropLast
  have hbel := box_below w (.cells #[.int .i64 19, .int .i64 a, .int .i64 b] 60)
  have H := hide (h.below hbel (Nat.le_refl _))
  obtain ⟨ra, rcap, rfl⟩ := own_form h.prn
  have HST := hide hst
  clear h hst
  go_enter Tryz.func173, Tryz.ntmps173
  go_wp2_with fail
  generalize w.alloc _ = W at *
  have n8 : W.cell? ⟨mb, 8, none⟩ = some (.slice ra st.out.length rcap) := (unhide H).mach.cell 8
  refine wp_region_held_drew (S := (fun _ => True)) (by kernel_rfl) ?_ (fun hHeld => ?_)
  · exact trivial
  refine take_x (some 96) 0 rfl rfl ?_
  refine take_x (some 97) 1 rfl rfl ?_
  refine take_x (some 98) 2 rfl rfl ?_
  refine take_x (some 99) 3 rfl rfl ?_
  refine take_x (some 101) 5 rfl rfl ?_
  refine wpAnyH_ready (rs := [4, 6]) (by kernel_rfl) (by simp) ?_
  refine AllReadyH.cons rfl (fun K hK => ?_) (AllReadyH.cons rfl (fun K hK => ?_) AllReadyH.nil)
  · go_simp
    refine hK.out _ _ trivial (fun hHeld => ?_)
    clear hK K
    try simp only [Act.put, List.setIfInBounds_toArray, List.set_cons_zero, List.set_cons_succ]
    refine wpAnyH_ready (rs := [6]) (by kernel_rfl) (by simp) ?_
    refine AllReadyH.cons rfl (fun K hK => ?_) AllReadyH.nil
    go_simp
    have F := (unhide H).fr i f x hf hx
    have hP0 := ma_pop _ A x.fb x.mc (f.pc : Int) x.vl f.loc x.vs f.stk.dropLast (topV f.stk) W.drew (by rw [← unhide HST]; exact F.fr.below (Below.refl W.heap.size W).drew (Nat.le_refl _)) (by omega)
    refine hP0.mono ?_
    rintro e w1 hP
    obtain ⟨rfl, ρ1, vs1, hA1⟩ := (unhide H).drew.pop hf hx (unhide HST) hP
    obtain ⟨v3, w3, happ, hO3, hM3, hv3⟩ := app_ex (P := Tryz.prog) (W := w1) 51 51 3 i0 _ 1 8 Tryz.underlying51 hi0 hz0 hz1 hz2 rfl (by decide) w0.heap.size _ _ _ hA1.prn #[.int .i64 (topV f.stk).num] rfl (fun v hv => by obtain rfl := List.mem_singleton.1 hv; rfl) w1.heap.size rfl (by have : (setF st i f f.loc f.stk.dropLast).out.length = st.out.length := rfl; unfold maxLen; omega) (by have : (setF st i f f.loc f.stk.dropLast).out.length = st.out.length := rfl; omega) hA1.bel.size
    obtain ⟨a3, cap3, rfl⟩ := own_form hO3
    obtain ⟨⟨ρ3, hA3⟩, c83, f83⟩ := hA1.print hM3 hO3 hv3 rfl
    have n81 : w1.cell? ⟨mb, 8, none⟩ = some (.slice ra st.out.length rcap) := hA1.mach.cell 8
    have n81a : (w1.alloc (.cells #[.int .i64 (topV f.stk).num] 3)).cell? ⟨mb, 8, none⟩ = some (.slice ra st.out.length rcap) := (hA1.mach.alloc _).cell 8
    have HF : Hid (DoX i x.fb w0 mb vp fuel ask (prnP st i f) 0 (w3.setCell ⟨mb, 8, none⟩ (.slice a3 ((setF st i f f.loc f.stk.dropLast).out.length + 1) cap3)) (.returned (.int .i64 0))) := ⟨rfl, A, ρ3, _, _, _, _, (by first | exact fb_same hx | exact fb_set hx _ | exact fb_set2 hx _ _), hA3⟩
    unfold encV
    clear hA1 hA3 hO3 hM3 hv3 hP hP0 F
    go_wp2_with fail
    refine hK.out _ _ trivial (fun hHeld => ?_)
    clear hK K
    try simp only [Act.put, List.setIfInBounds_toArray, List.set_cons_zero, List.set_cons_succ]
    refine take_x (some 103) 7 rfl rfl ?_
    refine wpAnyH_ready (rs := [8]) (by kernel_rfl) (by simp) ?_
    refine AllReadyH.cons rfl (fun K hK => ?_) AllReadyH.nil
    go_simp
    refine hK.out _ _ trivial (fun hHeld => ?_)
    clear hK K
    try simp only [Act.put, List.setIfInBounds_toArray, List.set_cons_zero, List.set_cons_succ]
    refine wpAnyH_ready (rs := [9]) (by kernel_rfl) (by simp) ?_
    refine AllReadyH.cons rfl (fun K hK => ?_) AllReadyH.nil
    refine wp_append_run (.tmp 100) (.tmp 104) 51 rfl _ _ rfl rfl happ ?_
    go_simp
    refine hK.out _ _ trivial (fun hHeld => ?_)
    clear hK K
    try simp only [Act.put, List.setIfInBounds_toArray, List.set_cons_zero, List.set_cons_succ]
    refine take_x (some 106) 10 rfl rfl ?_
    refine take_x (some 107) 11 rfl rfl ?_
    refine wpAnyH_ready (rs := [12]) (by kernel_rfl) (by simp) ?_
    refine AllReadyH.cons rfl (fun K hK => ?_) AllReadyH.nil
    go_simp
    refine hK.out _ _ trivial (fun hHeld => ?_)
    clear hK K
    try simp only [Act.put, List.setIfInBounds_toArray, List.set_cons_zero, List.set_cons_succ]
    refine wpAnyH_done (by kernel_rfl) ?_ _
    clear happ
    go_wp2_with fail
    go_ret
    exact unhide HF
  · go_simp
    have F := (unhide H).fr i f x hf hx
    have hP0 := ma_pop _ A x.fb x.mc (f.pc : Int) x.vl f.loc x.vs f.stk.dropLast (topV f.stk) W.drew (by rw [← unhide HST]; exact F.fr.below (Below.refl W.heap.size W).drew (Nat.le_refl _)) (by omega)
    refine hP0.mono ?_
    rintro e w1 hP
    obtain ⟨rfl, ρ1, vs1, hA1⟩ := (unhide H).drew.pop hf hx (unhide HST) hP
    obtain ⟨v3, w3, happ, hO3, hM3, hv3⟩ := app_ex (P := Tryz.prog) (W := w1) 51 51 3 i0 _ 1 8 Tryz.underlying51 hi0 hz0 hz1 hz2 rfl (by decide) w0.heap.size _ _ _ hA1.prn #[.int .i64 (topV f.stk).num] rfl (fun v hv => by obtain rfl := List.mem_singleton.1 hv; rfl) w1.heap.size rfl (by have : (setF st i f f.loc f.stk.dropLast).out.length = st.out.length := rfl; unfold maxLen; omega) (by have : (setF st i f f.loc f.stk.dropLast).out.length = st.out.length := rfl; omega) hA1.bel.size
    obtain ⟨a3, cap3, rfl⟩ := own_form hO3
    obtain ⟨⟨ρ3, hA3⟩, c83, f83⟩ := hA1.print hM3 hO3 hv3 rfl
    have n81 : w1.cell? ⟨mb, 8, none⟩ = some (.slice ra st.out.length rcap) := hA1.mach.cell 8
    have n81a : (w1.alloc (.cells #[.int .i64 (topV f.stk).num] 3)).cell? ⟨mb, 8, none⟩ = some (.slice ra st.out.length rcap) := (hA1.mach.alloc _).cell 8
    have HF : Hid (DoX i x.fb w0 mb vp fuel ask (prnP st i f) 0 (w3.setCell ⟨mb, 8, none⟩ (.slice a3 ((setF st i f f.loc f.stk.dropLast).out.length + 1) cap3)) (.returned (.int .i64 0))) := ⟨rfl, A, ρ3, _, _, _, _, (by first | exact fb_same hx | exact fb_set hx _ | exact fb_set2 hx _ _), hA3⟩
    unfold encV
    clear hA1 hA3 hO3 hM3 hv3 hP hP0 F
    go_wp2_with fail
    refine hK.out _ _ trivial (fun hHeld => ?_)
    clear hK K
    try simp only [Act.put, List.setIfInBounds_toArray, List.set_cons_zero, List.set_cons_succ]
    refine take_x (some 103) 7 rfl rfl ?_
    refine wpAnyH_ready (rs := [4, 8]) (by kernel_rfl) (by simp) ?_
    refine AllReadyH.cons rfl (fun K hK => ?_) (AllReadyH.cons rfl (fun K hK => ?_) AllReadyH.nil)
    · go_simp
      refine hK.out _ _ trivial (fun hHeld => ?_)
      clear hK K
      try simp only [Act.put, List.setIfInBounds_toArray, List.set_cons_zero, List.set_cons_succ]
      refine wpAnyH_ready (rs := [8]) (by kernel_rfl) (by simp) ?_
      refine AllReadyH.cons rfl (fun K hK => ?_) AllReadyH.nil
      go_simp
      refine hK.out _ _ trivial (fun hHeld => ?_)
      clear hK K
      try simp only [Act.put, List.setIfInBounds_toArray, List.set_cons_zero, List.set_cons_succ]
      refine wpAnyH_ready (rs := [9]) (by kernel_rfl) (by simp) ?_
      refine AllReadyH.cons rfl (fun K hK => ?_) AllReadyH.nil
      refine wp_append_run (.tmp 100) (.tmp 104) 51 rfl _ _ rfl rfl happ ?_
      go_simp
      refine hK.out _ _ trivial (fun hHeld => ?_)
      clear hK K
      try simp only [Act.put, List.setIfInBounds_toArray, List.set_cons_zero, List.set_cons_succ]
      refine take_x (some 106) 10 rfl rfl ?_
      refine take_x (some 107) 11 rfl rfl ?_
      refine wpAnyH_ready (rs := [12]) (by kernel_rfl) (by simp) ?_
      refine AllReadyH.cons rfl (fun K hK => ?_) AllReadyH.nil
      go_simp
      refine hK.out _ _ trivial (fun hHeld => ?_)
      clear hK K
      try simp only [Act.put, List.setIfInBounds_toArray, List.set_cons_zero, List.set_cons_succ]
      refine wpAnyH_done (by kernel_rfl) ?_ _
      clear happ
      go_wp2_with fail
      go_ret
      exact unhide HF
    · go_simp
      refine hK.out _ _ trivial (fun hHeld => ?_)
      clear hK K
      try simp only [Act.put, List.setIfInBounds_toArray, List.set_cons_zero, List.set_cons_succ]
      refine wpAnyH_ready (rs := [4]) (by kernel_rfl) (by simp) ?_
      refine AllReadyH.cons rfl (fun K hK => ?_) AllReadyH.nil
      go_simp
      refine hK.out _ _ trivial (fun hHeld => ?_)
      clear hK K
      try simp only [Act.put, List.setIfInBounds_toArray, List.set_cons_zero, List.set_cons_succ]
      refine wpAnyH_ready (rs := [9]) (by kernel_rfl) (by simp) ?_
      refine AllReadyH.cons rfl (fun K hK => ?_) AllReadyH.nil
      refine wp_append_run (.tmp 100) (.tmp 104) 51 rfl _ _ rfl rfl happ ?_
      go_simp
      refine hK.out _ _ trivial (fun hHeld => ?_)
      clear hK K
      try simp only [Act.put, List.setIfInBounds_toArray, List.set_cons_zero, List.set_cons_succ]
      refine take_x (some 106) 10 rfl rfl ?_
      refine take_x (some 107) 11 rfl rfl ?_
      refine wpAnyH_ready (rs := [12]) (by kernel_rfl) (by simp) ?_
      refine AllReadyH.cons rfl (fun K hK => ?_) AllReadyH.nil
      go_simp
      refine hK.out _ _ trivial (fun hHeld => ?_)
      clear hK K
      try simp only [Act.put, List.setIfInBounds_toArray, List.set_cons_zero, List.set_cons_succ]
      refine wpAnyH_done (by kernel_rfl) ?_ _
      clear happ
      go_wp2_with fail
      go_ret
      exact unhide HF
end
end Go.Proofs.YtiiokkllmchohaaGreat
/- The machine: do, all. -/
namespace Go.Proofs.YtiiokkllmchohaaGreat
open Go.RowKit Go.Shelf

def doP (p : List LClass) (st : MaSt) (i : Nat) (f : MFr) (op a b : Int) : MaSt × Int :=
  if op = 6 then (if (topV f.stk).num = 0 then st else setF st i f (moveP 6 a f.loc f.stk).1 (moveP 6 a f.loc f.stk).2, if (topV f.stk).num = 0 then 3 else 0)
  else if op = 9 then (if st.objs.length = 100 then st else newSt p st i f a, if st.objs.length = 100 then 8 else 0)
  else if op = 10 then getP st i f b
  else if op = 11 then putP2 st i f b
  else if op = 17 then (st, castP p st f a)
  else if op = 19 then (prnP st i f, 0)
  else (setF st i f (moveP op a f.loc f.stk).1 (moveP op a f.loc f.stk).2, 0)
structure DoOk (p : List LClass) (st : MaSt) (f : MFr) (op b : Int) : Prop where
  stk : StkOk op f.stk
  loc : f.m.locals = (f.loc.length : Int)
  sl : f.stk.length < 4194303
  ll : f.loc.length ≤ 4194304
  get : op = 10 → ∀ k, (topV f.stk).obj = some k → b.toNat < (objAt st k).flds.length
  put : op = 11 → ∀ k, (topV f.stk.dropLast).obj = some k → b.toNat < (objAt st k).flds.length
  cast : op = 17 → ∀ k, (topV f.stk).obj = some k → 0 ≤ (objAt st k).cls ∧ (objAt st k).cls < (p.length : Int)
  fl : ∀ k, (objAt st k).flds.length ≤ 4194304
  ol : st.objs.length ≤ 100
  out : st.out.length ≤ 4194304
theorem ma_do (p : List LClass) (vp : Value) (w0 w : World) (ρ : Nat → Nat × Nat) (mb : Nat) (fuel : Int) (ask : Bool) (st : MaSt) (A : List Nat) (X : List FrX) (Y : List Value) (vr vpr : Value) (i : Nat) (f : MFr) (x : FrX) (op a b : Int) (h : MaA w0 w ρ mb vp fuel ask st A X Y vr vpr) (hf : st.frames[i]? = some f) (hx : X[i]? = some x) (G : Good p) (hp : RProg w0 vp p) (I : InsOk p f.m op a b) (D : DoOk p st f op b)
    (ho : op ≠ 7 ∧ op ≠ 8 ∧ op ≠ 12 ∧ op ≠ 13 ∧ op ≠ 18) :
    Calls Tryz.prog 173 #[.pointer (some ⟨mb, 0, none⟩), .pointer (some ⟨x.fb, 0, none⟩), .agg #[.int .i64 op, .int .i64 a, .int .i64 b]] w fun e w' => DoX i x.fb w0 mb vp fuel ask (doP p st i f op a b).1 (doP p st i f op a b).2 w' e := by
  have o0 := I.op0
  have o1 := I.op1
  by_cases h6 : op = 6
  · subst h6
    exact do_div p vp w0 w ρ mb fuel ask st A X Y vr vpr i f x a b h hf hx I D.stk D.loc D.sl D.ll
  by_cases h9 : op = 9
  · subst h9
    have hc := I.cls (by omega)
    exact do_new p vp w0 w ρ mb fuel ask st A X Y vr vpr i f x a b h hf hx hp G.sup G.sz hc.1 hc.2 (by have := D.sl; omega) D.ol
  by_cases h10 : op = 10
  · subst h10
    exact do_get vp w0 w ρ mb fuel ask st A X Y vr vpr i f x a b h hf hx D.stk D.sl (I.fld (by omega)).1 (D.get rfl) D.fl
  by_cases h11 : op = 11
  · subst h11
    exact do_put vp w0 w ρ mb fuel ask st A X Y vr vpr i f x a b h hf hx D.stk D.sl (I.fld (by omega)).1 (D.put rfl) D.fl
  by_cases h17 : op = 17
  · subst h17
    exact do_cast p vp w0 w ρ mb fuel ask st A X Y vr vpr i f x a b h hf hx hp G.sup G.sz D.stk D.sl (D.cast rfl)
  by_cases h19 : op = 19
  · subst h19
    exact do_print vp w0 w ρ mb fuel ask st A X Y vr vpr i f x a b h hf hx D.stk D.sl D.out
  have hd : doP p st i f op a b = (setF st i f (moveP op a f.loc f.stk).1 (moveP op a f.loc f.stk).2, 0) := by
    unfold doP
    rw [if_neg h6, if_neg h9, if_neg h10, if_neg h11, if_neg h17, if_neg h19]
  rw [hd]
  exact do_mv p vp w0 w ρ mb fuel ask st A X Y vr vpr i f x op a b h hf hx I D.stk D.loc D.sl D.ll (by omega)
end Go.Proofs.YtiiokkllmchohaaGreat
/- The machine: a step, a run (pure). -/
namespace Go.Proofs.YtiiokkllmchohaaGreat
open Go.RowKit Go.Shelf

def goF (st : MaSt) (i : Nat) (f : MFr) (pc : Nat) (stk : List LVal) : MaSt := { st with frames := st.frames.set i { f with pc := pc, stk := stk } }
def tick (st : MaSt) : MaSt := { st with steps := st.steps + 1 }
def incF (st : MaSt) (i : Nat) : MaSt := match st.frames[i]? with
  | none => st
  | some f => { st with frames := st.frames.set i { f with pc := f.pc + 1 } }
def callP (p : List LClass) (st : MaSt) (i : Nat) (f : MFr) (a b : Int) : MaSt ⊕ (MaSt × Int) :=
  let n := (findM p a b).args.length
  let r := f.stk.take (f.stk.length - n)
  match (topV r).obj with
  | none => .inr (goF st i f f.pc r.dropLast, 2)
  | some k => if st.frames.length = 30 then .inr (goF st i f f.pc r.dropLast, 7)
    else .inl (tick (begSt p (goF st i f (f.pc + 1) r.dropLast) k (objAt st k).cls b (f.stk.drop (f.stk.length - n))))
def stepM (p : List LClass) (fuel : Int) (st : MaSt) : MaSt ⊕ (MaSt × Int) := match st.frames.getLast? with
  | none => .inr (st, 1)
  | some f =>
    let i := st.frames.length - 1
    let ins := insAt f.m f.pc
    if lookP p fuel st.steps f ≠ 0 then .inr (st, lookP p fuel st.steps f)
    else if ins.op = 7 then .inl (tick (goF st i f ins.a.toNat f.stk))
    else if ins.op = 8 then .inl (tick (if (topV f.stk).num = 0 then goF st i f ins.a.toNat f.stk.dropLast else goF st i f (f.pc + 1) f.stk.dropLast))
    else if ins.op = 18 then .inl (tick (if (topV f.stk).obj = none then goF st i f ins.a.toNat f.stk.dropLast else goF st i f (f.pc + 1) f.stk.dropLast))
    else if ins.op = 12 then callP p st i f ins.a ins.b
    else if ins.op = 13 then .inl (tick (endSt (goF st i f f.pc f.stk.dropLast) (topV f.stk)))
    else if (doP p st i f ins.op ins.a ins.b).2 = 0 then .inl (tick (incF (doP p st i f ins.op ins.a ins.b).1 i))
    else .inr (doP p st i f ins.op ins.a ins.b)
def stepI (p : List LClass) (st : MaSt) (i : Nat) (f : MFr) (op a b : Int) : MaSt ⊕ (MaSt × Int) :=
  if op = 7 then .inl (tick (goF st i f a.toNat f.stk))
  else if op = 8 then .inl (tick (if (topV f.stk).num = 0 then goF st i f a.toNat f.stk.dropLast else goF st i f (f.pc + 1) f.stk.dropLast))
  else if op = 18 then .inl (tick (if (topV f.stk).obj = none then goF st i f a.toNat f.stk.dropLast else goF st i f (f.pc + 1) f.stk.dropLast))
  else if op = 12 then callP p st i f a b
  else if op = 13 then .inl (tick (endSt (goF st i f f.pc f.stk.dropLast) (topV f.stk)))
  else if (doP p st i f op a b).2 = 0 then .inl (tick (incF (doP p st i f op a b).1 i))
  else .inr (doP p st i f op a b)
theorem stepM_eq {p : List LClass} {fuel : Int} {st : MaSt} {f : MFr} {i : Nat} {op a b : Int} (hgl : st.frames.getLast? = some f) (hlk : lookP p fuel st.steps f = 0) (hil : st.frames.length - 1 = i) (hI : insAt f.m f.pc = ⟨op, a, b⟩) : stepM p fuel st = stepI p st i f op a b := by
  unfold stepM
  rw [hgl]
  dsimp only
  rw [if_neg (by rw [hlk]; simp), hil, hI]
  rfl
theorem stepI_7 (p : List LClass) (st : MaSt) (i : Nat) (f : MFr) (k : Nat) (b : Int) : stepI p st i f 7 (k : Int) b = .inl (tick (goF st i f k f.stk)) := rfl
theorem stepI_8a (p : List LClass) (st : MaSt) (i : Nat) (f : MFr) (k : Nat) (b : Int) (h : (topV f.stk).num = 0) : stepI p st i f 8 (k : Int) b = .inl (tick (goF st i f k f.stk.dropLast)) := by
  show Sum.inl (tick (if _ then _ else _)) = _
  rw [if_pos h]; rfl
theorem stepI_8b (p : List LClass) (st : MaSt) (i : Nat) (f : MFr) (k : Nat) (b : Int) (h : ¬ (topV f.stk).num = 0) : stepI p st i f 8 (k : Int) b = .inl (tick (goF st i f (f.pc + 1) f.stk.dropLast)) := by
  show Sum.inl (tick (if _ then _ else _)) = _
  rw [if_neg h]
theorem stepI_18a (p : List LClass) (st : MaSt) (i : Nat) (f : MFr) (k : Nat) (b : Int) (h : (topV f.stk).obj = none) : stepI p st i f 18 (k : Int) b = .inl (tick (goF st i f k f.stk.dropLast)) := by
  show Sum.inl (tick (if _ then _ else _)) = _
  rw [if_pos h]; rfl
theorem stepI_18b (p : List LClass) (st : MaSt) (i : Nat) (f : MFr) (k : Nat) (b : Int) (h : ¬ (topV f.stk).obj = none) : stepI p st i f 18 (k : Int) b = .inl (tick (goF st i f (f.pc + 1) f.stk.dropLast)) := by
  show Sum.inl (tick (if _ then _ else _)) = _
  rw [if_neg h]
theorem stepI_12 (p : List LClass) (st : MaSt) (i : Nat) (f : MFr) (a b : Int) : stepI p st i f 12 a b = callP p st i f a b := rfl
theorem stepI_13 (p : List LClass) (st : MaSt) (i : Nat) (f : MFr) (a b : Int) : stepI p st i f 13 a b = .inl (tick (endSt (goF st i f f.pc f.stk.dropLast) (topV f.stk))) := rfl
theorem stepI_do (p : List LClass) (st : MaSt) (i : Nat) (f : MFr) (op a b : Int) (h : op ≠ 7 ∧ op ≠ 8 ∧ op ≠ 12 ∧ op ≠ 13 ∧ op ≠ 18) : stepI p st i f op a b = if (doP p st i f op a b).2 = 0 then .inl (tick (incF (doP p st i f op a b).1 i)) else .inr (doP p st i f op a b) := by
  unfold stepI
  rw [if_neg h.1, if_neg h.2.1, if_neg h.2.2.2.2, if_neg h.2.2.1, if_neg h.2.2.2.1]
theorem doP_frame (p : List LClass) (st : MaSt) (i : Nat) (f : MFr) (op a b : Int) (hf : st.frames[i]? = some f) : ∃ loc stk, (doP p st i f op a b).1.frames[i]? = some { f with loc := loc, stk := stk } ∧ (doP p st i f op a b).1.steps = st.steps ∧ (doP p st i f op a b).1.frames.length = st.frames.length := by
  have hl : i < st.frames.length := (List.getElem?_eq_some_iff.1 hf).1
  have hs : ∀ loc stk, (setF st i f loc stk).frames[i]? = some { f with loc := loc, stk := stk } := fun loc stk => setF_at hf loc stk
  have hn : ∀ loc stk, (setF st i f loc stk).frames.length = st.frames.length := fun loc stk => by simp [setF]
  generalize hq : doP p st i f op a b = q
  unfold doP at hq
  split at hq
  · subst hq
    dsimp only
    split
    · exact ⟨f.loc, f.stk, hf, rfl, rfl⟩
    · exact ⟨_, _, hs _ _, rfl, hn _ _⟩
  split at hq
  · subst hq
    dsimp only
    split
    · exact ⟨f.loc, f.stk, hf, rfl, rfl⟩
    · exact ⟨_, _, hs _ _, rfl, hn _ _⟩
  split at hq
  · subst hq
    unfold getP
    split
    · exact ⟨_, _, hs _ _, rfl, hn _ _⟩
    · exact ⟨_, _, hs _ _, rfl, hn _ _⟩
  split at hq
  · subst hq
    unfold putP2
    split
    · exact ⟨_, _, hs _ _, rfl, hn _ _⟩
    · exact ⟨_, _, hs _ _, rfl, hn _ _⟩
  split at hq
  · subst hq
    exact ⟨f.loc, f.stk, hf, rfl, rfl⟩
  split at hq
  · subst hq
    exact ⟨_, _, hs _ _, rfl, hn _ _⟩
  · subst hq
    exact ⟨_, _, hs _ _, rfl, hn _ _⟩
def runM (p : List LClass) (fuel : Int) : Nat → MaSt → Option (MaSt × Int)
  | 0, _ => none
  | n + 1, st => match stepM p fuel st with
    | .inr r => some r
    | .inl st' => runM p fuel n st'
structure CallOk (p : List LClass) (st : MaSt) (f : MFr) (a b : Int) : Prop where
  len : (findM p a b).args.length + 1 ≤ f.stk.length
  obj : ∀ k, (topV (f.stk.take (f.stk.length - (findM p a b).args.length))).obj = some k → 0 ≤ (objAt st k).cls ∧ (objAt st k).cls < (p.length : Int) ∧ (methOf p (objAt st k).cls b).isSome = true ∧ 1 + ((findM p a b).args.length : Int) ≤ (findM p (objAt st k).cls b).locals ∧ (findM p (objAt st k).cls b).locals ≤ 8
structure StepOk (p : List LClass) (fuel : Int) (st : MaSt) : Prop where
  fr : ∀ f, st.frames.getLast? = some f → FrOkM p f
  ok : ∀ f, st.frames.getLast? = some f → lookP p fuel st.steps f = 0 → DoOk p st f (insAt f.m f.pc).op (insAt f.m f.pc).b
  cl : ∀ f, st.frames.getLast? = some f → lookP p fuel st.steps f = 0 → (insAt f.m f.pc).op = 12 → CallOk p st f (insAt f.m f.pc).a (insAt f.m f.pc).b
  len : st.frames.length ≤ 30
  all : ∀ g ∈ st.frames, g.stk.length ≤ 4194304
  stp : (st.steps : Int) ≤ fuel
def RunOk (p : List LClass) (fuel : Int) : Nat → MaSt → Prop
  | 0, _ => True
  | n + 1, st => StepOk p fuel st ∧ ∀ st', stepM p fuel st = .inl st' → RunOk p fuel n st'
end Go.Proofs.YtiiokkllmchohaaGreat
