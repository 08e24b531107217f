/- The machine: do, for PRINT. -/
import Derived.Test.YtiiokkllmchohaaGreatT13
import Derived.Test.YtiiokkllmchohaaGreatT28
import Derived.Test.YtiiokkllmchohaaGreatT29
/- MacY -/
namespace Go.Proofs.YtiiokkllmchohaaGreat
open Go.RowKit Go.Shelf
attribute [local go_sem ↓] Go.wp_at_zero Go.wp_at_succ
attribute [local go_sem] frz_drew
attribute [local go_sem] fld_num fld_obj

theorem infoInt : (Tryz.prog.info? 3).map (fun i => (i.zero, i.size, i.bytes)) = some (some (.int .i64 0), 1, 8) := by kernel_rfl
theorem ti_ne_ma : 3 ≠ 172 := by decide
section
variable {w0 w w' : World} {ρ : Nat → Nat × Nat} {mb : Nat} {vp : Value} {fuel : Int} {ask : Bool} {st : MaSt} {A : List Nat} {X : List FrX} {Y : List Value} {vr vpr : Value}
theorem MaA.print (h : MaA w0 w ρ mb vp fuel ask st A X Y vr vpr) {W U : World} {n : Int} {v' : Value} (hM : Mods (fun k => vpr.ownBlock = some k) w W) (hO : W.ownsRow w0.heap.size 3 1 v' (st.out.length + 1) (st.out.map (Value.int .i64) ++ [.int .i64 n])) (hv : v'.ownBlock = vpr.ownBlock ∨ ∃ k, w.heap.size ≤ k ∧ v'.ownBlock = some k) (hU : U = W.setCell ⟨mb, 8, none⟩ v') :
    (∃ ρ', MaA w0 U ρ' mb vp fuel ask { st with out := st.out ++ [n] } A X Y vr v') ∧ W.cell? ⟨mb, 8, none⟩ = some vpr ∧ W.frozen? ⟨mb, 8, none⟩ = false := by
  subst hU
  have hne : ¬ vpr.ownBlock = some mb := own_ne h.prn h.mach ti_ne_ma
  have hB := h.mach.mods hM hne
  have hM5 : Mods (fun k => k = mb) W (W.setCell ⟨mb, 8, none⟩ v') := (Mods.refl (fun k => k = mb) W).setCell (p := ⟨mb, 8, none⟩) (fun _ => rfl) _
  have hMA : Mods (fun k => k = mb ∨ vpr.ownBlock = some k) w (W.setCell ⟨mb, 8, none⟩ v') := (hM.mono (fun _ _ e => .inr e)).trans hM5 (fun _ _ e => .inl e)
  have hz := h.bel.size
  have hq : ∀ k, k < w.heap.size → (k = mb ∨ vpr.ownBlock = some k) → ∀ r, r ≠ (5, 0) → r ≠ (7, 0) → ρ k ≠ r := fun k _ e r h5 h7 e' => by
    rcases e with e | e
    · exact h5 (e' ▸ e ▸ h.rmb)
    · exact h7 (e' ▸ h.rpr k e)
  refine ⟨⟨fun k => if w.heap.size ≤ k then (7, 0) else ρ k, ?_⟩, hB.cell 8, hB.frozen 8⟩
  have s : Same w.heap.size ρ (fun k => if w.heap.size ≤ k then (7, 0) else ρ k) := fun k hk => by show (if _ then _ else _) = _; rw [if_neg (by omega)]
  refine ⟨hB.setCell 8 v', h.base, (s _ h.lt).trans h.rmb, own_mods h.run hMA (fun g hg e => hq g (h.run.lt g hg).2 e (6, 0) (by simp) (by simp) (h.rvr g hg)), h.rvr.same s (fun g hg => (h.run.lt g hg).2), ?_, fun g hg => ?_, h.lx, fun i f x hf hx => (h.fr i f x hf hx).mods hMA s (fun k hk e => ⟨hq k hk e _ (by simp) (by simp), hq k hk e _ (by simp) (by simp), hq k hk e _ (by simp) (by simp)⟩), h.la, h.ly, fun k o b v h1 h2 h3 => (h.ob k o b v h1 h2 h3).mods hMA s (fun j hj e => ⟨hq j hj e _ (by simp) (by simp), hq j hj e _ (by simp) (by simp)⟩), h.okt, ?_, fun k hk => (s k (by omega)).trans (h.low k hk)⟩
  · show World.ownsRow _ _ _ _ _ (st.out ++ [n]).length ((st.out ++ [n]).map _)
    rw [List.length_append, List.map_append]
    exact own_mods hO hM5 (fun g hg e => own_ne hO hB ti_ne_ma (e ▸ hg))
  · rcases hv with e | ⟨k, hk, e⟩
    · rw [e] at hg
      exact (s g (h.prn.lt g hg).2).trans (h.rpr g hg)
    · rw [e] at hg; cases hg
      show (if _ then _ else _) = _
      rw [if_pos hk]
  · refine h.bel.trans (hMA.below hz (fun k hk e => ?_))
    rcases e with e | e
    · have := h.base; omega
    · have := (h.prn.lt k e).1; omega
end
def prnP (st : MaSt) (i : Nat) (f : MFr) : MaSt := { setF st i f f.loc f.stk.dropLast with out := st.out ++ [(topV f.stk).num] }
section
variable (p : List LClass) (vp : Value) (w0 w : World) (ρ : Nat → Nat × Nat) (mb : Nat) (fuel : Int) (ask : Bool) (st : MaSt) (A : List Nat) (X : List FrX) (Y : List Value) (vr vpr : Value) (i : Nat) (f : MFr) (x : FrX) (a b : Int)
set_option maxHeartbeats 1000000 in
set_option maxRecDepth 100000 in
theorem do_print (h : MaA w0 w ρ mb vp fuel ask st A X Y vr vpr) (hf : st.frames[i]? = some f) (hx : X[i]? = some x) (S : StkOk 19 f.stk) (hsl : f.stk.length < 4194303) (hol : st.out.length ≤ 4194304) :
    Calls Tryz.prog 173 #[.pointer (some ⟨mb, 0, none⟩), .pointer (some ⟨x.fb, 0, none⟩), .agg #[.int .i64 19, .int .i64 a, .int .i64 b]] w fun e w' => DoX i x.fb w0 mb vp fuel ask (prnP st i f) 0 w' e := by
  obtain ⟨i0, hi0, hz0, hz1, hz2⟩ := info_parts infoInt
  have hs1 := S.s1 (by omega)
  have hst := top_snoc (l := f.stk) (by omega)
  have hdl : f.stk.dropLast.length = f.stk.length - 1 := List.length_dropLast
  have hbel := box_below w (.cells #[.int .i64 19, .int .i64 a, .int .i64 b] 60)
  have H := hide (h.below hbel (Nat.le_refl _))
  obtain ⟨ra, rcap, rfl⟩ := own_form h.prn
  have HST := hide hst
  clear h hst
  go_enter Tryz.func173, Tryz.ntmps173
  go_wp2_with fail
  generalize w.alloc _ = W at *
  have n8 : W.cell? ⟨mb, 8, none⟩ = some (.slice ra st.out.length rcap) := (unhide H).mach.cell 8
  refine wp_region_held_drew (S := (fun _ => True)) (by kernel_rfl) ?_ (fun hHeld => ?_)
  · exact trivial
  refine take_x (some 96) 0 rfl rfl ?_
  refine take_x (some 97) 1 rfl rfl ?_
  refine take_x (some 98) 2 rfl rfl ?_
  refine take_x (some 99) 3 rfl rfl ?_
  refine take_x (some 101) 5 rfl rfl ?_
  refine wpAnyH_ready (rs := [4, 6]) (by kernel_rfl) (by simp) ?_
  refine AllReadyH.cons rfl (fun K hK => ?_) (AllReadyH.cons rfl (fun K hK => ?_) AllReadyH.nil)
  · go_simp
    refine hK.out _ _ trivial (fun hHeld => ?_)
    clear hK K
    try simp only [Act.put, List.setIfInBounds_toArray, List.set_cons_zero, List.set_cons_succ]
    refine wpAnyH_ready (rs := [6]) (by kernel_rfl) (by simp) ?_
    refine AllReadyH.cons rfl (fun K hK => ?_) AllReadyH.nil
    go_simp
    have F := (unhide H).fr i f x hf hx
    have hP0 := ma_pop _ A x.fb x.mc (f.pc : Int) x.vl f.loc x.vs f.stk.dropLast (topV f.stk) W.drew (by rw [← unhide HST]; exact F.fr.below (Below.refl W.heap.size W).drew (Nat.le_refl _)) (by omega)
    refine hP0.mono ?_
    rintro e w1 hP
    obtain ⟨rfl, ρ1, vs1, hA1⟩ := (unhide H).drew.pop hf hx (unhide HST) hP
    obtain ⟨v3, w3, happ, hO3, hM3, hv3⟩ := app_ex (P := Tryz.prog) (W := w1) 51 51 3 i0 _ 1 8 Tryz.underlying51 hi0 hz0 hz1 hz2 rfl (by decide) w0.heap.size _ _ _ hA1.prn #[.int .i64 (topV f.stk).num] rfl (fun v hv => by obtain rfl := List.mem_singleton.1 hv; rfl) w1.heap.size rfl (by have : (setF st i f f.loc f.stk.dropLast).out.length = st.out.length := rfl; unfold maxLen; omega) (by have : (setF st i f f.loc f.stk.dropLast).out.length = st.out.length := rfl; omega) hA1.bel.size
    obtain ⟨a3, cap3, rfl⟩ := own_form hO3
    obtain ⟨⟨ρ3, hA3⟩, c83, f83⟩ := hA1.print hM3 hO3 hv3 rfl
    have n81 : w1.cell? ⟨mb, 8, none⟩ = some (.slice ra st.out.length rcap) := hA1.mach.cell 8
    have n81a : (w1.alloc (.cells #[.int .i64 (topV f.stk).num] 3)).cell? ⟨mb, 8, none⟩ = some (.slice ra st.out.length rcap) := (hA1.mach.alloc _).cell 8
    have HF : Hid (DoX i x.fb w0 mb vp fuel ask (prnP st i f) 0 (w3.setCell ⟨mb, 8, none⟩ (.slice a3 ((setF st i f f.loc f.stk.dropLast).out.length + 1) cap3)) (.returned (.int .i64 0))) := ⟨rfl, A, ρ3, _, _, _, _, (by first | exact fb_same hx | exact fb_set hx _ | exact fb_set2 hx _ _), hA3⟩
    unfold encV
    clear hA1 hA3 hO3 hM3 hv3 hP hP0 F
    go_wp2_with fail
    refine hK.out _ _ trivial (fun hHeld => ?_)
    clear hK K
    try simp only [Act.put, List.setIfInBounds_toArray, List.set_cons_zero, List.set_cons_succ]
    refine take_x (some 103) 7 rfl rfl ?_
    refine wpAnyH_ready (rs := [8]) (by kernel_rfl) (by simp) ?_
    refine AllReadyH.cons rfl (fun K hK => ?_) AllReadyH.nil
    go_simp
    refine hK.out _ _ trivial (fun hHeld => ?_)
    clear hK K
    try simp only [Act.put, List.setIfInBounds_toArray, List.set_cons_zero, List.set_cons_succ]
    refine wpAnyH_ready (rs := [9]) (by kernel_rfl) (by simp) ?_
    refine AllReadyH.cons rfl (fun K hK => ?_) AllReadyH.nil
    refine wp_append_run (.tmp 100) (.tmp 104) 51 rfl _ _ rfl rfl happ ?_
    go_simp
    refine hK.out _ _ trivial (fun hHeld => ?_)
    clear hK K
    try simp only [Act.put, List.setIfInBounds_toArray, List.set_cons_zero, List.set_cons_succ]
    refine take_x (some 106) 10 rfl rfl ?_
    refine take_x (some 107) 11 rfl rfl ?_
    refine wpAnyH_ready (rs := [12]) (by kernel_rfl) (by simp) ?_
    refine AllReadyH.cons rfl (fun K hK => ?_) AllReadyH.nil
    go_simp
    refine hK.out _ _ trivial (fun hHeld => ?_)
    clear hK K
    try simp only [Act.put, List.setIfInBounds_toArray, List.set_cons_zero, List.set_cons_succ]
    refine wpAnyH_done (by kernel_rfl) ?_ _
    clear happ
    go_wp2_with fail
    go_ret
    exact unhide HF
  · go_simp
    have F := (unhide H).fr i f x hf hx
    have hP0 := ma_pop _ A x.fb x.mc (f.pc : Int) x.vl f.loc x.vs f.stk.dropLast (topV f.stk) W.drew (by rw [← unhide HST]; exact F.fr.below (Below.refl W.heap.size W).drew (Nat.le_refl _)) (by omega)
    refine hP0.mono ?_
    rintro e w1 hP
    obtain ⟨rfl, ρ1, vs1, hA1⟩ := (unhide H).drew.pop hf hx (unhide HST) hP
    obtain ⟨v3, w3, happ, hO3, hM3, hv3⟩ := app_ex (P := Tryz.prog) (W := w1) 51 51 3 i0 _ 1 8 Tryz.underlying51 hi0 hz0 hz1 hz2 rfl (by decide) w0.heap.size _ _ _ hA1.prn #[.int .i64 (topV f.stk).num] rfl (fun v hv => by obtain rfl := List.mem_singleton.1 hv; rfl) w1.heap.size rfl (by have : (setF st i f f.loc f.stk.dropLast).out.length = st.out.length := rfl; unfold maxLen; omega) (by have : (setF st i f f.loc f.stk.dropLast).out.length = st.out.length := rfl; omega) hA1.bel.size
    obtain ⟨a3, cap3, rfl⟩ := own_form hO3
    obtain ⟨⟨ρ3, hA3⟩, c83, f83⟩ := hA1.print hM3 hO3 hv3 rfl
    have n81 : w1.cell? ⟨mb, 8, none⟩ = some (.slice ra st.out.length rcap) := hA1.mach.cell 8
    have n81a : (w1.alloc (.cells #[.int .i64 (topV f.stk).num] 3)).cell? ⟨mb, 8, none⟩ = some (.slice ra st.out.length rcap) := (hA1.mach.alloc _).cell 8
    have HF : Hid (DoX i x.fb w0 mb vp fuel ask (prnP st i f) 0 (w3.setCell ⟨mb, 8, none⟩ (.slice a3 ((setF st i f f.loc f.stk.dropLast).out.length + 1) cap3)) (.returned (.int .i64 0))) := ⟨rfl, A, ρ3, _, _, _, _, (by first | exact fb_same hx | exact fb_set hx _ | exact fb_set2 hx _ _), hA3⟩
    unfold encV
    clear hA1 hA3 hO3 hM3 hv3 hP hP0 F
    go_wp2_with fail
    refine hK.out _ _ trivial (fun hHeld => ?_)
    clear hK K
    try simp only [Act.put, List.setIfInBounds_toArray, List.set_cons_zero, List.set_cons_succ]
    refine take_x (some 103) 7 rfl rfl ?_
    refine wpAnyH_ready (rs := [4, 8]) (by kernel_rfl) (by simp) ?_
    refine AllReadyH.cons rfl (fun K hK => ?_) (AllReadyH.cons rfl (fun K hK => ?_) AllReadyH.nil)
    · go_simp
      refine hK.out _ _ trivial (fun hHeld => ?_)
      clear hK K
      try simp only [Act.put, List.setIfInBounds_toArray, List.set_cons_zero, List.set_cons_succ]
      refine wpAnyH_ready (rs := [8]) (by kernel_rfl) (by simp) ?_
      refine AllReadyH.cons rfl (fun K hK => ?_) AllReadyH.nil
      go_simp
      refine hK.out _ _ trivial (fun hHeld => ?_)
      clear hK K
      try simp only [Act.put, List.setIfInBounds_toArray, List.set_cons_zero, List.set_cons_succ]
      refine wpAnyH_ready (rs := [9]) (by kernel_rfl) (by simp) ?_
      refine AllReadyH.cons rfl (fun K hK => ?_) AllReadyH.nil
      refine wp_append_run (.tmp 100) (.tmp 104) 51 rfl _ _ rfl rfl happ ?_
      go_simp
      refine hK.out _ _ trivial (fun hHeld => ?_)
      clear hK K
      try simp only [Act.put, List.setIfInBounds_toArray, List.set_cons_zero, List.set_cons_succ]
      refine take_x (some 106) 10 rfl rfl ?_
      refine take_x (some 107) 11 rfl rfl ?_
      refine wpAnyH_ready (rs := [12]) (by kernel_rfl) (by simp) ?_
      refine AllReadyH.cons rfl (fun K hK => ?_) AllReadyH.nil
      go_simp
      refine hK.out _ _ trivial (fun hHeld => ?_)
      clear hK K
      try simp only [Act.put, List.setIfInBounds_toArray, List.set_cons_zero, List.set_cons_succ]
      refine wpAnyH_done (by kernel_rfl) ?_ _
      clear happ
      go_wp2_with fail
      go_ret
      exact unhide HF
    · go_simp
      refine hK.out _ _ trivial (fun hHeld => ?_)
      clear hK K
      try simp only [Act.put, List.setIfInBounds_toArray, List.set_cons_zero, List.set_cons_succ]
      refine wpAnyH_ready (rs := [4]) (by kernel_rfl) (by simp) ?_
      refine AllReadyH.cons rfl (fun K hK => ?_) AllReadyH.nil
      go_simp
      refine hK.out _ _ trivial (fun hHeld => ?_)
      clear hK K
      try simp only [Act.put, List.setIfInBounds_toArray, List.set_cons_zero, List.set_cons_succ]
      refine wpAnyH_ready (rs := [9]) (by kernel_rfl) (by simp) ?_
      refine AllReadyH.cons rfl (fun K hK => ?_) AllReadyH.nil
      refine wp_append_run (.tmp 100) (.tmp 104) 51 rfl _ _ rfl rfl happ ?_
      go_simp
      refine hK.out _ _ trivial (fun hHeld => ?_)
      clear hK K
      try simp only [Act.put, List.setIfInBounds_toArray, List.set_cons_zero, List.set_cons_succ]
      refine take_x (some 106) 10 rfl rfl ?_
      refine take_x (some 107) 11 rfl rfl ?_
      refine wpAnyH_ready (rs := [12]) (by kernel_rfl) (by simp) ?_
      refine AllReadyH.cons rfl (fun K hK => ?_) AllReadyH.nil
      go_simp
      refine hK.out _ _ trivial (fun hHeld => ?_)
      clear hK K
      try simp only [Act.put, List.setIfInBounds_toArray, List.set_cons_zero, List.set_cons_succ]
      refine wpAnyH_done (by kernel_rfl) ?_ _
      clear happ
      go_wp2_with fail
      go_ret
      exact unhide HF
end
end Go.Proofs.YtiiokkllmchohaaGreat
/- The machine: do, all. -/
namespace Go.Proofs.YtiiokkllmchohaaGreat
open Go.RowKit Go.Shelf

def doP (p : List LClass) (st : MaSt) (i : Nat) (f : MFr) (op a b : Int) : MaSt × Int :=
  if op = 6 then (if (topV f.stk).num = 0 then st else setF st i f (moveP 6 a f.loc f.stk).1 (moveP 6 a f.loc f.stk).2, if (topV f.stk).num = 0 then 3 else 0)
  else if op = 9 then (if st.objs.length = 100 then st else newSt p st i f a, if st.objs.length = 100 then 8 else 0)
  else if op = 10 then getP st i f b
  else if op = 11 then putP2 st i f b
  else if op = 17 then (st, castP p st f a)
  else if op = 19 then (prnP st i f, 0)
  else (setF st i f (moveP op a f.loc f.stk).1 (moveP op a f.loc f.stk).2, 0)
structure DoOk (p : List LClass) (st : MaSt) (f : MFr) (op b : Int) : Prop where
  stk : StkOk op f.stk
  loc : f.m.locals = (f.loc.length : Int)
  sl : f.stk.length < 4194303
  ll : f.loc.length ≤ 4194304
  get : op = 10 → ∀ k, (topV f.stk).obj = some k → b.toNat < (objAt st k).flds.length
  put : op = 11 → ∀ k, (topV f.stk.dropLast).obj = some k → b.toNat < (objAt st k).flds.length
  cast : op = 17 → ∀ k, (topV f.stk).obj = some k → 0 ≤ (objAt st k).cls ∧ (objAt st k).cls < (p.length : Int)
  fl : ∀ k, (objAt st k).flds.length ≤ 4194304
  ol : st.objs.length ≤ 100
  out : st.out.length ≤ 4194304
theorem ma_do (p : List LClass) (vp : Value) (w0 w : World) (ρ : Nat → Nat × Nat) (mb : Nat) (fuel : Int) (ask : Bool) (st : MaSt) (A : List Nat) (X : List FrX) (Y : List Value) (vr vpr : Value) (i : Nat) (f : MFr) (x : FrX) (op a b : Int) (h : MaA w0 w ρ mb vp fuel ask st A X Y vr vpr) (hf : st.frames[i]? = some f) (hx : X[i]? = some x) (G : Good p) (hp : RProg w0 vp p) (I : InsOk p f.m op a b) (D : DoOk p st f op b)
    (ho : op ≠ 7 ∧ op ≠ 8 ∧ op ≠ 12 ∧ op ≠ 13 ∧ op ≠ 18) :
    Calls Tryz.prog 173 #[.pointer (some ⟨mb, 0, none⟩), .pointer (some ⟨x.fb, 0, none⟩), .agg #[.int .i64 op, .int .i64 a, .int .i64 b]] w fun e w' => DoX i x.fb w0 mb vp fuel ask (doP p st i f op a b).1 (doP p st i f op a b).2 w' e := by
  have o0 := I.op0
  have o1 := I.op1
  by_cases h6 : op = 6
  · subst h6
    exact do_div p vp w0 w ρ mb fuel ask st A X Y vr vpr i f x a b h hf hx I D.stk D.loc D.sl D.ll
  by_cases h9 : op = 9
  · subst h9
    have hc := I.cls (by omega)
    exact do_new p vp w0 w ρ mb fuel ask st A X Y vr vpr i f x a b h hf hx hp G.sup G.sz hc.1 hc.2 (by have := D.sl; omega) D.ol
  by_cases h10 : op = 10
  · subst h10
    exact do_get vp w0 w ρ mb fuel ask st A X Y vr vpr i f x a b h hf hx D.stk D.sl (I.fld (by omega)).1 (D.get rfl) D.fl
  by_cases h11 : op = 11
  · subst h11
    exact do_put vp w0 w ρ mb fuel ask st A X Y vr vpr i f x a b h hf hx D.stk D.sl (I.fld (by omega)).1 (D.put rfl) D.fl
  by_cases h17 : op = 17
  · subst h17
    exact do_cast p vp w0 w ρ mb fuel ask st A X Y vr vpr i f x a b h hf hx hp G.sup G.sz D.stk D.sl (D.cast rfl)
  by_cases h19 : op = 19
  · subst h19
    exact do_print vp w0 w ρ mb fuel ask st A X Y vr vpr i f x a b h hf hx D.stk D.sl D.out
  have hd : doP p st i f op a b = (setF st i f (moveP op a f.loc f.stk).1 (moveP op a f.loc f.stk).2, 0) := by
    unfold doP
    rw [if_neg h6, if_neg h9, if_neg h10, if_neg h11, if_neg h17, if_neg h19]
  rw [hd]
  exact do_mv p vp w0 w ρ mb fuel ask st A X Y vr vpr i f x op a b h hf hx I D.stk D.loc D.sl D.ll (by omega)
end Go.Proofs.YtiiokkllmchohaaGreat
/- The machine: a step, a run (pure). -/
namespace Go.Proofs.YtiiokkllmchohaaGreat
open Go.RowKit Go.Shelf

def goF (st : MaSt) (i : Nat) (f : MFr) (pc : Nat) (stk : List LVal) : MaSt := { st with frames := st.frames.set i { f with pc := pc, stk := stk } }
def tick (st : MaSt) : MaSt := { st with steps := st.steps + 1 }
def incF (st : MaSt) (i : Nat) : MaSt := match st.frames[i]? with
  | none => st
  | some f => { st with frames := st.frames.set i { f with pc := f.pc + 1 } }
def callP (p : List LClass) (st : MaSt) (i : Nat) (f : MFr) (a b : Int) : MaSt ⊕ (MaSt × Int) :=
  let n := (findM p a b).args.length
  let r := f.stk.take (f.stk.length - n)
  match (topV r).obj with
  | none => .inr (goF st i f f.pc r.dropLast, 2)
  | some k => if st.frames.length = 30 then .inr (goF st i f f.pc r.dropLast, 7)
    else .inl (tick (begSt p (goF st i f (f.pc + 1) r.dropLast) k (objAt st k).cls b (f.stk.drop (f.stk.length - n))))
def stepM (p : List LClass) (fuel : Int) (st : MaSt) : MaSt ⊕ (MaSt × Int) := match st.frames.getLast? with
  | none => .inr (st, 1)
  | some f =>
    let i := st.frames.length - 1
    let ins := insAt f.m f.pc
    if lookP p fuel st.steps f ≠ 0 then .inr (st, lookP p fuel st.steps f)
    else if ins.op = 7 then .inl (tick (goF st i f ins.a.toNat f.stk))
    else if ins.op = 8 then .inl (tick (if (topV f.stk).num = 0 then goF st i f ins.a.toNat f.stk.dropLast else goF st i f (f.pc + 1) f.stk.dropLast))
    else if ins.op = 18 then .inl (tick (if (topV f.stk).obj = none then goF st i f ins.a.toNat f.stk.dropLast else goF st i f (f.pc + 1) f.stk.dropLast))
    else if ins.op = 12 then callP p st i f ins.a ins.b
    else if ins.op = 13 then .inl (tick (endSt (goF st i f f.pc f.stk.dropLast) (topV f.stk)))
    else if (doP p st i f ins.op ins.a ins.b).2 = 0 then .inl (tick (incF (doP p st i f ins.op ins.a ins.b).1 i))
    else .inr (doP p st i f ins.op ins.a ins.b)
def stepI (p : List LClass) (st : MaSt) (i : Nat) (f : MFr) (op a b : Int) : MaSt ⊕ (MaSt × Int) :=
  if op = 7 then .inl (tick (goF st i f a.toNat f.stk))
  else if op = 8 then .inl (tick (if (topV f.stk).num = 0 then goF st i f a.toNat f.stk.dropLast else goF st i f (f.pc + 1) f.stk.dropLast))
  else if op = 18 then .inl (tick (if (topV f.stk).obj = none then goF st i f a.toNat f.stk.dropLast else goF st i f (f.pc + 1) f.stk.dropLast))
  else if op = 12 then callP p st i f a b
  else if op = 13 then .inl (tick (endSt (goF st i f f.pc f.stk.dropLast) (topV f.stk)))
  else if (doP p st i f op a b).2 = 0 then .inl (tick (incF (doP p st i f op a b).1 i))
  else .inr (doP p st i f op a b)
theorem stepM_eq {p : List LClass} {fuel : Int} {st : MaSt} {f : MFr} {i : Nat} {op a b : Int} (hgl : st.frames.getLast? = some f) (hlk : lookP p fuel st.steps f = 0) (hil : st.frames.length - 1 = i) (hI : insAt f.m f.pc = ⟨op, a, b⟩) : stepM p fuel st = stepI p st i f op a b := by
  unfold stepM
  rw [hgl]
  dsimp only
  rw [if_neg (by rw [hlk]; simp), hil, hI]
  rfl
theorem stepI_7 (p : List LClass) (st : MaSt) (i : Nat) (f : MFr) (k : Nat) (b : Int) : stepI p st i f 7 (k : Int) b = .inl (tick (goF st i f k f.stk)) := rfl
theorem stepI_8a (p : List LClass) (st : MaSt) (i : Nat) (f : MFr) (k : Nat) (b : Int) (h : (topV f.stk).num = 0) : stepI p st i f 8 (k : Int) b = .inl (tick (goF st i f k f.stk.dropLast)) := by
  show Sum.inl (tick (if _ then _ else _)) = _
  rw [if_pos h]; rfl
theorem stepI_8b (p : List LClass) (st : MaSt) (i : Nat) (f : MFr) (k : Nat) (b : Int) (h : ¬ (topV f.stk).num = 0) : stepI p st i f 8 (k : Int) b = .inl (tick (goF st i f (f.pc + 1) f.stk.dropLast)) := by
  show Sum.inl (tick (if _ then _ else _)) = _
  rw [if_neg h]
theorem stepI_18a (p : List LClass) (st : MaSt) (i : Nat) (f : MFr) (k : Nat) (b : Int) (h : (topV f.stk).obj = none) : stepI p st i f 18 (k : Int) b = .inl (tick (goF st i f k f.stk.dropLast)) := by
  show Sum.inl (tick (if _ then _ else _)) = _
  rw [if_pos h]; rfl
theorem stepI_18b (p : List LClass) (st : MaSt) (i : Nat) (f : MFr) (k : Nat) (b : Int) (h : ¬ (topV f.stk).obj = none) : stepI p st i f 18 (k : Int) b = .inl (tick (goF st i f (f.pc + 1) f.stk.dropLast)) := by
  show Sum.inl (tick (if _ then _ else _)) = _
  rw [if_neg h]
theorem stepI_12 (p : List LClass) (st : MaSt) (i : Nat) (f : MFr) (a b : Int) : stepI p st i f 12 a b = callP p st i f a b := rfl
theorem stepI_13 (p : List LClass) (st : MaSt) (i : Nat) (f : MFr) (a b : Int) : stepI p st i f 13 a b = .inl (tick (endSt (goF st i f f.pc f.stk.dropLast) (topV f.stk))) := rfl
theorem stepI_do (p : List LClass) (st : MaSt) (i : Nat) (f : MFr) (op a b : Int) (h : op ≠ 7 ∧ op ≠ 8 ∧ op ≠ 12 ∧ op ≠ 13 ∧ op ≠ 18) : stepI p st i f op a b = if (doP p st i f op a b).2 = 0 then .inl (tick (incF (doP p st i f op a b).1 i)) else .inr (doP p st i f op a b) := by
  unfold stepI
  rw [if_neg h.1, if_neg h.2.1, if_neg h.2.2.2.2, if_neg h.2.2.1, if_neg h.2.2.2.1]
theorem doP_frame (p : List LClass) (st : MaSt) (i : Nat) (f : MFr) (op a b : Int) (hf : st.frames[i]? = some f) : ∃ loc stk, (doP p st i f op a b).1.frames[i]? = some { f with loc := loc, stk := stk } ∧ (doP p st i f op a b).1.steps = st.steps ∧ (doP p st i f op a b).1.frames.length = st.frames.length := by
  have hl : i < st.frames.length := (List.getElem?_eq_some_iff.1 hf).1
  have hs : ∀ loc stk, (setF st i f loc stk).frames[i]? = some { f with loc := loc, stk := stk } := fun loc stk => setF_at hf loc stk
  have hn : ∀ loc stk, (setF st i f loc stk).frames.length = st.frames.length := fun loc stk => by simp [setF]
  generalize hq : doP p st i f op a b = q
  unfold doP at hq
  split at hq
  · subst hq
    dsimp only
    split
    · exact ⟨f.loc, f.stk, hf, rfl, rfl⟩
    · exact ⟨_, _, hs _ _, rfl, hn _ _⟩
  split at hq
  · subst hq
    dsimp only
    split
    · exact ⟨f.loc, f.stk, hf, rfl, rfl⟩
    · exact ⟨_, _, hs _ _, rfl, hn _ _⟩
  split at hq
  · subst hq
    unfold getP
    split
    · exact ⟨_, _, hs _ _, rfl, hn _ _⟩
    · exact ⟨_, _, hs _ _, rfl, hn _ _⟩
  split at hq
  · subst hq
    unfold putP2
    split
    · exact ⟨_, _, hs _ _, rfl, hn _ _⟩
    · exact ⟨_, _, hs _ _, rfl, hn _ _⟩
  split at hq
  · subst hq
    exact ⟨f.loc, f.stk, hf, rfl, rfl⟩
  split at hq
  · subst hq
    exact ⟨_, _, hs _ _, rfl, hn _ _⟩
  · subst hq
    exact ⟨_, _, hs _ _, rfl, hn _ _⟩
def runM (p : List LClass) (fuel : Int) : Nat → MaSt → Option (MaSt × Int)
  | 0, _ => none
  | n + 1, st => match stepM p fuel st with
    | .inr r => some r
    | .inl st' => runM p fuel n st'
structure CallOk (p : List LClass) (st : MaSt) (f : MFr) (a b : Int) : Prop where
  len : (findM p a b).args.length + 1 ≤ f.stk.length
  obj : ∀ k, (topV (f.stk.take (f.stk.length - (findM p a b).args.length))).obj = some k → 0 ≤ (objAt st k).cls ∧ (objAt st k).cls < (p.length : Int) ∧ (methOf p (objAt st k).cls b).isSome = true ∧ 1 + ((findM p a b).args.length : Int) ≤ (findM p (objAt st k).cls b).locals ∧ (findM p (objAt st k).cls b).locals ≤ 8
structure StepOk (p : List LClass) (fuel : Int) (st : MaSt) : Prop where
  fr : ∀ f, st.frames.getLast? = some f → FrOkM p f
  ok : ∀ f, st.frames.getLast? = some f → lookP p fuel st.steps f = 0 → DoOk p st f (insAt f.m f.pc).op (insAt f.m f.pc).b
  cl : ∀ f, st.frames.getLast? = some f → lookP p fuel st.steps f = 0 → (insAt f.m f.pc).op = 12 → CallOk p st f (insAt f.m f.pc).a (insAt f.m f.pc).b
  len : st.frames.length ≤ 30
  all : ∀ g ∈ st.frames, g.stk.length ≤ 4194304
  stp : (st.steps : Int) ≤ fuel
def RunOk (p : List LClass) (fuel : Int) : Nat → MaSt → Prop
  | 0, _ => True
  | n + 1, st => StepOk p fuel st ∧ ∀ st', stepM p fuel st = .inl st' → RunOk p fuel n st'
end Go.Proofs.YtiiokkllmchohaaGreat
/- What holds in a run of a program that Form takes (pure). -/
namespace Go.Proofs.YtiiokkllmchohaaGreat
open Go.RowKit Go.Shelf

def VOk (objs : List LObj) (v : LVal) : Prop := match v.obj with
  | none => v.kind = 0 ∨ v.kind = 1 ∨ v.kind = 2
  | some k => ∃ o, objs[k]? = some o ∧ v.kind = o.cls + 3
def Grow (objs objs' : List LObj) : Prop := ∀ (k : Nat) (o : LObj), objs[k]? = some o → ∃ o', objs'[k]? = some o' ∧ o'.cls = o.cls
theorem Grow.refl (objs : List LObj) : Grow objs objs := fun _ o h => ⟨o, h, rfl⟩
theorem VOk.grow {objs objs' : List LObj} {v : LVal} (g : Grow objs objs') (h : VOk objs v) : VOk objs' v := by
  unfold VOk at h ⊢
  split at h
  · exact h
  · rename_i k e
    obtain ⟨o, h1, h2⟩ := h
    obtain ⟨o', h3, h4⟩ := g k o h1
    exact ⟨o', h3, by rw [h4]; exact h2⟩
theorem VOk.numb (objs : List LObj) (n : Int) : VOk objs (numbV n) := .inl rfl
theorem VOk.null (objs : List LObj) : VOk objs nullV := .inr (.inl rfl)
theorem VOk.noth (objs : List LObj) : VOk objs nothV := .inr (.inr rfl)
theorem VOk.first (objs : List LObj) (t : Int) : VOk objs (firstV t) := by
  unfold firstV
  split
  · exact .numb _ _
  · exact .null _
structure ObOk (p : List LClass) (objs : List LObj) : Prop where
  cls : ∀ o ∈ objs, 0 ≤ o.cls ∧ o.cls < (p.length : Int)
  fl : ∀ o ∈ objs, o.flds.length = (fieldsOf p o.cls).length
  val : ∀ o ∈ objs, ∀ v ∈ o.flds, VOk objs v
structure FOk (p : List LClass) (objs : List LObj) (f : MFr) : Prop where
  own : ∃ c k, ownM p c k = some f.m
  pc : f.pc ≤ f.m.code.length
  loc : f.m.locals = (f.loc.length : Int)
  vl : ∀ v ∈ f.loc, VOk objs v
  vs : ∀ v ∈ f.stk, VOk objs v
theorem FOk.grow {p : List LClass} {objs objs' : List LObj} {f : MFr} (g : Grow objs objs') (h : FOk p objs f) : FOk p objs' f :=
  ⟨h.own, h.pc, h.loc, fun v hv => (h.vl v hv).grow g, fun v hv => (h.vs v hv).grow g⟩
structure Inv (p : List LClass) (fuel : Int) (st : MaSt) : Prop where
  ob : ObOk p st.objs
  fr : ∀ f ∈ st.frames, FOk p st.objs f
  top : ∀ f, st.frames.getLast? = some f → (f.stk.length : Int) ≤ f.m.stack
  rest : ∀ g ∈ st.frames.dropLast, (g.stk.length : Int) + 1 ≤ g.m.stack
  len : st.frames.length ≤ 30
  ol : st.objs.length ≤ 100
  out : st.out.length ≤ st.steps
  stp : (st.steps : Int) ≤ fuel
theorem VOk.ty {p : List LClass} {objs : List LObj} {v : LVal} (h : VOk objs v) (O : ObOk p objs) : tyOk p.length v.kind := by
  unfold VOk at h
  split at h
  · exact ⟨by omega, by omega⟩
  · obtain ⟨o, h1, h2⟩ := h
    have := O.cls o (List.mem_of_getElem? h1)
    exact ⟨by omega, by omega⟩
theorem VOk.some {objs : List LObj} {v : LVal} {k : Nat} (h : VOk objs v) (e : v.obj = some k) : ∃ o, objs[k]? = some o ∧ v.kind = o.cls + 3 := by
  unfold VOk at h
  rw [e] at h
  exact h
theorem objAt_of {st : MaSt} {k : Nat} {o : LObj} (h : st.objs[k]? = some o) : objAt st k = o := by
  unfold objAt; rw [h]; rfl
theorem below_cls {p : List LClass} {c a : Int} (h : belowB p (c + 3) (a + 3) = true) (hs : SupOk p p.length) (h0 : 0 ≤ c) (h1 : c < (p.length : Int)) (ha : 0 ≤ a) : descB p c a = true := by
  unfold belowB at h
  simp only [Bool.or_eq_true, Bool.and_eq_true, beq_iff_eq, decide_eq_true_eq] at h
  rcases h with (h | h) | ⟨_, h | ⟨_, h⟩⟩
  · obtain rfl : c = a := by omega
    exact desc_refl hs h0 h1
  · omega
  · omega
  · simpa using h
theorem ready_open {p : List LClass} {m : LMeth} {loc stk : List LVal} {op a b : Int} (h : readyB p m loc stk op a b = true) :
    (wantsM p m.ret op a b).length ≤ stk.length ∧ (∀ j t, (wantsM p m.ret op a b)[j]? = some t → belowB p (stk.getD (stk.length - (wantsM p m.ret op a b).length + j) nothV).kind t = true) ∧ (op = 1 → (loc.getD a.toNat nothV).kind ≠ 2) ∧ (roomB op = true → (stk.length : Int) < m.stack) := by
  unfold readyB wantK at h
  simp only [Bool.and_eq_true, decide_eq_true_eq, List.all_eq_true, List.mem_range, Bool.not_eq_true', Bool.or_eq_true, Bool.and_eq_false_iff, beq_eq_false_iff_ne, ne_eq] at h
  obtain ⟨⟨⟨h1, h2⟩, h3⟩, h4⟩ := h
  refine ⟨h1, fun j t ht => ?_, fun e => ?_, fun e => ?_⟩
  · have hj := (List.getElem?_eq_some_iff.1 ht).1
    have := h2 j hj
    rw [List.getD_eq_getElem?_getD (l := wantsM p m.ret op a b), ht] at this
    exact this
  · rcases h3 with h3 | h3
    · exact absurd e h3
    · exact h3
  · rcases h4 with h4 | h4
    · rw [e] at h4; cases h4
    · exact h4
theorem topV_getD {l : List LVal} (h : 1 ≤ l.length) : l.getD (l.length - 1) nothV = topV l := by
  obtain ⟨a, x, rfl⟩ := snoc_of (l := l) (by omega)
  rw [topV_snoc]
  simp
theorem top2_getD {l : List LVal} (h : 2 ≤ l.length) : l.getD (l.length - 2) nothV = topV l.dropLast := by
  obtain ⟨a, x, rfl⟩ := snoc_of (l := l) (by omega)
  obtain ⟨b, y, rfl⟩ := snoc_of (l := a) (by simp at h; omega)
  rw [List.dropLast_concat, topV_snoc]
  simp
theorem topV_mem {l : List LVal} (h : 1 ≤ l.length) : topV l ∈ l := by
  obtain ⟨a, x, rfl⟩ := snoc_of (l := l) (by omega)
  rw [topV_snoc]; simp
theorem wants_stk {p : List LClass} {ret op a b : Int} {stk : List LVal} (h : (wantsM p ret op a b).length ≤ stk.length) : StkOk op stk := by
  refine ⟨fun ho => ?_, fun ho => ?_⟩
  · rcases ho with rfl | rfl | rfl | rfl | rfl | rfl | rfl | rfl | rfl <;> exact h
  · rcases ho with rfl | rfl | rfl | rfl | rfl | rfl <;> exact h
section
variable {p : List LClass} {fuel : Int} {st : MaSt} {f : MFr}
theorem Inv.stepOk (hF : formI p = 0) (hz : szProg p ≤ 4194304) (hfu : fuel ≤ 5000) (I : Inv p fuel st) : StepOk p fuel st := by
  have hs := form_sup hF
  have G := form_good hF hz
  have hmem : ∀ f, st.frames.getLast? = some f → f ∈ st.frames := fun f h => List.mem_of_getLast? h
  have key : ∀ f, st.frames.getLast? = some f → ∃ c, MethOk p c f.m ∧ 0 ≤ c ∧ c < (p.length : Int) := fun f h => by
    obtain ⟨c, k, h1⟩ := (I.fr f (hmem f h)).own
    obtain ⟨h2, h3, h4⟩ := form_own hF h1
    exact ⟨c, h4, h2, h3⟩
  have hpos : ∀ f, st.frames.getLast? = some f → lookP p fuel st.steps f = 0 → insB p f.m (insAt f.m f.pc) = true ∧ readyB p f.m f.loc f.stk (insAt f.m f.pc).op (insAt f.m f.pc).a (insAt f.m f.pc).b = true := fun f hf hl => by
    obtain ⟨c, M, _⟩ := key f hf
    unfold lookP at hl
    split at hl
    · cases hl
    rename_i hne
    split at hl
    · cases hl
    split at hl
    · rename_i hr
      refine ⟨M.ins _ ?_, hr⟩
      have hpc := (I.fr f (hmem f hf)).pc
      unfold insAt
      rw [List.getElem?_eq_getElem (by omega)]
      exact List.getElem_mem _
    · cases hl
  refine ⟨fun f hf => ?_, fun f hf hl => ?_, fun f hf hl ho => ?_, I.len, fun g hg => ?_, I.stp⟩
  · obtain ⟨c, M, _⟩ := key f hf
    have K := I.fr f (hmem f hf)
    have ht := I.top f hf
    have := M.ok.stk
    have := M.ok.loc
    have := K.loc
    refine ⟨M.ins, M.c40, K.pc, fun i hi t ht => ?_, fun i hi => ?_, fun v hv => (K.vs v hv).ty I.ob, by omega, by omega, K.loc⟩
    · have J := ins_ok (p := p) (m := f.m) (op := i.op) (a := i.a) (b := i.b) (M.ins i hi)
      have hpl : 0 < p.length := by have := (form_all hF).1; omega
      unfold wantsM at ht
      split at ht
      · simp only [List.mem_cons, List.not_mem_nil, or_false] at ht; exact ⟨by omega, by omega⟩
      split at ht
      · simp only [List.mem_cons, List.not_mem_nil, or_false] at ht; exact ⟨by omega, by omega⟩
      split at ht
      · simp only [List.mem_cons, List.not_mem_nil, or_false] at ht; exact ⟨by omega, by omega⟩
      split at ht
      · simp only [List.mem_cons, List.not_mem_nil, or_false] at ht; exact ⟨by omega, by omega⟩
      split at ht
      · simp only [List.mem_cons, List.not_mem_nil, or_false] at ht; exact ⟨by omega, by omega⟩
      split at ht
      · rename_i e
        have := J.cls (by omega)
        simp only [List.mem_cons, List.not_mem_nil, or_false] at ht; exact ⟨by omega, by omega⟩
      split at ht
      · rename_i e
        have := J.cls (by omega)
        have hb := J.fld (by omega)
        simp only [List.mem_cons, List.not_mem_nil, or_false] at ht
        rcases ht with rfl | rfl
        · exact ⟨by omega, by omega⟩
        · obtain ⟨j, hj⟩ := Int.eq_ofNat_of_zero_le hb.1
          have := G.fld i.a j this.1 this.2 (by omega)
          rw [hj]; exact this
      split at ht
      · rename_i e
        have hc := J.cls (by omega)
        rcases List.mem_cons.1 ht with rfl | ht
        · exact ⟨by omega, by omega⟩
        · exact (G.arg i.a i.b hc.1 hc.2 (J.call e)).1 t ht
      split at ht
      · simp only [List.mem_cons, List.not_mem_nil, or_false] at ht
        subst ht
        exact M.ok.ret
      · cases ht
    · have J := ins_ok (p := p) (m := f.m) (op := i.op) (a := i.a) (b := i.b) (M.ins i hi)
      unfold wantsM
      repeat' split
      all_goals try simp
      rename_i e
      have := (bareB_iff.1 (form_find hF (J.call e))).2.2.1
      omega
  · obtain ⟨c, M, _⟩ := key f hf
    have K := I.fr f (hmem f hf)
    have ht := I.top f hf
    have := M.ok.stk
    have := M.ok.loc
    have := K.loc
    obtain ⟨hi, hr⟩ := hpos f hf hl
    generalize insAt f.m f.pc = ins at *
    obtain ⟨op, a, b⟩ := ins
    have J := ins_ok hi
    dsimp only at hr J ⊢
    obtain ⟨r1, r2, r3, r4⟩ := ready_open hr
    have hstk := wants_stk r1
    have fl8 : ∀ k, (objAt st k).flds.length ≤ 4194304 := fun k => by
      unfold objAt
      cases e : st.objs[k]? with
      | none => simp
      | some o =>
        have h1 := I.ob.fl o (List.mem_of_getElem? e)
        have h2 := I.ob.cls o (List.mem_of_getElem? e)
        have := form_f8 hF h2.1 h2.2
        simp only [Option.getD_some]
        omega
    refine ⟨hstk, K.loc, by omega, by omega, fun e k hk => ?_, fun e k hk => ?_, fun e k hk => ?_, fl8, I.ol, ?_⟩
    · subst e
      have h1 := hstk.s1 (by omega)
      obtain ⟨o, h2, h3⟩ := (K.vs _ (topV_mem h1)).some hk
      have h4 := r2 0 (a + 3) rfl
      rw [show (wantsM p f.m.ret 10 a b).length = 1 from rfl, Nat.add_zero, topV_getD h1, h3] at h4
      have hc := I.ob.cls o (List.mem_of_getElem? h2)
      have hd := below_cls h4 hs hc.1 hc.2 (J.cls (by omega)).1
      rw [objAt_of h2, I.ob.fl o (List.mem_of_getElem? h2)]
      have := (desc_fields hs hd).length_le
      have := J.fld (by omega)
      omega
    · subst e
      have h1 := hstk.s2 (by omega)
      obtain ⟨o, h2, h3⟩ := (K.vs _ (List.dropLast_subset _ (topV_mem (l := f.stk.dropLast) (by rw [List.length_dropLast]; omega)))).some hk
      have h4 := r2 0 (a + 3) rfl
      rw [show (wantsM p f.m.ret 11 a b).length = 2 from rfl, Nat.add_zero, top2_getD h1, h3] at h4
      have hc := I.ob.cls o (List.mem_of_getElem? h2)
      have hd := below_cls h4 hs hc.1 hc.2 (J.cls (by omega)).1
      rw [objAt_of h2, I.ob.fl o (List.mem_of_getElem? h2)]
      have := (desc_fields hs hd).length_le
      have := J.fld (by omega)
      omega
    · subst e
      have h1 := hstk.s1 (by omega)
      obtain ⟨o, h2, h3⟩ := (K.vs _ (topV_mem h1)).some hk
      rw [objAt_of h2]
      exact I.ob.cls o (List.mem_of_getElem? h2)
    · have := I.out
      have := I.stp
      omega
  · obtain ⟨c, M, _⟩ := key f hf
    have K := I.fr f (hmem f hf)
    obtain ⟨hi, hr⟩ := hpos f hf hl
    generalize insAt f.m f.pc = ins at *
    obtain ⟨op, a, b⟩ := ins
    dsimp only at ho
    subst ho
    have J := ins_ok hi
    obtain ⟨r1, r2, r3, r4⟩ := ready_open hr
    have hw : wantsM p f.m.ret 12 a b = (a + 3) :: (findM p a b).args := rfl
    rw [hw, List.length_cons] at r1
    refine ⟨r1, fun k hk => ?_⟩
    have hlen : 1 ≤ (f.stk.take (f.stk.length - (findM p a b).args.length)).length := by rw [List.length_take]; omega
    obtain ⟨o, h2, h3⟩ := (K.vs _ (List.take_subset _ _ (topV_mem hlen))).some hk
    have h4 := r2 0 (a + 3) rfl
    have e1 : f.stk.getD (f.stk.length - (wantsM p f.m.ret 12 a b).length + 0) nothV = topV (f.stk.take (f.stk.length - (findM p a b).args.length)) := by
      rw [hw, List.length_cons, ← topV_getD hlen, List.length_take, List.getD_eq_getElem?_getD, List.getD_eq_getElem?_getD, List.getElem?_take_of_lt (by omega)]
      congr 2
      omega
    rw [e1, h3] at h4
    have hc := I.ob.cls o (List.mem_of_getElem? h2)
    have hd := below_cls h4 hs hc.1 hc.2 (J.cls (by omega)).1
    obtain ⟨g1, g2, _⟩ := desc_find hF hd (J.call rfl)
    have hb := bareB_iff.1 (form_find hF g1)
    dsimp only
    rw [objAt_of h2, ← g2]
    exact ⟨hc.1, hc.2, g1, hb.2.2.2.2.2.1, hb.2.2.2.2.2.2.1⟩
  · rcases List.eq_nil_or_concat st.frames with e | ⟨fs, f, e⟩
    · rw [e] at hg; cases hg
    · rw [List.concat_eq_append] at e
      obtain ⟨c, k, h1⟩ := (I.fr g hg).own
      obtain ⟨_, _, M⟩ := form_own hF h1
      have := M.ok.stk
      rw [e, List.mem_append] at hg
      rcases hg with hg | hg
      · have := I.rest g (by rw [e, List.dropLast_concat]; exact hg)
        omega
      · obtain rfl := List.mem_singleton.1 hg
        have := I.top g (by rw [e, List.getLast?_concat])
        omega
end
end Go.Proofs.YtiiokkllmchohaaGreat
