/- The machine: do, for PRINT. -/
import Derived.WalkMore
import Derived.Test.YtiiokkllmchohaaGreatT16
import Derived.Test.YtiiokkllmchohaaGreatT25
import Derived.Test.YtiiokkllmchohaaGreatT26
import Derived.Test.YtiiokkllmchohaaGreatT27
/- MacY -/
namespace Go.Proofs.YtiiokkllmchohaaGreat
open Go.RowKit Go.Shelf
attribute [local go_sem ↓] Go.wp_at_zero Go.wp_at_succ
attribute [local go_sem] frz_drew
attribute [local go_sem] fld_num fld_obj

theorem infoInt : (Tryz.prog.info? 3).map (fun i => (i.zero, i.size, i.bytes)) = some (some (.int .i64 0), 1, 8) := by kernel_rfl
theorem ti_ne_ma : 3 ≠ 172 := by decide
section
variable {w0 w w' : World} {ρ : Nat → Nat × Nat} {mb : Nat} {vp : Value} {fuel : Int} {ask : Bool} {st : MaSt} {A : List Nat} {X : List FrX} {Y : List Value} {vr vpr : Value}
theorem MaA.print (h : MaA w0 w ρ mb vp fuel ask st A X Y vr vpr) {W U : World} {n : Int} {v' : Value} (hM : Mods (fun k => vpr.ownBlock = some k) w W) (hO : W.ownsRow w0.heap.size 3 1 v' (st.out.length + 1) (st.out.map (Value.int .i64) ++ [.int .i64 n])) (hv : v'.ownBlock = vpr.ownBlock ∨ ∃ k, w.heap.size ≤ k ∧ v'.ownBlock = some k) (hU : U = W.setCell ⟨mb, 8, none⟩ v') :
  (∃ ρ', MaA w0 U ρ' mb vp fuel ask { st with out := st.out ++ [n] } A X Y vr v') ∧ W.cell? ⟨mb, 8, none⟩ = some vpr ∧ W.frozen? ⟨mb, 8, none⟩ = false := by
 subst hU
 have hne : ¬ vpr.ownBlock = some mb := own_ne h.prn h.mach ti_ne_ma
 have hB := h.mach.mods hM hne
 have hM5 : Mods (fun k => k = mb) W (W.setCell ⟨mb, 8, none⟩ v') := (Mods.refl (fun k => k = mb) W).setCell (p := ⟨mb, 8, none⟩) (fun _ => rfl) _
 have hMA : Mods (fun k => k = mb ∨ vpr.ownBlock = some k) w (W.setCell ⟨mb, 8, none⟩ v') := (hM.mono (fun _ _ e => .inr e)).trans hM5 (fun _ _ e => .inl e)
 have hz := h.bel.size
 have hq : ∀ k, k < w.heap.size → (k = mb ∨ vpr.ownBlock = some k) → ∀ r, r ≠ (5, 0) → r ≠ (7, 0) → ρ k ≠ r := fun k _ e r h5 h7 e' => by
  rcases e with e | e
  ·exact h5 (e' ▸ e ▸ h.rmb)
  ·exact h7 (e' ▸ h.rpr k e)
 refine ⟨⟨fun k => if w.heap.size ≤ k then (7, 0) else ρ k, ?_⟩, hB.cell 8, hB.frozen 8⟩
 have s : Same w.heap.size ρ (fun k => if w.heap.size ≤ k then (7, 0) else ρ k) := fun k hk => by show (if _ then _ else _) = _; rw [if_neg (by omega)]
 refine ⟨hB.setCell 8 v', h.base, (s _ h.lt).trans h.rmb, own_mods h.run hMA (fun g hg e => hq g (h.run.lt g hg).2 e (6, 0) (by simp) (by simp) (h.rvr g hg)), h.rvr.same s (fun g hg => (h.run.lt g hg).2), ?_, fun g hg => ?_, h.lx, fun i f x hf hx => (h.fr i f x hf hx).mods hMA s (fun k hk e => ⟨hq k hk e _ (by simp) (by simp), hq k hk e _ (by simp) (by simp), hq k hk e _ (by simp) (by simp)⟩), h.la, h.ly, fun k o b v h1 h2 h3 => (h.ob k o b v h1 h2 h3).mods hMA s (fun j hj e => ⟨hq j hj e _ (by simp) (by simp), hq j hj e _ (by simp) (by simp)⟩), h.okt, ?_, fun k hk => (s k (by omega)).trans (h.low k hk)⟩
 ·show World.ownsRow _ _ _ _ _ (st.out ++ [n]).length ((st.out ++ [n]).map _)
  rw [List.length_append, List.map_append]
  exact own_mods hO hM5 (fun g hg e => own_ne hO hB ti_ne_ma (e ▸ hg))
 ·rcases hv with e | ⟨k, hk, e⟩
  ·rw [e] at hg
   exact (s g (h.prn.lt g hg).2).trans (h.rpr g hg)
  ·rw [e] at hg; cases hg
   show (if _ then _ else _) = _
   rw [if_pos hk]
 ·refine h.bel.trans (hMA.below hz (fun k hk e => ?_))
  rcases e with e | e
  ·have := h.base; omega
  ·have := (h.prn.lt k e).1; omega
end
def prnP (st : MaSt) (i : Nat) (f : MFr) : MaSt := { setF st i f f.loc f.stk.dropLast with out := st.out ++ [(topV f.stk).num] }
section
variable (p : List LClass) (vp : Value) (w0 w : World) (ρ : Nat → Nat × Nat) (mb : Nat) (fuel : Int) (ask : Bool) (st : MaSt) (A : List Nat) (X : List FrX) (Y : List Value) (vr vpr : Value) (i : Nat) (f : MFr) (x : FrX) (a b : Int)
set_option maxHeartbeats 1000000 in
set_option maxRecDepth 100000 in
theorem do_print (h : MaA w0 w ρ mb vp fuel ask st A X Y vr vpr) (hf : st.frames[i]? = some f) (hx : X[i]? = some x) (S : StkOk 19 f.stk) (hsl : f.stk.length < 4194303) (hol : st.out.length ≤ 4194304) :
  Calls Tryz.prog 173 #[.pointer (some ⟨mb, 0, none⟩), .pointer (some ⟨x.fb, 0, none⟩), .agg #[.int .i64 19, .int .i64 a, .int .i64 b]] w fun e w' => DoX i x.fb w0 mb vp fuel ask (prnP st i f) 0 w' e := by
 obtain ⟨i0, hi0, hz0, hz1, hz2⟩ := info_parts infoInt
 have hs1 := S.s1 (by omega)
 have hst := top_snoc (l := f.stk) (by omega)
 have hdl : f.stk.dropLast.length = f.stk.length - 1 := List.length_dropLast
 have hbel := box_below w (.cells #[.int .i64 19, .int .i64 a, .int .i64 b] 60)
 have H := hide (h.below hbel (Nat.le_refl _))
 obtain ⟨ra, rcap, rfl⟩ := own_form h.prn
 have HST := hide hst
 clear h hst
 go_enter Tryz.func173, Tryz.ntmps173
 go_wp2_with fail
 generalize w.alloc _ = W at *
 have n8 : W.cell? ⟨mb, 8, none⟩ = some (.slice ra st.out.length rcap) := (unhide H).mach.cell 8
 refine wp_region_held_drew (S := (fun _ => True)) (by kernel_rfl) ?_ (fun hHeld => ?_)
 ·exact trivial
 refine take_x (some 96) 0 rfl rfl ?_
 refine take_x (some 97) 1 rfl rfl ?_
 refine take_x (some 98) 2 rfl rfl ?_
 refine take_x (some 99) 3 rfl rfl ?_
 refine take_x (some 101) 5 rfl rfl ?_
 refine wpAnyH_ready (rs := [4, 6]) (by kernel_rfl) (by simp) ?_
 refine AllReadyH.cons rfl (fun K hK => ?_) (AllReadyH.cons rfl (fun K hK => ?_) AllReadyH.nil)
 ·go_simp
  refine hK.out _ _ trivial (fun hHeld => ?_)
  clear hK K
  try simp only [Act.put, List.setIfInBounds_toArray, List.set_cons_zero, List.set_cons_succ]
  refine wpAnyH_ready (rs := [6]) (by kernel_rfl) (by simp) ?_
  refine AllReadyH.cons rfl (fun K hK => ?_) AllReadyH.nil
  go_simp
  have F := (unhide H).fr i f x hf hx
  have hP0 := ma_pop _ A x.fb x.mc (f.pc : Int) x.vl f.loc x.vs f.stk.dropLast (topV f.stk) W.drew (by rw [← unhide HST]; exact F.fr.below (Below.refl W.heap.size W).drew (Nat.le_refl _)) (by omega)
  refine hP0.mono ?_
  rintro e w1 hP
  obtain ⟨rfl, ρ1, vs1, hA1⟩ := (unhide H).drew.pop hf hx (unhide HST) hP
  obtain ⟨v3, w3, happ, hO3, hM3, hv3⟩ := app_ex (P := Tryz.prog) (W := w1) 51 51 3 i0 _ 1 8 Tryz.underlying51 hi0 hz0 hz1 hz2 rfl (by decide) w0.heap.size _ _ _ hA1.prn #[.int .i64 (topV f.stk).num] rfl (fun v hv => by obtain rfl := List.mem_singleton.1 hv; rfl) w1.heap.size rfl (by have : (setF st i f f.loc f.stk.dropLast).out.length = st.out.length := rfl; unfold maxLen; omega) (by have : (setF st i f f.loc f.stk.dropLast).out.length = st.out.length := rfl; omega) hA1.bel.size
  obtain ⟨a3, cap3, rfl⟩ := own_form hO3
  obtain ⟨⟨ρ3, hA3⟩, c83, f83⟩ := hA1.print hM3 hO3 hv3 rfl
  have n81 : w1.cell? ⟨mb, 8, none⟩ = some (.slice ra st.out.length rcap) := hA1.mach.cell 8
  have n81a : (w1.alloc (.cells #[.int .i64 (topV f.stk).num] 3)).cell? ⟨mb, 8, none⟩ = some (.slice ra st.out.length rcap) := (hA1.mach.alloc _).cell 8
  have HF : Hid (DoX i x.fb w0 mb vp fuel ask (prnP st i f) 0 (w3.setCell ⟨mb, 8, none⟩ (.slice a3 ((setF st i f f.loc f.stk.dropLast).out.length + 1) cap3)) (.returned (.int .i64 0))) := ⟨rfl, A, ρ3, _, _, _, _, (by first | exact fb_same hx | exact fb_set hx _ | exact fb_set2 hx _ _), hA3⟩
  unfold encV
  clear hA1 hA3 hO3 hM3 hv3 hP hP0 F
  go_wp2_with fail
  refine hK.out _ _ trivial (fun hHeld => ?_)
  clear hK K
  try simp only [Act.put, List.setIfInBounds_toArray, List.set_cons_zero, List.set_cons_succ]
  refine take_x (some 103) 7 rfl rfl ?_
  refine wpAnyH_ready (rs := [8]) (by kernel_rfl) (by simp) ?_
  refine AllReadyH.cons rfl (fun K hK => ?_) AllReadyH.nil
  go_simp
  refine hK.out _ _ trivial (fun hHeld => ?_)
  clear hK K
  try simp only [Act.put, List.setIfInBounds_toArray, List.set_cons_zero, List.set_cons_succ]
  refine wpAnyH_ready (rs := [9]) (by kernel_rfl) (by simp) ?_
  refine AllReadyH.cons rfl (fun K hK => ?_) AllReadyH.nil
  refine wp_append_run (.tmp 100) (.tmp 104) 51 rfl _ _ rfl rfl happ ?_
  go_simp
  refine hK.out _ _ trivial (fun hHeld => ?_)
  clear hK K
  try simp only [Act.put, List.setIfInBounds_toArray, List.set_cons_zero, List.set_cons_succ]
  refine take_x (some 106) 10 rfl rfl ?_
  refine take_x (some 107) 11 rfl rfl ?_
  refine wpAnyH_ready (rs := [12]) (by kernel_rfl) (by simp) ?_
  refine AllReadyH.cons rfl (fun K hK => ?_) AllReadyH.nil
  go_simp
  refine hK.out _ _ trivial (fun hHeld => ?_)
  clear hK K
  try simp only [Act.put, List.setIfInBounds_toArray, List.set_cons_zero, List.set_cons_succ]
  refine wpAnyH_done (by kernel_rfl) ?_ _
  clear happ
  go_wp2_with fail
  go_ret
  exact unhide HF
 ·go_simp
  have F := (unhide H).fr i f x hf hx
  have hP0 := ma_pop _ A x.fb x.mc (f.pc : Int) x.vl f.loc x.vs f.stk.dropLast (topV f.stk) W.drew (by rw [← unhide HST]; exact F.fr.below (Below.refl W.heap.size W).drew (Nat.le_refl _)) (by omega)
  refine hP0.mono ?_
  rintro e w1 hP
  obtain ⟨rfl, ρ1, vs1, hA1⟩ := (unhide H).drew.pop hf hx (unhide HST) hP
  obtain ⟨v3, w3, happ, hO3, hM3, hv3⟩ := app_ex (P := Tryz.prog) (W := w1) 51 51 3 i0 _ 1 8 Tryz.underlying51 hi0 hz0 hz1 hz2 rfl (by decide) w0.heap.size _ _ _ hA1.prn #[.int .i64 (topV f.stk).num] rfl (fun v hv => by obtain rfl := List.mem_singleton.1 hv; rfl) w1.heap.size rfl (by have : (setF st i f f.loc f.stk.dropLast).out.length = st.out.length := rfl; unfold maxLen; omega) (by have : (setF st i f f.loc f.stk.dropLast).out.length = st.out.length := rfl; omega) hA1.bel.size
  obtain ⟨a3, cap3, rfl⟩ := own_form hO3
  obtain ⟨⟨ρ3, hA3⟩, c83, f83⟩ := hA1.print hM3 hO3 hv3 rfl
  have n81 : w1.cell? ⟨mb, 8, none⟩ = some (.slice ra st.out.length rcap) := hA1.mach.cell 8
  have n81a : (w1.alloc (.cells #[.int .i64 (topV f.stk).num] 3)).cell? ⟨mb, 8, none⟩ = some (.slice ra st.out.length rcap) := (hA1.mach.alloc _).cell 8
  have HF : Hid (DoX i x.fb w0 mb vp fuel ask (prnP st i f) 0 (w3.setCell ⟨mb, 8, none⟩ (.slice a3 ((setF st i f f.loc f.stk.dropLast).out.length + 1) cap3)) (.returned (.int .i64 0))) := ⟨rfl, A, ρ3, _, _, _, _, (by first | exact fb_same hx | exact fb_set hx _ | exact fb_set2 hx _ _), hA3⟩
  unfold encV
  clear hA1 hA3 hO3 hM3 hv3 hP hP0 F
  go_wp2_with fail
  refine hK.out _ _ trivial (fun hHeld => ?_)
  clear hK K
  try simp only [Act.put, List.setIfInBounds_toArray, List.set_cons_zero, List.set_cons_succ]
  refine take_x (some 103) 7 rfl rfl ?_
  refine wpAnyH_ready (rs := [4, 8]) (by kernel_rfl) (by simp) ?_
  refine AllReadyH.cons rfl (fun K hK => ?_) (AllReadyH.cons rfl (fun K hK => ?_) AllReadyH.nil)
  ·go_simp
   refine hK.out _ _ trivial (fun hHeld => ?_)
   clear hK K
   try simp only [Act.put, List.setIfInBounds_toArray, List.set_cons_zero, List.set_cons_succ]
   refine wpAnyH_ready (rs := [8]) (by kernel_rfl) (by simp) ?_
   refine AllReadyH.cons rfl (fun K hK => ?_) AllReadyH.nil
   go_simp
   refine hK.out _ _ trivial (fun hHeld => ?_)
   clear hK K
   try simp only [Act.put, List.setIfInBounds_toArray, List.set_cons_zero, List.set_cons_succ]
   refine wpAnyH_ready (rs := [9]) (by kernel_rfl) (by simp) ?_
   refine AllReadyH.cons rfl (fun K hK => ?_) AllReadyH.nil
   refine wp_append_run (.tmp 100) (.tmp 104) 51 rfl _ _ rfl rfl happ ?_
   go_simp
   refine hK.out _ _ trivial (fun hHeld => ?_)
   clear hK K
   try simp only [Act.put, List.setIfInBounds_toArray, List.set_cons_zero, List.set_cons_succ]
   refine take_x (some 106) 10 rfl rfl ?_
   refine take_x (some 107) 11 rfl rfl ?_
   refine wpAnyH_ready (rs := [12]) (by kernel_rfl) (by simp) ?_
   refine AllReadyH.cons rfl (fun K hK => ?_) AllReadyH.nil
   go_simp
   refine hK.out _ _ trivial (fun hHeld => ?_)
   clear hK K
   try simp only [Act.put, List.setIfInBounds_toArray, List.set_cons_zero, List.set_cons_succ]
   refine wpAnyH_done (by kernel_rfl) ?_ _
   clear happ
   go_wp2_with fail
   go_ret
   exact unhide HF
  ·go_simp
   refine hK.out _ _ trivial (fun hHeld => ?_)
   clear hK K
   try simp only [Act.put, List.setIfInBounds_toArray, List.set_cons_zero, List.set_cons_succ]
   refine wpAnyH_ready (rs := [4]) (by kernel_rfl) (by simp) ?_
   refine AllReadyH.cons rfl (fun K hK => ?_) AllReadyH.nil
   go_simp
   refine hK.out _ _ trivial (fun hHeld => ?_)
   clear hK K
   try simp only [Act.put, List.setIfInBounds_toArray, List.set_cons_zero, List.set_cons_succ]
   refine wpAnyH_ready (rs := [9]) (by kernel_rfl) (by simp) ?_
   refine AllReadyH.cons rfl (fun K hK => ?_) AllReadyH.nil
   refine wp_append_run (.tmp 100) (.tmp 104) 51 rfl _ _ rfl rfl happ ?_
   go_simp
   refine hK.out _ _ trivial (fun hHeld => ?_)
   clear hK K
   try simp only [Act.put, List.setIfInBounds_toArray, List.set_cons_zero, List.set_cons_succ]
   refine take_x (some 106) 10 rfl rfl ?_
   refine take_x (some 107) 11 rfl rfl ?_
   refine wpAnyH_ready (rs := [12]) (by kernel_rfl) (by simp) ?_
   refine AllReadyH.cons rfl (fun K hK => ?_) AllReadyH.nil
   go_simp
   refine hK.out _ _ trivial (fun hHeld => ?_)
   clear hK K
   try simp only [Act.put, List.setIfInBounds_toArray, List.set_cons_zero, List.set_cons_succ]
   refine wpAnyH_done (by kernel_rfl) ?_ _
   clear happ
   go_wp2_with fail
   go_ret
   exact unhide HF
end
end Go.Proofs.YtiiokkllmchohaaGreat
/- The machine: do, all. -/
namespace Go.Proofs.YtiiokkllmchohaaGreat
open Go.RowKit Go.Shelf

def doP (p : List LClass) (st : MaSt) (i : Nat) (f : MFr) (op a b : Int) : MaSt × Int :=
 if op = 6 then (if (topV f.stk).num = 0 then st else setF st i f (moveP 6 a f.loc f.stk).1 (moveP 6 a f.loc f.stk).2, if (topV f.stk).num = 0 then 3 else 0)
 else if op = 9 then (if st.objs.length = 100 then st else newSt p st i f a, if st.objs.length = 100 then 8 else 0)
 else if op = 10 then getP st i f b
 else if op = 11 then putP2 st i f b
 else if op = 17 then (st, castP p st f a)
 else if op = 19 then (prnP st i f, 0)
 else (setF st i f (moveP op a f.loc f.stk).1 (moveP op a f.loc f.stk).2, 0)
structure DoOk (p : List LClass) (st : MaSt) (f : MFr) (op b : Int) : Prop where
 stk : StkOk op f.stk
 loc : f.m.locals = (f.loc.length : Int)
 sl : f.stk.length < 4194303
 ll : f.loc.length ≤ 4194304
 get : op = 10 → ∀ k, (topV f.stk).obj = some k → b.toNat < (objAt st k).flds.length
 put : op = 11 → ∀ k, (topV f.stk.dropLast).obj = some k → b.toNat < (objAt st k).flds.length
 cast : op = 17 → ∀ k, (topV f.stk).obj = some k → 0 ≤ (objAt st k).cls ∧ (objAt st k).cls < (p.length : Int)
 fl : ∀ k, (objAt st k).flds.length ≤ 4194304
 ol : st.objs.length ≤ 100
 out : st.out.length ≤ 4194304
theorem ma_do (p : List LClass) (vp : Value) (w0 w : World) (ρ : Nat → Nat × Nat) (mb : Nat) (fuel : Int) (ask : Bool) (st : MaSt) (A : List Nat) (X : List FrX) (Y : List Value) (vr vpr : Value) (i : Nat) (f : MFr) (x : FrX) (op a b : Int) (h : MaA w0 w ρ mb vp fuel ask st A X Y vr vpr) (hf : st.frames[i]? = some f) (hx : X[i]? = some x) (G : Good p) (hp : RProg w0 vp p) (I : InsOk p f.m op a b) (D : DoOk p st f op b)
  (ho : op ≠ 7 ∧ op ≠ 8 ∧ op ≠ 12 ∧ op ≠ 13 ∧ op ≠ 18) :
  Calls Tryz.prog 173 #[.pointer (some ⟨mb, 0, none⟩), .pointer (some ⟨x.fb, 0, none⟩), .agg #[.int .i64 op, .int .i64 a, .int .i64 b]] w fun e w' => DoX i x.fb w0 mb vp fuel ask (doP p st i f op a b).1 (doP p st i f op a b).2 w' e := by
 have o0 := I.op0
 have o1 := I.op1
 by_cases h6 : op = 6
 ·subst h6
  exact do_div p vp w0 w ρ mb fuel ask st A X Y vr vpr i f x a b h hf hx I D.stk D.loc D.sl D.ll
 by_cases h9 : op = 9
 ·subst h9
  have hc := I.cls (by omega)
  exact do_new p vp w0 w ρ mb fuel ask st A X Y vr vpr i f x a b h hf hx hp G.sup G.sz hc.1 hc.2 (by have := D.sl; omega) D.ol
 by_cases h10 : op = 10
 ·subst h10
  exact do_get vp w0 w ρ mb fuel ask st A X Y vr vpr i f x a b h hf hx D.stk D.sl (I.fld (by omega)).1 (D.get rfl) D.fl
 by_cases h11 : op = 11
 ·subst h11
  exact do_put vp w0 w ρ mb fuel ask st A X Y vr vpr i f x a b h hf hx D.stk D.sl (I.fld (by omega)).1 (D.put rfl) D.fl
 by_cases h17 : op = 17
 ·subst h17
  exact do_cast p vp w0 w ρ mb fuel ask st A X Y vr vpr i f x a b h hf hx hp G.sup G.sz D.stk D.sl (D.cast rfl)
 by_cases h19 : op = 19
 ·subst h19
  exact do_print vp w0 w ρ mb fuel ask st A X Y vr vpr i f x a b h hf hx D.stk D.sl D.out
 have hd : doP p st i f op a b = (setF st i f (moveP op a f.loc f.stk).1 (moveP op a f.loc f.stk).2, 0) := by
  unfold doP
  rw [if_neg h6, if_neg h9, if_neg h10, if_neg h11, if_neg h17, if_neg h19]
 rw [hd]
 exact do_mv p vp w0 w ρ mb fuel ask st A X Y vr vpr i f x op a b h hf hx I D.stk D.loc D.sl D.ll (by omega)
end Go.Proofs.YtiiokkllmchohaaGreat
/- The machine: a step, a run (pure). -/
namespace Go.Proofs.YtiiokkllmchohaaGreat
open Go.RowKit Go.Shelf

def goF (st : MaSt) (i : Nat) (f : MFr) (pc : Nat) (stk : List LVal) : MaSt := { st with frames := st.frames.set i { f with pc := pc, stk := stk } }
def tick (st : MaSt) : MaSt := { st with steps := st.steps + 1 }
def incF (st : MaSt) (i : Nat) : MaSt := match st.frames[i]? with
 | none => st
 | some f => { st with frames := st.frames.set i { f with pc := f.pc + 1 } }
def callP (p : List LClass) (st : MaSt) (i : Nat) (f : MFr) (a b : Int) : MaSt ⊕ (MaSt × Int) :=
 let n := (findM p a b).args.length
 let r := f.stk.take (f.stk.length - n)
 match (topV r).obj with
 | none => .inr (goF st i f f.pc r.dropLast, 2)
 | some k => if st.frames.length = 30 then .inr (goF st i f f.pc r.dropLast, 7)
  else .inl (tick (begSt p (goF st i f (f.pc + 1) r.dropLast) k (objAt st k).cls b (f.stk.drop (f.stk.length - n))))
def stepM (p : List LClass) (fuel : Int) (st : MaSt) : MaSt ⊕ (MaSt × Int) := match st.frames.getLast? with
 | none => .inr (st, 1)
 | some f =>
  let i := st.frames.length - 1
  let ins := insAt f.m f.pc
  if lookP p fuel st.steps f ≠ 0 then .inr (st, lookP p fuel st.steps f)
  else if ins.op = 7 then .inl (tick (goF st i f ins.a.toNat f.stk))
  else if ins.op = 8 then .inl (tick (if (topV f.stk).num = 0 then goF st i f ins.a.toNat f.stk.dropLast else goF st i f (f.pc + 1) f.stk.dropLast))
  else if ins.op = 18 then .inl (tick (if (topV f.stk).obj = none then goF st i f ins.a.toNat f.stk.dropLast else goF st i f (f.pc + 1) f.stk.dropLast))
  else if ins.op = 12 then callP p st i f ins.a ins.b
  else if ins.op = 13 then .inl (tick (endSt (goF st i f f.pc f.stk.dropLast) (topV f.stk)))
  else if (doP p st i f ins.op ins.a ins.b).2 = 0 then .inl (tick (incF (doP p st i f ins.op ins.a ins.b).1 i))
  else .inr (doP p st i f ins.op ins.a ins.b)
def stepI (p : List LClass) (st : MaSt) (i : Nat) (f : MFr) (op a b : Int) : MaSt ⊕ (MaSt × Int) :=
 if op = 7 then .inl (tick (goF st i f a.toNat f.stk))
 else if op = 8 then .inl (tick (if (topV f.stk).num = 0 then goF st i f a.toNat f.stk.dropLast else goF st i f (f.pc + 1) f.stk.dropLast))
 else if op = 18 then .inl (tick (if (topV f.stk).obj = none then goF st i f a.toNat f.stk.dropLast else goF st i f (f.pc + 1) f.stk.dropLast))
 else if op = 12 then callP p st i f a b
 else if op = 13 then .inl (tick (endSt (goF st i f f.pc f.stk.dropLast) (topV f.stk)))
 else if (doP p st i f op a b).2 = 0 then .inl (tick (incF (doP p st i f op a b).1 i))
 else .inr (doP p st i f op a b)
theorem stepM_eq {p : List LClass} {fuel : Int} {st : MaSt} {f : MFr} {i : Nat} {op a b : Int} (hgl : st.frames.getLast? = some f) (hlk : lookP p fuel st.steps f = 0) (hil : st.frames.length - 1 = i) (hI : insAt f.m f.pc = ⟨op, a, b⟩) : stepM p fuel st = stepI p st i f op a b := by
 unfold stepM
 rw [hgl]
 dsimp only
 rw [if_neg (by rw [hlk]; simp), hil, hI]
 rfl
theorem stepI_7 (p : List LClass) (st : MaSt) (i : Nat) (f : MFr) (k : Nat) (b : Int) : stepI p st i f 7 (k : Int) b = .inl (tick (goF st i f k f.stk)) := rfl
theorem stepI_8a (p : List LClass) (st : MaSt) (i : Nat) (f : MFr) (k : Nat) (b : Int) (h : (topV f.stk).num = 0) : stepI p st i f 8 (k : Int) b = .inl (tick (goF st i f k f.stk.dropLast)) := by
 show Sum.inl (tick (if _ then _ else _)) = _
 rw [if_pos h]; rfl
theorem stepI_8b (p : List LClass) (st : MaSt) (i : Nat) (f : MFr) (k : Nat) (b : Int) (h : ¬ (topV f.stk).num = 0) : stepI p st i f 8 (k : Int) b = .inl (tick (goF st i f (f.pc + 1) f.stk.dropLast)) := by
 show Sum.inl (tick (if _ then _ else _)) = _
 rw [if_neg h]
theorem stepI_18a (p : List LClass) (st : MaSt) (i : Nat) (f : MFr) (k : Nat) (b : Int) (h : (topV f.stk).obj = none) : stepI p st i f 18 (k : Int) b = .inl (tick (goF st i f k f.stk.dropLast)) := by
 show Sum.inl (tick (if _ then _ else _)) = _
 rw [if_pos h]; rfl
theorem stepI_18b (p : List LClass) (st : MaSt) (i : Nat) (f : MFr) (k : Nat) (b : Int) (h : ¬ (topV f.stk).obj = none) : stepI p st i f 18 (k : Int) b = .inl (tick (goF st i f (f.pc + 1) f.stk.dropLast)) := by
 show Sum.inl (tick (if _ then _ else _)) = _
 rw [if_neg h]
theorem stepI_12 (p : List LClass) (st : MaSt) (i : Nat) (f : MFr) (a b : Int) : stepI p st i f 12 a b = callP p st i f a b := rfl
theorem stepI_13 (p : List LClass) (st : MaSt) (i : Nat) (f : MFr) (a b : Int) : stepI p st i f 13 a b = .inl (tick (endSt (goF st i f f.pc f.stk.dropLast) (topV f.stk))) := rfl
theorem stepI_do (p : List LClass) (st : MaSt) (i : Nat) (f : MFr) (op a b : Int) (h : op ≠ 7 ∧ op ≠ 8 ∧ op ≠ 12 ∧ op ≠ 13 ∧ op ≠ 18) : stepI p st i f op a b = if (doP p st i f op a b).2 = 0 then .inl (tick (incF (doP p st i f op a b).1 i)) else .inr (doP p st i f op a b) := by
 unfold stepI
 rw [if_neg h.1, if_neg h.2.1, if_neg h.2.2.2.2, if_neg h.2.2.1, if_neg h.2.2.2.1]
theorem doP_frame (p : List LClass) (st : MaSt) (i : Nat) (f : MFr) (op a b : Int) (hf : st.frames[i]? = some f) : ∃ loc stk, (doP p st i f op a b).1.frames[i]? = some { f with loc := loc, stk := stk } ∧ (doP p st i f op a b).1.steps = st.steps ∧ (doP p st i f op a b).1.frames.length = st.frames.length := by
 have hl : i < st.frames.length := (List.getElem?_eq_some_iff.1 hf).1
 have hs : ∀ loc stk, (setF st i f loc stk).frames[i]? = some { f with loc := loc, stk := stk } := fun loc stk => setF_at hf loc stk
 have hn : ∀ loc stk, (setF st i f loc stk).frames.length = st.frames.length := fun loc stk => by simp [setF]
 generalize hq : doP p st i f op a b = q
 unfold doP at hq
 split at hq
 ·subst hq
  dsimp only
  split
  ·exact ⟨f.loc, f.stk, hf, rfl, rfl⟩
  ·exact ⟨_, _, hs _ _, rfl, hn _ _⟩
 split at hq
 ·subst hq
  dsimp only
  split
  ·exact ⟨f.loc, f.stk, hf, rfl, rfl⟩
  ·exact ⟨_, _, hs _ _, rfl, hn _ _⟩
 split at hq
 ·subst hq
  unfold getP
  split
  ·exact ⟨_, _, hs _ _, rfl, hn _ _⟩
  ·exact ⟨_, _, hs _ _, rfl, hn _ _⟩
 split at hq
 ·subst hq
  unfold putP2
  split
  ·exact ⟨_, _, hs _ _, rfl, hn _ _⟩
  ·exact ⟨_, _, hs _ _, rfl, hn _ _⟩
 split at hq
 ·subst hq
  exact ⟨f.loc, f.stk, hf, rfl, rfl⟩
 split at hq
 ·subst hq
  exact ⟨_, _, hs _ _, rfl, hn _ _⟩
 ·subst hq
  exact ⟨_, _, hs _ _, rfl, hn _ _⟩
def runM (p : List LClass) (fuel : Int) : Nat → MaSt → Option (MaSt × Int)
 | 0, _ => none
 | n + 1, st => match stepM p fuel st with
  | .inr r => some r
  | .inl st' => runM p fuel n st'
structure CallOk (p : List LClass) (st : MaSt) (f : MFr) (a b : Int) : Prop where
 len : (findM p a b).args.length + 1 ≤ f.stk.length
 obj : ∀ k, (topV (f.stk.take (f.stk.length - (findM p a b).args.length))).obj = some k → 0 ≤ (objAt st k).cls ∧ (objAt st k).cls < (p.length : Int) ∧ (methOf p (objAt st k).cls b).isSome = true ∧ 1 + ((findM p a b).args.length : Int) ≤ (findM p (objAt st k).cls b).locals ∧ (findM p (objAt st k).cls b).locals ≤ 8
structure StepOk (p : List LClass) (fuel : Int) (st : MaSt) : Prop where
 fr : ∀ f, st.frames.getLast? = some f → FrOkM p f
 ok : ∀ f, st.frames.getLast? = some f → lookP p fuel st.steps f = 0 → DoOk p st f (insAt f.m f.pc).op (insAt f.m f.pc).b
 cl : ∀ f, st.frames.getLast? = some f → lookP p fuel st.steps f = 0 → (insAt f.m f.pc).op = 12 → CallOk p st f (insAt f.m f.pc).a (insAt f.m f.pc).b
 len : st.frames.length ≤ 30
 all : ∀ g ∈ st.frames, g.stk.length ≤ 4194304
 stp : (st.steps : Int) ≤ fuel
def RunOk (p : List LClass) (fuel : Int) : Nat → MaSt → Prop
 | 0, _ => True
 | n + 1, st => StepOk p fuel st ∧ ∀ st', stepM p fuel st = .inl st' → RunOk p fuel n st'
end Go.Proofs.YtiiokkllmchohaaGreat
/- What holds in a run of a program that Form takes (pure). -/
namespace Go.Proofs.YtiiokkllmchohaaGreat
open Go.RowKit Go.Shelf

section
variable {p : List LClass} {fuel : Int} {st : MaSt} {f : MFr}
end
end Go.Proofs.YtiiokkllmchohaaGreat
/- The machine: work. -/
namespace Go.Proofs.YtiiokkllmchohaaGreat
open Go.RowKit Go.Shelf
attribute [local go_sem ↓] Go.wp_at_zero Go.wp_at_succ
attribute [local go_sem] frz_drew
attribute [local go_sem] fld_num fld_obj fld_args

def WorkR (w0 : World) (mb : Nat) (vp : Value) (fuel : Int) (ask : Bool) (R : MaSt × Int) (w' : World) (e : Ending) : Prop := e = .returned (.int .i64 R.2) ∧ ∃ A, MaX w0 w' mb vp fuel ask R.1 A
def WorkI (p : List LClass) (w0 : World) (mb : Nat) (vp : Value) (fuel : Int) (ask : Bool) (R : MaSt × Int) (V : World) : Prop :=
 ∃ n st A, RunOk p fuel n st ∧ runM p fuel n st = some R ∧ (st.steps : Int) ≤ fuel ∧ MaX w0 V mb vp fuel ask st A
def intC : Option Value → Nat
 | some (.int _ n) => n.toNat
 | _ => 0
theorem add_block (a : Addr) (j : Nat) : (a.add j).block = a.block := by unfold Addr.add; split <;> rfl
theorem aggIns : AggOk Tryz.prog 60 3 := ⟨by kernel_rfl, by kernel_rfl⟩
section
variable {w0 w w' : World} {ρ : Nat → Nat × Nat} {mb : Nat} {vp : Value} {fuel : Int} {ask : Bool} {st : MaSt} {A : List Nat} {X : List FrX} {Y : List Value} {vr vpr : Value} {i : Nat} {f : MFr} {x : FrX}
theorem MaA.jump (h : MaA w0 w ρ mb vp fuel ask st A X Y vr vpr) (hf : st.frames[i]? = some f) (hx : X[i]? = some x) (pc : Nat) :
  (∃ ρ', MaA w0 (w.setCell ⟨x.fb, 7, none⟩ (.int .i64 (pc : Int))) ρ' mb vp fuel ask (goF st i f pc f.stk) A (X.set i { x with vs := x.vs }) Y vr vpr) ∧ w.cell? ⟨x.fb, 7, none⟩ = some (.int .i64 (f.pc : Int)) ∧ w.frozen? ⟨x.fb, 7, none⟩ = false := by
 have F := h.fr i f x hf hx
 have l7 := F.fr.l7
 have hM : Mods (fun k => k = x.fb) w (w.setCell ⟨x.fb, 7, none⟩ (.int .i64 (pc : Int))) := (Mods.refl (fun k => k = x.fb) w).setCell (p := ⟨x.fb, 7, none⟩) (fun _ => rfl) _
 have hB := F.fr.blk.setCell 7 (.int .i64 (pc : Int))
 have hB7 : (x.mc ++ [.int .i64 (f.pc : Int), x.vl, x.vs]).set 7 (.int .i64 (pc : Int)) = x.mc ++ [.int .i64 (pc : Int), x.vl, x.vs] := by
  rw [List.set_append_right _ _ (by omega), l7]; rfl
 rw [hB7] at hB
 refine ⟨h.upd hf hx hM (fun k _ e => .inl (e ▸ F.r0)) (pc := pc) (loc := f.loc) (stk := f.stk) (vs' := x.vs) ⟨hB, l7, F.fr.base, own_mods F.fr.lo hM (fun g hg e => own_ne F.fr.lo F.fr.blk tv_ne_fr (e ▸ hg)), own_mods F.fr.st hM (fun g hg e => own_ne F.fr.st F.fr.blk tv_ne_fr (e ▸ hg)), F.fr.ne⟩ (.inl rfl) F.okl F.oks, F.fr.c7.1, F.fr.blk.frozen 7⟩
theorem MaA.tickA (h : MaA w0 w ρ mb vp fuel ask st A X Y vr vpr) : MaA w0 (w.setCell ⟨mb, 9, none⟩ (.int .i64 ((st.steps : Int) + 1))) ρ mb vp fuel ask (tick st) A X Y vr vpr ∧ w.cell? ⟨mb, 9, none⟩ = some (.int .i64 (st.steps : Int)) ∧ w.frozen? ⟨mb, 9, none⟩ = false := by
 have hM : Mods (fun k => k = mb) w (w.setCell ⟨mb, 9, none⟩ (.int .i64 ((st.steps : Int) + 1))) := (Mods.refl (fun k => k = mb) w).setCell (p := ⟨mb, 9, none⟩) (fun _ => rfl) _
 exact ⟨h.own hM (frs := st.frames) (X' := X) (told := st.told) (steps := st.steps + 1) (h.mach.setCell 9 _) (own_mods h.run hM (fun g hg e => own_ne h.run h.mach tp_ne_ma (e ▸ hg))) rfl h.lx (fun _ _ _ h1 h2 => ⟨h1, h2⟩) h.okt, h.mach.cell 9, h.mach.frozen 9⟩
end
theorem work_next {p : List LClass} {w0 wr U : World} {mb : Nat} {vp : Value} {fuel : Int} {ask : Bool} {R : MaSt × Int} {n : Nat} {st st1 : MaSt} (hok : RunOk p fuel (n + 1) st) (hrun : runM p fuel (n + 1) st = some R) (hs : stepM p fuel st = .inl (tick st1)) {ρ : Nat → Nat × Nat} {A : List Nat} {X : List FrX} {Y : List Value} {vr vpr : Value} (h1 : MaA w0 U ρ mb vp fuel ask st1 A X Y vr vpr) (hst : st1.steps = st.steps) (hlt : (st.steps : Int) < fuel) (h9 : wr.cell? ⟨mb, 9, none⟩ = some (.int .i64 (st.steps : Int))) :
  WorkI p w0 mb vp fuel ask R (U.setCell ⟨mb, 9, none⟩ (.int .i64 ((st.steps : Int) + 1))) ∧ fuel.toNat - intC ((U.setCell ⟨mb, 9, none⟩ (.int .i64 ((st.steps : Int) + 1))).cell? ⟨mb, 9, none⟩) < fuel.toNat - intC (wr.cell? ⟨mb, 9, none⟩) := by
 have ht := h1.tickA.1
 rw [hst] at ht
 refine ⟨⟨n, tick st1, A, hok.2 _ hs, ?_, ?_, ρ, X, Y, vr, vpr, ht⟩, ?_⟩
 ·unfold runM at hrun
  rw [hs] at hrun
  exact hrun
 ·show ((st1.steps + 1 : Nat) : Int) ≤ fuel
  rw [hst]; omega
 ·have hc : (U.setCell ⟨mb, 9, none⟩ (.int .i64 ((st.steps : Int) + 1))).cell? ⟨mb, 9, none⟩ = some (.int .i64 (((tick st1).steps : Nat) : Int)) := ht.mach.cell 9
  rw [hc, h9]
  show fuel.toNat - ((st1.steps + 1 : Nat) : Int).toNat < fuel.toNat - (st.steps : Int).toNat
  rw [hst]; omega
theorem work_end {p : List LClass} {fuel : Int} {R : MaSt × Int} {n : Nat} {st : MaSt} (hrun : runM p fuel (n + 1) st = some R) {r : MaSt × Int} (hs : stepM p fuel st = .inr r) : R = r := by
 unfold runM at hrun
 rw [hs] at hrun
 exact (Option.some.inj hrun).symm
set_option maxHeartbeats 2000000 in
set_option maxRecDepth 100000 in
theorem ma_work (p : List LClass) (vp : Value) (w0 w : World) (mb : Nat) (fuel : Int) (ask : Bool) (R : MaSt × Int) (hask : ask = true ∨ R.2 ≠ 5) (h : WorkI p w0 mb vp fuel ask R w) (hfu : fuel ≤ 5000) (G : Good p) (hp : RProg w0 vp p) (hal : ∀ a b, (methOf p a b).isSome = true → 0 ≤ a → a < (p.length : Int) → (findM p a b).args.length ≤ 4194303) :
  Calls Tryz.prog 113 #[.pointer (some ⟨mb, 0, none⟩)] w fun e w' => WorkR w0 mb vp fuel ask R w' e := by
 have H := hide h
 have HASK := hide hask
 clear h hask
 go_enter Tryz.func113, Tryz.ntmps113
 go_wp2_with fail
 go_step3
 go_wp2_with fail
 go_step3
 go_wp2_with fail
 go_loopw [] (fun wr => WorkI p w0 mb vp fuel ask R wr) (fun wr => fuel.toNat - intC (wr.cell? ⟨mb, 9, none⟩))
 case atStart => exact unhide H
 case round =>
  obtain ⟨n, st, A, hok, hrun, hstp, hX⟩ := hrel
  obtain ⟨ρ, X, Y, vr, vpr, hA⟩ := hX
  cases n with
  | zero => cases hrun
  | succ n =>
  have hSO := hok.1
  obtain ⟨ra, rcap, rfl⟩ := own_form hA.run
  have n3 : wr.cell? ⟨mb, 3, none⟩ = some (.slice ra X.length rcap) := hA.mach.cell 3
  have h9 : wr.cell? ⟨mb, 9, none⟩ = some (.int .i64 (st.steps : Int)) := hA.mach.cell 9
  have hlx := hA.lx
  have h30 := hSO.len
  have HR := hide (And.intro hok hrun)
  have HA := hide hA
  clear hok hrun
  by_cases h0 : X.length = 0
  ·have hs : stepM p fuel st = .inr (st, 1) := by
    have hn : st.frames = [] := List.eq_nil_of_length_eq_zero (by omega)
    unfold stepM
    rw [hn]; rfl
   have hR := work_end (unhide HR).2 hs
   have h1 : ¬ (0 : Int) < (X.length : Int) := by omega
   clear h0 hs hlx hA
   go_wp2_with fail
   go_ret
   rw [hR]
   exact ⟨rfl, A, ρ, _, _, _, _, unhide HA⟩
  ·obtain ⟨fs, f, hfs⟩ := snoc_of (l := st.frames) (by omega)
   obtain ⟨X0, x, rfl⟩ := snoc_of (l := X) (by omega)
   have hx0 : X0.length = fs.length := by rw [hfs] at hlx; simpa using hlx
   have hxx : (X0 ++ [x]).length = X0.length + 1 := by simp
   have hgl : st.frames.getLast? = some f := by rw [hfs, List.getLast?_concat]
   have hfi : st.frames[X0.length]? = some f := by rw [hfs, hx0]; simp
   have hxi : (X0 ++ [x])[X0.length]? = some x := by simp
   have hil : st.frames.length - 1 = X0.length := by rw [hfs]; simp; omega
   have KF := hSO.fr f hgl
   obtain ⟨g, rcap2, hge, _, _, hrd⟩ := own_read hA.run (by omega)
   simp only [Value.slice.injEq, true_and] at hge
   obtain ⟨rfl, rfl⟩ := hge
   have r0 : wr.cell? ⟨g, X0.length, none⟩ = some (.pointer (some ⟨x.fb, 0, none⟩)) := by
    rw [hrd _ (by omega), List.map_append, List.getElem?_append_right (by simp)]; simp
   rw [hxx] at n3
   have hx30 : X0.length < 30 := by omega
   have hwr1 : IntKind.i64.wrap (X0.length : Int) = (X0.length : Int) := by rw [IntKind.wrap_i64]; omega
   have m0 : (0 : Int) ≤ (X0.length : Int) := by omega
   have m1 : (X0.length : Int) < (X0.length : Int) + 1 := by omega
   have m2 : (0 : Int) < (X0.length : Int) + 1 := by omega
   have HX := hide (And.intro hx0 (And.intro hil hlx))
   have HSO := hide hSO
   clear hrd h0 hA hx0 hil hlx hxx h30 hSO
   go_wp2_with fail
   refine wp_region_noPanic ?_
   refine wp_region_held_drew (S := (fun w' => w'.cell? ⟨mb, 3, none⟩ = some (.slice (some ⟨g, 0, none⟩) (X0.length + 1) rcap) ∧ w'.cell? ⟨g, X0.length, none⟩ = some (.pointer (some ⟨x.fb, 0, none⟩)))) (by kernel_rfl) ?_ (fun hHeld => ?_)
   ·exact ⟨n3, r0⟩
   refine take_x (some 22) 0 rfl rfl ?_
   refine take_x (some 23) 1 rfl rfl ?_
   refine take_x (some 24) 2 rfl rfl ?_
   refine take_x (some 25) 3 rfl rfl ?_
   refine take_x (some 26) 4 rfl rfl ?_
   refine take_x (some 27) 5 rfl rfl ?_
   refine take_x (some 28) 6 rfl rfl ?_
   refine take_x (some 29) 7 rfl rfl ?_
   refine take_x (some 30) 8 rfl rfl ?_
   refine take_x (some 31) 9 rfl rfl ?_
   refine take_x (some 32) 10 rfl rfl ?_
   refine take_x (some 33) 11 rfl rfl ?_
   refine take_x (some 3) 12 rfl rfl ?_
   refine wpAnyH_done (by kernel_rfl) ?_ _
   refine NoPanic.normal ?_
   go_wp2_with fail
   have hA5 : ask = true ∨ lookP p fuel st.steps f ≠ 5 := (unhide HASK).imp id (fun h5 e => h5 (by
    have hs : stepM p fuel st = .inr (st, 5) := by
     unfold stepM
     rw [hgl]
     dsimp only
     rw [if_pos (by rw [e]; decide), e]
    rw [work_end (unhide HR).2 hs]))
   refine (ma_lookA p vp w0 wr.drew ρ mb fuel ask st A (X0 ++ [x]) Y _ vpr (unhide HA).drew G hp hal X0.length f x hfi hxi KF hA5).mono ?_
   clear hA5
   rintro e w1 ⟨rfl, hb1⟩
   have HA1 := hide ((unhide HA).drew.below hb1 (Nat.le_refl _))
   obtain ⟨lk, hlk⟩ : ∃ lk, lk = lookP p fuel st.steps f := ⟨_, rfl⟩
   rw [← hlk]
   have HLK := hide hlk
   clear hlk
   cases hl0 : lk != 0 with
   | true =>
    have hl1 : lk ≠ 0 := by simpa using hl0
    have hs : stepM p fuel st = .inr (st, lk) := by
     unfold stepM
     rw [hgl]
     dsimp only
     rw [if_pos (by rw [← unhide HLK]; exact hl1), ← unhide HLK]
    have hR := work_end (unhide HR).2 hs
    have HF : Hid (WorkR w0 mb vp fuel ask R w1 (.returned (.int .i64 lk))) := by
     rw [hR]
     exact ⟨rfl, A, ρ, _, _, _, _, unhide HA1⟩
    clear hs hl1 hR
    go_wp2_with fail
    rw [Exit.noGoto_ret]
    go_ret
    exact unhide HF
   | false =>
    obtain rfl : lk = 0 := by simpa using hl0
    have hlk := (unhide HLK).symm
    have hpl : f.pc < f.m.code.length := by
     have := KF.pc
     rcases Nat.lt_or_ge f.pc f.m.code.length with h | h
     ·exact h
     ·exfalso
      have he : f.pc = f.m.code.length := by omega
      unfold lookP at hlk
      rw [if_pos he] at hlk
      cases hlk
    have hsf : (st.steps : Int) < fuel := by
     rcases Int.lt_or_eq_of_le hstp with h | h
     ·exact h
     ·exfalso
      unfold lookP at hlk
      rw [if_neg (by omega), if_pos h] at hlk
      cases hlk
    have D := (unhide HSO).ok f hgl hlk
    have CO := (unhide HSO).cl f hgl hlk
    have F1 := (unhide HA1).fr X0.length f x hfi hxi
    obtain ⟨va, vco, vf, hmc, hG⟩ := F1.mt
    obtain ⟨hva, hvc, hvf⟩ := hG
    obtain ⟨ca, cb, off, ccap, rfl, hccap, hca, hcr⟩ := sl_open hvc
    obtain rfl := hca (ne_nil_of_lt hpl)
    obtain ⟨x0, x1, x2⟩ := hcr f.pc hpl
    have kb := Keeps.of_below (unhide HA1).bel
    have y0 := kb _ _ x0
    have y1 := kb _ _ x1
    have y2 := kb _ _ x2
    have hIA : insAt f.m f.pc = f.m.code[f.pc] := by unfold insAt; rw [List.getElem?_eq_getElem hpl]; rfl
    have I0 : InsOk p f.m (f.m.code[f.pc]).op (f.m.code[f.pc]).a (f.m.code[f.pc]).b := ins_ok (KF.ins _ (List.getElem_mem hpl))
    have hs0 : stepM p fuel st = stepI p st X0.length f (f.m.code[f.pc]).op (f.m.code[f.pc]).a (f.m.code[f.pc]).b := stepM_eq hgl hlk (unhide HX).2.1 hIA
    rw [hIA] at D CO
    generalize f.m.code[f.pc] = ins at *
    obtain ⟨op, a, b⟩ := ins
    dsimp only at y0 y1 y2 I0 D CO hs0
    have c5 : w1.cell? ⟨x.fb, 5, none⟩ = some (.slice (some ⟨cb, off, none⟩) f.m.code.length ccap) := by
     rw [F1.fr.blk.cell, hmc]; rfl
    have c7 := F1.fr.c7.1
    have p0 : (0 : Int) ≤ (f.pc : Int) := by omega
    have p1 : (f.pc : Int) < (f.m.code.length : Int) := by omega
    have HD := hide (And.intro D (And.intro CO I0))
    have HS0 := hide hs0
    have HLT := hide hsf
    clear D CO I0 hs0 x0 x1 x2 kb hcr hvc hva hvf F1 hIA hlk hl0
    go_wp2_with fail
    refine wp_region_noPanic ?_
    refine wp_region_held_drew (S := (fun w' => w'.cell? ⟨x.fb, 5, none⟩ = some (.slice (some ⟨cb, off, none⟩) f.m.code.length ccap) ∧ w'.cell? ⟨x.fb, 7, none⟩ = some (.int .i64 (f.pc : Int)) ∧ w'.cell? ⟨cb, off + f.pc * 3, none⟩ = some (.int .i64 op) ∧ w'.cell? ⟨cb, off + f.pc * 3 + 1, none⟩ = some (.int .i64 a) ∧ w'.cell? ⟨cb, off + f.pc * 3 + 2, none⟩ = some (.int .i64 b))) (by kernel_rfl) ?_ (fun hHeld => ?_)
    ·exact ⟨c5, c7, y0, y1, y2⟩
    refine take_x (some 40) 0 rfl rfl ?_
    refine take_x (some 41) 1 rfl rfl ?_
    refine take_x (some 42) 2 rfl rfl ?_
    refine take_x (some 43) 3 rfl rfl ?_
    refine take_x (some 44) 4 rfl rfl ?_
    refine take_x (some 45) 5 rfl rfl ?_
    refine take_x (some 46) 6 rfl rfl ?_
    refine take_x (some 47) 7 rfl rfl ?_
    refine take_x (some 48) 8 rfl rfl ?_
    refine take_x (some 49) 9 rfl rfl ?_
    refine take_x (some 50) 10 rfl rfl ?_
    refine wpAnyH_ready (rs := [11]) (by kernel_rfl) (by simp) ?_
    refine AllReadyH.cons rfl (fun K hK => ?_) AllReadyH.nil
    go_simp
    have hal2 : Below w1.heap.size w1 (w1.drew.alloc (.cells #[.int .i64 0, .int .i64 0, .int .i64 0] 60)) := ⟨rfl, rfl, rfl, by simp, fun i hi => Below.heap_alloc w1.drew _ i hi⟩
    have k2 := Keeps.of_below hal2
    refine hK.out _ _ ⟨k2 _ _ c5, k2 _ _ c7, k2 _ _ y0, k2 _ _ y1, k2 _ _ y2⟩ (fun hHeld => ?_)
    clear hK K
    try simp only [Act.put, List.setIfInBounds_toArray, List.set_cons_zero, List.set_cons_succ]
    refine wpAnyH_ready (rs := [12]) (by kernel_rfl) (by simp) ?_
    refine AllReadyH.cons rfl (fun K hK => ?_) AllReadyH.nil
    refine wp_store_blk aggIns (Blk.new w1.drew #[.int .i64 0, .int .i64 0, .int .i64 0] 60) 0 [.int .i64 op, .int .i64 a, .int .i64 b] rfl (by simp) (fun v hv => by simp only [List.mem_cons, List.not_mem_nil, or_false] at hv; rcases hv with rfl | rfl | rfl <;> rfl) (.tmp 5) (.tmp 50) rfl rfl rfl ?_
    intro w2 hB2 hM2 hs2
    rw [putAt_all (by rfl)] at hB2
    have hb2 : Below w1.heap.size w1 w2 := hal2.trans (hM2.below (by simp) (fun k hk e => by have : w1.drew.heap.size = w1.heap.size := rfl; omega))
    have k3 := Keeps.of_below hb2
    refine hK.out _ _ ⟨k3 _ _ c5, k3 _ _ c7, k3 _ _ y0, k3 _ _ y1, k3 _ _ y2⟩ (fun hHeld => ?_)
    clear hK K
    try simp only [Act.put]
    refine wpAnyH_done (by kernel_rfl) ?_ _
    refine NoPanic.normal ?_
    obtain ⟨bI, hbI⟩ : ∃ bI, bI = w1.heap.size := ⟨_, rfl⟩
    change Blk w2 w1.heap.size 60 [.int .i64 op, .int .i64 a, .int .i64 b] at hB2
    rw [← hbI] at hB2 ⊢
    have HA2 := hide ((unhide HA1).below hb2 (Nat.le_refl _))
    have j0 : w2.cell? ⟨bI, 0, none⟩ = some (.int .i64 op) := hB2.cell 0
    have j1 : w2.cell? ⟨bI, 1, none⟩ = some (.int .i64 a) := hB2.cell 1
    have j2 : w2.cell? ⟨bI, 2, none⟩ = some (.int .i64 b) := hB2.cell 2
    have HBI := hide hB2
    have hxb : x.fb < bI := by rw [hbI]; exact ((unhide HA1).fr X0.length f x hfi hxi).fr.blk.lt
    clear hal2 k2 k3 hM2 hs2 hb2 hbI c5 c7 y0 y1 y2 HA1 hB2 n3 r0
    cases o7 : op == 7 with
    | true =>
     obtain rfl : op = 7 := by simpa using o7
     obtain ⟨a0, a1⟩ := (unhide HD).2.2.jmp (.inl rfl)
     obtain ⟨ka, rfl⟩ : ∃ ka : Nat, a = (ka : Int) := ⟨a.toNat, by omega⟩
     obtain ⟨⟨ρ', hJ⟩, c7, f7⟩ := (unhide HA2).jump hfi hxi ka
     have t9 := hJ.tickA.2
     have HJ := hide hJ
     have HSM : Hid (stepM p fuel st = .inl (tick (goF st X0.length f ka f.stk))) := (unhide HS0).trans (stepI_7 p st X0.length f ka b)
     obtain ⟨t9, ft9⟩ := t9
     have t9' : (w2.setCell ⟨x.fb, 7, none⟩ (.int .i64 (ka : Int))).cell? ⟨mb, 9, none⟩ = some (.int .i64 (st.steps : Int)) := t9
     clear hJ t9 o7
     go_wp2_with fail
     have hfin := work_next (unhide HR).1 (unhide HR).2 (unhide HSM) (unhide HJ) rfl (unhide HLT) h9
     exact hfin
    | false =>
    have p40 : (f.pc : Int) < 40 := by have := KF.c40; omega
    have hbs := (unhide HA2).bel.size
    cases o8 : op == 8 with
    | true =>
     obtain rfl : op = 8 := by simpa using o8
     obtain ⟨a0, a1⟩ := (unhide HD).2.2.jmp (.inr (.inl rfl))
     obtain ⟨ka, rfl⟩ : ∃ ka : Nat, a = (ka : Int) := ⟨a.toNat, by omega⟩
     have hs1 := (unhide HD).1.stk.s1 (by omega)
     have hsl := (unhide HD).1.sl
     have HST := hide (top_snoc (l := f.stk) hs1)
     have hdl : f.stk.dropLast.length = f.stk.length - 1 := List.length_dropLast
     go_wp2_with fail
     have F2 := (unhide HA2).fr X0.length f x hfi hxi
     have hP0 := ma_pop _ A x.fb x.mc (f.pc : Int) x.vl f.loc x.vs f.stk.dropLast (topV f.stk) w2 (by rw [← unhide HST]; exact F2.fr) (by omega)
     refine hP0.mono ?_
     rintro e w3 hP
     have B3 := (unhide HBI).mods hP.choose_spec.2.2.2 (by omega)
     obtain ⟨rfl, ρ3, vs3, hA3⟩ := (unhide HA2).pop hfi hxi (unhide HST) hP
     have HA3 := hide hA3
     have j13 : w3.cell? ⟨bI, 1, none⟩ = some (.int .i64 ((ka : Nat) : Int)) := B3.cell 1
     have hfi3 := setF_at hfi f.loc f.stk.dropLast
     have hxi3 := set_at hxi { x with vs := vs3 }
     unfold encV
     clear F2 hP0 hP hA3 HST
     cases hy : (topV f.stk).num == 0 with
     | true =>
      have HSM2 : Hid (stepM p fuel st = .inl (tick (goF st X0.length f ka f.stk.dropLast))) := (unhide HS0).trans (stepI_8a p st X0.length f ka b (by simpa using hy))
      obtain ⟨⟨ρ', hJ⟩, c7, f7⟩ := (unhide HA3).jump hfi3 hxi3 ka
      obtain ⟨t9, ft9⟩ := hJ.tickA.2
      have HJ := hide (show MaA _ _ _ _ _ _ _ (goF st X0.length f ka f.stk.dropLast) _ _ _ _ _ from by
       have e : goF (setF st X0.length f f.loc f.stk.dropLast) X0.length { f with loc := f.loc, stk := f.stk.dropLast } ka f.stk.dropLast = goF st X0.length f ka f.stk.dropLast := by unfold goF setF; simp [List.set_set]
       rw [← e]; exact hJ)
      have t9' : (w3.setCell ⟨x.fb, 7, none⟩ (.int .i64 ((ka : Nat) : Int))).cell? ⟨mb, 9, none⟩ = some (.int .i64 (st.steps : Int)) := t9
      clear hJ t9
      go_wp2_with fail
      exact work_next (unhide HR).1 (unhide HR).2 (unhide HSM2) (unhide HJ) rfl (unhide HLT) h9
     | false =>
      have HSM2 : Hid (stepM p fuel st = .inl (tick (goF st X0.length f (f.pc + 1) f.stk.dropLast))) := (unhide HS0).trans (stepI_8b p st X0.length f ka b (by simpa using hy))
      obtain ⟨⟨ρ', hJ⟩, c7, f7⟩ := (unhide HA3).jump hfi3 hxi3 (f.pc + 1)
      obtain ⟨t9, ft9⟩ := hJ.tickA.2
      have HJ := hide (show MaA _ _ _ _ _ _ _ (goF st X0.length f (f.pc + 1) f.stk.dropLast) _ _ _ _ _ from by
       have e : goF (setF st X0.length f f.loc f.stk.dropLast) X0.length { f with loc := f.loc, stk := f.stk.dropLast } (f.pc + 1) f.stk.dropLast = goF st X0.length f (f.pc + 1) f.stk.dropLast := by unfold goF setF; simp [List.set_set]
       rw [← e]; exact hJ)
      have t9' : (w3.setCell ⟨x.fb, 7, none⟩ (.int .i64 ((f.pc : Int) + 1))).cell? ⟨mb, 9, none⟩ = some (.int .i64 (st.steps : Int)) := t9
      have ft9' : (w3.setCell ⟨x.fb, 7, none⟩ (.int .i64 ((f.pc : Int) + 1))).frozen? ⟨mb, 9, none⟩ = false := ft9
      clear hJ t9 ft9
      go_wp2_with fail
      exact work_next (unhide HR).1 (unhide HR).2 (unhide HSM2) (unhide HJ) rfl (unhide HLT) h9
    | false =>
    cases o18 : op == 18 with
    | true =>
     obtain rfl : op = 18 := by simpa using o18
     obtain ⟨a0, a1⟩ := (unhide HD).2.2.jmp (.inr (.inr rfl))
     obtain ⟨ka, rfl⟩ : ∃ ka : Nat, a = (ka : Int) := ⟨a.toNat, by omega⟩
     have hs1 := (unhide HD).1.stk.s1 (by omega)
     have hsl := (unhide HD).1.sl
     have HST := hide (top_snoc (l := f.stk) hs1)
     have hdl : f.stk.dropLast.length = f.stk.length - 1 := List.length_dropLast
     go_wp2_with fail
     have F2 := (unhide HA2).fr X0.length f x hfi hxi
     have hP0 := ma_pop _ A x.fb x.mc (f.pc : Int) x.vl f.loc x.vs f.stk.dropLast (topV f.stk) w2 (by rw [← unhide HST]; exact F2.fr) (by omega)
     refine hP0.mono ?_
     rintro e w3 hP
     have B3 := (unhide HBI).mods hP.choose_spec.2.2.2 (by omega)
     obtain ⟨rfl, ρ3, vs3, hA3⟩ := (unhide HA2).pop hfi hxi (unhide HST) hP
     have HA3 := hide hA3
     have j13 : w3.cell? ⟨bI, 1, none⟩ = some (.int .i64 ((ka : Nat) : Int)) := B3.cell 1
     have hfi3 := setF_at hfi f.loc f.stk.dropLast
     have hxi3 := set_at hxi { x with vs := vs3 }
     unfold encV
     clear F2 hP0 hP hA3 HST
     cases hy : (topV f.stk).obj with
     | none =>
      have HSM2 : Hid (stepM p fuel st = .inl (tick (goF st X0.length f ka f.stk.dropLast))) := (unhide HS0).trans (stepI_18a p st X0.length f ka b hy)
      unfold objP
      obtain ⟨⟨ρ', hJ⟩, c7, f7⟩ := (unhide HA3).jump hfi3 hxi3 ka
      obtain ⟨t9, ft9⟩ := hJ.tickA.2
      have HJ := hide (show MaA _ _ _ _ _ _ _ (goF st X0.length f ka f.stk.dropLast) _ _ _ _ _ from by
       have e : goF (setF st X0.length f f.loc f.stk.dropLast) X0.length { f with loc := f.loc, stk := f.stk.dropLast } ka f.stk.dropLast = goF st X0.length f ka f.stk.dropLast := by unfold goF setF; simp [List.set_set]
       rw [← e]; exact hJ)
      have t9' : (w3.setCell ⟨x.fb, 7, none⟩ (.int .i64 ((ka : Nat) : Int))).cell? ⟨mb, 9, none⟩ = some (.int .i64 (st.steps : Int)) := t9
      clear hJ t9
      go_wp2_with fail
      exact work_next (unhide HR).1 (unhide HR).2 (unhide HSM2) (unhide HJ) rfl (unhide HLT) h9
     | some ko =>
      have HSM2 : Hid (stepM p fuel st = .inl (tick (goF st X0.length f (f.pc + 1) f.stk.dropLast))) := (unhide HS0).trans (stepI_18b p st X0.length f ka b (by rw [hy]; simp))
      unfold objP
      obtain ⟨⟨ρ', hJ⟩, c7, f7⟩ := (unhide HA3).jump hfi3 hxi3 (f.pc + 1)
      obtain ⟨t9, ft9⟩ := hJ.tickA.2
      have HJ := hide (show MaA _ _ _ _ _ _ _ (goF st X0.length f (f.pc + 1) f.stk.dropLast) _ _ _ _ _ from by
       have e : goF (setF st X0.length f f.loc f.stk.dropLast) X0.length { f with loc := f.loc, stk := f.stk.dropLast } (f.pc + 1) f.stk.dropLast = goF st X0.length f (f.pc + 1) f.stk.dropLast := by unfold goF setF; simp [List.set_set]
       rw [← e]; exact hJ)
      have t9' : (w3.setCell ⟨x.fb, 7, none⟩ (.int .i64 ((f.pc : Int) + 1))).cell? ⟨mb, 9, none⟩ = some (.int .i64 (st.steps : Int)) := t9
      have ft9' : (w3.setCell ⟨x.fb, 7, none⟩ (.int .i64 ((f.pc : Int) + 1))).frozen? ⟨mb, 9, none⟩ = false := ft9
      clear hJ t9 ft9
      go_wp2_with fail
      exact work_next (unhide HR).1 (unhide HR).2 (unhide HSM2) (unhide HJ) rfl (unhide HLT) h9
    | false =>
    cases o12 : op == 12 with
    | true =>
     obtain rfl : op = 12 := by simpa using o12
     have C := (unhide HD).2.1 rfl
     obtain ⟨a0, a1⟩ := (unhide HD).2.2.cls (by omega)
     have hmo := (unhide HD).2.2.call rfl
     have hsl := (unhide HD).1.sl
     have hcl := C.len
     have HCO := hide C.obj
     have hn0 : w2.cell? ⟨mb, 0, none⟩ = some vp := (unhide HA2).mach.cell 0
     clear C
     go_wp2_with fail
     refine (ma_find p vp a b w0 w2 mb hp (unhide HA2).bel hn0 G.sup G.sz a0 a1 hmo).mono ?_
     rintro e w3 ⟨ma, mco, mf, rfl, hG3, hb3⟩
     obtain ⟨hga, hgc, hgf⟩ := hG3
     obtain ⟨qa, _, _, qcap, rfl, _⟩ := hga
     have HA3 := hide ((unhide HA2).below hb3 (Nat.le_refl _))
     have HB3 := hide ((unhide HBI).below hb3 (unhide HBI).lt)
     obtain ⟨nA, hnA⟩ : ∃ nA, nA = (findM p a b).args.length := ⟨_, rfl⟩
     have HNA := hide hnA
     unfold methV
     rw [← hnA] at hcl ⊢
     clear hnA hgc hgf
     obtain ⟨rs, hrs⟩ : ∃ rs, rs = f.stk.take (f.stk.length - nA) := ⟨_, rfl⟩
     obtain ⟨ar, har⟩ : ∃ ar, ar = f.stk.drop (f.stk.length - nA) := ⟨_, rfl⟩
     have hrl : rs.length = f.stk.length - nA := by rw [hrs, List.length_take]; omega
     have hal' : ar.length = nA := by rw [har, List.length_drop]; omega
     have HSM0 := hide ((unhide HS0).trans (stepI_12 p st X0.length f a b))
     have HRS := hide (And.intro hrs har)
     go_wp2_with fail
     have F3 := (unhide HA3).fr X0.length f x hfi hxi
     refine (ma_take w0.heap.size A x.fb x.mc (f.pc : Int) x.vl f.loc x.vs f.stk nA w3 F3.fr (by omega) (by omega)).mono ?_
     rintro e w4 ⟨ta, tcap, vs4, rfl, htc, hnil, htg, hrd4, hF4, hob4, hM4⟩
     rw [← hrs] at hF4
     rw [← har] at hrd4
     have hxa : ∀ ad, ta = some ad → ∀ j u, (encL A ar)[j]? = some u → ad.block ≠ x.fb := fun ad e j u hu hbk => by
      have hj : j < (encL A ar).length := (List.getElem?_eq_some_iff.1 hu).1
      rw [encL_len, hal'] at hj
      obtain ⟨g4, hg4, hv4⟩ := htg (by omega)
      rw [e] at hg4
      obtain rfl := Option.some.inj hg4
      exact own_ne F3.fr.st F3.fr.blk tv_ne_fr (by rw [hv4]; exact congrArg some hbk)
     have okr : ∀ v ∈ rs, okV A v := fun v hv => F3.oks v (by rw [hrs] at hv; exact List.mem_of_mem_take hv)
     have oka : ∀ v ∈ ar, okV A v := fun v hv => F3.oks v (by rw [har] at hv; exact List.mem_of_mem_drop hv)
     obtain ⟨ρ4, hA4⟩ := (unhide HA3).upd hfi hxi hM4 (fun k _ e => .inl (e ▸ F3.r0)) (pc := f.pc) (loc := f.loc) (stk := rs) hF4 (.inl hob4) F3.okl okr
     have HA4 := hide hA4
     have HB4 := hide ((unhide HB3).mods hM4 (by omega))
     have HRD4 := hide hrd4
     have HXA := hide hxa
     have HNIL := hide hnil
     have HOKA := hide oka
     have hfi4 := set_at hfi { f with pc := f.pc, loc := f.loc, stk := rs }
     have hxi4 := set_at hxi { x with vs := vs4 }
     have HSTR := hide (top_snoc (l := rs) (by omega))
     have hdr : rs.dropLast.length = rs.length - 1 := List.length_dropLast
     have hoyr := topV_ok okr
     clear hrs har F3 htg hrd4 hF4 hob4 hM4 hA4 hxa hnil oka okr
     go_wp2_with fail
     have F4 := (unhide HA4).fr X0.length _ _ hfi4 hxi4
     refine (ma_pop w0.heap.size A x.fb x.mc (f.pc : Int) x.vl f.loc vs4 rs.dropLast (topV rs) w4 (by rw [← unhide HSTR]; exact F4.fr) (by omega)).mono ?_
     rintro e w5 hP5
     have hM5 := hP5.choose_spec.2.2.2
     obtain ⟨rfl, ρ5, vs5, hA5⟩ := (unhide HA4).pop hfi4 hxi4 (unhide HSTR) hP5
     have HRD5 : Hid (∀ ad, ta = some ad → ∀ j u, (encL A ar)[j]? = some u → w5.cell? (ad.add j) = some u) := fun ad e j u hu => hM5.cell ((unhide HRD4) ad e j u hu) (by rw [add_block]; exact (unhide HXA) ad e j u hu)
     have HB5 := hide ((unhide HB4).mods hM5 (by omega))
     have HA5 : Hid (∃ X5, (X5[X0.length]? = some { x with vs := vs5 }) ∧ X5.length = X0.length + 1 ∧ MaA w0 w5 ρ5 mb vp fuel ask (goF st X0.length f f.pc rs.dropLast) A X5 Y (.slice (some ⟨g, 0, none⟩) (X0 ++ [x]).length rcap) vpr) := by
      refine ⟨_, set_at hxi4 _, by simp, ?_⟩
      have e5 : setF { st with frames := st.frames.set X0.length { f with pc := f.pc, loc := f.loc, stk := rs } } X0.length { f with pc := f.pc, loc := f.loc, stk := rs } f.loc rs.dropLast = goF st X0.length f f.pc rs.dropLast := by unfold setF goF; simp [List.set_set]
      rw [← e5]
      exact hA5
     have he5 : encV A (topV rs) = [.int .i64 (topV rs).kind, .int .i64 (topV rs).num, objP A (topV rs).obj] := rfl
     rw [he5]
     clear F4 hP5 hM5 hA5 he5
     have hsm := unhide HSM0
     unfold callP at hsm
     dsimp only at hsm
     rw [← unhide HNA, ← (unhide HRS).1, ← (unhide HRS).2] at hsm
     have hlenf : st.frames.length = X0.length + 1 := by have := (unhide HX).2.2; rw [← this]; simp
     cases hy : (topV rs).obj with
     | none =>
      rw [hy] at hsm
      have hR := work_end (unhide HR).2 hsm
      obtain ⟨X5, _, _, hA5⟩ := unhide HA5
      have HF : Hid (WorkR w0 mb vp fuel ask R w5 (.returned (.int .i64 2))) := by
       rw [hR]
       exact ⟨rfl, A, ρ5, _, _, _, _, hA5⟩
      unfold objP
      clear hR hA5 hsm
      go_wp2_with fail
      rw [Exit.noGoto_ret]
      go_ret
      exact unhide HF
     | some ko =>
      rw [hy] at hsm
      dsimp only at hsm
      have hko : ko < A.length := hoyr ko hy
      obtain ⟨ob, hob⟩ : ∃ ob, A[ko]? = some ob := ⟨_, List.getElem?_eq_getElem hko⟩
      have hpo : objP A (some ko) = .pointer (some ⟨ob, 0, none⟩) := by
       show Value.pointer (some ⟨A.getD ko 0, 0, none⟩) = _
       rw [List.getD_eq_getElem?_getD, hob]; rfl
      rw [hpo]
      obtain ⟨X5, hx5, hl5, hA5⟩ := unhide HA5
      have n35 : w5.cell? ⟨mb, 3, none⟩ = some (.slice (some ⟨g, 0, none⟩) (X0.length + 1) rcap) := by
       have := hA5.mach.cell 3
       rw [this]
       show some (Value.slice _ (X0 ++ [x]).length _) = _
       rw [List.length_append]; rfl
      by_cases h30 : X0.length + 1 = 30
      ·rw [if_pos (by omega)] at hsm
       have hR := work_end (unhide HR).2 hsm
       have HF : Hid (WorkR w0 mb vp fuel ask R w5 (.returned (.int .i64 7))) := by
        rw [hR]
        exact ⟨rfl, A, ρ5, _, _, _, _, hA5⟩
       have h30' : ((X0.length : Int) + 1 == 30) = true := beq_iff_eq.2 (by omega)
       clear hR hA5 hsm hpo hy h30
       go_wp2_with fail
       rw [Exit.noGoto_ret]
       go_ret
       exact unhide HF
      ·rw [if_neg (by omega)] at hsm
       have h30' : ((X0.length : Int) + 1 == 30) = false := beq_eq_false_iff_ne.2 (by omega)
       have hfi5 : (goF st X0.length f f.pc rs.dropLast).frames[X0.length]? = some { f with pc := f.pc, stk := rs.dropLast } := set_at hfi _
       obtain ⟨⟨ρ6, hJ⟩, c7, f7⟩ := hA5.jump hfi5 hx5 (f.pc + 1)
       have c7' : w5.cell? ⟨x.fb, 7, none⟩ = some (.int .i64 (f.pc : Int)) := c7
       have f7' : w5.frozen? ⟨x.fb, 7, none⟩ = false := f7
       obtain ⟨o1, o2, o3, o4, o5⟩ := (unhide HCO) ko (by rw [← unhide HNA, ← (unhide HRS).1]; exact hy)
       have hla := hJ.la
       obtain ⟨oo, hoo⟩ : ∃ oo, st.objs[ko]? = some oo := ⟨_, List.getElem?_eq_getElem (by have : A.length = st.objs.length := hla; omega)⟩
       have hoa : objAt st ko = oo := by unfold objAt; rw [hoo]; rfl
       rw [hoa] at o1 o2 o3 o4 o5 hsm
       have hM6 : Mods (fun k => k = x.fb) w5 (w5.setCell ⟨x.fb, 7, none⟩ (.int .i64 ((f.pc + 1 : Nat) : Int))) := (Mods.refl (fun k => k = x.fb) w5).setCell (p := ⟨x.fb, 7, none⟩) (fun _ => rfl) _
       have HRD6 : Hid (∀ ad, ta = some ad → ∀ j u, (encL A ar)[j]? = some u → (w5.setCell ⟨x.fb, 7, none⟩ (.int .i64 ((f.pc + 1 : Nat) : Int))).cell? (ad.add j) = some u) := fun ad e j u hu => hM6.cell ((unhide HRD5) ad e j u hu) (by rw [add_block]; exact (unhide HXA) ad e j u hu)
       have B6 := (unhide HB5).mods hM6 (by omega)
       have j26 : (w5.setCell ⟨x.fb, 7, none⟩ (.int .i64 ((f.pc : Int) + 1))).cell? ⟨bI, 2, none⟩ = some (.int .i64 b) := B6.cell 2
       have e6 : goF (goF st X0.length f f.pc rs.dropLast) X0.length { f with pc := f.pc, stk := rs.dropLast } (f.pc + 1) rs.dropLast = goF st X0.length f (f.pc + 1) rs.dropLast := by unfold goF; simp [List.set_set]
       have HJ := hide (show MaA w0 (w5.setCell ⟨x.fb, 7, none⟩ (.int .i64 ((f.pc + 1 : Nat) : Int))) ρ6 mb vp fuel ask (goF st X0.length f (f.pc + 1) rs.dropLast) A _ Y _ vpr from e6 ▸ hJ)
       have HSM2 := hide hsm
       have HN := hide (show X5.length ≤ 4194304 by omega)
       clear hJ hA5 hsm hpo hy h30 hM6 B6 e6 c7 f7 hla hoa
       go_wp2_with fail
       have hbg := ma_begin p vp w0 _ ρ6 mb fuel ask _ A _ Y _ vpr (unhide HJ) hp G.sup G.sz ko oo ob hoo hob b ar ta tcap o1 o2 o3 (by rw [hal']; exact unhide HNIL) (unhide HRD6) (by rw [hal', unhide HNA]; exact o4) o5 (unhide HOKA) (by rw [List.length_set]; exact unhide HN)
       rw [hal'] at hbg
       refine hbg.mono ?_
       rintro e w7 ⟨rfl, ρ7, X7, Y7, vr7, vpr7, hA7⟩
       obtain ⟨t9, ft9⟩ := hA7.tickA.2
       have t9' : w7.cell? ⟨mb, 9, none⟩ = some (.int .i64 (st.steps : Int)) := t9
       have HA7 := hide hA7
       clear hA7 hbg t9
       go_wp2_with fail
       exact work_next (unhide HR).1 (unhide HR).2 (unhide HSM2) (unhide HA7) rfl (unhide HLT) h9
    | false =>
    cases o13 : op == 13 with
    | true =>
     obtain rfl : op = 13 := by simpa using o13
     have hs1 := (unhide HD).1.stk.s1 (by omega)
     have hsl := (unhide HD).1.sl
     have HST := hide (top_snoc (l := f.stk) hs1)
     have hdl : f.stk.dropLast.length = f.stk.length - 1 := List.length_dropLast
     go_wp2_with fail
     have F2 := (unhide HA2).fr X0.length f x hfi hxi
     have hoy := topV_ok F2.oks
     have hP0 := ma_pop _ A x.fb x.mc (f.pc : Int) x.vl f.loc x.vs f.stk.dropLast (topV f.stk) w2 (by rw [← unhide HST]; exact F2.fr) (by omega)
     refine hP0.mono ?_
     rintro e w3 hP
     obtain ⟨rfl, ρ3, vs3, hA3⟩ := (unhide HA2).pop hfi hxi (unhide HST) hP
     have HA3 := hide hA3
     clear F2 hP0 hP hA3 HST
     go_wp2_with fail
     have hx0 := (unhide HX).1
     have hfr3 : (setF st X0.length f f.loc f.stk.dropLast).frames = fs ++ [{ f with loc := f.loc, stk := f.stk.dropLast }] := by
      show st.frames.set _ _ = _
      rw [hfs, hx0, List.set_append_right _ _ (Nat.le_refl _), Nat.sub_self]; rfl
     refine (ma_end w0 w3 ρ3 mb vp fuel ask _ A _ Y _ vpr (unhide HA3) (topV f.stk) hoy fs _ hfr3 (by rw [List.length_set]; simp; omega) (fun q hq => ?_)).mono ?_
     ·rcases List.mem_or_eq_of_mem_set hq with h | rfl
      ·exact (unhide HSO).all q h
      ·show f.stk.dropLast.length ≤ _
       omega
     rintro e w4 ⟨rfl, ρ4, X4, Y4, vr4, vpr4, hA4⟩
     have HSM2 : Hid (stepM p fuel st = .inl (tick (endSt (setF st X0.length f f.loc f.stk.dropLast) (topV f.stk)))) := (unhide HS0).trans (stepI_13 p st X0.length f a b)
     have hst4 : (endSt (setF st X0.length f f.loc f.stk.dropLast) (topV f.stk)).steps = st.steps := by
      unfold endSt
      split <;> rfl
     obtain ⟨t9, ft9⟩ := hA4.tickA.2
     rw [hst4] at t9
     have HA4 := hide hA4
     have HH4 := hide hst4
     clear hA4 hfr3 hst4
     go_wp2_with fail
     exact work_next (unhide HR).1 (unhide HR).2 (unhide HSM2) (unhide HA4) (unhide HH4) (unhide HLT) h9
    | false =>
     have ho : op ≠ 7 ∧ op ≠ 8 ∧ op ≠ 12 ∧ op ≠ 13 ∧ op ≠ 18 := ⟨by simpa using o7, by simpa using o8, by simpa using o12, by simpa using o13, by simpa using o18⟩
     have HO := hide ho
     clear ho
     go_wp2_with fail
     refine (ma_do p vp w0 w2 ρ mb fuel ask st A (X0 ++ [x]) Y _ vpr X0.length f x op a b (unhide HA2) hfi hxi G hp (unhide HD).2.2 (unhide HD).1 (unhide HO)).mono ?_
     rintro e w3 ⟨rfl, A3, ρ3, X3, Y3, vr3, vpr3, hfb3, hA3⟩
     have HSM := hide ((unhide HS0).trans (stepI_do p st X0.length f op a b (unhide HO)))
     obtain ⟨loc3, stk3, hf3, hst3, hln3⟩ := doP_frame p st X0.length f op a b hfi
     obtain ⟨x3, hx3, e3⟩ := Option.map_eq_some_iff.1 hfb3
     generalize doP p st X0.length f op a b = dp at *
     cases hk : dp.2 != 0 with
     | true =>
      have hR := work_end (unhide HR).2 ((unhide HSM).trans (if_neg (by simpa using hk)))
      have HF : Hid (WorkR w0 mb vp fuel ask R w3 (.returned (.int .i64 dp.2))) := by
       rw [hR]
       exact ⟨rfl, A3, ρ3, _, _, _, _, hA3⟩
      clear hR hA3 hf3 hx3 e3 hfb3 hst3 hln3 HSM
      go_wp2_with fail
      rw [Exit.noGoto_ret]
      go_ret
      exact unhide HF
     | false =>
      have hk0 : dp.2 = 0 := by simpa using hk
      have HSM2 := hide ((unhide HSM).trans (if_pos hk0))
      obtain ⟨⟨ρ', hJ⟩, c7, f7⟩ := hA3.jump hf3 hx3 (f.pc + 1)
      rw [e3] at hJ c7 f7
      obtain ⟨t9, ft9⟩ := hJ.tickA.2
      have hinc : incF dp.1 X0.length = goF dp.1 X0.length { f with loc := loc3, stk := stk3 } (f.pc + 1) stk3 := by
       unfold incF
       rw [hf3]; rfl
      have HJ := hide hJ
      have t9' : (w3.setCell ⟨x.fb, 7, none⟩ (.int .i64 ((f.pc : Int) + 1))).cell? ⟨mb, 9, none⟩ = some (.int .i64 (st.steps : Int)) := by
       rw [← hst3]; exact t9
      have ft9' : (w3.setCell ⟨x.fb, 7, none⟩ (.int .i64 ((f.pc : Int) + 1))).frozen? ⟨mb, 9, none⟩ = false := ft9
      have c7' : w3.cell? ⟨x.fb, 7, none⟩ = some (.int .i64 (f.pc : Int)) := c7
      rw [hinc] at HSM2
      have HST3 := hide hst3
      clear hJ t9 ft9 hinc hA3 hf3 hx3 e3 hfb3 hst3 hln3 HSM c7 hk0
      go_wp2_with fail
      exact work_next (unhide HR).1 (unhide HR).2 (unhide HSM2) (unhide HJ) (unhide HST3) (unhide HLT) h9
end Go.Proofs.YtiiokkllmchohaaGreat
