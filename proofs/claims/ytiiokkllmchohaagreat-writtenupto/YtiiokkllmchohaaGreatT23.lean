/- The machine: do, for GET, PUT. -/
import Derived.Test.YtiiokkllmchohaaGreatT22
/- MacV -/
namespace Go.Proofs.YtiiokkllmchohaaGreat
open Go.RowKit Go.Shelf
attribute [local go_sem ↓] Go.wp_at_zero Go.wp_at_succ
attribute [local go_sem] frz_drew
attribute [local go_sem] fld_num fld_obj

section
variable {w0 w w' : World} {ρ : Nat → Nat × Nat} {mb : Nat} {vp : Value} {fuel : Int} {ask : Bool} {st : MaSt} {A : List Nat} {X : List FrX} {Y : List Value} {vr vpr : Value} {i : Nat} {f : MFr} {x : FrX}
theorem MaA.pop (h : MaA w0 w ρ mb vp fuel ask st A X Y vr vpr) (hf : st.frames[i]? = some f) (hx : X[i]? = some x) {s1 : List LVal} {y : LVal} (hs : f.stk = s1 ++ [y]) {e : Ending} (hR : PopR w0.heap.size A x.fb x.mc (f.pc : Int) x.vl f.loc x.vs s1 y w w' e) :
    e = .returned (.agg (encV A y).toArray) ∧ ∃ ρ' vs', MaA w0 w' ρ' mb vp fuel ask (setF st i f f.loc s1) A (X.set i { x with vs := vs' }) Y vr vpr := by
  obtain ⟨vs', he, hF, hob, hM⟩ := hR.mods
  have F := h.fr i f x hf hx
  obtain ⟨ρ', hA⟩ := h.upd hf hx hM F.within hF (.inl hob) F.okl (fun v hv => F.oks v (by rw [hs]; exact List.mem_append.2 (.inl hv)))
  exact ⟨he, ρ', vs', hA⟩
theorem set_at {α : Type} {l : List α} {i : Nat} {a : α} (h : l[i]? = some a) (b : α) : (l.set i b)[i]? = some b := List.getElem?_set_self (List.getElem?_eq_some_iff.1 h).1
theorem setF_at (hf : st.frames[i]? = some f) (loc stk : List LVal) : (setF st i f loc stk).frames[i]? = some { f with loc := loc, stk := stk } := set_at hf _
theorem setF_setF (loc stk loc2 stk2 : List LVal) : setF (setF st i f loc stk) i { f with loc := loc, stk := stk } loc2 stk2 = setF st i f loc2 stk2 := by
  unfold setF
  simp [List.set_set]
end
def objAt (st : MaSt) (k : Nat) : LObj := (st.objs[k]?).getD ⟨0, []⟩
def getP (st : MaSt) (i : Nat) (f : MFr) (b : Int) : MaSt × Int := match (topV f.stk).obj with
  | none => (setF st i f f.loc f.stk.dropLast, 2)
  | some k => (setF st i f f.loc (f.stk.dropLast ++ [(objAt st k).flds.getD b.toNat nothV]), 0)
section
variable (p : List LClass) (vp : Value) (w0 w : World) (ρ : Nat → Nat × Nat) (mb : Nat) (fuel : Int) (ask : Bool) (st : MaSt) (A : List Nat) (X : List FrX) (Y : List Value) (vr vpr : Value) (i : Nat) (f : MFr) (x : FrX) (a b : Int)
set_option maxHeartbeats 1000000 in
set_option maxRecDepth 100000 in
theorem do_get (h : MaA w0 w ρ mb vp fuel ask st A X Y vr vpr) (hf : st.frames[i]? = some f) (hx : X[i]? = some x) (S : StkOk 10 f.stk) (hsl : f.stk.length < 4194303) (b0 : 0 ≤ b) (hfl : ∀ k, (topV f.stk).obj = some k → b.toNat < (objAt st k).flds.length) (hfl4 : ∀ k, (objAt st k).flds.length ≤ 4194304) :
    Calls Tryz.prog 173 #[.pointer (some ⟨mb, 0, none⟩), .pointer (some ⟨x.fb, 0, none⟩), .agg #[.int .i64 10, .int .i64 a, .int .i64 b]] w fun e w' => DoX i x.fb w0 mb vp fuel ask (getP st i f b).1 (getP st i f b).2 w' e := by
  have hs1 := S.s1 (by omega)
  have hst := top_snoc (l := f.stk) (by omega)
  have hdl : f.stk.dropLast.length = f.stk.length - 1 := List.length_dropLast
  have hbel := box_below w (.cells #[.int .i64 10, .int .i64 a, .int .i64 b] 60)
  have B0 := Blk.new w #[.int .i64 10, .int .i64 a, .int .i64 b] 60
  have H := hide (h.below hbel (Nat.le_refl _))
  have F0 := h.fr i f x hf hx
  have hoy : okV A (topV f.stk) := topV_ok F0.oks
  have hla := h.la
  have hly := h.ly
  have HG : Hid (∀ k, (topV f.stk).obj = some k → getP st i f b = (setF st i f f.loc (f.stk.dropLast ++ [(objAt st k).flds.getD b.toNat nothV]), 0)) := fun k hk => by unfold getP; rw [hk]
  have HGN : Hid ((topV f.stk).obj = none → getP st i f b = (setF st i f f.loc f.stk.dropLast, 2)) := fun hk => by unfold getP; rw [hk]
  generalize getP st i f b = gp at *
  have HST := hide hst
  have hxb := F0.fr.blk.lt
  clear h hst F0
  go_enter Tryz.func173, Tryz.ntmps173
  go_wp2_with fail
  generalize w.alloc _ = W at *
  have F := (unhide H).fr i f x hf hx
  have hP0 := ma_pop _ A x.fb x.mc (f.pc : Int) x.vl f.loc x.vs f.stk.dropLast (topV f.stk) W (by rw [← unhide HST]; exact F.fr) (by omega)
  refine hP0.mono ?_
  rintro e w1 hP
  have B1 := B0.mods hP.choose_spec.2.2.2 (by omega)
  obtain ⟨rfl, ρ1, vs1, hA1⟩ := (unhide H).pop hf hx (unhide HST) hP
  have HA1 := hide hA1
  have q2 : w1.cell? ⟨w.heap.size, 2, none⟩ = some (.int .i64 b) := B1.cell 2
  unfold encV
  clear F hP0 hP hA1
  cases hy : (topV f.stk).obj with
  | none =>
    have HF : Hid (DoX i x.fb w0 mb vp fuel ask gp.1 gp.2 w1 (.returned (.int .i64 2))) := by
      show DoX _ _ _ _ _ _ _ _ _ _ _
      rw [(unhide HGN) hy]
      exact ⟨rfl, A, ρ1, _, _, _, _, (by first | exact fb_same hx | exact fb_set hx _ | exact fb_set2 hx _ _), unhide HA1⟩
    unfold objP
    clear hy
    go_wp2_with fail
    go_ret
    exact unhide HF
  | some k =>
    have hk : k < A.length := hoy k hy
    obtain ⟨ob, hob⟩ : ∃ ob, A[k]? = some ob := ⟨_, List.getElem?_eq_getElem hk⟩
    obtain ⟨o, ho⟩ : ∃ o, st.objs[k]? = some o := ⟨_, List.getElem?_eq_getElem (by omega)⟩
    obtain ⟨v, hv⟩ : ∃ v, Y[k]? = some v := ⟨_, List.getElem?_eq_getElem (by omega)⟩
    have hoa : objAt st k = o := by unfold objAt; rw [ho]; rfl
    have hbl := hfl k hy
    have hf4 := hfl4 k
    rw [hoa] at hbl hf4
    obtain ⟨bn, rfl⟩ : ∃ bn : Nat, b = (bn : Int) := ⟨b.toNat, by omega⟩
    rw [Int.toNat_natCast] at hbl
    have O := (unhide HA1).ob k o ob v ho hob hv
    obtain ⟨g, cap, rfl, hcap, hgb, hrd⟩ := own_read O.row (by omega)
    obtain ⟨u, hu⟩ : ∃ u, o.flds[bn]? = some u := ⟨_, List.getElem?_eq_getElem hbl⟩
    have o1 : w1.cell? ⟨ob, 1, none⟩ = some (.slice (some ⟨g, 0, none⟩) o.flds.length cap) := O.blk.cell 1
    have r0 : w1.cell? ⟨g, bn * 3, none⟩ = some (.int .i64 u.kind) := by rw [hrd _ (by omega)]; exact encL_get A _ _ u hu 0 (by omega)
    have r1 : w1.cell? ⟨g, bn * 3 + 1, none⟩ = some (.int .i64 u.num) := by rw [hrd _ (by omega)]; exact encL_get A _ _ u hu 1 (by omega)
    have r2 : w1.cell? ⟨g, bn * 3 + 2, none⟩ = some (objP A u.obj) := by rw [hrd _ (by omega)]; exact encL_get A _ _ u hu 2 (by omega)
    have F1 := (unhide HA1).fr i _ _ (setF_at hf f.loc f.stk.dropLast) (set_at hx { x with vs := vs1 })
    have hrne : ¬ (g = x.fb ∨ vs1.ownBlock = some g) := fun e => by
      have h4 := O.r4 g hgb
      rcases e with e | e
      · have := F1.r0; rw [← e] at this; rw [h4] at this; cases this
      · have := F1.r2 g e; rw [h4] at this; cases this
    have hone' : ¬ (ob = x.fb ∨ vs1.ownBlock = some ob) := fun e => by
      have h4 := O.r3
      rcases e with e | e
      · have := F1.r0; rw [← e] at this; rw [h4] at this; cases this
      · have := F1.r2 ob e; rw [h4] at this; cases this
    have hbne : ¬ (w.heap.size = x.fb ∨ vs1.ownBlock = some w.heap.size) := fun e => by
      rcases e with e | e
      · omega
      · exact own_ne F1.fr.st B1 (by decide) e
    have hpo : objP A (some k) = .pointer (some ⟨ob, 0, none⟩) := by
      show Value.pointer (some ⟨A.getD k 0, 0, none⟩) = _
      rw [List.getD_eq_getElem?_getD, hob]; rfl
    have hgp := (unhide HG) k hy
    have hgx : (objAt st k).flds.getD (bn : Int).toNat nothV = u := by rw [hoa, Int.toNat_natCast, List.getD_eq_getElem?_getD, hu]; rfl
    rw [hgx] at hgp
    have hou : okV A u := O.ok u (List.mem_of_getElem? hu)
    have hev : encV A u = [.int .i64 u.kind, .int .i64 u.num, objP A u.obj] := rfl
    have n0 : (0 : Int) ≤ (bn : Int) := by omega
    have n1 : (bn : Int) < (o.flds.length : Int) := by omega
    have HF1 := hide F1
    have HGP := hide hgp
    rw [hpo]
    clear hrd O hu hoa ho hob hv hy hgx hpo hgp F1 HG HGN hfl hfl4
    go_wp2_with fail
    refine wp_region_held_drew (S := (fun w' => w'.cell? ⟨ob, 1, none⟩ = some (.slice (some ⟨g, 0, none⟩) o.flds.length cap) ∧ w'.cell? ⟨w.heap.size, 2, none⟩ = some (.int .i64 (bn : Int)) ∧ w'.cell? ⟨g, bn * 3, none⟩ = some (.int .i64 u.kind) ∧ w'.cell? ⟨g, bn * 3 + 1, none⟩ = some (.int .i64 u.num) ∧ w'.cell? ⟨g, bn * 3 + 2, none⟩ = some (objP A u.obj))) (by kernel_rfl) ?_ (fun hHeld => ?_)
    · exact ⟨o1, q2, r0, r1, r2⟩
    refine take_x (some 46) 0 rfl rfl ?_
    try simp only [Act.put, List.setIfInBounds_toArray, List.set_cons_zero, List.set_cons_succ]
    refine take_x (some 47) 1 rfl rfl ?_
    try simp only [Act.put, List.setIfInBounds_toArray, List.set_cons_zero, List.set_cons_succ]
    refine take_x (some 48) 2 rfl rfl ?_
    try simp only [Act.put, List.setIfInBounds_toArray, List.set_cons_zero, List.set_cons_succ]
    refine take_x (some 49) 3 rfl rfl ?_
    try simp only [Act.put, List.setIfInBounds_toArray, List.set_cons_zero, List.set_cons_succ]
    refine take_x (some 50) 4 rfl rfl ?_
    try simp only [Act.put, List.setIfInBounds_toArray, List.set_cons_zero, List.set_cons_succ]
    refine take_x (some 51) 5 rfl rfl ?_
    try simp only [Act.put, List.setIfInBounds_toArray, List.set_cons_zero, List.set_cons_succ]
    refine take_x (some 52) 6 rfl rfl ?_
    try simp only [Act.put, List.setIfInBounds_toArray, List.set_cons_zero, List.set_cons_succ]
    refine take_x (some 53) 7 rfl rfl ?_
    try simp only [Act.put, List.setIfInBounds_toArray, List.set_cons_zero, List.set_cons_succ]
    refine take_x (some 54) 8 rfl rfl ?_
    try simp only [Act.put, List.setIfInBounds_toArray, List.set_cons_zero, List.set_cons_succ]
    refine wpAnyH_ready (rs := [9]) (by kernel_rfl) (by simp) ?_
    refine AllReadyH.cons rfl (fun K hK => ?_) AllReadyH.nil
    go_simp
    have hP1 := ma_push _ A x.fb x.mc (f.pc : Int) x.vl f.loc vs1 f.stk.dropLast u w1.drew ((unhide HF1).fr.below (Below.refl w1.heap.size w1).drew (Nat.le_refl _)) (unhide HA1).bel.size (by omega)
    rw [hev] at hP1
    refine hP1.mono ?_
    rintro e w2 hP
    have hm0 : Mods (fun k => k = x.fb ∨ vs1.ownBlock = some k ∨ x.vl.ownBlock = some k) w1 w1.drew := (Mods.refl _ w1).drew
    have hMv := hP.move hm0 (.inl rfl)
    have hMw := hP.choose_spec.2.2.1
    obtain ⟨rfl, ρ2, vs2, hA2⟩ := (unhide HA1).move (setF_at hf f.loc f.stk.dropLast) (set_at hx { x with vs := vs1 }) hMv (unhide HF1).okl (fun z hz => by
      rcases List.mem_append.1 hz with hz | hz
      · exact (unhide HF1).oks z hz
      · obtain rfl := List.mem_singleton.1 hz; exact hou)
    have HF : Hid (DoX i x.fb w0 mb vp fuel ask gp.1 gp.2 w2 (.returned (.int .i64 0))) := by
      show DoX _ _ _ _ _ _ _ _ _ _ _
      rw [unhide HGP]
      have he := setF_setF (st := st) (i := i) (f := f) f.loc f.stk.dropLast f.loc (f.stk.dropLast ++ [u])
      rw [← he]
      exact ⟨rfl, A, ρ2, _, _, _, _, (by first | exact fb_same hx | exact fb_set hx _ | exact fb_set2 hx _ _), hA2⟩
    clear hA2 hMv hP1 hm0
    go_wp2_with fail
    refine hK.out _ _ ⟨hMw.cell (w := w1.drew) o1 hone', hMw.cell (w := w1.drew) q2 hbne, hMw.cell (w := w1.drew) r0 hrne, hMw.cell (w := w1.drew) r1 hrne, hMw.cell (w := w1.drew) r2 hrne⟩ (fun hHeld => ?_)
    clear hK K
    try simp only [Act.put, List.setIfInBounds_toArray, List.set_cons_zero, List.set_cons_succ]
    refine wpAnyH_done (by kernel_rfl) ?_ _
    clear hP hMw
    go_wp2_with fail
    go_ret
    exact unhide HF
end
end Go.Proofs.YtiiokkllmchohaaGreat
/- The machine: do, for PUT. -/
namespace Go.Proofs.YtiiokkllmchohaaGreat
open Go.RowKit Go.Shelf
attribute [local go_sem ↓] Go.wp_at_zero Go.wp_at_succ
attribute [local go_sem] frz_drew
attribute [local go_sem] fld_num fld_obj

section
variable {w0 w w' : World} {ρ : Nat → Nat × Nat} {mb : Nat} {vp : Value} {fuel : Int} {ask : Bool} {st : MaSt} {A : List Nat} {X : List FrX} {Y : List Value} {vr vpr : Value} {i : Nat} {f : MFr} {x : FrX}
theorem MaA.putF (h : MaA w0 w ρ mb vp fuel ask st A X Y vr vpr) {k : Nat} {o : LObj} {v : Value} (ho : st.objs[k]? = some o) (hv : Y[k]? = some v) {S : Nat → Prop} (hM : Mods S w w') (hS : ∀ j, j < w.heap.size → S j → ρ j = (4, k)) {fl : List LVal} (hrow : w'.ownsRow w0.heap.size 170 3 v fl.length (encL A fl)) (ok : ∀ u ∈ fl, okV A u) :
    MaA w0 w' ρ mb vp fuel ask { st with objs := st.objs.set k { o with flds := fl } } A X Y vr vpr := by
  have hq : ∀ j, j < w.heap.size → S j → ∀ r, r ≠ (4, k) → ρ j ≠ r := fun j hj hs r hr e => hr (e.symm.trans (hS j hj hs))
  have s : Same w.heap.size ρ ρ := fun _ _ => rfl
  have hkl : k < st.objs.length := (List.getElem?_eq_some_iff.1 ho).1
  refine ⟨?_, h.base, h.rmb, own_mods h.run hM (fun g hg e => hq g (h.run.lt g hg).2 e (6, 0) (by simp) (h.rvr g hg)), h.rvr, own_mods h.prn hM (fun g hg e => hq g (h.prn.lt g hg).2 e (7, 0) (by simp) (h.rpr g hg)), h.rpr, h.lx, fun i f x hf hx => (h.fr i f x hf hx).mods hM s (fun j hj e => ⟨hq j hj e _ (by simp), hq j hj e _ (by simp), hq j hj e _ (by simp)⟩), by simpa using h.la, by simpa using h.ly, ?_, h.okt, h.bel.trans (hM.below h.bel.size (fun j hj e => hq j (Nat.lt_of_lt_of_le hj h.bel.size) e (9, 0) (by simp) (h.low j hj))), h.low⟩
  · show Blk w' mb _ (machC vp fuel ask vr (st.objs.set k _).length A st.told vpr st.steps)
    rw [List.length_set]
    exact h.mach.mods hM (fun e => hq _ h.lt e (5, 0) (by simp) h.rmb)
  · intro j o' b' v' h1 h2 h3
    by_cases hj : k = j
    · subst hj
      rw [List.getElem?_set_self hkl] at h1
      obtain rfl := Option.some.inj h1
      rw [hv] at h3
      obtain rfl := Option.some.inj h3
      have O := h.ob k o b' v ho h2 hv
      exact ⟨O.blk.mods hM (fun e => hq _ O.blk.lt e (3, k) (by simp) O.r3), O.base, hrow, O.r3, O.r4, ok⟩
    · rw [List.getElem?_set_ne hj] at h1
      exact (h.ob j o' b' v' h1 h2 h3).mods hM s (fun l hl e => ⟨hq l hl e _ (by simp), hq l hl e _ (by simp; omega)⟩)
end
def putP2 (st : MaSt) (i : Nat) (f : MFr) (b : Int) : MaSt × Int := match (topV f.stk.dropLast).obj with
  | none => (setF st i f f.loc f.stk.dropLast.dropLast, 2)
  | some k => ({ setF st i f f.loc f.stk.dropLast.dropLast with objs := st.objs.set k { objAt st k with flds := (objAt st k).flds.set b.toNat (topV f.stk) } }, 0)
section
variable (p : List LClass) (vp : Value) (w0 w : World) (ρ : Nat → Nat × Nat) (mb : Nat) (fuel : Int) (ask : Bool) (st : MaSt) (A : List Nat) (X : List FrX) (Y : List Value) (vr vpr : Value) (i : Nat) (f : MFr) (x : FrX) (a b : Int)
set_option maxHeartbeats 1000000 in
set_option maxRecDepth 100000 in
theorem do_put (h : MaA w0 w ρ mb vp fuel ask st A X Y vr vpr) (hf : st.frames[i]? = some f) (hx : X[i]? = some x) (S : StkOk 11 f.stk) (hsl : f.stk.length < 4194303) (b0 : 0 ≤ b) (hfl : ∀ k, (topV f.stk.dropLast).obj = some k → b.toNat < (objAt st k).flds.length) (hfl4 : ∀ k, (objAt st k).flds.length ≤ 4194304) :
    Calls Tryz.prog 173 #[.pointer (some ⟨mb, 0, none⟩), .pointer (some ⟨x.fb, 0, none⟩), .agg #[.int .i64 11, .int .i64 a, .int .i64 b]] w fun e w' => DoX i x.fb w0 mb vp fuel ask (putP2 st i f b).1 (putP2 st i f b).2 w' e := by
  have hs2 := S.s2 (by omega)
  have hst := top_snoc (l := f.stk) (by omega)
  have hdl : f.stk.dropLast.length = f.stk.length - 1 := List.length_dropLast
  have hst2 := top_snoc (l := f.stk.dropLast) (by omega)
  have hdl2 : f.stk.dropLast.dropLast.length = f.stk.length - 1 - 1 := by rw [List.length_dropLast, hdl]
  have hbel := box_below w (.cells #[.int .i64 11, .int .i64 a, .int .i64 b] 60)
  have B0 := Blk.new w #[.int .i64 11, .int .i64 a, .int .i64 b] 60
  have H := hide (h.below hbel (Nat.le_refl _))
  have F0 := h.fr i f x hf hx
  have hoy : okV A (topV f.stk.dropLast) := topV_ok (fun v hv => F0.oks v (dropLast_mem hv))
  have hot : okV A (topV f.stk) := topV_ok F0.oks
  have hla := h.la
  have hly := h.ly
  have HG : Hid (∀ k, (topV f.stk.dropLast).obj = some k → putP2 st i f b = ({ setF st i f f.loc f.stk.dropLast.dropLast with objs := st.objs.set k { objAt st k with flds := (objAt st k).flds.set b.toNat (topV f.stk) } }, 0)) := fun k hk => by unfold putP2; rw [hk]
  have HGN : Hid ((topV f.stk.dropLast).obj = none → putP2 st i f b = (setF st i f f.loc f.stk.dropLast.dropLast, 2)) := fun hk => by unfold putP2; rw [hk]
  generalize putP2 st i f b = gp at *
  have HST := hide hst
  have HST2 := hide hst2
  have hxb := F0.fr.blk.lt
  have hone := encV_one A (topV f.stk)
  have hvs0 : ∀ g, x.vs.ownBlock = some g → g < w.heap.size := fun g hg => (F0.fr.st.lt g hg).2
  clear h hst hst2 F0
  go_enter Tryz.func173, Tryz.ntmps173
  go_wp2_with fail
  generalize w.alloc _ = W at *
  have F := (unhide H).fr i f x hf hx
  have hP0 := ma_pop _ A x.fb x.mc (f.pc : Int) x.vl f.loc x.vs f.stk.dropLast (topV f.stk) W (by rw [← unhide HST]; exact F.fr) (by omega)
  refine hP0.mono ?_
  rintro e w1 hP
  have B1 := B0.mods hP.choose_spec.2.2.2 (by omega)
  obtain ⟨rfl, ρ1, vs1, hA1⟩ := (unhide H).pop hf hx (unhide HST) hP
  have HA1 := hide hA1
  clear F hP0 hP hA1
  go_wp2_with fail
  have F1 := (unhide HA1).fr i _ _ (setF_at hf f.loc f.stk.dropLast) (set_at hx { x with vs := vs1 })
  have hP1 := ma_pop _ A x.fb x.mc (f.pc : Int) x.vl f.loc vs1 f.stk.dropLast.dropLast (topV f.stk.dropLast) w1 (by rw [← unhide HST2]; exact F1.fr) (by omega)
  refine hP1.mono ?_
  rintro e w2 hP
  have B2 := B1.mods hP.choose_spec.2.2.2 (by omega)
  obtain ⟨rfl, ρ2, vs2, hA2⟩ := (unhide HA1).pop (setF_at hf f.loc f.stk.dropLast) (set_at hx { x with vs := vs1 }) (unhide HST2) hP
  rw [show setF (setF st i f f.loc f.stk.dropLast) i { f with loc := f.loc, stk := f.stk.dropLast } f.loc f.stk.dropLast.dropLast = setF st i f f.loc f.stk.dropLast.dropLast from setF_setF _ _ _ _] at hA2
  have HA2 := hide hA2
  have he2 : encV A (topV f.stk.dropLast) = [.int .i64 (topV f.stk.dropLast).kind, .int .i64 (topV f.stk.dropLast).num, objP A (topV f.stk.dropLast).obj] := rfl
  rw [he2]
  clear F1 hP1 hP hA2 he2
  have lB2 := B2.lt
  cases hy : (topV f.stk.dropLast).obj with
  | none =>
    have HF : Hid (∀ w3, Below w2.heap.size w2 w3 → DoX i x.fb w0 mb vp fuel ask gp.1 gp.2 w3 (.returned (.int .i64 2))) := fun w3 hb3 => by
      rw [(unhide HGN) hy]
      exact ⟨rfl, A, ρ2, _, _, _, _, (by first | exact fb_same hx | exact fb_set hx _ | exact fb_set2 hx _ _), (unhide HA2).below hb3 (Nat.le_refl _)⟩
    unfold objP
    clear hy
    go_wp2_with (refine wpList_store_blk aggVal (Blk.new w2 #[.int .i64 0, .int .i64 0, .pointer none] 170) 0 (encV A (topV f.stk)) rfl (by simp) hone (.tmp 8) (.tmp 59) rfl rfl rfl rfl ?_; intro w3 hB3 hM3 hs3; rw [putAt_all (by rfl)] at hB3)
    have hb3 : Below w2.heap.size w2 w3 := (box_below w2 _).trans (hM3.below (by simp) (fun k hk e => by omega))
    have HA3 := hide ((unhide HA2).below hb3 (Nat.le_refl _))
    have B3 := B2.below hb3 B2.lt
    have q2 : w3.cell? ⟨w.heap.size, 2, none⟩ = some (.int .i64 (b : Int)) := B3.cell 2
    have HB3 := hide hB3
    clear hM3 hs3 hB3
    go_ret
    exact (unhide HF) w3 hb3
  | some k =>
    have hk : k < A.length := hoy k hy
    obtain ⟨ob, hob⟩ : ∃ ob, A[k]? = some ob := ⟨_, List.getElem?_eq_getElem hk⟩
    obtain ⟨o, ho⟩ : ∃ o, st.objs[k]? = some o := ⟨_, List.getElem?_eq_getElem (by omega)⟩
    obtain ⟨v, hv⟩ : ∃ v, Y[k]? = some v := ⟨_, List.getElem?_eq_getElem (by omega)⟩
    have hoa : objAt st k = o := by unfold objAt; rw [ho]; rfl
    have hbl := hfl k hy
    have hf4 := hfl4 k
    rw [hoa] at hbl hf4
    obtain ⟨bn, rfl⟩ : ∃ bn : Nat, b = (bn : Int) := ⟨b.toNat, by omega⟩
    rw [Int.toNat_natCast] at hbl
    have hpo : objP A (some k) = .pointer (some ⟨ob, 0, none⟩) := by
      show Value.pointer (some ⟨A.getD k 0, 0, none⟩) = _
      rw [List.getD_eq_getElem?_getD, hob]; rfl
    have hgp := (unhide HG) k hy
    rw [hoa, Int.toNat_natCast] at hgp
    have n0 : (0 : Int) ≤ (bn : Int) := by omega
    have n1 : (bn : Int) < (o.flds.length : Int) := by omega
    have HGP := hide hgp
    have HK := hide (And.intro ho (And.intro hob hv))
    rw [hpo]
    clear hoa ho hob hv hy hpo hgp HG HGN hfl hfl4
    go_wp2_with (refine wpList_store_blk aggVal (Blk.new w2 #[.int .i64 0, .int .i64 0, .pointer none] 170) 0 (encV A (topV f.stk)) rfl (by simp) hone (.tmp 8) (.tmp 59) rfl rfl rfl rfl ?_; intro w3 hB3 hM3 hs3; rw [putAt_all (by rfl)] at hB3)
    have hb3 : Below w2.heap.size w2 w3 := (box_below w2 _).trans (hM3.below (by simp) (fun k hk e => by omega))
    have HA3 := hide ((unhide HA2).below hb3 (Nat.le_refl _))
    have B3 := B2.below hb3 B2.lt
    have q2 : w3.cell? ⟨w.heap.size, 2, none⟩ = some (.int .i64 (bn : Int)) := B3.cell 2
    have HB3 := hide hB3
    clear hM3 hs3 hB3
    obtain ⟨ho, hob, hv⟩ := unhide HK
    have O := (unhide HA3).ob k o ob v ho hob hv
    obtain ⟨g, cap, rfl, hcap, hgb, _⟩ := own_read O.row (by omega)
    have o1 : w3.cell? ⟨ob, 1, none⟩ = some (.slice (some ⟨g, 0, none⟩) o.flds.length cap) := O.blk.cell 1
    have hBv := unhide HB3
    have v0 : w3.cell? ⟨w2.heap.size, 0, none⟩ = some (.int .i64 (topV f.stk).kind) := hBv.cell 0
    have v1 : w3.cell? ⟨w2.heap.size, 1, none⟩ = some (.int .i64 (topV f.stk).num) := hBv.cell 1
    have v2 : w3.cell? ⟨w2.heap.size, 2, none⟩ = some (objP A (topV f.stk).obj) := hBv.cell 2
    obtain ⟨cur, hcb, hcl, hput⟩ := own_put (topV f.stk) O.row rfl hbl
    have O2 := (unhide HA2).ob k o ob _ ho hob hv
    have hg2 : g < w2.heap.size := (O2.row.lt g hgb).2
    have HO := hide (And.intro O (And.intro hput ho))
    have HHV := hide hv
    clear ho hob hv O hput O2 hBv
    refine wp_region_held_drew (S := (fun w' => w'.cell? ⟨ob, 1, none⟩ = some (.slice (some ⟨g, 0, none⟩) o.flds.length cap) ∧ w'.cell? ⟨w.heap.size, 2, none⟩ = some (.int .i64 (bn : Int)) ∧ w'.cell? ⟨w2.heap.size, 0, none⟩ = some (.int .i64 (topV f.stk).kind) ∧ w'.cell? ⟨w2.heap.size, 1, none⟩ = some (.int .i64 (topV f.stk).num) ∧ w'.cell? ⟨w2.heap.size, 2, none⟩ = some (objP A (topV f.stk).obj))) (by kernel_rfl) ?_ (fun hHeld => ?_)
    · exact ⟨o1, q2, v0, v1, v2⟩
    refine take_x (some 65) 0 rfl rfl ?_
    try simp only [Act.put, List.setIfInBounds_toArray, List.set_cons_zero, List.set_cons_succ]
    refine take_x (some 66) 1 rfl rfl ?_
    try simp only [Act.put, List.setIfInBounds_toArray, List.set_cons_zero, List.set_cons_succ]
    refine take_x (some 67) 2 rfl rfl ?_
    try simp only [Act.put, List.setIfInBounds_toArray, List.set_cons_zero, List.set_cons_succ]
    refine take_x (some 68) 3 rfl rfl ?_
    try simp only [Act.put, List.setIfInBounds_toArray, List.set_cons_zero, List.set_cons_succ]
    refine take_x (some 69) 4 rfl rfl ?_
    try simp only [Act.put, List.setIfInBounds_toArray, List.set_cons_zero, List.set_cons_succ]
    refine take_x (some 70) 5 rfl rfl ?_
    try simp only [Act.put, List.setIfInBounds_toArray, List.set_cons_zero, List.set_cons_succ]
    refine take_x (some 71) 6 rfl rfl ?_
    try simp only [Act.put, List.setIfInBounds_toArray, List.set_cons_zero, List.set_cons_succ]
    refine take_x (some 72) 7 rfl rfl ?_
    try simp only [Act.put, List.setIfInBounds_toArray, List.set_cons_zero, List.set_cons_succ]
    refine wpAnyH_ready (rs := [8]) (by kernel_rfl) (by simp) ?_
    refine AllReadyH.cons rfl (fun K hK => ?_) AllReadyH.nil
    refine wp_store_blk aggVal hcb.drew (bn * 3) (encV A (topV f.stk)) rfl hcl hone (.tmp 72) (.tmp 71) rfl rfl rfl ?_
    intro w4 hB4 hM4 hs4
    obtain ⟨O, hput, ho⟩ := unhide HO
    have hM4' : Mods (fun j => j = g) w3 w4 := ⟨hM4.os, hM4.tape, hM4.output, hM4.size, hM4.block⟩
    have hA4 := (unhide HA3).putF (k := k) ho (unhide HHV) hM4' (fun j _ e => e ▸ O.r4 g hgb) (fl := o.flds.set bn (topV f.stk)) (by rw [List.length_set]; exact hput w4 hB4) (fun u hu => by
      rcases List.mem_or_eq_of_mem_set hu with h | rfl
      · exact O.ok u h
      · exact hot)
    have HF : Hid (DoX i x.fb w0 mb vp fuel ask gp.1 gp.2 w4 (.returned (.int .i64 0))) := by
      show DoX _ _ _ _ _ _ _ _ _ _ _
      rw [unhide HGP]
      exact ⟨rfl, A, ρ2, _, _, _, _, (by first | exact fb_same hx | exact fb_set hx _ | exact fb_set2 hx _ _), hA4⟩
    have hog : ¬ ob = g := fun e => by
      have h3 := O.r3
      rw [e, O.r4 g hgb] at h3; cases h3
    have hwg : ¬ w.heap.size = g := fun e => by
      exact own_ne O.row B3 (by decide) (by rw [hgb, e])
    refine hK.out _ _ ⟨hM4'.cell o1 hog, hM4'.cell q2 hwg, hM4'.cell v0 (by dsimp only; omega), hM4'.cell v1 (by dsimp only; omega), hM4'.cell v2 (by dsimp only; omega)⟩ (fun hHeld => ?_)
    clear hK K
    try simp only [Act.put]
    refine wpAnyH_done (by kernel_rfl) ?_ _
    clear hA4 hM4 hM4' hB4 O hput ho
    go_wp2_with fail
    go_ret
    exact unhide HF
end
end Go.Proofs.YtiiokkllmchohaaGreat
/- The machine: do, for CAST. -/
namespace Go.Proofs.YtiiokkllmchohaaGreat
open Go.RowKit Go.Shelf
attribute [local go_sem ↓] Go.wp_at_zero Go.wp_at_succ
attribute [local go_sem] frz_drew
attribute [local go_sem] fld_num fld_obj

def castP (p : List LClass) (st : MaSt) (f : MFr) (a : Int) : Int := match (topV f.stk).obj with
  | none => 0
  | some k => if descB p (objAt st k).cls a then 0 else 4
section
variable (p : List LClass) (vp : Value) (w0 w : World) (ρ : Nat → Nat × Nat) (mb : Nat) (fuel : Int) (ask : Bool) (st : MaSt) (A : List Nat) (X : List FrX) (Y : List Value) (vr vpr : Value) (i : Nat) (f : MFr) (x : FrX) (a b : Int)
set_option maxHeartbeats 1000000 in
set_option maxRecDepth 100000 in
theorem do_cast (h : MaA w0 w ρ mb vp fuel ask st A X Y vr vpr) (hf : st.frames[i]? = some f) (hx : X[i]? = some x) (hp : RProg w0 vp p) (hs : SupOk p p.length) (hz : szProg p ≤ 4194304) (S : StkOk 17 f.stk) (hsl : f.stk.length < 4194303) (hcl : ∀ k, (topV f.stk).obj = some k → 0 ≤ (objAt st k).cls ∧ (objAt st k).cls < (p.length : Int)) :
    Calls Tryz.prog 173 #[.pointer (some ⟨mb, 0, none⟩), .pointer (some ⟨x.fb, 0, none⟩), .agg #[.int .i64 17, .int .i64 a, .int .i64 b]] w fun e w' => DoX i x.fb w0 mb vp fuel ask st (castP p st f a) w' e := by
  have hs1 := S.s1 (by omega)
  have hzp := Nat.le_trans (szProg_len p) hz
  have hst := top_snoc (l := f.stk) (by omega)
  have hdl : f.stk.dropLast.length = f.stk.length - 1 := List.length_dropLast
  have hbel := box_below w (.cells #[.int .i64 17, .int .i64 a, .int .i64 b] 60)
  have B0 := Blk.new w #[.int .i64 17, .int .i64 a, .int .i64 b] 60
  have H := hide (h.below hbel (Nat.le_refl _))
  have F0 := h.fr i f x hf hx
  have hoy : okV A (topV f.stk) := topV_ok F0.oks
  have hla := h.la
  have hly := h.ly
  have HP := hide hp
  have HG : Hid (∀ k, (topV f.stk).obj = some k → castP p st f a = if descB p (objAt st k).cls a then 0 else 4) := fun k hk => by unfold castP; rw [hk]
  have HGN : Hid ((topV f.stk).obj = none → castP p st f a = 0) := fun hk => by unfold castP; rw [hk]
  generalize castP p st f a = gp at *
  have HST := hide hst
  obtain ⟨pa, _, _, pcap, rfl, _⟩ := hp
  clear h hst F0
  go_enter Tryz.func173, Tryz.ntmps173
  go_wp2_with fail
  generalize w.alloc _ = W at *
  have F := (unhide H).fr i f x hf hx
  have hP0 := ma_top _ A x.fb x.mc (f.pc : Int) x.vl f.loc x.vs f.stk.dropLast (topV f.stk) W (by rw [← unhide HST]; exact F.fr) (by omega)
  refine hP0.mono ?_
  rintro e w1 ⟨rfl, hb1⟩
  have B1 := B0.below hb1 B0.lt
  have HA1 := hide ((unhide H).below hb1 (Nat.le_refl _))
  have q1 : w1.cell? ⟨w.heap.size, 1, none⟩ = some (.int .i64 a) := B1.cell 1
  have n0 : w1.cell? ⟨mb, 0, none⟩ = some (.slice pa p.length pcap) := (unhide HA1).mach.cell 0
  unfold encV
  clear F hP0
  cases hy : (topV f.stk).obj with
  | none =>
    have hgp := (unhide HGN) hy
    subst hgp
    unfold objP
    clear hy
    go_wp2_with fail
    refine wp_region_noPanic ?_
    refine wp_region_held_drew (S := (fun w' => w'.cell? ⟨mb, 0, none⟩ = some (.slice pa p.length pcap))) (by kernel_rfl) ?_ (fun hHeld => ?_)
    · exact n0
    refine take_x (some 78) 0 rfl rfl ?_
    try simp only [Act.put, List.setIfInBounds_toArray, List.set_cons_zero, List.set_cons_succ]
    refine take_x (some 79) 1 rfl rfl ?_
    try simp only [Act.put, List.setIfInBounds_toArray, List.set_cons_zero, List.set_cons_succ]
    refine take_x (some 80) 2 rfl rfl ?_
    try simp only [Act.put, List.setIfInBounds_toArray, List.set_cons_zero, List.set_cons_succ]
    refine take_d (some 81) (i := 3) (v := undef) rfl rfl (by kernel_rfl) (by kernel_rfl) (by kernel_rfl) (fun _ _ _ h => h) (Or.inr ⟨by rfl, rfl⟩) (by assumption) ?_
    try simp only [Act.put, List.setIfInBounds_toArray, List.set_cons_zero, List.set_cons_succ]
    refine take_d (some 82) (i := 4) (v := undef) rfl rfl (by kernel_rfl) (by kernel_rfl) (by kernel_rfl) (fun _ _ _ h => h) (Or.inr ⟨by rfl, rfl⟩) (by assumption) ?_
    try simp only [Act.put, List.setIfInBounds_toArray, List.set_cons_zero, List.set_cons_succ]
    refine take_d (some 83) (i := 5) (v := undef) rfl rfl (by kernel_rfl) (by kernel_rfl) (by kernel_rfl) (fun _ _ _ h => h) (Or.inr ⟨by rfl, rfl⟩) (by assumption) ?_
    try simp only [Act.put, List.setIfInBounds_toArray, List.set_cons_zero, List.set_cons_succ]
    refine take_d (some 84) (i := 6) (v := undef) rfl rfl (by kernel_rfl) (by kernel_rfl) (by kernel_rfl) (fun _ _ _ h => h) (Or.inr ⟨by rfl, rfl⟩) (by assumption) ?_
    try simp only [Act.put, List.setIfInBounds_toArray, List.set_cons_zero, List.set_cons_succ]
    refine take_d (some 85) (i := 7) (v := undef) rfl rfl (by kernel_rfl) (by kernel_rfl) (by kernel_rfl) (fun _ _ _ h => h) (Or.inr ⟨by rfl, rfl⟩) (by assumption) ?_
    try simp only [Act.put, List.setIfInBounds_toArray, List.set_cons_zero, List.set_cons_succ]
    refine take_d (some 86) (i := 8) (v := undef) rfl rfl (by kernel_rfl) (by kernel_rfl) (by kernel_rfl) (fun _ _ _ h => h) (Or.inr ⟨by rfl, rfl⟩) (by assumption) ?_
    try simp only [Act.put, List.setIfInBounds_toArray, List.set_cons_zero, List.set_cons_succ]
    refine take_d (some 87) (i := 9) (v := undef) rfl rfl (by kernel_rfl) (by kernel_rfl) (by kernel_rfl) (fun _ _ _ h => h) (Or.inr ⟨by rfl, rfl⟩) (by assumption) ?_
    try simp only [Act.put, List.setIfInBounds_toArray, List.set_cons_zero, List.set_cons_succ]
    refine take_d (some 88) (i := 10) (v := undef) rfl rfl (by kernel_rfl) (by kernel_rfl) (by kernel_rfl) (fun _ _ _ h => h) (Or.inr ⟨by rfl, rfl⟩) (by assumption) ?_
    try simp only [Act.put, List.setIfInBounds_toArray, List.set_cons_zero, List.set_cons_succ]
    refine take_d (some 89) (i := 11) (v := undef) rfl rfl (by kernel_rfl) (by kernel_rfl) (by kernel_rfl) (fun _ _ _ h => h) (Or.inr ⟨by rfl, rfl⟩) (by assumption) ?_
    try simp only [Act.put, List.setIfInBounds_toArray, List.set_cons_zero, List.set_cons_succ]
    refine take_d (some 90) (i := 12) (v := undef) rfl rfl (by kernel_rfl) (by kernel_rfl) (by kernel_rfl) (fun _ _ _ h => h) (Or.inr ⟨by rfl, rfl⟩) (by assumption) ?_
    try simp only [Act.put, List.setIfInBounds_toArray, List.set_cons_zero, List.set_cons_succ]
    refine take_d (some 91) (i := 13) (v := undef) rfl rfl (by kernel_rfl) (by kernel_rfl) (by kernel_rfl) (fun _ _ _ h => h) (Or.inr ⟨by rfl, rfl⟩) (by assumption) ?_
    try simp only [Act.put, List.setIfInBounds_toArray, List.set_cons_zero, List.set_cons_succ]
    refine take_d (some 92) (i := 14) (v := undef) rfl rfl (by kernel_rfl) (by kernel_rfl) (by kernel_rfl) (fun _ _ _ h => h) (Or.inr ⟨by rfl, rfl⟩) (by assumption) ?_
    try simp only [Act.put, List.setIfInBounds_toArray, List.set_cons_zero, List.set_cons_succ]
    refine take_x (some 93) 15 rfl rfl ?_
    try simp only [Act.put, List.setIfInBounds_toArray, List.set_cons_zero, List.set_cons_succ]
    refine wpAnyH_done (by kernel_rfl) ?_ _
    refine NoPanic.normal ?_
    go_wp2_with fail
    go_ret
    exact ⟨rfl, A, ρ, _, _, _, _, (by first | exact fb_same hx | exact fb_set hx _ | exact fb_set2 hx _ _), (unhide HA1).drew⟩
  | some k =>
    have hk : k < A.length := hoy k hy
    obtain ⟨ob, hob⟩ : ∃ ob, A[k]? = some ob := ⟨_, List.getElem?_eq_getElem hk⟩
    obtain ⟨o, ho⟩ : ∃ o, st.objs[k]? = some o := ⟨_, List.getElem?_eq_getElem (by omega)⟩
    obtain ⟨v, hv⟩ : ∃ v, Y[k]? = some v := ⟨_, List.getElem?_eq_getElem (by omega)⟩
    have hoa : objAt st k = o := by unfold objAt; rw [ho]; rfl
    obtain ⟨k0, k1⟩ := hcl k hy
    have hgp := (unhide HG) k hy
    rw [hoa] at k0 k1 hgp
    have O := (unhide HA1).ob k o ob v ho hob hv
    have o0 : w1.cell? ⟨ob, 0, none⟩ = some (.int .i64 o.cls) := O.blk.cell 0
    have hpo : objP A (some k) = .pointer (some ⟨ob, 0, none⟩) := by
      show Value.pointer (some ⟨A.getD k 0, 0, none⟩) = _
      rw [List.getD_eq_getElem?_getD, hob]; rfl
    rw [hpo]
    have HGP := hide hgp
    clear O hoa ho hob hv hy hpo hgp HG HGN hcl
    go_wp2_with fail
    refine wp_region_noPanic ?_
    refine wp_region_held_drew (S := (fun w' => w'.cell? ⟨mb, 0, none⟩ = some (.slice pa p.length pcap) ∧ w'.cell? ⟨ob, 0, none⟩ = some (.int .i64 o.cls) ∧ w'.cell? ⟨w.heap.size, 1, none⟩ = some (.int .i64 a))) (by kernel_rfl) ?_ (fun hHeld => ?_)
    · exact ⟨n0, o0, q1⟩
    refine take_x (some 78) 0 rfl rfl ?_
    try simp only [Act.put, List.setIfInBounds_toArray, List.set_cons_zero, List.set_cons_succ]
    refine take_x (some 79) 1 rfl rfl ?_
    try simp only [Act.put, List.setIfInBounds_toArray, List.set_cons_zero, List.set_cons_succ]
    refine take_x (some 80) 2 rfl rfl ?_
    try simp only [Act.put, List.setIfInBounds_toArray, List.set_cons_zero, List.set_cons_succ]
    refine take_x (some 81) 3 rfl rfl ?_
    try simp only [Act.put, List.setIfInBounds_toArray, List.set_cons_zero, List.set_cons_succ]
    refine take_x (some 82) 4 rfl rfl ?_
    try simp only [Act.put, List.setIfInBounds_toArray, List.set_cons_zero, List.set_cons_succ]
    refine take_x (some 83) 5 rfl rfl ?_
    try simp only [Act.put, List.setIfInBounds_toArray, List.set_cons_zero, List.set_cons_succ]
    refine take_x (some 84) 6 rfl rfl ?_
    try simp only [Act.put, List.setIfInBounds_toArray, List.set_cons_zero, List.set_cons_succ]
    refine take_x (some 85) 7 rfl rfl ?_
    try simp only [Act.put, List.setIfInBounds_toArray, List.set_cons_zero, List.set_cons_succ]
    refine take_x (some 86) 8 rfl rfl ?_
    try simp only [Act.put, List.setIfInBounds_toArray, List.set_cons_zero, List.set_cons_succ]
    refine take_x (some 87) 9 rfl rfl ?_
    try simp only [Act.put, List.setIfInBounds_toArray, List.set_cons_zero, List.set_cons_succ]
    refine take_x (some 88) 10 rfl rfl ?_
    try simp only [Act.put, List.setIfInBounds_toArray, List.set_cons_zero, List.set_cons_succ]
    refine take_x (some 89) 11 rfl rfl ?_
    try simp only [Act.put, List.setIfInBounds_toArray, List.set_cons_zero, List.set_cons_succ]
    refine take_x (some 90) 12 rfl rfl ?_
    try simp only [Act.put, List.setIfInBounds_toArray, List.set_cons_zero, List.set_cons_succ]
    refine wpAnyH_ready (rs := [13]) (by kernel_rfl) (by simp) ?_
    refine AllReadyH.cons rfl (fun K hK => ?_) AllReadyH.nil
    go_simp
    refine (code_descends p _ o.cls a _ (prog_keep (Keeps.of_below (unhide HA1).bel.drew) (unhide HP)) hs (by omega) k1 hzp).mono ?_
    rintro e w2 ⟨rfl, hb2⟩
    have hb2' : Below w1.heap.size w1 w2 := ⟨hb2.os, hb2.tape, hb2.output, hb2.size, hb2.block⟩
    have k2 := Keeps.of_below hb2'
    have HS2 := hide (And.intro (k2 _ _ n0) (And.intro (k2 _ _ o0) (k2 _ _ q1)))
    have HA2 := hide ((unhide HA1).below hb2' (Nat.le_refl _))
    cases hd : descB p o.cls a with
    | true =>
      have hgp := unhide HGP
      rw [hd, if_pos rfl] at hgp
      subst hgp
      clear hd HGP
      go_wp2_with fail
      refine hK.out _ _ (unhide HS2) (fun hHeld => ?_)
      clear hK K
      try simp only [Act.put, List.setIfInBounds_toArray, List.set_cons_zero, List.set_cons_succ]
      refine take_x (some 92) 14 rfl rfl ?_
      try simp only [Act.put, List.setIfInBounds_toArray, List.set_cons_zero, List.set_cons_succ]
      refine take_x (some 93) 15 rfl rfl ?_
      try simp only [Act.put, List.setIfInBounds_toArray, List.set_cons_zero, List.set_cons_succ]
      refine wpAnyH_done (by kernel_rfl) ?_ _
      refine NoPanic.normal ?_
      go_wp2_with fail
      go_ret
      exact ⟨rfl, A, ρ, _, _, _, _, (by first | exact fb_same hx | exact fb_set hx _ | exact fb_set2 hx _ _), unhide HA2⟩
    | false =>
      have hgp := unhide HGP
      rw [hd, if_neg (by decide)] at hgp
      subst hgp
      clear hd HGP
      go_wp2_with fail
      refine hK.out _ _ (unhide HS2) (fun hHeld => ?_)
      clear hK K
      try simp only [Act.put, List.setIfInBounds_toArray, List.set_cons_zero, List.set_cons_succ]
      refine take_x (some 92) 14 rfl rfl ?_
      try simp only [Act.put, List.setIfInBounds_toArray, List.set_cons_zero, List.set_cons_succ]
      refine take_x (some 93) 15 rfl rfl ?_
      try simp only [Act.put, List.setIfInBounds_toArray, List.set_cons_zero, List.set_cons_succ]
      refine wpAnyH_done (by kernel_rfl) ?_ _
      refine NoPanic.normal ?_
      go_wp2_with fail
      go_ret
      exact ⟨rfl, A, ρ, _, _, _, _, (by first | exact fb_same hx | exact fb_set hx _ | exact fb_set2 hx _ _), unhide HA2⟩
end
end Go.Proofs.YtiiokkllmchohaaGreat
/- The machine: do, for PRINT. -/
namespace Go.Proofs.YtiiokkllmchohaaGreat
open Go.RowKit Go.Shelf
attribute [local go_sem ↓] Go.wp_at_zero Go.wp_at_succ
attribute [local go_sem] frz_drew
attribute [local go_sem] fld_num fld_obj

theorem infoInt : (Tryz.prog.info? 3).map (fun i => (i.zero, i.size, i.bytes)) = some (some (.int .i64 0), 1, 8) := by kernel_rfl
theorem ti_ne_ma : 3 ≠ 172 := by decide
section
variable {w0 w w' : World} {ρ : Nat → Nat × Nat} {mb : Nat} {vp : Value} {fuel : Int} {ask : Bool} {st : MaSt} {A : List Nat} {X : List FrX} {Y : List Value} {vr vpr : Value}
theorem MaA.print (h : MaA w0 w ρ mb vp fuel ask st A X Y vr vpr) {W U : World} {n : Int} {v' : Value} (hM : Mods (fun k => vpr.ownBlock = some k) w W) (hO : W.ownsRow w0.heap.size 3 1 v' (st.out.length + 1) (st.out.map (Value.int .i64) ++ [.int .i64 n])) (hv : v'.ownBlock = vpr.ownBlock ∨ ∃ k, w.heap.size ≤ k ∧ v'.ownBlock = some k) (hU : U = W.setCell ⟨mb, 8, none⟩ v') :
    (∃ ρ', MaA w0 U ρ' mb vp fuel ask { st with out := st.out ++ [n] } A X Y vr v') ∧ W.cell? ⟨mb, 8, none⟩ = some vpr ∧ W.frozen? ⟨mb, 8, none⟩ = false := by
  subst hU
  have hne : ¬ vpr.ownBlock = some mb := own_ne h.prn h.mach ti_ne_ma
  have hB := h.mach.mods hM hne
  have hM5 : Mods (fun k => k = mb) W (W.setCell ⟨mb, 8, none⟩ v') := (Mods.refl (fun k => k = mb) W).setCell (p := ⟨mb, 8, none⟩) (fun _ => rfl) _
  have hMA : Mods (fun k => k = mb ∨ vpr.ownBlock = some k) w (W.setCell ⟨mb, 8, none⟩ v') := (hM.mono (fun _ _ e => .inr e)).trans hM5 (fun _ _ e => .inl e)
  have hz := h.bel.size
  have hq : ∀ k, k < w.heap.size → (k = mb ∨ vpr.ownBlock = some k) → ∀ r, r ≠ (5, 0) → r ≠ (7, 0) → ρ k ≠ r := fun k _ e r h5 h7 e' => by
    rcases e with e | e
    · exact h5 (e' ▸ e ▸ h.rmb)
    · exact h7 (e' ▸ h.rpr k e)
  refine ⟨⟨fun k => if w.heap.size ≤ k then (7, 0) else ρ k, ?_⟩, hB.cell 8, hB.frozen 8⟩
  have s : Same w.heap.size ρ (fun k => if w.heap.size ≤ k then (7, 0) else ρ k) := fun k hk => by show (if _ then _ else _) = _; rw [if_neg (by omega)]
  refine ⟨hB.setCell 8 v', h.base, (s _ h.lt).trans h.rmb, own_mods h.run hMA (fun g hg e => hq g (h.run.lt g hg).2 e (6, 0) (by simp) (by simp) (h.rvr g hg)), h.rvr.same s (fun g hg => (h.run.lt g hg).2), ?_, fun g hg => ?_, h.lx, fun i f x hf hx => (h.fr i f x hf hx).mods hMA s (fun k hk e => ⟨hq k hk e _ (by simp) (by simp), hq k hk e _ (by simp) (by simp), hq k hk e _ (by simp) (by simp)⟩), h.la, h.ly, fun k o b v h1 h2 h3 => (h.ob k o b v h1 h2 h3).mods hMA s (fun j hj e => ⟨hq j hj e _ (by simp) (by simp), hq j hj e _ (by simp) (by simp)⟩), h.okt, ?_, fun k hk => (s k (by omega)).trans (h.low k hk)⟩
  · show World.ownsRow _ _ _ _ _ (st.out ++ [n]).length ((st.out ++ [n]).map _)
    rw [List.length_append, List.map_append]
    exact own_mods hO hM5 (fun g hg e => own_ne hO hB ti_ne_ma (e ▸ hg))
  · rcases hv with e | ⟨k, hk, e⟩
    · rw [e] at hg
      exact (s g (h.prn.lt g hg).2).trans (h.rpr g hg)
    · rw [e] at hg; cases hg
      show (if _ then _ else _) = _
      rw [if_pos hk]
  · refine h.bel.trans (hMA.below hz (fun k hk e => ?_))
    rcases e with e | e
    · have := h.base; omega
    · have := (h.prn.lt k e).1; omega
end
def prnP (st : MaSt) (i : Nat) (f : MFr) : MaSt := { setF st i f f.loc f.stk.dropLast with out := st.out ++ [(topV f.stk).num] }
section
variable (p : List LClass) (vp : Value) (w0 w : World) (ρ : Nat → Nat × Nat) (mb : Nat) (fuel : Int) (ask : Bool) (st : MaSt) (A : List Nat) (X : List FrX) (Y : List Value) (vr vpr : Value) (i : Nat) (f : MFr) (x : FrX) (a b : Int)
set_option maxHeartbeats 1000000 in
set_option maxRecDepth 100000 in
theorem do_print (h : MaA w0 w ρ mb vp fuel ask st A X Y vr vpr) (hf : st.frames[i]? = some f) (hx : X[i]? = some x) (S : StkOk 19 f.stk) (hsl : f.stk.length < 4194303) (hol : st.out.length ≤ 4194304) :
    Calls Tryz.prog 173 #[.pointer (some ⟨mb, 0, none⟩), .pointer (some ⟨x.fb, 0, none⟩), .agg #[.int .i64 19, .int .i64 a, .int .i64 b]] w fun e w' => DoX i x.fb w0 mb vp fuel ask (prnP st i f) 0 w' e := by
  obtain ⟨i0, hi0, hz0, hz1, hz2⟩ := info_parts infoInt
  have hs1 := S.s1 (by omega)
  have hst := top_snoc (l := f.stk) (by omega)
  have hdl : f.stk.dropLast.length = f.stk.length - 1 := List.length_dropLast
  have hbel := box_below w (.cells #[.int .i64 19, .int .i64 a, .int .i64 b] 60)
  have H := hide (h.below hbel (Nat.le_refl _))
  obtain ⟨ra, rcap, rfl⟩ := own_form h.prn
  have HST := hide hst
  clear h hst
  go_enter Tryz.func173, Tryz.ntmps173
  go_wp2_with fail
  generalize w.alloc _ = W at *
  have n8 : W.cell? ⟨mb, 8, none⟩ = some (.slice ra st.out.length rcap) := (unhide H).mach.cell 8
  refine wp_region_held_drew (S := (fun _ => True)) (by kernel_rfl) ?_ (fun hHeld => ?_)
  · exact trivial
  refine take_x (some 96) 0 rfl rfl ?_
  try simp only [Act.put, List.setIfInBounds_toArray, List.set_cons_zero, List.set_cons_succ]
  refine take_x (some 97) 1 rfl rfl ?_
  try simp only [Act.put, List.setIfInBounds_toArray, List.set_cons_zero, List.set_cons_succ]
  refine take_x (some 98) 2 rfl rfl ?_
  try simp only [Act.put, List.setIfInBounds_toArray, List.set_cons_zero, List.set_cons_succ]
  refine take_x (some 99) 3 rfl rfl ?_
  try simp only [Act.put, List.setIfInBounds_toArray, List.set_cons_zero, List.set_cons_succ]
  refine take_x (some 101) 5 rfl rfl ?_
  try simp only [Act.put, List.setIfInBounds_toArray, List.set_cons_zero, List.set_cons_succ]
  refine wpAnyH_ready (rs := [4, 6]) (by kernel_rfl) (by simp) ?_
  refine AllReadyH.cons rfl (fun K hK => ?_) (AllReadyH.cons rfl (fun K hK => ?_) AllReadyH.nil)
  · go_simp
    refine hK.out _ _ trivial (fun hHeld => ?_)
    clear hK K
    try simp only [Act.put, List.setIfInBounds_toArray, List.set_cons_zero, List.set_cons_succ]
    refine wpAnyH_ready (rs := [6]) (by kernel_rfl) (by simp) ?_
    refine AllReadyH.cons rfl (fun K hK => ?_) AllReadyH.nil
    go_simp
    have F := (unhide H).fr i f x hf hx
    have hP0 := ma_pop _ A x.fb x.mc (f.pc : Int) x.vl f.loc x.vs f.stk.dropLast (topV f.stk) W.drew (by rw [← unhide HST]; exact F.fr.below (Below.refl W.heap.size W).drew (Nat.le_refl _)) (by omega)
    refine hP0.mono ?_
    rintro e w1 hP
    obtain ⟨rfl, ρ1, vs1, hA1⟩ := (unhide H).drew.pop hf hx (unhide HST) hP
    obtain ⟨v3, w3, happ, hO3, hM3, hv3⟩ := app_ex (P := Tryz.prog) (W := w1) 51 51 3 i0 _ 1 8 Tryz.underlying51 hi0 hz0 hz1 hz2 rfl (by decide) w0.heap.size _ _ _ hA1.prn #[.int .i64 (topV f.stk).num] rfl (fun v hv => by obtain rfl := List.mem_singleton.1 hv; rfl) w1.heap.size rfl (by have : (setF st i f f.loc f.stk.dropLast).out.length = st.out.length := rfl; unfold maxLen; omega) (by have : (setF st i f f.loc f.stk.dropLast).out.length = st.out.length := rfl; omega) hA1.bel.size
    obtain ⟨a3, cap3, rfl⟩ := own_form hO3
    obtain ⟨⟨ρ3, hA3⟩, c83, f83⟩ := hA1.print hM3 hO3 hv3 rfl
    have n81 : w1.cell? ⟨mb, 8, none⟩ = some (.slice ra st.out.length rcap) := hA1.mach.cell 8
    have n81a : (w1.alloc (.cells #[.int .i64 (topV f.stk).num] 3)).cell? ⟨mb, 8, none⟩ = some (.slice ra st.out.length rcap) := (hA1.mach.alloc _).cell 8
    have HF : Hid (DoX i x.fb w0 mb vp fuel ask (prnP st i f) 0 (w3.setCell ⟨mb, 8, none⟩ (.slice a3 ((setF st i f f.loc f.stk.dropLast).out.length + 1) cap3)) (.returned (.int .i64 0))) := ⟨rfl, A, ρ3, _, _, _, _, (by first | exact fb_same hx | exact fb_set hx _ | exact fb_set2 hx _ _), hA3⟩
    unfold encV
    clear hA1 hA3 hO3 hM3 hv3 hP hP0 F
    go_wp2_with fail
    refine hK.out _ _ trivial (fun hHeld => ?_)
    clear hK K
    try simp only [Act.put, List.setIfInBounds_toArray, List.set_cons_zero, List.set_cons_succ]
    refine take_x (some 103) 7 rfl rfl ?_
    try simp only [Act.put, List.setIfInBounds_toArray, List.set_cons_zero, List.set_cons_succ]
    refine wpAnyH_ready (rs := [8]) (by kernel_rfl) (by simp) ?_
    refine AllReadyH.cons rfl (fun K hK => ?_) AllReadyH.nil
    go_simp
    refine hK.out _ _ trivial (fun hHeld => ?_)
    clear hK K
    try simp only [Act.put, List.setIfInBounds_toArray, List.set_cons_zero, List.set_cons_succ]
    refine wpAnyH_ready (rs := [9]) (by kernel_rfl) (by simp) ?_
    refine AllReadyH.cons rfl (fun K hK => ?_) AllReadyH.nil
    refine wp_append_run (.tmp 100) (.tmp 104) 51 rfl _ _ rfl rfl happ ?_
    go_simp
    refine hK.out _ _ trivial (fun hHeld => ?_)
    clear hK K
    try simp only [Act.put, List.setIfInBounds_toArray, List.set_cons_zero, List.set_cons_succ]
    refine take_x (some 106) 10 rfl rfl ?_
    try simp only [Act.put, List.setIfInBounds_toArray, List.set_cons_zero, List.set_cons_succ]
    refine take_x (some 107) 11 rfl rfl ?_
    try simp only [Act.put, List.setIfInBounds_toArray, List.set_cons_zero, List.set_cons_succ]
    refine wpAnyH_ready (rs := [12]) (by kernel_rfl) (by simp) ?_
    refine AllReadyH.cons rfl (fun K hK => ?_) AllReadyH.nil
    go_simp
    refine hK.out _ _ trivial (fun hHeld => ?_)
    clear hK K
    try simp only [Act.put, List.setIfInBounds_toArray, List.set_cons_zero, List.set_cons_succ]
    refine wpAnyH_done (by kernel_rfl) ?_ _
    clear happ
    go_wp2_with fail
    go_ret
    exact unhide HF
  · go_simp
    have F := (unhide H).fr i f x hf hx
    have hP0 := ma_pop _ A x.fb x.mc (f.pc : Int) x.vl f.loc x.vs f.stk.dropLast (topV f.stk) W.drew (by rw [← unhide HST]; exact F.fr.below (Below.refl W.heap.size W).drew (Nat.le_refl _)) (by omega)
    refine hP0.mono ?_
    rintro e w1 hP
    obtain ⟨rfl, ρ1, vs1, hA1⟩ := (unhide H).drew.pop hf hx (unhide HST) hP
    obtain ⟨v3, w3, happ, hO3, hM3, hv3⟩ := app_ex (P := Tryz.prog) (W := w1) 51 51 3 i0 _ 1 8 Tryz.underlying51 hi0 hz0 hz1 hz2 rfl (by decide) w0.heap.size _ _ _ hA1.prn #[.int .i64 (topV f.stk).num] rfl (fun v hv => by obtain rfl := List.mem_singleton.1 hv; rfl) w1.heap.size rfl (by have : (setF st i f f.loc f.stk.dropLast).out.length = st.out.length := rfl; unfold maxLen; omega) (by have : (setF st i f f.loc f.stk.dropLast).out.length = st.out.length := rfl; omega) hA1.bel.size
    obtain ⟨a3, cap3, rfl⟩ := own_form hO3
    obtain ⟨⟨ρ3, hA3⟩, c83, f83⟩ := hA1.print hM3 hO3 hv3 rfl
    have n81 : w1.cell? ⟨mb, 8, none⟩ = some (.slice ra st.out.length rcap) := hA1.mach.cell 8
    have n81a : (w1.alloc (.cells #[.int .i64 (topV f.stk).num] 3)).cell? ⟨mb, 8, none⟩ = some (.slice ra st.out.length rcap) := (hA1.mach.alloc _).cell 8
    have HF : Hid (DoX i x.fb w0 mb vp fuel ask (prnP st i f) 0 (w3.setCell ⟨mb, 8, none⟩ (.slice a3 ((setF st i f f.loc f.stk.dropLast).out.length + 1) cap3)) (.returned (.int .i64 0))) := ⟨rfl, A, ρ3, _, _, _, _, (by first | exact fb_same hx | exact fb_set hx _ | exact fb_set2 hx _ _), hA3⟩
    unfold encV
    clear hA1 hA3 hO3 hM3 hv3 hP hP0 F
    go_wp2_with fail
    refine hK.out _ _ trivial (fun hHeld => ?_)
    clear hK K
    try simp only [Act.put, List.setIfInBounds_toArray, List.set_cons_zero, List.set_cons_succ]
    refine take_x (some 103) 7 rfl rfl ?_
    try simp only [Act.put, List.setIfInBounds_toArray, List.set_cons_zero, List.set_cons_succ]
    refine wpAnyH_ready (rs := [4, 8]) (by kernel_rfl) (by simp) ?_
    refine AllReadyH.cons rfl (fun K hK => ?_) (AllReadyH.cons rfl (fun K hK => ?_) AllReadyH.nil)
    · go_simp
      refine hK.out _ _ trivial (fun hHeld => ?_)
      clear hK K
      try simp only [Act.put, List.setIfInBounds_toArray, List.set_cons_zero, List.set_cons_succ]
      refine wpAnyH_ready (rs := [8]) (by kernel_rfl) (by simp) ?_
      refine AllReadyH.cons rfl (fun K hK => ?_) AllReadyH.nil
      go_simp
      refine hK.out _ _ trivial (fun hHeld => ?_)
      clear hK K
      try simp only [Act.put, List.setIfInBounds_toArray, List.set_cons_zero, List.set_cons_succ]
      refine wpAnyH_ready (rs := [9]) (by kernel_rfl) (by simp) ?_
      refine AllReadyH.cons rfl (fun K hK => ?_) AllReadyH.nil
      refine wp_append_run (.tmp 100) (.tmp 104) 51 rfl _ _ rfl rfl happ ?_
      go_simp
      refine hK.out _ _ trivial (fun hHeld => ?_)
      clear hK K
      try simp only [Act.put, List.setIfInBounds_toArray, List.set_cons_zero, List.set_cons_succ]
      refine take_x (some 106) 10 rfl rfl ?_
      try simp only [Act.put, List.setIfInBounds_toArray, List.set_cons_zero, List.set_cons_succ]
      refine take_x (some 107) 11 rfl rfl ?_
      try simp only [Act.put, List.setIfInBounds_toArray, List.set_cons_zero, List.set_cons_succ]
      refine wpAnyH_ready (rs := [12]) (by kernel_rfl) (by simp) ?_
      refine AllReadyH.cons rfl (fun K hK => ?_) AllReadyH.nil
      go_simp
      refine hK.out _ _ trivial (fun hHeld => ?_)
      clear hK K
      try simp only [Act.put, List.setIfInBounds_toArray, List.set_cons_zero, List.set_cons_succ]
      refine wpAnyH_done (by kernel_rfl) ?_ _
      clear happ
      go_wp2_with fail
      go_ret
      exact unhide HF
    · go_simp
      refine hK.out _ _ trivial (fun hHeld => ?_)
      clear hK K
      try simp only [Act.put, List.setIfInBounds_toArray, List.set_cons_zero, List.set_cons_succ]
      refine wpAnyH_ready (rs := [4]) (by kernel_rfl) (by simp) ?_
      refine AllReadyH.cons rfl (fun K hK => ?_) AllReadyH.nil
      go_simp
      refine hK.out _ _ trivial (fun hHeld => ?_)
      clear hK K
      try simp only [Act.put, List.setIfInBounds_toArray, List.set_cons_zero, List.set_cons_succ]
      refine wpAnyH_ready (rs := [9]) (by kernel_rfl) (by simp) ?_
      refine AllReadyH.cons rfl (fun K hK => ?_) AllReadyH.nil
      refine wp_append_run (.tmp 100) (.tmp 104) 51 rfl _ _ rfl rfl happ ?_
      go_simp
      refine hK.out _ _ trivial (fun hHeld => ?_)
      clear hK K
      try simp only [Act.put, List.setIfInBounds_toArray, List.set_cons_zero, List.set_cons_succ]
      refine take_x (some 106) 10 rfl rfl ?_
      try simp only [Act.put, List.setIfInBounds_toArray, List.set_cons_zero, List.set_cons_succ]
      refine take_x (some 107) 11 rfl rfl ?_
      try simp only [Act.put, List.setIfInBounds_toArray, List.set_cons_zero, List.set_cons_succ]
      refine wpAnyH_ready (rs := [12]) (by kernel_rfl) (by simp) ?_
      refine AllReadyH.cons rfl (fun K hK => ?_) AllReadyH.nil
      go_simp
      refine hK.out _ _ trivial (fun hHeld => ?_)
      clear hK K
      try simp only [Act.put, List.setIfInBounds_toArray, List.set_cons_zero, List.set_cons_succ]
      refine wpAnyH_done (by kernel_rfl) ?_ _
      clear happ
      go_wp2_with fail
      go_ret
      exact unhide HF
end
end Go.Proofs.YtiiokkllmchohaaGreat
