/- What holds is kept by every step; a run ends (pure). -/
import Derived.Test.YtiiokkllmchohaaGreatT30
import Derived.Test.YtiiokkllmchohaaGreatT32
/- InvC -/
namespace Go.Proofs.YtiiokkllmchohaaGreat
open Go.RowKit Go.Shelf

theorem set_lastF {α : Type} (fs : List α) (f g : α) : (fs ++ [f]).set fs.length g = fs ++ [g] := by
  rw [List.set_append_right _ _ (Nat.le_refl _), Nat.sub_self]; rfl
theorem getLast_split {α : Type} {l : List α} {f : α} (h : l.getLast? = some f) : ∃ fs, l = fs ++ [f] ∧ l.length - 1 = fs.length ∧ l.dropLast = fs := by
  rcases List.eq_nil_or_concat l with rfl | ⟨fs, g, rfl⟩
  · cases h
  · rw [List.concat_eq_append, List.getLast?_concat] at h
    cases h
    refine ⟨fs, by simp, by simp, by simp⟩
section
variable {p : List LClass} {fuel : Int} {st : MaSt} {f : MFr} {fs : List MFr}
theorem Inv.put (I : Inv p fuel st) (he : st.frames = fs ++ [f]) (hne : (st.steps : Int) ≠ fuel) {f' : MFr} {objs' : List LObj} {t : LVal} {out' : List Int} (g : Grow st.objs objs') (ho : ObOk p objs') (hl : objs'.length ≤ 100) (hf : FOk p objs' f') (ht : (f'.stk.length : Int) ≤ f'.m.stack) (hu : out'.length ≤ st.steps + 1) :
    Inv p fuel ⟨fs ++ [f'], objs', t, out', st.steps + 1⟩ := by
  have := I.stp
  have hlen := I.len
  rw [he, List.length_append] at hlen
  refine ⟨ho, fun x hx => ?_, fun x hx => ?_, fun x hx => ?_, ?_, hl, hu, ?_⟩
  · rcases List.mem_append.1 hx with h | h
    · exact (I.fr x (by rw [he]; simp [h])).grow g
    · obtain rfl := List.mem_singleton.1 h
      exact hf
  · dsimp only at hx
    rw [List.getLast?_concat] at hx
    cases hx
    exact ht
  · dsimp only at hx
    rw [List.dropLast_concat] at hx
    exact I.rest x (by rw [he, List.dropLast_concat]; exact hx)
  · dsimp only
    rw [List.length_append]
    exact hlen
  · dsimp only
    omega
theorem moveP_ok {objs : List LObj} {loc stk : List LVal} {op a : Int} (hl : ∀ v ∈ loc, VOk objs v) (hs : ∀ v ∈ stk, VOk objs v) : (∀ v ∈ (moveP op a loc stk).1, VOk objs v) ∧ (∀ v ∈ (moveP op a loc stk).2, VOk objs v) ∧ (moveP op a loc stk).1.length = loc.length := by
  have hd : ∀ v ∈ stk.dropLast, VOk objs v := fun v hv => hs v (List.dropLast_subset _ hv)
  have hdd : ∀ v ∈ stk.dropLast.dropLast, VOk objs v := fun v hv => hd v (List.dropLast_subset _ hv)
  have ht : VOk objs (topV stk) := by
    unfold topV
    cases e : stk.getLast? with
    | none => exact .noth _
    | some x => exact hs x (List.mem_of_getLast? e)
  have ht2 : VOk objs (topV stk.dropLast) := by
    unfold topV
    cases e : stk.dropLast.getLast? with
    | none => exact .noth _
    | some x => exact hd x (List.mem_of_getLast? e)
  have hap : ∀ (l : List LVal) (x : LVal), (∀ v ∈ l, VOk objs v) → VOk objs x → ∀ v ∈ l ++ [x], VOk objs v := fun l x h1 h2 v hv => by
    rcases List.mem_append.1 hv with h | h
    · exact h1 v h
    · obtain rfl := List.mem_singleton.1 h; exact h2
  unfold moveP
  by_cases h : op = 0
  · rw [if_pos h]; exact ⟨hl, hap _ _ hs (.numb _ _), rfl⟩
  rw [if_neg h]; clear h
  by_cases h : op = 16
  · rw [if_pos h]; exact ⟨hl, hap _ _ hs (.null _), rfl⟩
  rw [if_neg h]; clear h
  by_cases h : op = 1
  · rw [if_pos h]
    refine ⟨hl, hap _ _ hs ?_, rfl⟩
    rw [List.getD_eq_getElem?_getD]
    cases e : loc[a.toNat]? with
    | none => exact .noth _
    | some x => exact hl x (List.mem_of_getElem? e)
  rw [if_neg h]; clear h
  by_cases h : op = 2
  · rw [if_pos h]
    refine ⟨fun v hv => ?_, hd, by simp⟩
    rcases List.mem_or_eq_of_mem_set hv with h | rfl
    · exact hl v h
    · exact ht
  rw [if_neg h]; clear h
  by_cases h : op = 14
  · rw [if_pos h]; exact ⟨hl, hd, rfl⟩
  rw [if_neg h]; clear h
  by_cases h : op = 15
  · rw [if_pos h]; exact ⟨hl, hap _ _ (hap _ _ hd ht) ht, rfl⟩
  rw [if_neg h]; clear h
  by_cases h : op = 20
  · rw [if_pos h]; exact ⟨hl, hap _ _ (hap _ _ hdd ht) ht2, rfl⟩
  rw [if_neg h]; clear h
  by_cases h : op = 3
  · rw [if_pos h]; exact ⟨hl, hap _ _ hdd (.numb _ _), rfl⟩
  rw [if_neg h]; clear h
  by_cases h : op = 4
  · rw [if_pos h]; exact ⟨hl, hap _ _ hdd (.numb _ _), rfl⟩
  rw [if_neg h]; clear h
  by_cases h : op = 5
  · rw [if_pos h]; exact ⟨hl, hap _ _ hdd (.numb _ _), rfl⟩
  · rw [if_neg h]; exact ⟨hl, hap _ _ hdd (.numb _ _), rfl⟩
theorem moveP_len {loc stk : List LVal} {op a n : Int} (S : StkOk op stk) (ho : op = 0 ∨ op = 16 ∨ op = 1 ∨ op = 2 ∨ op = 14 ∨ op = 15 ∨ op = 20 ∨ op = 3 ∨ op = 4 ∨ op = 5 ∨ op = 6) (hr : roomB op = true → (stk.length : Int) < n) (ht : (stk.length : Int) ≤ n) : ((moveP op a loc stk).2.length : Int) ≤ n := by
  have h1 := S.s1
  have h2 := S.s2
  rcases ho with rfl | rfl | rfl | rfl | rfl | rfl | rfl | rfl | rfl | rfl | rfl
  · have := hr rfl
    show ((stk ++ [_]).length : Int) ≤ n
    simp only [List.length_append, List.length_singleton]; omega
  · have := hr rfl
    show ((stk ++ [_]).length : Int) ≤ n
    simp only [List.length_append, List.length_singleton]; omega
  · have := hr rfl
    show ((stk ++ [_]).length : Int) ≤ n
    simp only [List.length_append, List.length_singleton]; omega
  · show ((stk.dropLast).length : Int) ≤ n
    simp only [List.length_dropLast]; omega
  · show ((stk.dropLast).length : Int) ≤ n
    simp only [List.length_dropLast]; omega
  · have := hr rfl
    have := h1 (by omega)
    show ((stk.dropLast ++ [_] ++ [_]).length : Int) ≤ n
    simp only [List.length_append, List.length_singleton, List.length_dropLast]; omega
  · have := h2 (by omega)
    show ((stk.dropLast.dropLast ++ [_] ++ [_]).length : Int) ≤ n
    simp only [List.length_append, List.length_singleton, List.length_dropLast]; omega
  · have := h2 (by omega)
    show ((stk.dropLast.dropLast ++ [_]).length : Int) ≤ n
    simp only [List.length_append, List.length_singleton, List.length_dropLast]; omega
  · have := h2 (by omega)
    show ((stk.dropLast.dropLast ++ [_]).length : Int) ≤ n
    simp only [List.length_append, List.length_singleton, List.length_dropLast]; omega
  · have := h2 (by omega)
    show ((stk.dropLast.dropLast ++ [_]).length : Int) ≤ n
    simp only [List.length_append, List.length_singleton, List.length_dropLast]; omega
  · have := h2 (by omega)
    show ((stk.dropLast.dropLast ++ [_]).length : Int) ≤ n
    simp only [List.length_append, List.length_singleton, List.length_dropLast]; omega
structure DoS (p : List LClass) (st : MaSt) (fs : List MFr) (f : MFr) (op a b : Int) : Prop where
  ex : ∃ loc stk objs' out', (doP p st fs.length f op a b).1 = ⟨fs ++ [{ f with loc := loc, stk := stk }], objs', st.told, out', st.steps⟩ ∧ Grow st.objs objs' ∧ ObOk p objs' ∧ objs'.length ≤ 100 ∧ (∀ v ∈ loc, VOk objs' v) ∧ (∀ v ∈ stk, VOk objs' v) ∧ loc.length = f.loc.length ∧ (stk.length : Int) ≤ f.m.stack ∧ out'.length ≤ st.out.length + 1
theorem setF_last (he : st.frames = fs ++ [f]) (loc stk : List LVal) : setF st fs.length f loc stk = ⟨fs ++ [{ f with loc := loc, stk := stk }], st.objs, st.told, st.out, st.steps⟩ := by
  unfold setF
  rw [he, set_lastF]
theorem doS_ok (I : Inv p fuel st) (he : st.frames = fs ++ [f]) {op a b : Int} (J : InsOk p f.m op a b) (ho : op ≠ 7 ∧ op ≠ 8 ∧ op ≠ 12 ∧ op ≠ 13 ∧ op ≠ 18) (D : DoOk p st f op b) (hr : roomB op = true → (f.stk.length : Int) < f.m.stack) (h0 : (doP p st fs.length f op a b).2 = 0) : DoS p st fs f op a b := by
  have K := I.fr f (by rw [he]; simp)
  have ht := I.top f (by rw [he, List.getLast?_concat])
  have hmv := moveP_ok (op := op) (a := a) K.vl K.vs
  have hd : ∀ v ∈ f.stk.dropLast, VOk st.objs v := fun v hv => K.vs v (List.dropLast_subset _ hv)
  have hap : ∀ (ob : List LObj) (l : List LVal) (x : LVal), (∀ v ∈ l, VOk ob v) → VOk ob x → ∀ v ∈ l ++ [x], VOk ob v := fun ob l x h1 h2 v hv => by
    rcases List.mem_append.1 hv with h | h
    · exact h1 v h
    · obtain rfl := List.mem_singleton.1 h; exact h2
  by_cases h6 : op = 6
  · subst h6
    unfold doP at h0
    rw [if_pos rfl] at h0
    dsimp only at h0
    split at h0
    · cases h0
    · rename_i hn
      refine ⟨_, _, st.objs, st.out, ?_, Grow.refl _, I.ob, I.ol, hmv.1, hmv.2.1, hmv.2.2, moveP_len D.stk (by omega) hr ht, by omega⟩
      unfold doP
      rw [if_pos rfl]
      dsimp only
      rw [if_neg hn]
      exact setF_last he _ _
  by_cases h9 : op = 9
  · subst h9
    have hc := J.cls (by omega)
    unfold doP at h0
    rw [if_neg (by decide), if_pos rfl] at h0
    dsimp only at h0
    split at h0
    · cases h0
    · rename_i hn
      have hg : Grow st.objs (st.objs ++ [⟨a, (fieldsOf p a).map firstV⟩]) := fun k o h => ⟨o, by rw [List.getElem?_append_left (List.getElem?_eq_some_iff.1 h).1]; exact h, rfl⟩
      refine ⟨f.loc, f.stk ++ [thisV a st.objs.length], st.objs ++ [⟨a, (fieldsOf p a).map firstV⟩], st.out, ?_, hg, ⟨fun o h => ?_, fun o h => ?_, fun o h v hv => ?_⟩, ?_, fun v hv => (K.vl v hv).grow hg, hap _ _ _ (fun v hv => (K.vs v hv).grow hg) ⟨_, by simp; rfl, rfl⟩, rfl, ?_, by omega⟩
      · unfold doP
        rw [if_neg (by decide), if_pos rfl]
        dsimp only
        rw [if_neg hn]
        unfold newSt
        rw [setF_last he]
      · rcases List.mem_append.1 h with h | h
        · exact I.ob.cls o h
        · obtain rfl := List.mem_singleton.1 h
          exact hc
      · rcases List.mem_append.1 h with h | h
        · exact I.ob.fl o h
        · obtain rfl := List.mem_singleton.1 h
          simp
      · rcases List.mem_append.1 h with h | h
        · exact (I.ob.val o h v hv).grow hg
        · obtain rfl := List.mem_singleton.1 h
          obtain ⟨t, _, rfl⟩ := List.mem_map.1 hv
          exact .first _ _
      · have := I.ol
        rw [List.length_append, List.length_singleton]
        omega
      · have := hr rfl
        rw [List.length_append, List.length_singleton]
        omega
  by_cases h10 : op = 10
  · subst h10
    have h1 := D.stk.s1 (by omega)
    have hdo : doP p st fs.length f 10 a b = getP st fs.length f b := rfl
    rw [hdo] at h0
    unfold getP at h0
    split at h0
    · cases h0
    · rename_i k hk
      obtain ⟨o, h2, h3⟩ := (K.vs _ (topV_mem h1)).some hk
      have hlt := D.get rfl k hk
      refine ⟨f.loc, _, st.objs, st.out, ?_, Grow.refl _, I.ob, I.ol, K.vl, hap _ _ ((objAt st k).flds.getD b.toNat nothV) hd ?_, rfl, ?_, by omega⟩
      · rw [hdo]
        unfold getP
        rw [hk]
        exact setF_last he _ _
      · rw [objAt_of h2] at hlt ⊢
        rw [List.getD_eq_getElem?_getD, List.getElem?_eq_getElem hlt]
        exact I.ob.val o (List.mem_of_getElem? h2) _ (List.getElem_mem hlt)
      · rw [List.length_append, List.length_singleton, List.length_dropLast]
        omega
  by_cases h11 : op = 11
  · subst h11
    have h1 := D.stk.s2 (by omega)
    have hdo : doP p st fs.length f 11 a b = putP2 st fs.length f b := rfl
    rw [hdo] at h0
    unfold putP2 at h0
    split at h0
    · cases h0
    · rename_i k hk
      obtain ⟨o, h2, h3⟩ := (hd _ (topV_mem (l := f.stk.dropLast) (by rw [List.length_dropLast]; omega))).some hk
      have hlt := D.put rfl k hk
      have hkl := (List.getElem?_eq_some_iff.1 h2).1
      have hom := List.mem_of_getElem? h2
      have hg : Grow st.objs (st.objs.set k { objAt st k with flds := (objAt st k).flds.set b.toNat (topV f.stk) }) := fun j x hx => by
        by_cases e : j = k
        · subst e
          rw [h2] at hx
          cases hx
          exact ⟨_, by rw [List.getElem?_set_self hkl], by rw [objAt_of h2]⟩
        · exact ⟨x, by rw [List.getElem?_set_ne (fun h => e h.symm)]; exact hx, rfl⟩
      refine ⟨f.loc, f.stk.dropLast.dropLast, _, st.out, ?_, hg, ⟨fun x h => ?_, fun x h => ?_, fun x h v hv => ?_⟩, by rw [List.length_set]; exact I.ol, fun v hv => (K.vl v hv).grow hg, fun v hv => (hd v (List.dropLast_subset _ hv)).grow hg, rfl, ?_, by omega⟩
      · rw [hdo]
        unfold putP2
        rw [hk]
        dsimp only
        rw [setF_last he]
      · rcases List.mem_or_eq_of_mem_set h with h | rfl
        · exact I.ob.cls x h
        · dsimp only; rw [objAt_of h2]; exact I.ob.cls o hom
      · rcases List.mem_or_eq_of_mem_set h with h | rfl
        · exact I.ob.fl x h
        · dsimp only; rw [objAt_of h2, List.length_set]; exact I.ob.fl o hom
      · rcases List.mem_or_eq_of_mem_set h with h | rfl
        · exact (I.ob.val x h v hv).grow hg
        · dsimp only at hv
          rcases List.mem_or_eq_of_mem_set hv with hv | rfl
          · rw [objAt_of h2] at hv
            exact (I.ob.val o hom v hv).grow hg
          · exact (K.vs _ (topV_mem (by omega))).grow hg
      · rw [List.length_dropLast, List.length_dropLast]
        omega
  by_cases h17 : op = 17
  · subst h17
    refine ⟨f.loc, f.stk, st.objs, st.out, ?_, Grow.refl _, I.ob, I.ol, K.vl, K.vs, rfl, ht, by omega⟩
    show st = _
    cases st
    dsimp only at he ⊢
    rw [he]
  by_cases h19 : op = 19
  · subst h19
    refine ⟨f.loc, f.stk.dropLast, st.objs, st.out ++ [(topV f.stk).num], ?_, Grow.refl _, I.ob, I.ol, K.vl, hd, rfl, ?_, by simp⟩
    · show prnP st fs.length f = _
      unfold prnP
      rw [setF_last he]
    · rw [List.length_dropLast]
      omega
  · have hdo : doP p st fs.length f op a b = (setF st fs.length f (moveP op a f.loc f.stk).1 (moveP op a f.loc f.stk).2, 0) := by
      unfold doP
      rw [if_neg h6, if_neg h9, if_neg h10, if_neg h11, if_neg h17, if_neg h19]
    have o0 := J.op0
    have o1 := J.op1
    refine ⟨_, _, st.objs, st.out, ?_, Grow.refl _, I.ob, I.ol, hmv.1, hmv.2.1, hmv.2.2, moveP_len D.stk (by omega) hr ht, by omega⟩
    rw [hdo]
    exact setF_last he _ _
theorem goF_last (he : st.frames = fs ++ [f]) (pc : Nat) (stk : List LVal) : goF st fs.length f pc stk = ⟨fs ++ [{ f with pc := pc, stk := stk }], st.objs, st.told, st.out, st.steps⟩ := by
  unfold goF
  rw [he, set_lastF]
theorem Inv.step (hF : formI p = 0) (hz : szProg p ≤ 4194304) (hfu : fuel ≤ 5000) (I : Inv p fuel st) {st' : MaSt} (h : stepM p fuel st = .inl st') : Inv p fuel st' := by
  have S := I.stepOk hF hz hfu
  cases hgl : st.frames.getLast? with
  | none => unfold stepM at h; rw [hgl] at h; cases h
  | some f =>
    obtain ⟨fs, he, hlen, hdl⟩ := getLast_split hgl
    have K := I.fr f (by rw [he]; simp)
    have ht := I.top f hgl
    have hout := I.out
    by_cases hlk : lookP p fuel st.steps f = 0
    · have D := S.ok f hgl hlk
      have CL := S.cl f hgl hlk
      have hne : (st.steps : Int) ≠ fuel ∧ f.pc < f.m.code.length ∧ readyB p f.m f.loc f.stk (insAt f.m f.pc).op (insAt f.m f.pc).a (insAt f.m f.pc).b = true := by
        have hpc := K.pc
        unfold lookP at hlk
        split at hlk
        · cases hlk
        rename_i h1
        split at hlk
        · cases hlk
        rename_i h2
        split at hlk
        · rename_i h3
          exact ⟨h2, by omega, h3⟩
        · cases hlk
      obtain ⟨hne, hpc, hrd⟩ := hne
      obtain ⟨c, k, hown⟩ := K.own
      obtain ⟨hc0, hc1, M⟩ := form_own hF hown
      have hi : insB p f.m (insAt f.m f.pc) = true := by
        refine M.ins _ ?_
        unfold insAt
        rw [List.getElem?_eq_getElem hpc]
        exact List.getElem_mem _
      generalize hI : insAt f.m f.pc = ins at *
      obtain ⟨op, a, b⟩ := ins
      dsimp only at D CL hrd
      have J := ins_ok hi
      obtain ⟨r1, r2, r3, r4⟩ := ready_open hrd
      rw [stepM_eq hgl hlk hlen hI] at h
      have hd : ∀ v ∈ f.stk.dropLast, VOk st.objs v := fun v hv => K.vs v (List.dropLast_subset _ hv)
      by_cases h7 : op = 7
      · subst h7
        obtain ⟨j, hj⟩ := Int.eq_ofNat_of_zero_le (J.jmp (by omega)).1
        have hjl := (J.jmp (by omega)).2
        rw [hj] at h hjl
        rw [stepI_7, goF_last he] at h
        cases h
        exact I.put he hne (Grow.refl _) I.ob I.ol ⟨⟨c, k, hown⟩, by dsimp only; omega, K.loc, K.vl, K.vs⟩ ht (by dsimp only; omega)
      by_cases h8 : op = 8
      · subst h8
        obtain ⟨j, hj⟩ := Int.eq_ofNat_of_zero_le (J.jmp (by omega)).1
        have hjl := (J.jmp (by omega)).2
        rw [hj] at h hjl
        by_cases hn : (topV f.stk).num = 0
        · rw [stepI_8a _ _ _ _ _ _ hn, goF_last he] at h
          cases h
          exact I.put he hne (Grow.refl _) I.ob I.ol ⟨⟨c, k, hown⟩, by dsimp only; omega, K.loc, K.vl, hd⟩ (by dsimp only; rw [List.length_dropLast]; omega) (by dsimp only; omega)
        · rw [stepI_8b _ _ _ _ _ _ hn, goF_last he] at h
          cases h
          exact I.put he hne (Grow.refl _) I.ob I.ol ⟨⟨c, k, hown⟩, by dsimp only; omega, K.loc, K.vl, hd⟩ (by dsimp only; rw [List.length_dropLast]; omega) (by dsimp only; omega)
      by_cases h18 : op = 18
      · subst h18
        obtain ⟨j, hj⟩ := Int.eq_ofNat_of_zero_le (J.jmp (by omega)).1
        have hjl := (J.jmp (by omega)).2
        rw [hj] at h hjl
        by_cases hn : (topV f.stk).obj = none
        · rw [stepI_18a _ _ _ _ _ _ hn, goF_last he] at h
          cases h
          exact I.put he hne (Grow.refl _) I.ob I.ol ⟨⟨c, k, hown⟩, by dsimp only; omega, K.loc, K.vl, hd⟩ (by dsimp only; rw [List.length_dropLast]; omega) (by dsimp only; omega)
        · rw [stepI_18b _ _ _ _ _ _ hn, goF_last he] at h
          cases h
          exact I.put he hne (Grow.refl _) I.ob I.ol ⟨⟨c, k, hown⟩, by dsimp only; omega, K.loc, K.vl, hd⟩ (by dsimp only; rw [List.length_dropLast]; omega) (by dsimp only; omega)
      by_cases h12 : op = 12
      · subst h12
        have C := CL rfl
        rw [stepI_12] at h
        unfold callP at h
        dsimp only at h
        split at h
        · cases h
        rename_i o ho
        split at h
        · cases h
        rename_i h30
        have hC := C.obj o ho
        rw [goF_last he] at h
        cases h
        have hcl := C.len
        have hgm : (findM p (objAt st o).cls b).stack ≤ 8 ∧ 0 ≤ (findM p (objAt st o).cls b).stack := by
          have := bareB_iff.1 (form_find hF hC.2.2.1)
          omega
        obtain ⟨i', j', _, ho1, _⟩ := find_own (form_sup hF) hC.2.2.1
        have hf' : FOk p st.objs { f with pc := f.pc + 1, stk := (f.stk.take (f.stk.length - (findM p a b).args.length)).dropLast } := ⟨⟨c, k, hown⟩, by dsimp only; omega, K.loc, K.vl, fun v hv => K.vs v (List.take_subset _ _ (List.dropLast_subset _ hv))⟩
        have hlt := C.obj
        have hol : o < st.objs.length := by
          have h1 := CallOk.len C
          have hlen : 1 ≤ (f.stk.take (f.stk.length - (findM p a b).args.length)).length := by rw [List.length_take]; omega
          obtain ⟨x, h2, _⟩ := (K.vs _ (List.take_subset _ _ (topV_mem hlen))).some ho
          exact (List.getElem?_eq_some_iff.1 h2).1
        have hlen0 := I.len
        rw [he, List.length_append, List.length_singleton] at hlen0 h30
        have hstp := I.stp
        have hsnd : ∀ v ∈ f.stk.drop (f.stk.length - (findM p a b).args.length), VOk st.objs v := fun v hv => K.vs v (List.drop_subset _ _ hv)
        refine ⟨I.ob, fun x hx => ?_, fun x hx => ?_, fun x hx => ?_, ?_, I.ol, by show st.out.length ≤ st.steps + 1; omega, by show ((st.steps + 1 : Nat) : Int) ≤ fuel; omega⟩
        · rcases List.mem_append.1 hx with hx | hx
          · rcases List.mem_append.1 hx with hx | hx
            · exact I.fr x (by rw [he]; simp [hx])
            · obtain rfl := List.mem_singleton.1 hx
              exact hf'
          · obtain rfl := List.mem_singleton.1 hx
            refine ⟨⟨_, _, ho1⟩, Nat.zero_le _, ?_, fun v hv => ?_, fun v hv => (by cases hv)⟩
            · dsimp only
              have h1 := hC.2.2.2.1
              rw [List.length_append, List.length_cons, List.length_drop, List.length_replicate]
              omega
            · rcases List.mem_append.1 hv with hv | hv
              · rcases List.mem_cons.1 hv with rfl | hv
                · exact ⟨st.objs[o], List.getElem?_eq_getElem hol, by unfold thisV objAt; simp [List.getElem?_eq_getElem hol]⟩
                · exact hsnd v hv
              · obtain ⟨_, rfl⟩ := List.mem_replicate.1 hv
                exact .noth _
        · change (_ ++ [_]).getLast? = some x at hx
          rw [List.getLast?_concat] at hx
          cases hx
          exact hgm.2
        · change x ∈ (_ ++ [_]).dropLast at hx
          rw [List.dropLast_concat] at hx
          rcases List.mem_append.1 hx with hx | hx
          · exact I.rest x (by rw [hdl]; exact hx)
          · obtain rfl := List.mem_singleton.1 hx
            dsimp only
            rw [List.length_dropLast, List.length_take]
            omega
        · show (_ ++ [_] ++ [_]).length ≤ 30
          rw [List.length_append, List.length_append, List.length_singleton, List.length_singleton]
          omega
      by_cases h13 : op = 13
      · subst h13
        have h1 := D.stk.s1 (by omega)
        have hv := K.vs _ (topV_mem h1)
        rw [stepI_13, goF_last he] at h
        cases h
        have hstp := I.stp
        rcases List.eq_nil_or_concat fs with rfl | ⟨gs, g, rfl⟩
        · refine ⟨I.ob, fun x hx => (by cases hx), fun x hx => (by cases hx), fun x hx => (by cases hx), Nat.zero_le _, I.ol, by show st.out.length ≤ st.steps + 1; omega, by show ((st.steps + 1 : Nat) : Int) ≤ fuel; omega⟩
        · rw [List.concat_eq_append] at he hdl ⊢
          have hr := I.rest g (by rw [hdl]; simp)
          have KG := I.fr g (by rw [he]; simp)
          have hl := I.len
          rw [he] at hl
          simp only [List.length_append, List.length_singleton] at hl
          have hE : ∀ (x : MFr) (o : List LObj) (t : LVal) (u : List Int) (s : Nat) (v : LVal), endSt ⟨gs ++ [g] ++ [x], o, t, u, s⟩ v = ⟨gs ++ [{ g with stk := g.stk ++ [v] }], o, v, u, s⟩ := fun x o t u s v => by
            unfold endSt
            dsimp only
            rw [List.dropLast_concat, List.getLast?_concat, List.dropLast_concat]
          rw [hE]
          refine ⟨I.ob, fun x hx => ?_, fun x hx => ?_, fun x hx => ?_, ?_, I.ol, by show st.out.length ≤ st.steps + 1; omega, by show ((st.steps + 1 : Nat) : Int) ≤ fuel; omega⟩
          · rcases List.mem_append.1 hx with hx | hx
            · exact I.fr x (by rw [he]; simp [hx])
            · obtain rfl := List.mem_singleton.1 hx
              refine ⟨KG.own, KG.pc, KG.loc, KG.vl, fun v h => ?_⟩
              rcases List.mem_append.1 h with h | h
              · exact KG.vs v h
              · obtain rfl := List.mem_singleton.1 h
                exact hv
          · change (_ ++ [_]).getLast? = some x at hx
            rw [List.getLast?_concat] at hx
            cases hx
            dsimp only
            rw [List.length_append, List.length_singleton]
            omega
          · change x ∈ (_ ++ [_]).dropLast at hx
            rw [List.dropLast_concat] at hx
            exact I.rest x (by rw [hdl]; simp [hx])
          · show (_ ++ [_]).length ≤ 30
            rw [List.length_append, List.length_singleton]
            omega
      · rw [stepI_do _ _ _ _ _ _ _ ⟨h7, h8, h12, h13, h18⟩] at h
        split at h
        · rename_i h0
          obtain ⟨loc, stk, objs', out', e1, hg, hob, hol, hvl, hvs, hll, hst, hu⟩ := doS_ok I he J ⟨h7, h8, h12, h13, h18⟩ D r4 h0
          cases h
          rw [e1]
          unfold incF tick
          dsimp only
          rw [show (fs ++ [{ f with loc := loc, stk := stk }])[fs.length]? = some { f with loc := loc, stk := stk } by simp]
          dsimp only
          rw [set_lastF]
          exact I.put he hne hg hob hol ⟨⟨c, k, hown⟩, by dsimp only; omega, by dsimp only; rw [hll]; exact K.loc, hvl, hvs⟩ hst (by omega)
        · cases h
    · unfold stepM at h
      rw [hgl] at h
      dsimp only at h
      rw [if_pos hlk] at h
      cases h
theorem Inv.run (hF : formI p = 0) (hz : szProg p ≤ 4194304) (hfu : fuel ≤ 5000) : ∀ (n : Nat) (st : MaSt), Inv p fuel st → RunOk p fuel n st
  | 0, _, _ => trivial
  | n + 1, _, I => ⟨I.stepOk hF hz hfu, fun st' h => Inv.run hF hz hfu n st' (I.step hF hz hfu h)⟩
theorem Inv.start (hF : formI p = 0) (hf0 : 0 ≤ fuel) {c slot : Int} {args : List Int} (h0 : 0 ≤ c) (h1 : c < (p.length : Int)) (hm : (methOf p c slot).isSome = true) (hn : (findM p c slot).args.length = args.length) : Inv p fuel (startM p c slot args) := by
  have hb := bareB_iff.1 (form_find hF hm)
  obtain ⟨i', j', _, ho1, _⟩ := find_own (form_sup hF) hm
  refine ⟨⟨fun o h => ?_, fun o h => ?_, fun o h v hv => ?_⟩, fun x hx => ?_, fun x hx => ?_, fun x hx => (by cases hx), by show 1 ≤ 30; omega, by show 1 ≤ 100; omega, Nat.zero_le _, hf0⟩
  · obtain rfl := List.mem_singleton.1 h
    exact ⟨h0, h1⟩
  · obtain rfl := List.mem_singleton.1 h
    simp
  · obtain rfl := List.mem_singleton.1 h
    obtain ⟨t, _, rfl⟩ := List.mem_map.1 hv
    exact .first _ _
  · obtain rfl := List.mem_singleton.1 hx
    refine ⟨⟨_, _, ho1⟩, Nat.zero_le _, ?_, fun v hv => ?_, fun v hv => (by cases hv)⟩
    · dsimp only
      rw [List.length_append, List.length_cons, List.length_map, List.length_replicate]
      omega
    · rcases List.mem_append.1 hv with hv | hv
      · rcases List.mem_cons.1 hv with rfl | hv
        · exact ⟨_, rfl, rfl⟩
        · obtain ⟨n, _, rfl⟩ := List.mem_map.1 hv
          exact .numb _ _
      · obtain ⟨_, rfl⟩ := List.mem_replicate.1 hv
        exact .noth _
  · change (_ ++ [_]).getLast? = some x at hx
    rw [List.getLast?_concat] at hx
    cases hx
    exact hb.2.2.2.2.2.2.2.1
theorem step_steps {st' : MaSt} (h : stepM p fuel st = .inl st') : st'.steps = st.steps + 1 := by
  have hend : ∀ (s : MaSt) (v : LVal), (endSt s v).steps = s.steps := fun s v => by
    unfold endSt
    split <;> rfl
  cases hgl : st.frames.getLast? with
  | none => unfold stepM at h; rw [hgl] at h; cases h
  | some f =>
    by_cases hlk : lookP p fuel st.steps f = 0
    · obtain ⟨fs, he, hlen, hdl⟩ := getLast_split hgl
      obtain ⟨op, a, b, hI⟩ : ∃ op a b, insAt f.m f.pc = ⟨op, a, b⟩ := ⟨_, _, _, rfl⟩
      rw [stepM_eq hgl hlk hlen hI] at h
      unfold stepI at h
      split at h
      · cases h; rfl
      split at h
      · cases h
        show (if _ then _ else _ : MaSt).steps + 1 = _
        split <;> rfl
      split at h
      · cases h
        show (if _ then _ else _ : MaSt).steps + 1 = _
        split <;> rfl
      split at h
      · unfold callP at h
        dsimp only at h
        split at h
        · cases h
        split at h
        · cases h
        · cases h; rfl
      split at h
      · cases h
        show (endSt _ _).steps + 1 = _
        rw [hend]; rfl
      split at h
      · cases h
        obtain ⟨_, _, h1, h2, _⟩ := doP_frame p st fs.length f op a b (by rw [he]; simp)
        show (incF _ _).steps + 1 = _
        unfold incF
        rw [h1]
        show (doP p st fs.length f op a b).1.steps + 1 = _
        rw [h2]
      · cases h
    · unfold stepM at h
      rw [hgl] at h
      dsimp only at h
      rw [if_pos hlk] at h
      cases h
theorem run_ends (hF : formI p = 0) (hz : szProg p ≤ 4194304) (hfu : fuel ≤ 5000) : ∀ (n : Nat) (st : MaSt), Inv p fuel st → fuel < (st.steps : Int) + n → ∃ R, runM p fuel n st = some R
  | 0, st, I, h => by have := I.stp; omega
  | n + 1, st, I, h => by
    unfold runM
    cases e : stepM p fuel st with
    | inr r => exact ⟨r, rfl⟩
    | inl st' =>
      have I' := I.step hF hz hfu e
      have hs := step_steps e
      exact run_ends hF hz hfu n st' I' (by omega)
end
end Go.Proofs.YtiiokkllmchohaaGreat
/- Types of values; the state that the pass has at a place (pure). -/
namespace Go.Proofs.YtiiokkllmchohaaGreat
open Go.RowKit Go.Shelf

theorem below_refl (p : List LClass) (t : Int) : belowB p t t = true := by unfold belowB; simp
theorem below_top (p : List LClass) (t : Int) : belowB p t 2 = true := by unfold belowB; simp
theorem below_iff {p : List LClass} {t o : Int} : belowB p t o = true ↔ t = o ∨ o = 2 ∨ (3 ≤ o ∧ (t = 1 ∨ (3 ≤ t ∧ descB p (t - 3) (o - 3) = true))) := by
  unfold belowB
  simp only [Bool.or_eq_true, Bool.and_eq_true, beq_iff_eq, decide_eq_true_eq, or_assoc]
theorem below_trans {p : List LClass} (hs : SupOk p p.length) {a b c : Int} (h1 : belowB p a b = true) (h2 : belowB p b c = true) : belowB p a c = true := by
  rw [below_iff] at h1 h2 ⊢
  rcases h1 with rfl | rfl | ⟨h1, h3⟩
  · exact h2
  · rcases h2 with rfl | rfl | ⟨h4, h5⟩
    · exact .inr (.inl rfl)
    · exact .inr (.inl rfl)
    · omega
  · rcases h2 with rfl | rfl | ⟨h4, h5⟩
    · exact .inr (.inr ⟨h1, h3⟩)
    · exact .inr (.inl rfl)
    · refine .inr (.inr ⟨h4, ?_⟩)
      rcases h3 with rfl | ⟨h3, h6⟩
      · exact .inl rfl
      · rcases h5 with h5 | ⟨h5, h7⟩
        · omega
        · exact .inr ⟨h3, desc_trans hs h6 h7⟩
def TyL (p : List LClass) : List LVal → List Int → Prop
  | [], [] => True
  | v :: r, t :: u => belowB p v.kind t = true ∧ TyL p r u
  | _, _ => False
theorem TyL.len {p : List LClass} : ∀ {l : List LVal} {u : List Int}, TyL p l u → l.length = u.length
  | [], [], _ => rfl
  | _ :: _, _ :: _, h => by simp only [List.length_cons]; rw [TyL.len h.2]
  | [], _ :: _, h => h.elim
  | _ :: _, [], h => h.elim
theorem TyL.app {p : List LClass} : ∀ {l : List LVal} {u : List Int} {l' : List LVal} {u' : List Int}, TyL p l u → TyL p l' u' → TyL p (l ++ l') (u ++ u')
  | [], [], _, _, _, h => h
  | _ :: _, _ :: _, _, _, h, h' => ⟨h.1, TyL.app h.2 h'⟩
  | [], _ :: _, _, _, h, _ => h.elim
  | _ :: _, [], _, _, h, _ => h.elim
theorem TyL.split {p : List LClass} : ∀ {l : List LVal} {u u' : List Int}, TyL p l (u ++ u') → ∃ a b, l = a ++ b ∧ TyL p a u ∧ TyL p b u'
  | l, [], u', h => ⟨[], l, rfl, trivial, h⟩
  | [], _ :: _, _, h => h.elim
  | v :: r, t :: u, u', h => by
    obtain ⟨a, b, e, h1, h2⟩ := TyL.split (u := u) h.2
    exact ⟨v :: a, b, by rw [e]; rfl, ⟨h.1, h1⟩, h2⟩
theorem TyL.snoc {p : List LClass} {l : List LVal} {u : List Int} {t : Int} (h : TyL p l (u ++ [t])) : ∃ a x, l = a ++ [x] ∧ TyL p a u ∧ belowB p x.kind t = true := by
  obtain ⟨a, b, e, h1, h2⟩ := h.split
  match b, h2 with
  | [x], h2 => exact ⟨a, x, e, h1, h2.1⟩
theorem TyL.push {p : List LClass} {l : List LVal} {u : List Int} {v : LVal} {t : Int} (h : TyL p l u) (hv : belowB p v.kind t = true) : TyL p (l ++ [v]) (u ++ [t]) := h.app ⟨hv, trivial⟩
theorem TyL.get {p : List LClass} : ∀ {l : List LVal} {u : List Int} (_ : TyL p l u) (j : Nat) (t : Int), u[j]? = some t → belowB p (l.getD j nothV).kind t = true
  | _ :: _, _ :: _, h, 0, t, e => by cases e; exact h.1
  | _ :: _, _ :: _, h, j + 1, t, e => TyL.get h.2 j t e
  | [], [], _, _, _, e => by cases e
  | [], _ :: _, h, _, _, _ => h.elim
  | _ :: _, [], h, _, _, _ => h.elim
theorem TyL.mono {p : List LClass} (hs : SupOk p p.length) : ∀ {l : List LVal} {u u' : List Int}, TyL p l u → u.length = u'.length → ((u.zip u').all fun x => belowB p x.1 x.2) = true → TyL p l u'
  | [], [], [], h, _, _ => h
  | _ :: _, t :: u, t' :: u', h, hl, ha => by
    rw [List.zip_cons_cons, List.all_cons, Bool.and_eq_true] at ha
    exact ⟨below_trans hs h.1 ha.1, TyL.mono hs h.2 (by simpa using hl) ha.2⟩
  | [], _ :: _, _, h, _, _ => h.elim
  | _ :: _, [], _, h, _, _ => h.elim
  | [], [], _ :: _, _, hl, _ => by simp at hl
  | _ :: _, _ :: _, [], _, hl, _ => by simp at hl
def TyLoc (p : List LClass) (loc : List LVal) (u : List Int) : Prop := u.length = 8 ∧ ∀ j v, loc[j]? = some v → belowB p v.kind (u.getD j 0) = true
theorem TyLoc.mono {p : List LClass} (hs : SupOk p p.length) {loc : List LVal} {u u' : List Int} (h : TyLoc p loc u) (hl : u'.length = 8) (ha : ((u.zip u').all fun x => belowB p x.1 x.2) = true) (h8 : loc.length ≤ 8) : TyLoc p loc u' := by
  refine ⟨hl, fun j v e => ?_⟩
  have hj := (List.getElem?_eq_some_iff.1 e).1
  have h1 := h.2 j v e
  have hu := h.1
  have h2 : belowB p (u.getD j 0) (u'.getD j 0) = true := by
    rw [List.getD_eq_getElem?_getD, List.getD_eq_getElem?_getD, List.getElem?_eq_getElem (by omega), List.getElem?_eq_getElem (by omega)]
    refine List.all_eq_true.1 ha (_, _) ?_
    rw [List.mem_iff_getElem]
    exact ⟨j, by rw [List.length_zip]; omega, by rw [List.getElem_zip]⟩
  exact below_trans hs h1 h2
structure FTy (p : List LClass) (loc stk : List LVal) (s : TSt) : Prop where
  l : TyLoc p loc s.loc
  s : TyL p stk s.stk
theorem FTy.mono {p : List LClass} (hs : SupOk p p.length) {loc stk : List LVal} {s t : TSt} (h : FTy p loc stk s) (hb : belowS p s t = true) (hl : t.loc.length = 8) (h8 : loc.length ≤ 8) : FTy p loc stk t := by
  unfold belowS at hb
  simp only [Bool.and_eq_true, beq_iff_eq] at hb
  exact ⟨h.l.mono hs hl hb.1.2 h8, h.s.mono hs hb.1.1 hb.2⟩
theorem belowS_refl (p : List LClass) (s : TSt) : belowS p s s = true := by
  have : ∀ l : List Int, ((l.zip l).all fun x => belowB p x.1 x.2) = true := fun l => by
    rw [List.all_eq_true]
    intro x hx
    obtain ⟨j, hj, rfl⟩ := List.getElem_of_mem hx
    rw [List.getElem_zip]
    exact below_refl _ _
  unfold belowS
  rw [this, this]
  simp
def atS (p : List LClass) (c : Int) (m : LMeth) (pc : Nat) : Option TSt := match frameAtS m pc with
  | some t => some t
  | none => (passK p c m pc).join
theorem passK_some {p : List LClass} {c : Int} {m : LMeth} (h : passB p c m = true) : ∀ k, k ≤ m.code.length → ∃ s, passK p c m k = some s := by
  intro k hk
  have key : ∀ d, k + d ≤ m.code.length → (passK p c m (k + d)).isSome = true → (passK p c m k).isSome = true := by
    intro d
    induction d with
    | zero => intro _ h; exact h
    | succ d ih =>
      intro hd h
      refine ih (by omega) ?_
      rw [← Nat.add_assoc] at h
      unfold passK at h
      cases e : passK p c m (k + d) with
      | none => rw [e] at h; cases h
      | some x => rfl
  exact Option.isSome_iff_exists.1 (key (m.code.length - k) (by omega) (by rw [show k + (m.code.length - k) = m.code.length by omega]; exact h))
theorem frameAtS_len {p : List LClass} {m : LMeth} (hF : FrOk p m) {pc : Int} {t : TSt} (h : frameAtS m pc = some t) : t.loc.length = 8 := by
  unfold frameAtS at h
  cases e : m.frames.find? (fun f => f.pc == pc) with
  | none => rw [e] at h; cases h
  | some f =>
    rw [e] at h
    cases h
    have := (hF f (List.mem_of_find?_eq_some e)).1
    unfold toldS
    simp; omega
theorem stepS_go {p : List LClass} {m : LMeth} {pc : Nat} {h h' : Option TSt} (e : stepS p m pc h = some h') {s : TSt} (ha : (match frameAtS m pc with | some t => some t | none => h) = some s) : goS p m pc s = some h' ∧ ∀ s0 t, h = some s0 → frameAtS m pc = some t → belowS p s0 t = true := by
  unfold stepS at e
  cases hf : frameAtS m pc with
  | none =>
    rw [hf] at e ha
    dsimp only at ha
    subst ha
    exact ⟨e, fun s0 t _ h2 => by cases h2⟩
  | some t =>
    rw [hf] at e ha
    cases ha
    cases h with
    | none => exact ⟨e, fun s0 t h1 _ => by cases h1⟩
    | some s0 =>
      dsimp only at e
      split at e
      · rename_i hb
        exact ⟨e, fun s1 t h1 h2 => by cases h1; cases h2; exact hb⟩
      · cases e
theorem pass_at {p : List LClass} {c : Int} {m : LMeth} (h : passB p c m = true) (hF : FrOk p m) (hi : ∀ i ∈ m.code, insB p m i = true) {pc : Nat} (hlt : pc < m.code.length) {s : TSt} (hs : atS p c m pc = some s) :
    ∃ s', doS p m (insAt m pc) s = some s' ∧ (jumpsB (insAt m pc) = true → ∃ t, atS p c m (insAt m pc).a.toNat = some t ∧ belowS p s' t = true ∧ (insAt m pc).a.toNat < m.code.length ∧ t.loc.length = 8) ∧
      (fallsB (insAt m pc) = true → ∃ t, atS p c m (pc + 1) = some t ∧ belowS p s' t = true ∧ pc + 1 < m.code.length ∧ (t = s' ∨ t.loc.length = 8)) := by
  obtain ⟨h0, e0⟩ := passK_some h pc (by omega)
  obtain ⟨h1, e1⟩ := passK_some h (pc + 1) (by omega)
  have e2 : stepS p m pc h0 = some h1 := by
    have := e1
    unfold passK at this
    rw [e0] at this
    exact this
  have hst : (match frameAtS m pc with | some t => some t | none => h0) = some s := by
    unfold atS at hs
    rw [e0] at hs
    exact hs
  obtain ⟨hgo, _⟩ := stepS_go e2 hst
  have hmem : insAt m pc ∈ m.code := by
    unfold insAt
    rw [List.getElem?_eq_getElem hlt]
    exact List.getElem_mem _
  unfold goS at hgo
  cases hn : nextS p m pc s with
  | none => rw [hn] at hgo; cases hgo
  | some s' =>
    rw [hn, Option.bind_some] at hgo
    split at hgo
    · rename_i hall
      cases hgo
      unfold nextS at hn
      cases hd : doS p m (insAt m pc) s with
      | none => rw [hd] at hn; cases hn
      | some s1 =>
        rw [hd, Option.bind_some] at hn
        split at hn
        · cases hn
        · rename_i hend
          cases hn
          refine ⟨s', rfl, fun hj => ?_, fun hf => ?_⟩
          · have hmm : ((insAt m pc).a, true) ∈ onwardL (insAt m pc) pc := by
              unfold onwardL
              rw [if_pos hj]; simp
            have := List.all_eq_true.1 hall _ hmm
            simp only [Bool.not_true, Bool.false_or] at this
            unfold frOk at this
            have hI := ins_ok (p := p) (m := m) (op := (insAt m pc).op) (a := (insAt m pc).a) (b := (insAt m pc).b) (hi _ hmem)
            have hjm := hI.jmp (by
              unfold jumpsB at hj
              simp only [Bool.or_eq_true, beq_iff_eq] at hj
              omega)
            split at this
            · cases this
            · rename_i t ht
              have e3 : (((insAt m pc).a.toNat : Nat) : Int) = (insAt m pc).a := by omega
              refine ⟨t, ?_, this, by omega, frameAtS_len hF ht⟩
              unfold atS
              rw [e3, ht]
          · have hlt1 : pc + 1 < m.code.length := by
              apply Nat.lt_of_le_of_ne hlt
              intro e
              apply hend
              unfold endB onwardL
              rw [if_pos hf, List.any_append]
              simp only [List.any_cons, List.any_nil, Bool.or_false, Bool.or_eq_true, beq_iff_eq]
              right
              omega
            rw [if_pos hf] at e1 e2
            obtain ⟨h2, e3⟩ := passK_some h (pc + 2) (by omega)
            have e4 : stepS p m (pc + 1) (some s') = some h2 := by
              have := e3
              unfold passK at this
              rw [e1] at this
              exact this
            cases hfr : frameAtS m ((pc + 1 : Nat) : Int) with
            | none =>
              refine ⟨s', ?_, belowS_refl _ _, hlt1, .inl rfl⟩
              unfold atS
              rw [hfr, e1]
              rfl
            | some t =>
              refine ⟨t, ?_, ?_, hlt1, .inr (frameAtS_len hF hfr)⟩
              · unfold atS
                rw [hfr]
              · exact (stepS_go e4 (s := t) (by rw [hfr])).2 s' t rfl hfr
    · cases hgo
end Go.Proofs.YtiiokkllmchohaaGreat
/- What passes is ready: the instructions that touch nothing beside the frame (pure). -/
namespace Go.Proofs.YtiiokkllmchohaaGreat
open Go.RowKit Go.Shelf

theorem takeS_iff {s : TSt} {t : Int} {s' : TSt} (h : takeS s = some (t, s')) : s.stk = s'.stk ++ [t] ∧ s'.loc = s.loc := by
  unfold takeS at h
  cases e : s.stk.getLast? with
  | none => rw [e] at h; cases h
  | some y =>
    rw [e] at h
    cases h
    obtain ⟨fs, h1, _, h2⟩ := getLast_split e
    refine ⟨?_, rfl⟩
    dsimp only
    rw [h2]; exact h1
theorem wantS_iff {p : List LClass} {s s' : TSt} {t : Int} (h : wantS p t s = some s') : ∃ u, s.stk = s'.stk ++ [u] ∧ s'.loc = s.loc ∧ belowB p u t = true := by
  unfold wantS at h
  cases e : takeS s with
  | none => rw [e] at h; cases h
  | some x =>
    rw [e, Option.bind_some] at h
    split at h
    · rename_i hb
      cases h
      obtain ⟨h1, h2⟩ := takeS_iff (t := x.1) (s' := x.2) e
      exact ⟨x.1, h1, h2, hb⟩
    · cases h
theorem wantO_iff {s s' : TSt} (h : wantO s = some s') : ∃ u, s.stk = s'.stk ++ [u] ∧ s'.loc = s.loc ∧ (u = 1 ∨ 3 ≤ u) := by
  unfold wantO at h
  cases e : takeS s with
  | none => rw [e] at h; cases h
  | some x =>
    rw [e, Option.bind_some] at h
    split at h
    · rename_i hb
      cases h
      obtain ⟨h1, h2⟩ := takeS_iff (t := x.1) (s' := x.2) e
      refine ⟨x.1, h1, h2, ?_⟩
      unfold mayObj at hb
      simpa using hb
    · cases h
theorem leaveS_iff {m : LMeth} {t : Int} {s s' : TSt} (h : leaveS m t s = some s') : (s.stk.length : Int) ≠ m.stack ∧ s'.stk = s.stk ++ [t] ∧ s'.loc = s.loc := by
  unfold leaveS at h
  split at h
  · cases h
  · rename_i hn
    cases h
    exact ⟨hn, rfl, rfl⟩
theorem knownS_iff {t u : Int} (h : knownS t = some u) : u = t ∧ t ≠ 2 := by
  unfold knownS at h
  split at h
  · cases h
  · rename_i hn
    cases h
    exact ⟨rfl, hn⟩
theorem bind_iff {α β : Type} {o : Option α} {f : α → Option β} {b : β} (h : o.bind f = some b) : ∃ a, o = some a ∧ f a = some b := by
  cases o with
  | none => cases h
  | some a => exact ⟨a, rfl, h⟩
theorem wantsS_iff {p : List LClass} (hs : SupOk p p.length) : ∀ (l : List Int) {s s' : TSt} {stk : List LVal}, wantsS p l.reverse s = some s' → TyL p stk s.stk → ∃ a b, stk = a ++ b ∧ TyL p a s'.stk ∧ TyL p b l ∧ s'.loc = s.loc ∧ s.stk.length = s'.stk.length + l.length := by
  have key : ∀ (l : List Int) {s s' : TSt} {stk : List LVal}, wantsS p l s = some s' → TyL p stk s.stk → ∃ a b, stk = a ++ b ∧ TyL p a s'.stk ∧ TyL p b l.reverse ∧ s'.loc = s.loc ∧ s.stk.length = s'.stk.length + l.length := by
    intro l
    induction l with
    | nil =>
      intro s s' stk h ht
      cases h
      exact ⟨stk, [], by simp, ht, trivial, rfl, rfl⟩
    | cons t r ih =>
      intro s s' stk h ht
      unfold wantsS at h
      obtain ⟨s1, h1, h2⟩ := bind_iff h
      obtain ⟨u, e1, e2, hb⟩ := wantS_iff h1
      rw [e1] at ht
      obtain ⟨a0, x, rfl, h3, h4⟩ := ht.snoc
      obtain ⟨a, b, rfl, h5, h6, h7, h8⟩ := ih h2 h3
      refine ⟨a, b ++ [x], by simp, h5, ?_, by rw [h7, e2], ?_⟩
      · rw [List.reverse_cons]
        exact h6.push (below_trans hs h4 hb)
      · rw [e1, List.length_append, h8]
        simp
        omega
  intro l s s' stk h ht
  obtain ⟨a, b, e, h1, h2, h3, h4⟩ := key l.reverse h ht
  rw [List.reverse_reverse] at h2
  exact ⟨a, b, e, h1, h2, h3, by rw [h4]; simp⟩
section
variable {p : List LClass} {m : LMeth} {loc stk : List LVal} {s s' : TSt} {a b : Int}
theorem ready_mk {op : Int} {x y : List LVal} (hl : TyL p y (wantsM p m.ret op a b)) (h1 : op = 1 → (loc.getD a.toNat nothV).kind ≠ 2) (hr : roomB op = true → ((x ++ y).length : Int) < m.stack) : readyB p m loc (x ++ y) op a b = true := by
  unfold readyB wantK
  simp only [Bool.and_eq_true, decide_eq_true_eq, List.all_eq_true, List.mem_range, Bool.not_eq_true', Bool.or_eq_true, Bool.and_eq_false_iff, beq_eq_false_iff_ne, ne_eq]
  have hlen := hl.len
  refine ⟨⟨⟨by rw [List.length_append]; omega, fun j hj => ?_⟩, ?_⟩, ?_⟩
  · have e : (x ++ y).length - (wantsM p m.ret op a b).length + j = x.length + j := by rw [List.length_append]; omega
    rw [e, List.getD_eq_getElem?_getD, List.getElem?_append_right (by omega), Nat.add_sub_cancel_left, ← List.getD_eq_getElem?_getD]
    refine hl.get j _ ?_
    rw [List.getD_eq_getElem?_getD, List.getElem?_eq_getElem hj]
    rfl
  · by_cases h : op = 1
    · exact .inr (h1 h)
    · exact .inl h
  · cases h : roomB op with
    | true => exact .inr (hr h)
    | false => exact .inl rfl
theorem ready_mk0 {op : Int} (hl : wantsM p m.ret op a b = []) (h1 : op = 1 → (loc.getD a.toNat nothV).kind ≠ 2) (hr : roomB op = true → (stk.length : Int) < m.stack) : readyB p m loc stk op a b = true := by
  have := ready_mk (p := p) (m := m) (loc := loc) (a := a) (b := b) (op := op) (x := stk) (y := []) (by rw [hl]; trivial) h1 (by rw [List.append_nil]; exact hr)
  rw [List.append_nil] at this
  exact this
theorem snd_move {op : Int} (hs : SupOk p p.length) (hd : doS p m ⟨op, a, b⟩ s = some s') (T : FTy p loc stk s) (hlm : m.locals = (loc.length : Int)) (h8 : loc.length ≤ 8) (ht : (stk.length : Int) ≤ m.stack) (ha : (op = 1 ∨ op = 2) → 0 ≤ a ∧ a < m.locals)
    (ho : op = 0 ∨ op = 16 ∨ op = 1 ∨ op = 2 ∨ op = 14 ∨ op = 15 ∨ op = 20 ∨ op = 3 ∨ op = 4 ∨ op = 5 ∨ op = 6) : readyB p m loc stk op a b = true ∧ FTy p (moveP op a loc stk).1 (moveP op a loc stk).2 s' := by
  obtain ⟨TL, TS⟩ := T
  have hlen := TS.len
  rcases ho with rfl | rfl | rfl | rfl | rfl | rfl | rfl | ho
  · obtain ⟨h1, h2, h3⟩ := leaveS_iff (show leaveS m 0 s = some s' from hd)
    refine ⟨ready_mk0 rfl (by omega) (fun _ => by omega), ?_, ?_⟩
    · show TyLoc p loc s'.loc
      rw [h3]; exact TL
    · show TyL p (stk ++ [_]) s'.stk
      rw [h2]; exact TS.push (below_refl _ _)
  · obtain ⟨h1, h2, h3⟩ := leaveS_iff (show leaveS m 1 s = some s' from hd)
    refine ⟨ready_mk0 rfl (by omega) (fun _ => by omega), ?_, ?_⟩
    · show TyLoc p loc s'.loc
      rw [h3]; exact TL
    · show TyL p (stk ++ [_]) s'.stk
      rw [h2]; exact TS.push (below_refl _ _)
  · obtain ⟨t, h0, hd⟩ := bind_iff (show (knownS (s.loc.getD a.toNat 0)).bind (fun t => leaveS m t s) = some s' from hd)
    obtain ⟨rfl, hne⟩ := knownS_iff h0
    obtain ⟨h1, h2, h3⟩ := leaveS_iff hd
    have hal := ha (by omega)
    have hlt : a.toNat < loc.length := by omega
    have hb := TL.2 a.toNat _ (List.getElem?_eq_getElem hlt)
    have hg : loc.getD a.toNat nothV = loc[a.toNat] := by rw [List.getD_eq_getElem?_getD, List.getElem?_eq_getElem hlt]; rfl
    refine ⟨ready_mk0 rfl (fun _ e => ?_) (fun _ => by omega), ?_, ?_⟩
    · rw [hg] at e
      rw [e, below_iff] at hb
      omega
    · show TyLoc p loc s'.loc
      rw [h3]; exact TL
    · show TyL p (stk ++ [_]) s'.stk
      rw [h2, hg]; exact TS.push hb
  · obtain ⟨⟨t, s1⟩, h0, hd⟩ := bind_iff (show (takeS s).bind (fun x => (knownS x.1).map fun t => { x.2 with loc := x.2.loc.set a.toNat t }) = some s' from hd)
    obtain ⟨h1, h2⟩ := takeS_iff h0
    cases hk : knownS t with
    | none => dsimp only at hd; rw [hk] at hd; cases hd
    | some u =>
      dsimp only at hd
      rw [hk] at hd
      cases hd
      obtain ⟨rfl, hne⟩ := knownS_iff hk
      rw [h1] at TS
      obtain ⟨y, x, rfl, h3, h4⟩ := TS.snoc
      have hal := ha (by omega)
      have hmv : moveP 2 a loc (y ++ [x]) = (loc.set a.toNat x, y) := by
        show (loc.set a.toNat (topV (y ++ [x])), (y ++ [x]).dropLast) = _
        rw [topV_snoc, List.dropLast_concat]
      rw [hmv]
      refine ⟨ready_mk (show TyL p [x] [2] from ⟨below_top _ _, trivial⟩) (by omega) (fun e => by cases e), ⟨?_, fun j v e => ?_⟩, h3⟩
      · dsimp only
        rw [List.length_set, h2]; exact TL.1
      · dsimp only at e ⊢
        by_cases hj : j = a.toNat
        · subst hj
          have hjl := (List.getElem?_eq_some_iff.1 e).1
          rw [List.length_set] at hjl
          rw [List.getElem?_set_self hjl] at e
          cases e
          rw [List.getD_eq_getElem?_getD, List.getElem?_set_self (by rw [h2, TL.1]; omega)]
          exact h4
        · rw [List.getElem?_set_ne (fun h => hj h.symm)] at e
          rw [List.getD_eq_getElem?_getD, List.getElem?_set_ne (fun h => hj h.symm), ← List.getD_eq_getElem?_getD, h2]
          exact TL.2 j v e
  · cases h0 : takeS s with
    | none =>
      have hd' : (takeS s).map (·.2) = some s' := hd
      rw [h0] at hd'; cases hd'
    | some x =>
      have hd' : (takeS s).map (·.2) = some s' := hd
      rw [h0] at hd'
      cases hd'
      obtain ⟨t, s1⟩ := x
      obtain ⟨h1, h2⟩ := takeS_iff h0
      rw [h1] at TS
      obtain ⟨y, x, rfl, h3, h4⟩ := TS.snoc
      have hmv : moveP 14 a loc (y ++ [x]) = (loc, y) := by
        show (loc, (y ++ [x]).dropLast) = _
        rw [List.dropLast_concat]
      rw [hmv]
      refine ⟨ready_mk (show TyL p [x] [2] from ⟨below_top _ _, trivial⟩) (by omega) (fun e => by cases e), ?_, h3⟩
      dsimp only
      rw [h2]; exact TL
  · obtain ⟨⟨t, s1⟩, h0, hd⟩ := bind_iff (show (takeS s).bind (fun x => (leaveS m x.1 x.2).bind (leaveS m x.1)) = some s' from hd)
    obtain ⟨h1, h2⟩ := takeS_iff h0
    obtain ⟨s2, g1, g2⟩ := bind_iff hd
    obtain ⟨_, e1, e2⟩ := leaveS_iff g1
    obtain ⟨n2, e3, e4⟩ := leaveS_iff g2
    rw [h1] at TS
    obtain ⟨y, x, rfl, h3, h4⟩ := TS.snoc
    have hmv : moveP 15 a loc (y ++ [x]) = (loc, y ++ [x] ++ [x]) := by
      show (loc, (y ++ [x]).dropLast ++ [topV (y ++ [x])] ++ [topV (y ++ [x])]) = _
      rw [topV_snoc, List.dropLast_concat]
    rw [hmv]
    refine ⟨ready_mk (show TyL p [x] [2] from ⟨below_top _ _, trivial⟩) (by omega) (fun _ => ?_), ?_, ?_⟩
    · rw [e1, ← h3.len] at *
      rw [List.length_append] at *
      simp only [List.length_singleton] at *
      rw [← h3.len] at n2
      omega
    · dsimp only
      rw [e4, e2, h2]; exact TL
    · dsimp only
      rw [e3, e1]
      exact (h3.push h4).push h4
  · obtain ⟨⟨t, s1⟩, h0, hd⟩ := bind_iff (show (takeS s).bind (fun y => (takeS y.2).bind fun x => (leaveS m y.1 x.2).bind (leaveS m x.1)) = some s' from hd)
    obtain ⟨⟨t2, s2⟩, h00, hd⟩ := bind_iff hd
    obtain ⟨h1, h2⟩ := takeS_iff h0
    obtain ⟨h11, h22⟩ := takeS_iff h00
    obtain ⟨s3, g1, g2⟩ := bind_iff hd
    obtain ⟨_, e1, e2⟩ := leaveS_iff g1
    obtain ⟨n2, e3, e4⟩ := leaveS_iff g2
    dsimp only at h11 h22 e1 e2 e3
    rw [h1, h11] at TS
    obtain ⟨y, x, rfl, h3, h4⟩ := TS.snoc
    obtain ⟨z, w, rfl, h5, h6⟩ := h3.snoc
    have hmv : moveP 20 a loc (z ++ [w] ++ [x]) = (loc, z ++ [x] ++ [w]) := by
      show (loc, (z ++ [w] ++ [x]).dropLast.dropLast ++ [topV (z ++ [w] ++ [x])] ++ [topV (z ++ [w] ++ [x]).dropLast]) = _
      rw [topV_snoc, List.dropLast_concat, List.dropLast_concat, topV_snoc]
    rw [hmv]
    refine ⟨?_, ?_, ?_⟩
    · rw [List.append_assoc]
      exact ready_mk (show TyL p [w, x] [2, 2] from ⟨below_top _ _, below_top _ _, trivial⟩) (by omega) (fun e => by cases e)
    · dsimp only
      rw [e4, e2, h22, h2]; exact TL
    · dsimp only
      rw [e3, e1]
      exact (h5.push h4).push h6
  · have hw : wantsM p m.ret op a b = [0, 0] := by rcases ho with rfl | rfl | rfl | rfl <;> rfl
    have hd' : (wantS p 0 s).bind (fun s => (wantS p 0 s).bind (leaveS m 0)) = some s' := by rcases ho with rfl | rfl | rfl | rfl <;> exact hd
    obtain ⟨s1, g1, g2⟩ := bind_iff hd'
    obtain ⟨s2, g3, g4⟩ := bind_iff g2
    obtain ⟨u1, e1, e2, b1⟩ := wantS_iff g1
    obtain ⟨u2, e3, e4, b2⟩ := wantS_iff g3
    obtain ⟨_, e5, e6⟩ := leaveS_iff g4
    rw [e1, e3] at TS
    obtain ⟨y, x, rfl, h3, h4⟩ := TS.snoc
    obtain ⟨z, w, rfl, h5, h6⟩ := h3.snoc
    have hmv : ∃ n, moveP op a loc (z ++ [w] ++ [x]) = (loc, z ++ [numbV n]) := by
      have hdd : (z ++ [w] ++ [x]).dropLast.dropLast = z := by rw [List.dropLast_concat, List.dropLast_concat]
      rcases ho with rfl | rfl | rfl | rfl
      · exact ⟨_, show (loc, (z ++ [w] ++ [x]).dropLast.dropLast ++ [_]) = _ by rw [hdd]⟩
      · exact ⟨_, show (loc, (z ++ [w] ++ [x]).dropLast.dropLast ++ [_]) = _ by rw [hdd]⟩
      · exact ⟨_, show (loc, (z ++ [w] ++ [x]).dropLast.dropLast ++ [_]) = _ by rw [hdd]⟩
      · exact ⟨_, show (loc, (z ++ [w] ++ [x]).dropLast.dropLast ++ [_]) = _ by rw [hdd]⟩
    obtain ⟨n, hmv⟩ := hmv
    rw [hmv]
    refine ⟨?_, ?_, ?_⟩
    · rw [List.append_assoc]
      refine ready_mk (by rw [hw]; exact ⟨below_trans hs h6 b2, below_trans hs h4 b1, trivial⟩) (by omega) (fun e => ?_)
      rcases ho with rfl | rfl | rfl | rfl <;> cases e
    · dsimp only
      rw [e6, e4, e2]; exact TL
    · dsimp only
      rw [e5]
      exact h5.push (below_refl _ _)
end
end Go.Proofs.YtiiokkllmchohaaGreat
