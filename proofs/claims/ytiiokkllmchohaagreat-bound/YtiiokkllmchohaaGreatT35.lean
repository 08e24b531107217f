/- The program that Bound makes: its Form, its pass, its run (pure). -/
import Derived.Test.YtiiokkllmchohaaGreatT34
/- BndP -/
namespace Go.Proofs.YtiiokkllmchohaaGreat
open Go.RowKit Go.Shelf

def numM (j : Nat) : LMeth := ⟨3, [], 0, 1, 1, [⟨0, 100 + (j : Int), 0⟩, ⟨13, 0, 0⟩], []⟩
def mainM (a b : Int) : LMeth := ⟨5, [], 0, 1, 1, [⟨9, a, 0⟩, ⟨17, b, 0⟩, ⟨12, 0, 3⟩, ⟨19, 0, 0⟩, ⟨0, 4, 0⟩, ⟨13, 0, 0⟩], []⟩
def methsB (a b : Int) (j : Nat) (x : Int × Bool) : List LMeth := (if x.2 then [numM j] else []) ++ (if j = 0 then [mainM a b] else [])
def boundP (a b : Int) (bl : List (Int × Bool)) : List LClass := bl.mapIdx fun j x => ⟨x.1, [], methsB a b j x⟩
structure BlOk (bl : List (Int × Bool)) (who : List Int) : Prop where
  len : who.length = bl.length
  one : 1 ≤ bl.length
  six : bl.length ≤ 6
  zero : ∀ x, bl[0]? = some x → x = (-1, true)
  sup : ∀ (j : Nat) (x : Int × Bool), bl[j]? = some x → 0 < j → 0 ≤ x.1 ∧ x.1 < (j : Int)
  who : ∀ (j : Nat) (x : Int × Bool), bl[j]? = some x → who[j]? = some (if x.2 then (j : Int) else who.getD x.1.toNat 0)
section
variable {a b : Int} {bl : List (Int × Bool)} {who : List Int}
theorem boundP_len : (boundP a b bl).length = bl.length := by unfold boundP; simp
theorem boundP_get (j : Nat) : (boundP a b bl)[j]? = (bl[j]?).map fun x => ⟨x.1, [], methsB a b j x⟩ := by
  unfold boundP
  rw [List.getElem?_mapIdx]
theorem boundP_at {j : Nat} {y : LClass} (h : (boundP a b bl)[j]? = some y) : ∃ x, bl[j]? = some x ∧ y = ⟨x.1, [], methsB a b j x⟩ := by
  rw [boundP_get] at h
  obtain ⟨x, h1, h2⟩ := Option.map_eq_some_iff.1 h
  exact ⟨x, h1, h2.symm⟩
theorem bound_sup (B : BlOk bl who) : SupOk (boundP a b bl) (boundP a b bl).length := fun c y _ hy => by
  obtain ⟨x, hx, rfl⟩ := boundP_at hy
  unfold supB
  by_cases h0 : c = 0
  · subst h0
    rw [B.zero x hx]
    rfl
  · rw [if_neg h0]
    have := B.sup c x hx (by omega)
    simp
    exact this
theorem bound_fields (c : Int) : fieldsOf (boundP a b bl) c = [] := by
  unfold fieldsOf
  have : ∀ l : List Nat, (l.map (ownFields (boundP a b bl))).flatten = [] := by
    intro l
    induction l with
    | nil => rfl
    | cons k r ih =>
      have h : ownFields (boundP a b bl) k = [] := by
        unfold ownFields
        rw [boundP_get]
        cases bl[k]? <;> rfl
      rw [List.map_cons, List.flatten_cons, ih, h]; rfl
  exact this _
theorem slot3 (j : Nat) (x : Int × Bool) : slotIn (methsB a b j x) 3 = if x.2 then some 0 else none := by
  unfold methsB
  obtain ⟨s, m⟩ := x
  cases m <;> by_cases h : j = 0 <;> simp [h, slotIn, numM, mainM, List.findIdx?_cons]
theorem slot5 (j : Nat) (x : Int × Bool) (h1 : j = 0 → x.2 = true) : slotIn (methsB a b j x) 5 = if j = 0 then some 1 else none := by
  unfold methsB
  obtain ⟨s, m⟩ := x
  by_cases h : j = 0
  · have := h1 h
    dsimp only at this
    subst this
    simp [h, slotIn, numM, mainM, List.findIdx?_cons]
  · cases m <;> simp [h, slotIn, numM, List.findIdx?_cons]
theorem bound_meth3 (B : BlOk bl who) : ∀ (c : Nat), c < bl.length → ∃ d : Nat, who[c]? = some (d : Int) ∧ methOf (boundP a b bl) (c : Int) 3 = some (d, 0) ∧ findM (boundP a b bl) (c : Int) 3 = numM d ∧ d < bl.length := by
  intro c
  induction c using Nat.strongRecOn with
  | ind c ih =>
    intro hc
    have hx := List.getElem?_eq_getElem hc
    generalize bl[c] = x at hx
    have hy : (boundP a b bl)[c]? = some ⟨x.1, [], methsB a b c x⟩ := by rw [boundP_get, hx]; rfl
    have hst := methOf_step (boundP a b bl) (bound_sup B) 3 (by rw [boundP_len]; exact hc) hy
    dsimp only at hst
    rw [slot3] at hst
    have hw := B.who c x hx
    obtain ⟨s, m⟩ := x
    cases m with
    | true =>
      refine ⟨c, hw, hst, ?_, hc⟩
      refine findM_of hst ?_
      unfold methAt
      rw [hy]
      rfl
    | false =>
      have h0 : c ≠ 0 := by
        rintro rfl
        have := B.zero _ hx
        cases this
      have hsup := B.sup c _ hx (by omega)
      dsimp only at hsup
      obtain ⟨k, hk⟩ := Int.eq_ofNat_of_zero_le hsup.1
      subst hk
      obtain ⟨d, d1, d2, d3, d4⟩ := ih k (by omega) (by omega)
      refine ⟨d, ?_, hst.trans d2, ?_, d4⟩
      · rw [hw]
        show some (who.getD ((k : Int)).toNat 0) = _
        rw [Int.toNat_natCast, List.getD_eq_getElem?_getD, d1]; rfl
      · have : methOf (boundP a b bl) (c : Int) 3 = methOf (boundP a b bl) (k : Int) 3 := hst
        unfold findM
        rw [this]
        exact d3
theorem bound_meth5 (B : BlOk bl who) : ∀ (c : Nat), c < bl.length → methOf (boundP a b bl) (c : Int) 5 = some (0, 1) ∧ findM (boundP a b bl) (c : Int) 5 = mainM a b := by
  have hz : ∀ x, bl[0]? = some x → x.2 = true := fun x h => by rw [B.zero x h]
  intro c
  induction c using Nat.strongRecOn with
  | ind c ih =>
    intro hc
    have hx := List.getElem?_eq_getElem hc
    generalize bl[c] = x at hx
    have hy : (boundP a b bl)[c]? = some ⟨x.1, [], methsB a b c x⟩ := by rw [boundP_get, hx]; rfl
    have hst := methOf_step (boundP a b bl) (bound_sup B) 5 (by rw [boundP_len]; exact hc) hy
    dsimp only at hst
    rw [slot5 c x (fun h => hz x (by subst h; exact hx))] at hst
    by_cases h0 : c = 0
    · subst h0
      rw [if_pos rfl] at hst
      refine ⟨hst, findM_of hst ?_⟩
      unfold methAt
      rw [hy]
      have : x = (-1, true) := B.zero x hx
      subst this
      rfl
    · rw [if_neg h0] at hst
      have hsup := B.sup c _ hx (by omega)
      obtain ⟨k, hk⟩ := Int.eq_ofNat_of_zero_le hsup.1
      rw [hk] at hst hsup
      obtain ⟨e1, e2⟩ := ih k (by omega) (by omega)
      refine ⟨hst.trans e1, ?_⟩
      have : methOf (boundP a b bl) (c : Int) 5 = methOf (boundP a b bl) (k : Int) 5 := hst
      unfold findM
      rw [this]
      exact e2
theorem bound_own {c k : Int} {m : LMeth} (h : ownM (boundP a b bl) c k = some m) : ∃ (j : Nat) (x : Int × Bool), c = (j : Int) ∧ bl[j]? = some x ∧ (m = numM j ∨ (j = 0 ∧ m = mainM a b)) := by
  unfold ownM at h
  split at h
  · rename_i hck
    cases hy : (boundP a b bl)[c.toNat]? with
    | none => rw [hy] at h; cases h
    | some y =>
      obtain ⟨x, hx, rfl⟩ := boundP_at hy
      rw [hy, Option.bind_some] at h
      have hm := List.mem_of_getElem? h
      refine ⟨c.toNat, x, by omega, hx, ?_⟩
      rcases List.mem_append.1 hm with hm | hm
      · left
        split at hm
        · exact List.mem_singleton.1 hm
        · cases hm
      · right
        split at hm
        · rename_i h0
          exact ⟨h0, List.mem_singleton.1 hm⟩
        · cases hm
  · cases h
theorem bound_form (B : BlOk bl who) (ha : 0 ≤ a ∧ a < (bl.length : Int)) (hb : 0 ≤ b ∧ b < (bl.length : Int)) : formI (boundP a b bl) = 0 := by
  have h6 := B.six
  have h1 := B.one
  have hl := boundP_len (a := a) (b := b) (bl := bl)
  have over : ∀ (x : LClass) (m : LMeth), (m.slot = 3 ∨ m.slot = 5) → m.args = [] → m.ret = 0 → x.sup < (bl.length : Int) → overB (boundP a b bl) x m = true := fun x m hs ha' hr hx => by
    unfold overB
    rcases Int.lt_or_le x.sup 0 with g | g
    · rw [methOf_neg _ _ g]
    · obtain ⟨k, hk⟩ := Int.eq_ofNat_of_zero_le g
      rw [hk] at hx ⊢
      rcases hs with hs | hs
      · obtain ⟨d, _, e1, e2, _⟩ := bound_meth3 (a := a) (b := b) B k (by omega)
        rw [hs, e1]
        dsimp only
        have hma : methAt (boundP a b bl) (d, 0) = some (numM d) := by
          unfold findM at e2
          rw [e1, Option.bind_some] at e2
          cases hh : methAt (boundP a b bl) (d, 0) with
          | none => rw [hh] at e2; cases e2
          | some o => rw [hh] at e2; cases e2; rfl
        rw [hma, ha', hr]
        rfl
      · obtain ⟨e1, e2⟩ := bound_meth5 (a := a) (b := b) B k (by omega)
        rw [hs, e1]
        dsimp only
        have hma : methAt (boundP a b bl) (0, 1) = some (mainM a b) := by
          unfold findM at e2
          rw [e1, Option.bind_some] at e2
          cases hh : methAt (boundP a b bl) (0, 1) with
          | none => rw [hh] at e2; cases e2
          | some o => rw [hh] at e2; cases e2; rfl
        rw [hma, ha', hr]
        rfl
  unfold formI
  rw [if_neg (by omega), if_pos, if_pos]
  · rw [List.all_eq_true]
    intro y hy
    obtain ⟨j, hj⟩ := List.getElem?_of_mem hy
    obtain ⟨x, hx, rfl⟩ := boundP_at hj
    rw [List.all_eq_true]
    intro m hm
    have hmm : m = numM j ∨ (j = 0 ∧ m = mainM a b) := by
      rcases List.mem_append.1 hm with hm | hm
      · left
        split at hm
        · exact List.mem_singleton.1 hm
        · cases hm
      · right
        split at hm
        · rename_i h0
          exact ⟨h0, List.mem_singleton.1 hm⟩
        · cases hm
    have pl : ∀ v : Int, 0 ≤ v ∧ v < (bl.length : Int) → placeB v (boundP a b bl).length = true := fun v hv => by rw [placeB_iff, hl]; exact hv
    rcases hmm with rfl | ⟨_, rfl⟩
    · rfl
    · obtain ⟨d, _, e1, _, _⟩ := bound_meth3 (a := a) (b := b) B 0 (by omega)
      have i1 : insB (boundP a b bl) (mainM a b) ⟨9, a, 0⟩ = true := by
        show (placeB a (boundP a b bl).length && true) = true
        rw [pl a ha]; rfl
      have i2 : insB (boundP a b bl) (mainM a b) ⟨17, b, 0⟩ = true := by
        show (placeB b (boundP a b bl).length && true) = true
        rw [pl b hb]; rfl
      have i3 : insB (boundP a b bl) (mainM a b) ⟨12, 0, 3⟩ = true := by
        show (placeB 0 (boundP a b bl).length && (methOf (boundP a b bl) 0 3).isSome) = true
        rw [pl 0 (by omega), show methOf (boundP a b bl) 0 3 = some (d, 0) from e1]; rfl
      unfold codeB
      have hall : (mainM a b).code.all (insB (boundP a b bl) (mainM a b)) = true := by
        show ([⟨9, a, 0⟩, ⟨17, b, 0⟩, ⟨12, 0, 3⟩, ⟨19, 0, 0⟩, ⟨0, 4, 0⟩, ⟨13, 0, 0⟩] : List LIns).all (insB (boundP a b bl) (mainM a b)) = true
        rw [List.all_cons, i1, List.all_cons, i2, List.all_cons, i3]
        rfl
      rw [hall]
      rfl
  · rw [List.all_eq_true]
    intro c hc
    have hc' : c < bl.length := by have := List.mem_range.1 hc; omega
    have hx := List.getElem?_eq_getElem hc'
    generalize bl[c] = x at hx
    have hy : (boundP a b bl)[c]? = some ⟨x.1, [], methsB a b c x⟩ := by rw [boundP_get, hx]; rfl
    unfold classB
    rw [hy]
    dsimp only
    have hs := bound_sup (a := a) (b := b) B c _ (by omega) hy
    rw [hs, Bool.true_and]
    have hsx : x.1 < (bl.length : Int) := by
      have := supB_le hs
      dsimp only at this
      omega
    unfold restB
    rw [bound_fields]
    have hml : (methsB a b c x).length ≤ 2 := by
      unfold methsB
      rw [List.length_append]
      split <;> split <;> simp
    have hh : ((List.range (methsB a b c x).length).all fun k => match (methsB a b c x)[k]? with
        | none => true
        | some m => headB (boundP a b bl) ⟨x.1, [], methsB a b c x⟩ k m) = true := by
      rw [List.all_eq_true]
      intro k hk
      cases hm : (methsB a b c x)[k]? with
      | none => rfl
      | some m =>
        dsimp only
        unfold headB
        have hmem := List.mem_of_getElem? hm
        have hmm : m = numM c ∨ (c = 0 ∧ m = mainM a b) := by
          rcases List.mem_append.1 hmem with hm | hm
          · left
            split at hm
            · exact List.mem_singleton.1 hm
            · cases hm
          · right
            split at hm
            · rename_i h0
              exact ⟨h0, List.mem_singleton.1 hm⟩
            · cases hm
        have ho : overB (boundP a b bl) ⟨x.1, [], methsB a b c x⟩ m = true := by
          refine over _ m ?_ ?_ ?_ hsx
          · rcases hmm with rfl | ⟨_, rfl⟩
            · exact .inl rfl
            · exact .inr rfl
          · rcases hmm with rfl | ⟨_, rfl⟩ <;> rfl
          · rcases hmm with rfl | ⟨_, rfl⟩ <;> rfl
        have hbr : bareB (boundP a b bl).length m = true := by
          rcases hmm with rfl | ⟨_, rfl⟩ <;> rfl
        have hun : (((methsB a b c x).take k).all fun o => !(o.slot == m.slot)) = true := by
          obtain ⟨s, mi⟩ := x
          have hk0 := List.mem_range.1 hk
          by_cases h0 : c = 0
          · subst h0
            have : (s, mi) = (-1, true) := B.zero _ hx
            cases this
            have e : methsB a b 0 (-1, true) = [numM 0, mainM a b] := rfl
            rw [e] at hm hk0 ⊢
            match k, hk0, hm with
            | 0, _, hm => rfl
            | 1, _, hm => cases hm; rfl
            | k + 2, hk0, hm => cases hm
          · cases mi with
            | true =>
              have e : methsB a b c (s, true) = [numM c] := by unfold methsB; rw [if_neg h0]; rfl
              rw [e] at hm ⊢
              match k, hm with
              | 0, _ => rfl
              | k + 1, hm => cases hm
            | false =>
              have e : methsB a b c (s, false) = [] := by unfold methsB; rw [if_neg h0]; rfl
              rw [e] at hm
              cases hm
        rw [hbr, ho, hun]
        rfl
    simp only [Bool.and_eq_true, decide_eq_true_eq]
    exact ⟨⟨⟨rfl, by simp⟩, by show (methsB a b c x).length ≤ 6; omega⟩, hh⟩
theorem bound_pass (B : BlOk bl who) (ha : 0 ≤ a ∧ a < (bl.length : Int)) (hb : 0 ≤ b ∧ b < (bl.length : Int)) {c k : Int} {m : LMeth} (h : ownM (boundP a b bl) c k = some m) : passB (boundP a b bl) c m = true := by
  have hs := bound_sup (a := a) (b := b) B
  obtain ⟨j, x, rfl, hx, hm⟩ := bound_own h
  generalize hp : boundP a b bl = p at *
  have hpl : p.length = bl.length := by rw [← hp]; exact boundP_len
  rcases hm with rfl | ⟨rfl, rfl⟩
  · have e1 : stepS p (numM j) 0 (some (beginS j (numM j))) = some (some ⟨(beginS j (numM j)).loc, [0]⟩) := step_plain rfl (i := ⟨0, 100 + (j : Int), 0⟩) rfl rfl rfl (by show 0 + 1 < 2; omega) rfl
    have e2 : stepS p (numM j) 1 (some ⟨(beginS j (numM j)).loc, [0]⟩) = some none := step_ret (s' := ⟨(beginS j (numM j)).loc, []⟩) rfl rfl (by
      show (if belowB p 0 0 then some (TSt.mk _ []) else none) = _
      rw [if_pos (below_refl _ _)])
    show (passK p j (numM j) 2).isSome = true
    unfold passK passK passK
    rw [Option.bind_some, e1, Option.bind_some, e2]
    rfl
  · have hb0 : belowB p (b + 3) 3 = true := by
      rw [below_iff]
      right; right
      refine ⟨by omega, .inr ⟨by omega, ?_⟩⟩
      rw [show b + 3 - 3 = b by omega]
      exact desc_zero hs hb.1 (by rw [hpl]; exact hb.2)
    obtain ⟨d, _, e1, e2, _⟩ := bound_meth3 (a := a) (b := b) B 0 (by have := B.one; omega)
    rw [hp] at e1 e2
    generalize hL : (beginS ((0 : Nat) : Int) (mainM a b)).loc = L
    have hbg : beginS ((0 : Nat) : Int) (mainM a b) = ⟨L, []⟩ := by rw [← hL]; rfl
    have s1 : stepS p (mainM a b) 0 (some ⟨L, []⟩) = some (some ⟨L, [a + 3]⟩) := step_plain rfl (i := ⟨9, a, 0⟩) rfl rfl rfl (by show 0 + 1 < 6; omega) rfl
    have s2 : stepS p (mainM a b) 1 (some ⟨L, [a + 3]⟩) = some (some ⟨L, [b + 3]⟩) := step_plain rfl (i := ⟨17, b, 0⟩) rfl rfl rfl (by show 1 + 1 < 6; omega) (by
      show (wantO ⟨L, [a + 3]⟩).bind (leaveS (mainM a b) (b + 3)) = _
      have : wantO ⟨L, [a + 3]⟩ = some ⟨L, []⟩ := by
        show (if mayObj (a + 3) then some (TSt.mk L []) else none) = _
        rw [if_pos]
        unfold mayObj
        simp
        right
        omega
      rw [this]
      rfl)
    have s3 : stepS p (mainM a b) 2 (some ⟨L, [b + 3]⟩) = some (some ⟨L, [0]⟩) := step_plain rfl (i := ⟨12, 0, 3⟩) rfl rfl rfl (by show 2 + 1 < 6; omega) (by
      show (wantsS p (findM p 0 3).args.reverse ⟨L, [b + 3]⟩).bind (fun s => (wantS p (0 + 3) s).bind (leaveS (mainM a b) (findM p 0 3).ret)) = _
      rw [show findM p 0 3 = numM d from e2]
      show (if belowB p (b + 3) 3 then some (TSt.mk L []) else none).bind (leaveS (mainM a b) 0) = _
      rw [if_pos hb0]
      rfl)
    have s4 : stepS p (mainM a b) 3 (some ⟨L, [0]⟩) = some (some ⟨L, []⟩) := step_plain rfl (i := ⟨19, 0, 0⟩) rfl rfl rfl (by show 3 + 1 < 6; omega) (by
      show (if belowB p 0 0 then some (TSt.mk L []) else none) = _
      rw [if_pos (below_refl _ _)])
    have s5 : stepS p (mainM a b) 4 (some ⟨L, []⟩) = some (some ⟨L, [0]⟩) := step_plain rfl (i := ⟨0, 4, 0⟩) rfl rfl rfl (by show 4 + 1 < 6; omega) rfl
    have s6 : stepS p (mainM a b) 5 (some ⟨L, [0]⟩) = some none := step_ret (s' := ⟨L, []⟩) rfl rfl (by
      show (if belowB p 0 0 then some (TSt.mk L []) else none) = _
      rw [if_pos (below_refl _ _)])
    show (passK p ((0 : Nat) : Int) (mainM a b) 6).isSome = true
    unfold passK passK passK passK passK passK passK
    rw [Option.bind_some, hbg, s1, Option.bind_some, s2, Option.bind_some, s3, Option.bind_some, s4, Option.bind_some, s5, Option.bind_some, s6]
    rfl
theorem desc_le {p : List LClass} (hs : SupOk p p.length) {c o : Int} (h : descB p c o = true) : o ≤ c := by
  refine desc_ind hs (fun c => o ≤ c) (fun n x _ e => by omega) (fun n x hx _ ih => ?_) c h
  have := supB_le (hs n x (List.getElem?_eq_some_iff.1 hx).1 hx)
  omega
theorem step_at {p : List LClass} {fuel : Int} {fs : List MFr} {m : LMeth} {pc : Nat} {loc stk : List LVal} {objs : List LObj} {told : LVal} {out : List Int} {n : Nat} {op x y : Int} (hi : insAt m pc = ⟨op, x, y⟩) (hpc : pc ≠ m.code.length) (hn : (n : Int) ≠ fuel) (hr : readyB p m loc stk op x y = true) :
    stepM p fuel ⟨fs ++ [⟨m, pc, loc, stk⟩], objs, told, out, n⟩ = stepI p ⟨fs ++ [⟨m, pc, loc, stk⟩], objs, told, out, n⟩ fs.length ⟨m, pc, loc, stk⟩ op x y := by
  refine stepM_eq (by simp) ?_ (by simp) hi
  unfold lookP
  rw [if_neg hpc, if_neg hn, hi, if_pos hr]
theorem bound_run (B : BlOk bl who) (ha : 0 ≤ a ∧ a < (bl.length : Int)) (_hb : 0 ≤ b ∧ b < (bl.length : Int)) {c : Nat} (hc : c < bl.length) : ∃ R, runM (boundP a b bl) 50 10 (startM (boundP a b bl) c 5 []) = some R ∧
    (descB (boundP a b bl) a b = false → R.2 = 4 ∧ R.1.steps = 1) ∧ (descB (boundP a b bl) a b = true → R.2 = 1 ∧ R.1.told = numbV 4 ∧ R.1.out = [100 + who.getD a.toNat 0]) := by
  have hs := bound_sup (a := a) (b := b) B
  obtain ⟨_, f5⟩ := bound_meth5 (a := a) (b := b) B c hc
  obtain ⟨a', rfl⟩ := Int.eq_ofNat_of_zero_le ha.1
  obtain ⟨d, w3, m3, f3, _⟩ := bound_meth3 (a := (a' : Int)) (b := b) B a' (by omega)
  obtain ⟨d0, _, _, f30, _⟩ := bound_meth3 (a := (a' : Int)) (b := b) B 0 (by have := B.one; omega)
  have hpl : (boundP (a' : Int) b bl).length = bl.length := boundP_len
  have hfl := bound_fields (a := (a' : Int)) (b := b) (bl := bl)
  generalize hp : boundP (a' : Int) b bl = p at *
  have hst : startM p c 5 [] = ⟨[] ++ [⟨mainM a' b, 0, [thisV c 0], []⟩], [⟨c, []⟩], ⟨0, 0, none⟩, [], 0⟩ := by
    unfold startM begSt st00
    rw [f5, hfl]
    rfl
  have e1 : stepM p 50 ⟨[] ++ [⟨mainM a' b, 0, [thisV c 0], []⟩], [⟨c, []⟩], ⟨0, 0, none⟩, [], 0⟩ = .inl ⟨[] ++ [⟨mainM a' b, 1, [thisV c 0], [thisV a' 1]⟩], [⟨c, []⟩, ⟨a', []⟩], ⟨0, 0, none⟩, [], 1⟩ := by
    rw [step_at (op := 9) (x := a') (y := 0) rfl (by show 0 ≠ 6; omega) (by decide) (ready_mk0 rfl (fun e => by cases e) (fun _ => by show (([] : List LVal).length : Int) < 1; decide))]
    rw [stepI_do _ _ _ _ _ _ _ (by decide)]
    have hd : doP p ⟨[] ++ [⟨mainM a' b, 0, [thisV c 0], []⟩], [⟨c, []⟩], ⟨0, 0, none⟩, [], 0⟩ ([] : List MFr).length ⟨mainM a' b, 0, [thisV c 0], []⟩ 9 a' 0 = (⟨[] ++ [⟨mainM a' b, 0, [thisV c 0], [thisV a' 1]⟩], [⟨c, []⟩, ⟨a', []⟩], ⟨0, 0, none⟩, [], 0⟩, 0) := by
      show (newSt p ⟨[] ++ [⟨mainM a' b, 0, [thisV c 0], []⟩], [⟨c, []⟩], ⟨0, 0, none⟩, [], 0⟩ 0 ⟨mainM a' b, 0, [thisV c 0], []⟩ a', (0 : Int)) = _
      unfold newSt
      rw [hfl]
      rfl
    rw [hd]
    rfl
  have hk3 : belowB p ((a' : Int) + 3) 3 = true := by
    rw [below_iff]
    right; right
    refine ⟨by omega, .inr ⟨by omega, ?_⟩⟩
    rw [show (a' : Int) + 3 - 3 = a' by omega]
    exact desc_zero hs (by omega) (by omega)
  have r2 : readyB p (mainM a' b) [thisV c 0] [thisV a' 1] 17 b 0 = true := ready_mk (x := []) (y := [thisV a' 1]) (show TyL p [thisV a' 1] [3] from ⟨hk3, trivial⟩) (fun e => by cases e) (fun e => by cases e)
  have e2 := step_at (p := p) (fuel := 50) (fs := []) (m := mainM a' b) (pc := 1) (loc := [thisV c 0]) (stk := [thisV a' 1]) (objs := [⟨c, []⟩, ⟨a', []⟩]) (told := ⟨0, 0, none⟩) (out := []) (n := 1) (op := 17) (x := b) (y := 0) rfl (by show 1 ≠ 6; omega) (by decide) r2
  rw [stepI_do _ _ _ _ _ _ _ (by decide)] at e2
  have hcast : doP p ⟨[] ++ [⟨mainM a' b, 1, [thisV c 0], [thisV a' 1]⟩], [⟨c, []⟩, ⟨a', []⟩], ⟨0, 0, none⟩, [], 1⟩ ([] : List MFr).length ⟨mainM a' b, 1, [thisV c 0], [thisV a' 1]⟩ 17 b 0 = (⟨[] ++ [⟨mainM a' b, 1, [thisV c 0], [thisV a' 1]⟩], [⟨c, []⟩, ⟨a', []⟩], ⟨0, 0, none⟩, [], 1⟩, if descB p a' b then 0 else 4) := rfl
  rw [hcast] at e2
  cases hd : descB p a' b with
  | false =>
    rw [hd] at e2
    refine ⟨(⟨[] ++ [⟨mainM a' b, 1, [thisV c 0], [thisV a' 1]⟩], [⟨c, []⟩, ⟨a', []⟩], ⟨0, 0, none⟩, [], 1⟩, 4), ?_, fun _ => ⟨rfl, rfl⟩, fun e => by cases e⟩
    show runM p 50 (8 + 1 + 1) _ = _
    unfold runM
    rw [hst, e1]
    dsimp only
    unfold runM
    rw [e2]
    rfl
  | true =>
    rw [hd] at e2
    have e2' : stepM p 50 ⟨[] ++ [⟨mainM a' b, 1, [thisV c 0], [thisV a' 1]⟩], [⟨c, []⟩, ⟨a', []⟩], ⟨0, 0, none⟩, [], 1⟩ = .inl ⟨[] ++ [⟨mainM a' b, 2, [thisV c 0], [thisV a' 1]⟩], [⟨c, []⟩, ⟨a', []⟩], ⟨0, 0, none⟩, [], 2⟩ := e2
    have r3 : readyB p (mainM a' b) [thisV c 0] [thisV a' 1] 12 0 3 = true := ready_mk (x := []) (y := [thisV a' 1]) (by
      show TyL p [thisV a' 1] ((0 + 3) :: (findM p 0 3).args)
      rw [show findM p 0 3 = numM d0 from f30]
      exact ⟨hk3, trivial⟩) (fun e => by cases e) (fun e => by cases e)
    have r13 : ∀ (m : LMeth) (l : List LVal) (v : Int), m.ret = 0 → readyB p m l [numbV v] 13 0 0 = true := fun m l v hm => ready_mk (x := []) (y := [numbV v]) (show TyL p [numbV v] [m.ret] from ⟨by rw [hm]; exact below_refl _ _, trivial⟩) (fun e => by cases e) (fun e => by cases e)
    have r19 : ∀ (m : LMeth) (l : List LVal) (v : Int), readyB p m l [numbV v] 19 0 0 = true := fun m l v => ready_mk (x := []) (y := [numbV v]) (show TyL p [numbV v] [0] from ⟨below_refl _ _, trivial⟩) (fun e => by cases e) (fun e => by cases e)
    have e3 : stepM p 50 ⟨[] ++ [⟨mainM a' b, 2, [thisV c 0], [thisV a' 1]⟩], [⟨c, []⟩, ⟨a', []⟩], ⟨0, 0, none⟩, [], 2⟩ = .inl ⟨[⟨mainM a' b, 3, [thisV c 0], []⟩] ++ [⟨numM d, 0, [thisV a' 1], []⟩], [⟨c, []⟩, ⟨a', []⟩], ⟨0, 0, none⟩, [], 3⟩ := by
      rw [step_at (op := 12) (x := 0) (y := 3) rfl (by show 2 ≠ 6; omega) (by decide) r3]
      rw [stepI_12]
      unfold callP
      rw [show findM p 0 3 = numM d0 from f30]
      show Sum.inl (tick (begSt p ⟨[⟨mainM a' b, 3, [thisV c 0], []⟩], [⟨c, []⟩, ⟨a', []⟩], ⟨0, 0, none⟩, [], 2⟩ 1 a' 3 [])) = _
      unfold begSt
      rw [f3]
      rfl
    have e4 : stepM p 50 ⟨[⟨mainM a' b, 3, [thisV c 0], []⟩] ++ [⟨numM d, 0, [thisV a' 1], []⟩], [⟨c, []⟩, ⟨a', []⟩], ⟨0, 0, none⟩, [], 3⟩ = .inl ⟨[⟨mainM a' b, 3, [thisV c 0], []⟩] ++ [⟨numM d, 1, [thisV a' 1], [numbV (100 + (d : Int))]⟩], [⟨c, []⟩, ⟨a', []⟩], ⟨0, 0, none⟩, [], 4⟩ := by
      rw [step_at (op := 0) (x := 100 + (d : Int)) (y := 0) rfl (by show 0 ≠ 2; omega) (by decide) (ready_mk0 rfl (fun e => by cases e) (fun _ => by show (([] : List LVal).length : Int) < 1; decide))]
      rfl
    have e5 : stepM p 50 ⟨[⟨mainM a' b, 3, [thisV c 0], []⟩] ++ [⟨numM d, 1, [thisV a' 1], [numbV (100 + (d : Int))]⟩], [⟨c, []⟩, ⟨a', []⟩], ⟨0, 0, none⟩, [], 4⟩ = .inl ⟨[] ++ [⟨mainM a' b, 3, [thisV c 0], [numbV (100 + (d : Int))]⟩], [⟨c, []⟩, ⟨a', []⟩], numbV (100 + (d : Int)), [], 5⟩ := by
      rw [step_at (op := 13) (x := 0) (y := 0) rfl (by show 1 ≠ 2; omega) (by decide) (r13 _ _ _ rfl)]
      rfl
    have e6 : stepM p 50 ⟨[] ++ [⟨mainM a' b, 3, [thisV c 0], [numbV (100 + (d : Int))]⟩], [⟨c, []⟩, ⟨a', []⟩], numbV (100 + (d : Int)), [], 5⟩ = .inl ⟨[] ++ [⟨mainM a' b, 4, [thisV c 0], []⟩], [⟨c, []⟩, ⟨a', []⟩], numbV (100 + (d : Int)), [100 + (d : Int)], 6⟩ := by
      rw [step_at (op := 19) (x := 0) (y := 0) rfl (by show 3 ≠ 6; omega) (by decide) (r19 _ _ _)]
      rfl
    have e7 : stepM p 50 ⟨[] ++ [⟨mainM a' b, 4, [thisV c 0], []⟩], [⟨c, []⟩, ⟨a', []⟩], numbV (100 + (d : Int)), [100 + (d : Int)], 6⟩ = .inl ⟨[] ++ [⟨mainM a' b, 5, [thisV c 0], [numbV 4]⟩], [⟨c, []⟩, ⟨a', []⟩], numbV (100 + (d : Int)), [100 + (d : Int)], 7⟩ := by
      rw [step_at (op := 0) (x := 4) (y := 0) rfl (by show 4 ≠ 6; omega) (by decide) (ready_mk0 rfl (fun e => by cases e) (fun _ => by show (([] : List LVal).length : Int) < 1; decide))]
      rfl
    have e8 : stepM p 50 ⟨[] ++ [⟨mainM a' b, 5, [thisV c 0], [numbV 4]⟩], [⟨c, []⟩, ⟨a', []⟩], numbV (100 + (d : Int)), [100 + (d : Int)], 7⟩ = .inl ⟨[], [⟨c, []⟩, ⟨a', []⟩], numbV 4, [100 + (d : Int)], 8⟩ := by
      rw [step_at (op := 13) (x := 0) (y := 0) rfl (by show 5 ≠ 6; omega) (by decide) (r13 _ _ _ rfl)]
      rfl
    have hw : who.getD (a' : Int).toNat 0 = (d : Int) := by rw [Int.toNat_natCast, List.getD_eq_getElem?_getD, w3]; rfl
    refine ⟨(⟨[], [⟨c, []⟩, ⟨a', []⟩], numbV 4, [100 + (d : Int)], 8⟩, 1), ?_, fun e => (by cases e), fun _ => ⟨rfl, rfl, by rw [hw]⟩⟩
    have run_in : ∀ (k : Nat) (s s' : MaSt), stepM p 50 s = .inl s' → runM p 50 (k + 1) s = runM p 50 k s' := fun k s s' h => by
      show (match stepM p 50 s with | .inr r => some r | .inl st' => runM p 50 k st') = _
      rw [h]
    rw [hst, run_in 9 _ _ e1, run_in 8 _ _ e2', run_in 7 _ _ e3, run_in 6 _ _ e4, run_in 5 _ _ e5, run_in 4 _ _ e6, run_in 3 _ _ e7, run_in 2 _ _ e8]
    rfl
theorem bound_wf (B : BlOk bl who) (ha : 0 ≤ a ∧ a < (bl.length : Int)) (hb : 0 ≤ b ∧ b < (bl.length : Int)) : wfProg (boundP a b bl) := by
  have h6 := B.six
  have z : ∀ n : Int, -1000 ≤ n → n ≤ 1000 → I64 n := fun n h1 h2 => ⟨by omega, by omega⟩
  intro y hy
  obtain ⟨j, hj⟩ := List.getElem?_of_mem hy
  obtain ⟨x, hx, rfl⟩ := boundP_at hj
  have hjl := (List.getElem?_eq_some_iff.1 hx).1
  have hs : -1 ≤ x.1 ∧ x.1 < 6 := by
    by_cases h0 : j = 0
    · subst h0
      rw [B.zero x hx]
      decide
    · have := B.sup j x hx (by omega)
      omega
  refine ⟨z _ (by dsimp only; omega) (by dsimp only; omega), fun t ht => (by cases ht), fun m hm => ?_⟩
  have hmm : m = numM j ∨ m = mainM a b := by
    rcases List.mem_append.1 hm with hm | hm
    · left
      split at hm
      · exact List.mem_singleton.1 hm
      · cases hm
    · right
      split at hm
      · exact List.mem_singleton.1 hm
      · cases hm
  rcases hmm with rfl | rfl
  · refine ⟨z 3 (by decide) (by decide), fun t ht => (by cases ht), z 0 (by decide) (by decide), z 1 (by decide) (by decide), z 1 (by decide) (by decide), fun i hi => ?_, fun f hf => (by cases hf)⟩
    simp only [numM, List.mem_cons, List.not_mem_nil, or_false] at hi
    rcases hi with rfl | rfl
    · exact ⟨z 0 (by decide) (by decide), z _ (by dsimp only; omega) (by dsimp only; omega), z 0 (by decide) (by decide)⟩
    · exact ⟨z 13 (by decide) (by decide), z 0 (by decide) (by decide), z 0 (by decide) (by decide)⟩
  · refine ⟨z 5 (by decide) (by decide), fun t ht => (by cases ht), z 0 (by decide) (by decide), z 1 (by decide) (by decide), z 1 (by decide) (by decide), fun i hi => ?_, fun f hf => (by cases hf)⟩
    simp only [mainM, List.mem_cons, List.not_mem_nil, or_false] at hi
    rcases hi with rfl | rfl | rfl | rfl | rfl | rfl
    · exact ⟨z 9 (by decide) (by decide), z _ (by dsimp only; omega) (by dsimp only; omega), z 0 (by decide) (by decide)⟩
    · exact ⟨z 17 (by decide) (by decide), z _ (by dsimp only; omega) (by dsimp only; omega), z 0 (by decide) (by decide)⟩
    · exact ⟨z 12 (by decide) (by decide), z 0 (by decide) (by decide), z 3 (by decide) (by decide)⟩
    · exact ⟨z 19 (by decide) (by decide), z 0 (by decide) (by decide), z 0 (by decide) (by decide)⟩
    · exact ⟨z 0 (by decide) (by decide), z 4 (by decide) (by decide), z 0 (by decide) (by decide)⟩
    · exact ⟨z 13 (by decide) (by decide), z 0 (by decide) (by decide), z 0 (by decide) (by decide)⟩
theorem bound_sz (B : BlOk bl who) : szProg (boundP a b bl) ≤ 4194304 := by
  have h6 := B.six
  have hc : ∀ y ∈ boundP a b bl, szClass y ≤ 100 := fun y hy => by
    obtain ⟨j, hj⟩ := List.getElem?_of_mem hy
    obtain ⟨x, hx, rfl⟩ := boundP_at hj
    unfold szClass methsB
    obtain ⟨s, m⟩ := x
    cases m <;> by_cases h : j = 0 <;> simp [h, szMeth, numM, mainM]
  have key : ∀ l : List LClass, (∀ y ∈ l, szClass y ≤ 100) → (l.map szClass).sum ≤ 100 * l.length := by
    intro l
    induction l with
    | nil => intro _; simp
    | cons y r ih =>
      intro h
      have h1 := h y (by simp)
      have h2 := ih (fun z hz => h z (by simp [hz]))
      simp only [List.map_cons, List.sum_cons, List.length_cons]
      omega
  have := key _ hc
  rw [boundP_len] at this
  unfold szProg
  omega
end
end Go.Proofs.YtiiokkllmchohaaGreat
