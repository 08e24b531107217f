/- Classes: ancestors, their fields and methods (pure). -/
import Derived.Test.YtiiokkllmchohaaGreatT12
/- InvA -/
namespace Go.Proofs.YtiiokkllmchohaaGreat
open Go.RowKit Go.Shelf

theorem desc_cons {p : List LClass} (hs : SupOk p p.length) {c : Nat} {x : LClass} (hx : p[c]? = some x) (o : Int) : descB p c o = ((c : Int) == o || descB p x.sup o) := by
  unfold descB
  rw [chainOf_cons p hs (List.getElem?_eq_some_iff.1 hx).1 hx, List.any_cons]
theorem desc_out {p : List LClass} {c : Int} (h : c < 0 ∨ (p.length : Int) ≤ c) (o : Int) : descB p c o = false := by
  unfold descB
  rcases h with h | h
  · rw [chainOf_neg p h]; rfl
  · unfold chainOf chain
    rw [if_neg (by omega), List.getElem?_eq_none (by omega)]; rfl
theorem desc_ind {p : List LClass} (hs : SupOk p p.length) {o : Int} (P : Int → Prop) (h0 : ∀ (c : Nat) (x : LClass), p[c]? = some x → (c : Int) = o → P c)
    (h1 : ∀ (c : Nat) (x : LClass), p[c]? = some x → descB p x.sup o = true → P x.sup → P c) (c : Int) (h : descB p c o = true) : P c := by
  have key : ∀ n : Nat, descB p n o = true → P n := by
    intro n
    induction n using Nat.strongRecOn with
    | ind n ih =>
      intro hd
      cases hx : p[n]? with
      | none => rw [desc_out (.inr (by have := List.getElem?_eq_none_iff.1 hx; omega))] at hd; cases hd
      | some x =>
        rw [desc_cons hs hx] at hd
        simp only [Bool.or_eq_true, beq_iff_eq] at hd
        rcases hd with hd | hd
        · exact h0 n x hx hd
        · have hb := supB_le (hs n x (List.getElem?_eq_some_iff.1 hx).1 hx)
          rcases Int.lt_or_le x.sup 0 with g | g
          · rw [desc_out (.inl g)] at hd; cases hd
          · obtain ⟨k, hk⟩ := Int.eq_ofNat_of_zero_le g
            refine h1 n x hx hd ?_
            rw [hk] at hd ⊢
            exact ih k (by omega) hd
  rcases Int.lt_or_le c 0 with g | g
  · rw [desc_out (.inl g)] at h; cases h
  · obtain ⟨k, rfl⟩ := Int.eq_ofNat_of_zero_le g
    exact key k h
theorem desc_refl {p : List LClass} (hs : SupOk p p.length) {c : Int} (h0 : 0 ≤ c) (h1 : c < (p.length : Int)) : descB p c c = true := by
  obtain ⟨k, rfl⟩ := Int.eq_ofNat_of_zero_le h0
  rw [desc_cons hs (List.getElem?_eq_getElem (i := k) (by omega))]
  simp
theorem desc_trans {p : List LClass} (hs : SupOk p p.length) {a b c : Int} (h1 : descB p a b = true) (h2 : descB p b c = true) : descB p a c = true := by
  refine desc_ind hs (fun a => descB p a c = true) (fun n x hx e => by rw [e]; exact h2) (fun n x hx _ ih => ?_) a h1
  rw [desc_cons hs hx, ih]
  simp
theorem desc_in {p : List LClass} {a b : Int} (h : descB p a b = true) : 0 ≤ a ∧ a < (p.length : Int) := by
  refine ⟨Int.not_lt.1 fun g => ?_, Int.not_le.1 fun g => ?_⟩
  · rw [desc_out (.inl g)] at h; cases h
  · rw [desc_out (.inr g)] at h; cases h
theorem desc_zero {p : List LClass} (hs : SupOk p p.length) {c : Int} (h0 : 0 ≤ c) (h1 : c < (p.length : Int)) : descB p c 0 = true := by
  obtain ⟨k, rfl⟩ := Int.eq_ofNat_of_zero_le h0
  induction k using Nat.strongRecOn with
  | ind k ih =>
    have hx := List.getElem?_eq_getElem (l := p) (i := k) (by omega)
    rw [desc_cons hs hx]
    rcases Nat.eq_zero_or_pos k with rfl | hk
    · rfl
    · have hb := supB_pos hk (hs k _ (by omega) hx)
      obtain ⟨j, hj⟩ := Int.eq_ofNat_of_zero_le hb.1
      rw [hj, ih j (by omega) (by omega) (by omega)]
      simp
theorem desc_fields {p : List LClass} (hs : SupOk p p.length) {c o : Int} (h : descB p c o = true) : fieldsOf p o <+: fieldsOf p c := by
  refine desc_ind hs (fun c => fieldsOf p o <+: fieldsOf p c) (fun n x hx e => by rw [e]; exact List.prefix_refl _) (fun n x hx _ ih => ?_) c h
  rw [fieldsOf_step p hs (List.getElem?_eq_some_iff.1 hx).1 hx]
  exact ih.trans (List.prefix_append _ _)
theorem desc_fieldT {p : List LClass} (hs : SupOk p p.length) {c o b : Int} (h : descB p c o = true) (hb : b.toNat < (fieldsOf p o).length) : fieldT p c b = fieldT p o b := by
  obtain ⟨r, hr⟩ := desc_fields hs h
  unfold fieldT
  rw [← hr, List.getD_eq_getElem?_getD, List.getD_eq_getElem?_getD, List.getElem?_append_left hb]
theorem find_own {p : List LClass} (hs : SupOk p p.length) {c b : Int} (hm : (methOf p c b).isSome = true) : ∃ i j : Nat, methOf p c b = some (i, j) ∧ ownM p i j = some (findM p c b) ∧ (i : Int) ≤ c ∧ descB p c i = true ∧ (findM p c b).slot = b := by
  obtain ⟨⟨i, j⟩, hck⟩ := Option.isSome_iff_exists.1 hm
  have hc : 0 ≤ c := Int.not_lt.1 fun g => by rw [methOf_neg p b g] at hm; cases hm
  obtain ⟨n, rfl⟩ := Int.eq_ofNat_of_zero_le hc
  have hn : n < p.length := by
    apply Nat.lt_of_not_le
    intro g
    unfold methOf chainOf chain at hck
    rw [if_neg (by omega), List.getElem?_eq_none (by simpa using g)] at hck
    cases hck
  have key : ∀ n : Nat, n < p.length → methOf p n b = some (i, j) → descB p n i = true := by
    intro n
    induction n using Nat.strongRecOn with
    | ind n ih =>
      intro hn hm
      have hx := List.getElem?_eq_getElem hn
      rw [methOf_step p hs b hn hx] at hm
      rw [desc_cons hs hx]
      cases hk : slotIn p[n].meths b with
      | some k =>
        rw [hk] at hm
        cases hm
        simp
      | none =>
        rw [hk] at hm
        simp only at hm
        have hb := supB_le (hs n _ hn hx)
        rcases Int.lt_or_le p[n].sup 0 with g | g
        · rw [methOf_neg p b g] at hm; cases hm
        · obtain ⟨d, hd⟩ := Int.eq_ofNat_of_zero_le g
          rw [hd] at hm ⊢
          rw [ih d (by omega) (by omega) hm]
          simp
  obtain ⟨y, o, h1, h2, h3, h4⟩ := methOf_some p hs b n hn hck
  have hf : findM p (n : Int) b = o := findM_of hck (by unfold methAt; rw [h1]; exact h2)
  refine ⟨i, j, hck, ?_, by omega, key n hn hck, by rw [hf]; exact h4⟩
  rw [hf]
  unfold ownM
  rw [if_pos ⟨by omega, by omega⟩, Int.toNat_natCast, Int.toNat_natCast, h1]
  exact h2
theorem desc_find {p : List LClass} (hF : formI p = 0) {c o b : Int} (h : descB p c o = true) (hm : (methOf p o b).isSome = true) : (methOf p c b).isSome = true ∧ (findM p c b).args = (findM p o b).args ∧ (findM p c b).ret = (findM p o b).ret := by
  have hs := form_sup hF
  refine desc_ind hs (fun c => (methOf p c b).isSome = true ∧ (findM p c b).args = (findM p o b).args ∧ (findM p c b).ret = (findM p o b).ret) (fun n x hx e => by rw [e]; exact ⟨hm, rfl, rfl⟩) (fun n x hx _ ih => ?_) c h
  have hn := (List.getElem?_eq_some_iff.1 hx).1
  have hst := methOf_step p hs b hn hx
  cases hk : slotIn x.meths b with
  | none =>
    rw [hk] at hst
    simp only at hst
    have : findM p n b = findM p x.sup b := by unfold findM; rw [hst]
    rw [hst, this]
    exact ih
  | some k =>
    rw [hk] at hst
    simp only at hst
    obtain ⟨m, h1, h2⟩ := slotIn_at hk
    have hf : findM p n b = m := findM_of hst (by unfold methAt; rw [hx]; exact h1)
    rw [hst, hf]
    refine ⟨rfl, ?_⟩
    have hr := ((form_all hF).2.1 n x hx).2
    unfold restB at hr
    simp only [Bool.and_eq_true] at hr
    have hh := List.all_eq_true.1 hr.2 k (List.mem_range.2 (List.getElem?_eq_some_iff.1 h1).1)
    rw [h1] at hh
    unfold headB at hh
    simp only [Bool.and_eq_true] at hh
    have ho := hh.2
    obtain ⟨⟨i, j⟩, hck⟩ := Option.isSome_iff_exists.1 ih.1
    obtain ⟨i', j', e1, e2, _, _, _⟩ := find_own hs ih.1
    unfold overB at ho
    rw [h2, e1] at ho
    have hma : methAt p (i', j') = some (findM p x.sup b) := by
      unfold ownM at e2
      rw [if_pos ⟨by omega, by omega⟩, Int.toNat_natCast, Int.toNat_natCast] at e2
      exact e2
    simp only at ho
    rw [hma] at ho
    simp only [Bool.and_eq_true, beq_iff_eq] at ho
    rw [← ho.1, ← ho.2]
    exact ih.2
theorem form_find {p : List LClass} (hF : formI p = 0) {c b : Int} (hm : (methOf p c b).isSome = true) : bareB p.length (findM p c b) = true := by
  obtain ⟨i, j, _, h, _⟩ := find_own (form_sup hF) hm
  unfold ownM at h
  rw [if_pos ⟨by omega, by omega⟩, Int.toNat_natCast, Int.toNat_natCast] at h
  cases hx : p[i]? with
  | none => rw [hx] at h; cases h
  | some x =>
    rw [hx] at h
    exact form_bare hF hx h
theorem form_f8 {p : List LClass} (hF : formI p = 0) {c : Int} (h0 : 0 ≤ c) (h1 : c < (p.length : Int)) : (fieldsOf p c).length ≤ 8 := by
  obtain ⟨n, rfl⟩ := Int.eq_ofNat_of_zero_le h0
  have hr := ((form_all hF).2.1 n _ (List.getElem?_eq_getElem (by omega))).2
  unfold restB at hr
  simp only [Bool.and_eq_true, decide_eq_true_eq] at hr
  exact hr.1.1.2
end Go.Proofs.YtiiokkllmchohaaGreat
