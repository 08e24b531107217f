/- What fits a state fits all below it (pure). -/
import Derived.Test.YtiiokkllmchohaaGreatT27
namespace Go.Proofs.YtiiokkllmchohaaGreat
open Go.RowKit Go.Shelf
def LeL (p : List LClass) : List Int → List Int → Prop
 | [], [] => True
 | a :: l, b :: u => belowB p a b = true ∧ LeL p l u
 | _, _ => False
theorem LeL.len {p : List LClass} : ∀ {l u : List Int}, LeL p l u → l.length = u.length
 | [], [], _ => rfl
 | _ :: _, _ :: _, h => by simp only [List.length_cons]; rw [LeL.len h.2]
 | [], _ :: _, h => h.elim
 | _ :: _, [], h => h.elim
theorem LeL.app {p : List LClass} : ∀ {l u l' u' : List Int}, LeL p l u → LeL p l' u' → LeL p (l ++ l') (u ++ u')
 | [], [], _, _, _, h => h
 | _ :: _, _ :: _, _, _, h, h' => ⟨h.1, LeL.app h.2 h'⟩
 | [], _ :: _, _, _, h, _ => h.elim
 | _ :: _, [], _, _, h, _ => h.elim
theorem LeL.snoc {p : List LClass} : ∀ {u l : List Int} {t : Int}, LeL p l (u ++ [t]) → ∃ r x, l = r ++ [x] ∧ LeL p r u ∧ belowB p x t = true
 | [], [x], _, h => ⟨[], x, rfl, trivial, h.1⟩
 | [], [], _, h => h.elim
 | [], _ :: _ :: _, _, h => h.2.elim
 | b :: u, [], _, h => h.elim
 | b :: u, a :: l, t, h => by
  obtain ⟨r, x, rfl, h1, h2⟩ := LeL.snoc (u := u) h.2
  exact ⟨a :: r, x, rfl, ⟨h.1, h1⟩, h2⟩
theorem LeL.iff {p : List LClass} : ∀ {l u : List Int}, l.length = u.length → (LeL p l u ↔ ∀ i, i < l.length → belowB p (l.getD i 0) (u.getD i 0) = true)
 | [], [], _ => ⟨fun _ i h => by simp at h, fun _ => trivial⟩
 | a :: l, b :: u, h => by
  show (belowB p a b = true ∧ LeL p l u) ↔ _
  rw [LeL.iff (by simpa using h)]
  constructor
  ·rintro ⟨h1, h2⟩ i hi
   cases i with
   | zero => exact h1
   | succ i => exact h2 i (by simpa using hi)
  ·intro h
   exact ⟨h 0 (by simp), fun i hi => h (i + 1) (by simpa using hi)⟩
 | [], _ :: _, h => by simp at h
 | _ :: _, [], h => by simp at h
structure LeT (p : List LClass) (s t : TSt) : Prop where
 l : ∀ i, i < 8 → belowB p (s.loc.getD i 0) (t.loc.getD i 0) = true
 k : LeL p s.stk t.stk
 sl : s.loc.length = 8
 tl : t.loc.length = 8
theorem LeT.iff {p : List LClass} {s t : TSt} (hs : s.loc.length = 8) (ht : t.loc.length = 8) : LeT p s t ↔ LeS p s t :=
 ⟨fun h => ⟨h.k.len, h.l, (LeL.iff h.k.len).1 h.k⟩, fun h => ⟨h.l, (LeL.iff h.n).2 h.k, hs, ht⟩⟩
theorem take_mk {s : TSt} {r : List Int} {x : Int} (h : s.stk = r ++ [x]) : takeS s = some (x, { s with stk := r }) := by
 unfold takeS
 rw [h, List.getLast?_concat, List.dropLast_concat]; rfl
section
variable {p : List LClass} {m : LMeth} {s t t' : TSt}
theorem take_mono (h : LeT p s t) {u : Int} (e : takeS t = some (u, t')) : ∃ u' s', takeS s = some (u', s') ∧ LeT p s' t' ∧ belowB p u' u = true := by
 obtain ⟨h1, h2⟩ := takeS_iff e
 have hk := h.k
 rw [h1] at hk
 obtain ⟨r, x, hr, h3, h4⟩ := hk.snoc
 exact ⟨x, { s with stk := r }, take_mk hr, ⟨fun i hi => by rw [h2]; exact h.l i hi, h3, h.sl, by rw [h2]; exact h.tl⟩, h4⟩
theorem want_mono (hs : SupOk p p.length) (h : LeT p s t) {x : Int} (e : wantS p x t = some t') : ∃ s', wantS p x s = some s' ∧ LeT p s' t' := by
 unfold wantS at e
 obtain ⟨⟨u, t1⟩, e1, e2⟩ := bind_iff e
 obtain ⟨u', s', h1, h2, h3⟩ := take_mono h e1
 dsimp only at e2
 split at e2
 ·rename_i hb
  cases e2
  refine ⟨s', ?_, h2⟩
  unfold wantS
  rw [h1, Option.bind_some, if_pos (below_trans hs h3 hb)]
 ·cases e2
theorem obj_mono {u u' : Int} (h : belowB p u' u = true) (hu : mayObj u = true) : mayObj u' = true := by
 unfold mayObj at hu ⊢
 rw [below_iff] at h
 simp only [Bool.or_eq_true, beq_iff_eq, decide_eq_true_eq] at hu ⊢
 omega
theorem wantO_mono (h : LeT p s t) (e : wantO t = some t') : ∃ s', wantO s = some s' ∧ LeT p s' t' := by
 unfold wantO at e
 obtain ⟨⟨u, t1⟩, e1, e2⟩ := bind_iff e
 obtain ⟨u', s', h1, h2, h3⟩ := take_mono h e1
 dsimp only at e2
 split at e2
 ·rename_i hb
  cases e2
  refine ⟨s', ?_, h2⟩
  unfold wantO
  rw [h1, Option.bind_some, if_pos (obj_mono h3 hb)]
 ·cases e2
theorem leave_mono (h : LeT p s t) {x x' : Int} (hx : belowB p x' x = true) (e : leaveS m x t = some t') : ∃ s', leaveS m x' s = some s' ∧ LeT p s' t' := by
 obtain ⟨h1, h2, h3⟩ := leaveS_iff e
 refine ⟨{ s with stk := s.stk ++ [x'] }, ?_, ⟨fun i hi => by rw [h3]; exact h.l i hi, by rw [h2]; exact h.k.app ⟨hx, trivial⟩, h.sl, by rw [h3]; exact h.tl⟩⟩
 unfold leaveS
 rw [h.k.len, if_neg h1]
theorem wants_mono (hs : SupOk p p.length) : ∀ (l : List Int) {s t t' : TSt}, LeT p s t → wantsS p l t = some t' → ∃ s', wantsS p l s = some s' ∧ LeT p s' t'
 | [], s, t, t', h, e => by cases e; exact ⟨s, rfl, h⟩
 | x :: l, s, t, t', h, e => by
  unfold wantsS at e
  obtain ⟨t1, e1, e2⟩ := bind_iff e
  obtain ⟨s1, f1, f2⟩ := want_mono hs h e1
  obtain ⟨s2, f3, f4⟩ := wants_mono hs l f2 e2
  refine ⟨s2, ?_, f4⟩
  unfold wantsS
  rw [f1, Option.bind_some, f3]
theorem known_mono {u u' : Int} (h : belowB p u' u = true) {x : Int} (e : knownS u = some x) : ∃ x', knownS u' = some x' ∧ belowB p x' x = true := by
 obtain ⟨rfl, h2⟩ := knownS_iff e
 refine ⟨u', ?_, h⟩
 unfold knownS
 rw [if_neg]
 rw [below_iff] at h
 omega
theorem do_mono (hs : SupOk p p.length) {i : LIns} (hloc : (i.op = 1 ∨ i.op = 2) → i.a.toNat < 8) (h : LeT p s t) (e : doS p m i t = some t') : ∃ s', doS p m i s = some s' ∧ LeT p s' t' := by
 unfold doS at e ⊢
 by_cases c : i.op = 0
 ·rw [if_pos c] at e ⊢
  exact leave_mono h (below_refl _ _) e
 rw [if_neg c] at e ⊢; clear c
 by_cases c : i.op = 1
 ·rw [if_pos c] at e ⊢
  obtain ⟨x, e1, e2⟩ := bind_iff e
  obtain ⟨x', f1, f2⟩ := known_mono (h.l i.a.toNat (hloc (.inl c))) e1
  rw [f1, Option.bind_some]
  exact leave_mono h f2 e2
 rw [if_neg c] at e ⊢
 by_cases c2 : i.op = 2
 ·rw [if_pos c2] at e ⊢
  obtain ⟨⟨u, t1⟩, e1, e2⟩ := bind_iff e
  obtain ⟨u', s', h1, h2, h3⟩ := take_mono h e1
  obtain ⟨x, e3, rfl⟩ := Option.map_eq_some_iff.1 e2
  obtain ⟨x', f1, f2⟩ := known_mono h3 e3
  rw [h1, Option.bind_some]
  dsimp only
  rw [f1]
  refine ⟨_, rfl, ⟨fun j hj => ?_, h2.k, by dsimp only; rw [List.length_set]; exact h2.sl, by dsimp only; rw [List.length_set]; exact h2.tl⟩⟩
  dsimp only
  by_cases ej : j = i.a.toNat
  ·subst ej
   rw [getD_set_self (by rw [h2.sl]; exact hj), getD_set_self (by rw [h2.tl]; exact hj)]
   exact f2
  ·rw [getD_set_ne ej, getD_set_ne ej]
   exact h2.l j hj
 rw [if_neg c2] at e ⊢; clear c c2
 by_cases c : i.op = 3 ∨ i.op = 4 ∨ i.op = 5 ∨ i.op = 6
 ·rw [if_pos c] at e ⊢
  obtain ⟨t1, e1, e2⟩ := bind_iff e
  obtain ⟨t2, e3, e4⟩ := bind_iff e2
  obtain ⟨s1, f1, g1⟩ := want_mono hs h e1
  obtain ⟨s2, f2, g2⟩ := want_mono hs g1 e3
  rw [f1, Option.bind_some, f2, Option.bind_some]
  exact leave_mono g2 (below_refl _ _) e4
 rw [if_neg c] at e ⊢; clear c
 by_cases c : i.op = 8 ∨ i.op = 19
 ·rw [if_pos c] at e ⊢
  exact want_mono hs h e
 rw [if_neg c] at e ⊢; clear c
 by_cases c : i.op = 9
 ·rw [if_pos c] at e ⊢
  exact leave_mono h (below_refl _ _) e
 rw [if_neg c] at e ⊢; clear c
 by_cases c : i.op = 10
 ·rw [if_pos c] at e ⊢
  obtain ⟨t1, e1, e2⟩ := bind_iff e
  obtain ⟨s1, f1, g1⟩ := want_mono hs h e1
  rw [f1, Option.bind_some]
  exact leave_mono g1 (below_refl _ _) e2
 rw [if_neg c] at e ⊢; clear c
 by_cases c : i.op = 11
 ·rw [if_pos c] at e ⊢
  obtain ⟨t1, e1, e2⟩ := bind_iff e
  obtain ⟨s1, f1, g1⟩ := want_mono hs h e1
  rw [f1, Option.bind_some]
  exact want_mono hs g1 e2
 rw [if_neg c] at e ⊢; clear c
 by_cases c : i.op = 12
 ·rw [if_pos c] at e ⊢
  obtain ⟨t1, e1, e2⟩ := bind_iff e
  obtain ⟨t2, e3, e4⟩ := bind_iff e2
  obtain ⟨s1, f1, g1⟩ := wants_mono hs _ h e1
  obtain ⟨s2, f2, g2⟩ := want_mono hs g1 e3
  rw [f1, Option.bind_some, f2, Option.bind_some]
  exact leave_mono g2 (below_refl _ _) e4
 rw [if_neg c] at e ⊢; clear c
 by_cases c : i.op = 13
 ·rw [if_pos c] at e ⊢
  exact want_mono hs h e
 rw [if_neg c] at e ⊢; clear c
 by_cases c : i.op = 14
 ·rw [if_pos c] at e ⊢
  obtain ⟨⟨u, t1⟩, e1, rfl⟩ := Option.map_eq_some_iff.1 e
  obtain ⟨u', s', h1, h2, h3⟩ := take_mono h e1
  rw [h1]
  exact ⟨s', rfl, h2⟩
 rw [if_neg c] at e ⊢; clear c
 by_cases c : i.op = 15
 ·rw [if_pos c] at e ⊢
  obtain ⟨⟨u, t1⟩, e1, e2⟩ := bind_iff e
  obtain ⟨t2, e3, e4⟩ := bind_iff e2
  obtain ⟨u', s', h1, h2, h3⟩ := take_mono h e1
  obtain ⟨s2, f2, g2⟩ := leave_mono h2 h3 e3
  rw [h1, Option.bind_some]
  dsimp only
  rw [f2, Option.bind_some]
  exact leave_mono g2 h3 e4
 rw [if_neg c] at e ⊢; clear c
 by_cases c : i.op = 16
 ·rw [if_pos c] at e ⊢
  exact leave_mono h (below_refl _ _) e
 rw [if_neg c] at e ⊢; clear c
 by_cases c : i.op = 17
 ·rw [if_pos c] at e ⊢
  obtain ⟨t1, e1, e2⟩ := bind_iff e
  obtain ⟨s1, f1, g1⟩ := wantO_mono h e1
  rw [f1, Option.bind_some]
  exact leave_mono g1 (below_refl _ _) e2
 rw [if_neg c] at e ⊢; clear c
 by_cases c : i.op = 18
 ·rw [if_pos c] at e ⊢
  exact wantO_mono h e
 rw [if_neg c] at e ⊢; clear c
 by_cases c : i.op = 20
 ·rw [if_pos c] at e ⊢
  obtain ⟨⟨u, t1⟩, e1, e2⟩ := bind_iff e
  obtain ⟨⟨v, t2⟩, e3, e4⟩ := bind_iff e2
  obtain ⟨t3, e5, e6⟩ := bind_iff e4
  obtain ⟨u', s1, h1, h2, h3⟩ := take_mono h e1
  obtain ⟨v', s2, k1, k2, k3⟩ := take_mono h2 e3
  obtain ⟨s3, f2, g2⟩ := leave_mono k2 h3 e5
  rw [h1, Option.bind_some]
  dsimp only
  rw [k1, Option.bind_some]
  dsimp only
  rw [f2, Option.bind_some]
  exact leave_mono g2 k3 e6
 rw [if_neg c] at e ⊢
 cases e
 exact ⟨s, rfl, h⟩
theorem next_mono (hs : SupOk p p.length) (hins : ∀ i ∈ m.code, insB p m i = true) (hl8 : m.locals ≤ 8) {pc : Nat} (hpc : pc < m.code.length) (h : LeT p s t) (e : nextS p m pc t = some t') : ∃ s', nextS p m pc s = some s' ∧ LeT p s' t' := by
 unfold nextS at e ⊢
 obtain ⟨t1, e1, e2⟩ := bind_iff e
 have hmem : insAt m pc ∈ m.code := by
  unfold insAt
  rw [List.getElem?_eq_getElem hpc]
  exact List.getElem_mem _
 have J := ins_ok (p := p) (m := m) (op := (insAt m pc).op) (a := (insAt m pc).a) (b := (insAt m pc).b) (hins _ hmem)
 obtain ⟨s1, f1, g1⟩ := do_mono hs (fun ho => by have := J.loc ho; omega) h e1
 rw [f1, Option.bind_some]
 split at e2
 ·cases e2
 ·rename_i hne
  cases e2
  rw [if_neg hne]
  exact ⟨s1, rfl, g1⟩
end
def TIn (p : List LClass) (s : TSt) : Prop := (∀ x ∈ s.loc, tyOk p.length x) ∧ ∀ x ∈ s.stk, tyOk p.length x
theorem tin_get {n : Nat} {l : List Int} (h : ∀ x ∈ l, tyOk n x) (i : Nat) : tyOk n (l.getD i 0) := by
 rw [List.getD_eq_getElem?_getD]
 cases e : l[i]? with
 | none => exact ⟨by simp, by simp; omega⟩
 | some x => exact h x (List.mem_of_getElem? e)
theorem TIn.tyIn {p : List LClass} {s : TSt} (h : TIn p s) : TyIn p s :=
 ⟨fun i _ _ => by have := (tin_get h.1 i).2; omega, fun i _ _ => by have := (tin_get h.2 i).2; omega⟩
section
variable {p : List LClass} {m : LMeth} {s s' : TSt}
theorem take_tin (h : TIn p s) {u : Int} (e : takeS s = some (u, s')) : TIn p s' ∧ tyOk p.length u := by
 obtain ⟨h1, h2⟩ := takeS_iff e
 refine ⟨⟨by rw [h2]; exact h.1, fun x hx => h.2 x (by rw [h1]; simp [hx])⟩, h.2 u (by rw [h1]; simp)⟩
theorem want_tin (h : TIn p s) {x : Int} (e : wantS p x s = some s') : TIn p s' := by
 obtain ⟨u, h1, h2, _⟩ := wantS_iff e
 exact ⟨by rw [h2]; exact h.1, fun x hx => h.2 x (by rw [h1]; simp [hx])⟩
theorem wantO_tin (h : TIn p s) (e : wantO s = some s') : TIn p s' := by
 obtain ⟨u, h1, h2, _⟩ := wantO_iff e
 exact ⟨by rw [h2]; exact h.1, fun x hx => h.2 x (by rw [h1]; simp [hx])⟩
theorem leave_tin (h : TIn p s) {x : Int} (hx : tyOk p.length x) (e : leaveS m x s = some s') : TIn p s' := by
 obtain ⟨_, h2, h3⟩ := leaveS_iff e
 refine ⟨by rw [h3]; exact h.1, fun y hy => ?_⟩
 rw [h2] at hy
 rcases List.mem_append.1 hy with hy | hy
 ·exact h.2 y hy
 ·obtain rfl := List.mem_singleton.1 hy
  exact hx
theorem wants_tin : ∀ (l : List Int) {s s' : TSt}, TIn p s → wantsS p l s = some s' → TIn p s'
 | [], s, s', h, e => by cases e; exact h
 | x :: l, s, s', h, e => by
  unfold wantsS at e
  obtain ⟨s1, e1, e2⟩ := bind_iff e
  exact wants_tin l (want_tin h e1) e2
theorem do_tin (G : Good p) {i : LIns} (J : InsOk p m i.op i.a i.b) (h : TIn p s) (e : doS p m i s = some s') : TIn p s' := by
 have z0 : tyOk p.length 0 := ⟨by omega, by omega⟩
 have z1 : tyOk p.length 1 := ⟨by omega, by omega⟩
 unfold doS at e
 by_cases c : i.op = 0
 ·rw [if_pos c] at e
  exact leave_tin h z0 e
 rw [if_neg c] at e; clear c
 by_cases c : i.op = 1
 ·rw [if_pos c] at e
  obtain ⟨t, e1, e2⟩ := bind_iff e
  obtain ⟨rfl, _⟩ := knownS_iff e1
  exact leave_tin h (tin_get h.1 _) e2
 rw [if_neg c] at e; clear c
 by_cases c : i.op = 2
 ·rw [if_pos c] at e
  obtain ⟨⟨t, s1⟩, e1, e2⟩ := bind_iff e
  obtain ⟨h1, h2⟩ := take_tin h e1
  obtain ⟨u, e3, rfl⟩ := Option.map_eq_some_iff.1 e2
  obtain ⟨rfl, _⟩ := knownS_iff e3
  refine ⟨fun x hx => ?_, h1.2⟩
  rcases List.mem_or_eq_of_mem_set hx with hx | rfl
  ·exact h1.1 x hx
  ·exact h2
 rw [if_neg c] at e; clear c
 by_cases c : i.op = 3 ∨ i.op = 4 ∨ i.op = 5 ∨ i.op = 6
 ·rw [if_pos c] at e
  obtain ⟨s1, e1, e2⟩ := bind_iff e
  obtain ⟨s2, e3, e4⟩ := bind_iff e2
  exact leave_tin (want_tin (want_tin h e1) e3) z0 e4
 rw [if_neg c] at e; clear c
 by_cases c : i.op = 8 ∨ i.op = 19
 ·rw [if_pos c] at e
  exact want_tin h e
 rw [if_neg c] at e; clear c
 by_cases c : i.op = 9
 ·rw [if_pos c] at e
  have := J.cls (by omega)
  exact leave_tin h ⟨by omega, by omega⟩ e
 rw [if_neg c] at e; clear c
 by_cases c : i.op = 10
 ·rw [if_pos c] at e
  obtain ⟨s1, e1, e2⟩ := bind_iff e
  have hc := J.cls (by omega)
  have hf := J.fld (by omega)
  obtain ⟨j, hj⟩ := Int.eq_ofNat_of_zero_le hf.1
  refine leave_tin (want_tin h e1) ?_ e2
  rw [hj]
  exact G.fld i.a j hc.1 hc.2 (by omega)
 rw [if_neg c] at e; clear c
 by_cases c : i.op = 11
 ·rw [if_pos c] at e
  obtain ⟨s1, e1, e2⟩ := bind_iff e
  exact want_tin (want_tin h e1) e2
 rw [if_neg c] at e; clear c
 by_cases c : i.op = 12
 ·rw [if_pos c] at e
  obtain ⟨s1, e1, e2⟩ := bind_iff e
  obtain ⟨s2, e3, e4⟩ := bind_iff e2
  have hc := J.cls (by omega)
  exact leave_tin (want_tin (wants_tin _ h e1) e3) (G.arg i.a i.b hc.1 hc.2 (J.call c)).2 e4
 rw [if_neg c] at e; clear c
 by_cases c : i.op = 13
 ·rw [if_pos c] at e
  exact want_tin h e
 rw [if_neg c] at e; clear c
 by_cases c : i.op = 14
 ·rw [if_pos c] at e
  obtain ⟨⟨t, s1⟩, e1, rfl⟩ := Option.map_eq_some_iff.1 e
  exact (take_tin h e1).1
 rw [if_neg c] at e; clear c
 by_cases c : i.op = 15
 ·rw [if_pos c] at e
  obtain ⟨⟨t, s1⟩, e1, e2⟩ := bind_iff e
  obtain ⟨s2, e3, e4⟩ := bind_iff e2
  obtain ⟨h1, h2⟩ := take_tin h e1
  exact leave_tin (leave_tin h1 h2 e3) h2 e4
 rw [if_neg c] at e; clear c
 by_cases c : i.op = 16
 ·rw [if_pos c] at e
  exact leave_tin h z1 e
 rw [if_neg c] at e; clear c
 by_cases c : i.op = 17
 ·rw [if_pos c] at e
  obtain ⟨s1, e1, e2⟩ := bind_iff e
  have := J.cls (by omega)
  exact leave_tin (wantO_tin h e1) ⟨by omega, by omega⟩ e2
 rw [if_neg c] at e; clear c
 by_cases c : i.op = 18
 ·rw [if_pos c] at e
  exact wantO_tin h e
 rw [if_neg c] at e; clear c
 by_cases c : i.op = 20
 ·rw [if_pos c] at e
  obtain ⟨⟨t, s1⟩, e1, e2⟩ := bind_iff e
  obtain ⟨⟨u, s2⟩, e3, e4⟩ := bind_iff e2
  obtain ⟨s3, e5, e6⟩ := bind_iff e4
  obtain ⟨h1, h2⟩ := take_tin h e1
  obtain ⟨h3, h4⟩ := take_tin h1 e3
  exact leave_tin (leave_tin h3 h2 e5) h4 e6
 rw [if_neg c] at e
 cases e
 exact h
theorem next_tin (G : Good p) (hins : ∀ i ∈ m.code, insB p m i = true) {pc : Nat} (hpc : pc < m.code.length) (h : TIn p s) (e : nextS p m pc s = some s') : TIn p s' := by
 unfold nextS at e
 obtain ⟨t1, e1, e2⟩ := bind_iff e
 have hmem : insAt m pc ∈ m.code := by
  unfold insAt
  rw [List.getElem?_eq_getElem hpc]
  exact List.getElem_mem _
 split at e2
 ·cases e2
 ·cases e2
  exact do_tin G (ins_ok (p := p) (m := m) (op := (insAt m pc).op) (a := (insAt m pc).a) (b := (insAt m pc).b) (hins _ hmem)) h e1
end
structure Sol (p : List LClass) (c : Int) (m : LMeth) (σ : Nat → Option TSt) : Prop where
 beg : ∃ s, σ 0 = some s ∧ LeT p (beginS c m) s
 go : ∀ i s, i < m.code.length → σ i = some s → ∃ n, nextS p m i s = some n ∧ ∀ y ∈ onwardL (insAt m i) i, ∃ t, σ y.1.toNat = some t ∧ LeT p n t
structure SvBel (p : List LClass) (σ : Nat → Option TSt) (s : SvSt) : Prop where
 le : ∀ i, i < 40 → s.re.getD i false = true → ∃ t, σ i = some t ∧ LeT p (s.st.getD i zeroS) t
 ty : ∀ i, i < 40 → s.re.getD i false = true → TIn p (s.st.getD i zeroS)
section
variable {p : List LClass} {m : LMeth} {c : Int} {σ : Nat → Option TSt}
theorem join_tin {s t : TSt} (hl : s.loc.length = 8) (_hs : TIn p s) (ht : TIn p t) : TIn p (joinS p s t) := by
 have hj : ∀ a b : Int, tyOk p.length b → tyOk p.length (joinB p a b) := fun a b hb => by
  unfold joinB
  split
  ·exact hb
  ·split
   ·rcases up_cases p b (chainOf p (a - 3)) with ⟨h1, _⟩ | ⟨pre, d, post, h1, h2, _, _⟩
    ·rw [h1]; exact ⟨by omega, by omega⟩
    ·rw [h2]
     have hd : descB p (a - 3) (d : Int) = true := desc_mem.2 (by rw [h1]; simp)
     have hlt : d < p.length := by
      have hm : d ∈ chainOf p (a - 3) := by rw [h1]; simp
      unfold chainOf at hm
      have key : ∀ (f : Nat) (c : Int) (x : Nat), x ∈ chain p f c → x < p.length := by
       intro f
       induction f with
       | zero => intro c x h; cases h
       | succ f ih =>
        intro c x h
        unfold chain at h
        split at h
        ·cases h
        ·split at h
         ·cases h
         ·rename_i y hy
          rcases List.mem_cons.1 h with rfl | h
          ·exact (List.getElem?_eq_some_iff.1 hy).1
          ·exact ih _ _ h
      exact key _ _ _ hm
     exact ⟨by omega, by omega⟩
   ·exact ⟨by omega, by omega⟩
 obtain ⟨j1, j2⟩ := joinS_len p s t
 refine ⟨fun x hx => ?_, fun x hx => ?_⟩
 ·obtain ⟨i, hi, rfl⟩ := List.getElem_of_mem hx
  have : (joinS p s t).loc[i] = (joinS p s t).loc.getD i 0 := by rw [List.getD_eq_getElem?_getD, List.getElem?_eq_getElem hi]; rfl
  rw [this, joinS_loc p s t hl (by omega)]
  exact hj _ _ (tin_get ht.1 i)
 ·obtain ⟨i, hi, rfl⟩ := List.getElem_of_mem hx
  have : (joinS p s t).stk[i] = (joinS p s t).stk.getD i 0 := by rw [List.getD_eq_getElem?_getD, List.getElem?_eq_getElem hi]; rfl
  rw [this, joinS_stk p s t (by omega)]
  exact hj _ _ (tin_get ht.2 i)
theorem LeT.trans (hs : SupOk p p.length) {s t u : TSt} (h : LeT p s t) (h' : LeT p t u) : LeT p s u :=
 (LeT.iff h.sl h'.tl).2 (((LeT.iff h.sl h.tl).1 h).trans hs ((LeT.iff h'.sl h'.tl).1 h'))
theorem LeT.refl {s : TSt} (h : s.loc.length = 8) : LeT p s s := (LeT.iff h h).2 (LeS.refl p s)
theorem SvBel.put {s : SvSt} (O : SvOk p m s) (B : SvBel p σ s) {i : Nat} (hi : i < 40) {x t : TSt} (hσ : σ i = some t) (hx : LeT p x t) (hT : TIn p x) : SvBel p σ (putP s i x) := by
 refine ⟨fun j hj hr => ?_, fun j hj hr => ?_⟩
 ·by_cases e : j = i
  ·subst e
   refine ⟨t, hσ, ?_⟩
   show LeT p ((s.st.set j x).getD j zeroS) t
   rw [getD_set_self (by rw [O.l1]; exact hj)]
   exact hx
  ·have hr' : (s.re.set i true).getD j false = true := hr
   rw [getD_set_ne e] at hr'
   show ∃ t, σ j = some t ∧ LeT p ((s.st.set i x).getD j zeroS) t
   rw [getD_set_ne e]
   exact B.le j hj hr'
 ·by_cases e : j = i
  ·subst e
   show TIn p ((s.st.set j x).getD j zeroS)
   rw [getD_set_self (by rw [O.l1]; exact hj)]
   exact hT
  ·have hr' : (s.re.set i true).getD j false = true := hr
   rw [getD_set_ne e] at hr'
   show TIn p ((s.st.set i x).getD j zeroS)
   rw [getD_set_ne e]
   exact B.ty j hj hr'
theorem reach_bel (hs : SupOk p p.length) {s : SvSt} (O : SvOk p m s) (B : SvBel p σ s) {i : Nat} (hi : i < 40) {g t : TSt} (hσ : σ i = some t) (hg : LeT p g t) (hT : TIn p g) : ∃ s', reachP p i g s = some s' ∧ SvBel p σ s' := by
 unfold reachP
 cases hr : s.re.getD i false with
 | false => exact ⟨_, rfl, B.put O hi hσ hg hT⟩
 | true =>
  rw [if_pos rfl]
  obtain ⟨t0, h1, h2⟩ := B.le i hi hr
  rw [hσ] at h1
  cases h1
  have ho := O.ok i hi
  cases hb : belowS p g (s.st.getD i zeroS) with
  | true => exact ⟨s, rfl, B⟩
  | false =>
   have hn : (s.st.getD i zeroS).stk.length = g.stk.length := by rw [h2.k.len, hg.k.len]
   rw [if_neg (by simp), if_pos hn]
   refine ⟨_, rfl, B.put O hi hσ ?_ (join_tin ho.1 (B.ty i hi hr) hT)⟩
   have hj := joinS_len p (s.st.getD i zeroS) g
   exact (LeT.iff (by rw [hj.2]; exact ho.1) h2.tl).2 (join_least hs ho.1 (B.ty i hi hr).tyIn ((LeT.iff ho.1 h2.tl).1 h2) ((LeT.iff hg.sl hg.tl).1 hg))
theorem reachAll_bel (hs : SupOk p p.length) (h6 : p.length ≤ 6) (h8 : m.stack ≤ 8) {n : TSt} (hl : n.loc.length = 8) (hk : (n.stk.length : Int) ≤ m.stack) (hT : TIn p n) : ∀ (l : List (Int × Bool)) (s : SvSt), SvOk p m s → SvBel p σ s → (∀ y ∈ l, y.1.toNat < 40 ∧ ∃ t, σ y.1.toNat = some t ∧ LeT p n t) → ∃ s', reachAll p n l s = some s' ∧ SvBel p σ s' ∧ SvOk p m s'
 | [], s, O, B, _ => ⟨s, rfl, B, O⟩
 | y :: l, s, O, B, hy => by
  obtain ⟨h1, t, h2, h3⟩ := hy y (by simp)
  obtain ⟨s1, e1, B1⟩ := reach_bel hs O B h1 h2 h3 hT
  obtain ⟨O1, _⟩ := reach_msr hs h6 h8 O h1 hl hk e1
  obtain ⟨s2, e2, B2, O2⟩ := reachAll_bel hs h6 h8 hl hk hT l s1 O1 B1 (fun z hz => hy z (by simp [hz]))
  refine ⟨s2, ?_, B2, O2⟩
  unfold reachAll
  rw [e1, Option.bind_some, e2]
theorem ask_bel (hF : formI p = 0) (hz : szProg p ≤ 4194304) {k : Int} (hown : ownM p c k = some m) (S : Sol p c m σ) {i : Nat} (hi : i < m.code.length) {s : SvSt × Bool} (O : SvOk p m s.1) (B : SvBel p σ s.1) (hra : ∀ j, s.1.ra.getD j false = true → s.1.re.getD j false = true) : ∃ s', askP p m i s = some s' ∧ SvBel p σ s'.1 ∧ SvOk p m s'.1 := by
 have hs := form_sup hF
 have G := form_good hF hz
 obtain ⟨_, _, M⟩ := form_own hF hown
 have h6 := (form_all hF).1.2
 have h40 := M.c40
 unfold askP
 split
 ·rename_i hr
  obtain ⟨c1, _⟩ := clear_msr O (show i < 40 by omega) hr
  have B1 : SvBel p σ { s.1 with ra := s.1.ra.set i false } := ⟨B.le, B.ty⟩
  have hre := hra i hr
  obtain ⟨t, h1, h2⟩ := B.le i (by omega) hre
  obtain ⟨n', g1, g2⟩ := S.go i t hi h1
  obtain ⟨n, f1, f2⟩ := next_mono hs M.ins M.ok.loc hi h2 g1
  have ho := O.ok i (by omega)
  obtain ⟨n1, n2⟩ := next_len f1 ho.1 ho.2
  have hin := onward_in hi M.ins f1
  have hT := next_tin G M.ins hi (B.ty i (by omega) hre) f1
  obtain ⟨s', e1, B2, O2⟩ := reachAll_bel (σ := σ) hs h6 M.ok.stk n1 n2 hT (onwardL (insAt m i) i) _ c1 B1 (fun y hy => by
   obtain ⟨t', k1, k2⟩ := g2 y hy
   exact ⟨by have := hin y hy; omega, t', k1, f2.trans hs k2⟩)
  refine ⟨(s', true), ?_, B2, O2⟩
  unfold goOnP
  show ((nextS p m i (s.1.st.getD i zeroS)).bind _).map _ = _
  rw [f1, Option.bind_some, e1]
  rfl
 ·exact ⟨s, rfl, B, O⟩
end
structure Up (p : List LClass) (s s' : SvSt) : Prop where
 re : ∀ i, i < 40 → s.re.getD i false = true → s'.re.getD i false = true
 le : ∀ i, i < 40 → s.re.getD i false = true → LeT p (s.st.getD i zeroS) (s'.st.getD i zeroS)
 ch : ∀ i, i < 40 → s'.re.getD i false = true → s'.ra.getD i false = true ∨ (s.re.getD i false = true ∧ s'.st.getD i zeroS = s.st.getD i zeroS ∧ s'.ra.getD i false = s.ra.getD i false)
 ra : ∀ i, i < 40 → s'.ra.getD i false = true → s'.re.getD i false = true ∨ s.ra.getD i false = true
section
variable {p : List LClass} {m : LMeth}
theorem Up.refl {s : SvSt} (O : SvOk p m s) : Up p s s := ⟨fun _ _ h => h, fun i hi _ => LeT.refl (O.ok i hi).1, fun _ _ h => .inr ⟨h, rfl, rfl⟩, fun _ _ h => .inr h⟩
theorem Up.trans (hs : SupOk p p.length) {s t u : SvSt} (h : Up p s t) (h' : Up p t u) : Up p s u := by
 refine ⟨fun i hi hr => h'.re i hi (h.re i hi hr), fun i hi hr => (h.le i hi hr).trans hs (h'.le i hi (h.re i hi hr)), fun i hi hr => ?_, fun i hi hr => ?_⟩
 ·rcases h'.ch i hi hr with e | ⟨e1, e2, e3⟩
  ·exact .inl e
  ·rcases h.ch i hi e1 with e | ⟨f1, f2, f3⟩
   ·exact .inl (by rw [e3]; exact e)
   ·exact .inr ⟨f1, e2.trans f2, e3.trans f3⟩
 ·rcases h'.ra i hi hr with e | e
  ·exact .inl e
  ·rcases h.ra i hi e with e | e
   ·exact .inl (h'.re i hi e)
   ·exact .inr e
theorem put_up {s : SvSt} (O : SvOk p m s) {i : Nat} (hi : i < 40) {x : TSt} (hx : s.re.getD i false = true → LeT p (s.st.getD i zeroS) x) : Up p s (putP s i x) := by
 have a1 : ∀ j, (putP s i x).re.getD j false = (s.re.set i true).getD j false := fun _ => rfl
 have a2 : ∀ j, (putP s i x).st.getD j zeroS = (s.st.set i x).getD j zeroS := fun _ => rfl
 have a3 : ∀ j, (putP s i x).ra.getD j false = (s.ra.set i true).getD j false := fun _ => rfl
 refine ⟨fun j hj hr => ?_, fun j hj hr => ?_, fun j hj hr => ?_, fun j hj hr => ?_⟩
 ·rw [a1]
  by_cases e : j = i
  ·subst e; rw [getD_set_self (by rw [O.l2]; exact hj)]
  ·rw [getD_set_ne e]; exact hr
 ·rw [a2]
  by_cases e : j = i
  ·subst e; rw [getD_set_self (by rw [O.l1]; exact hj)]; exact hx hr
  ·rw [getD_set_ne e]; exact LeT.refl (O.ok j hj).1
 ·rw [a1] at hr
  rw [a2, a3]
  by_cases e : j = i
  ·subst e; left; rw [getD_set_self (by rw [O.l3]; exact hj)]
  ·rw [getD_set_ne e] at hr
   right
   rw [getD_set_ne e, getD_set_ne e]
   exact ⟨hr, rfl, rfl⟩
 ·rw [a3] at hr
  rw [a1]
  by_cases e : j = i
  ·subst e; left; rw [getD_set_self (by rw [O.l2]; exact hj)]
  ·rw [getD_set_ne e] at hr; exact .inr hr
theorem reach_up (_hs : SupOk p p.length) {s s' : SvSt} (O : SvOk p m s) {i : Nat} (hi : i < 40) {g : TSt} (hl : g.loc.length = 8) (e : reachP p i g s = some s') : Up p s s' ∧ s'.re.getD i false = true ∧ LeT p g (s'.st.getD i zeroS) := by
 have ho := O.ok i hi
 have b1 : ∀ x, (putP s i x).re.getD i false = true := fun x => by
  show (s.re.set i true).getD i false = true
  rw [getD_set_self (by rw [O.l2]; exact hi)]
 have b2 : ∀ x, (putP s i x).st.getD i zeroS = x := fun x => by
  show (s.st.set i x).getD i zeroS = x
  rw [getD_set_self (by rw [O.l1]; exact hi)]
 unfold reachP at e
 split at e
 ·rename_i hr
  split at e
  ·rename_i hb
   cases e
   exact ⟨Up.refl O, hr, (LeT.iff hl ho.1).2 ((le_iff hl ho.1).1 hb)⟩
  ·split at e
   ·rename_i hn
    cases e
    have hj := (joinS_len p (s.st.getD i zeroS) g).2
    refine ⟨put_up O hi (fun _ => (LeT.iff ho.1 (by rw [hj]; exact ho.1)).2 (join_up1 ho.1)), b1 _, ?_⟩
    rw [b2]
    exact (LeT.iff hl (by rw [hj]; exact ho.1)).2 (join_up2 ho.1 hn)
   ·cases e
 ·rename_i hr
  cases e
  refine ⟨put_up O hi (fun h => absurd h hr), b1 _, ?_⟩
  rw [b2]
  exact LeT.refl hl
theorem reachAll_up (hs : SupOk p p.length) (h6 : p.length ≤ 6) (h8 : m.stack ≤ 8) {n : TSt} (hl : n.loc.length = 8) (hk : (n.stk.length : Int) ≤ m.stack) : ∀ (l : List (Int × Bool)) (s s' : SvSt), SvOk p m s → (∀ y ∈ l, y.1.toNat < 40) → reachAll p n l s = some s' → Up p s s' ∧ ∀ y ∈ l, s'.re.getD y.1.toNat false = true ∧ LeT p n (s'.st.getD y.1.toNat zeroS)
 | [], s, s', O, _, e => by cases e; exact ⟨Up.refl O, fun y h => by cases h⟩
 | y :: l, s, s', O, hy, e => by
  unfold reachAll at e
  obtain ⟨s1, e1, e2⟩ := bind_iff e
  obtain ⟨u1, u2, u3⟩ := reach_up hs O (hy y (by simp)) hl e1
  obtain ⟨O1, _⟩ := reach_msr hs h6 h8 O (hy y (by simp)) hl hk e1
  obtain ⟨v1, v2⟩ := reachAll_up hs h6 h8 hl hk l s1 s' O1 (fun z hz => hy z (by simp [hz])) e2
  refine ⟨u1.trans hs v1, fun z hz => ?_⟩
  rcases List.mem_cons.1 hz with rfl | hz
  ·exact ⟨v1.re _ (hy z (by simp)) u2, u3.trans hs (v1.le _ (hy z (by simp)) u2)⟩
  ·exact v2 z hz
def Done (p : List LClass) (m : LMeth) (s : SvSt) (i : Nat) : Prop := ∃ n, nextS p m i (s.st.getD i zeroS) = some n ∧ ∀ y ∈ onwardL (insAt m i) i, s.re.getD y.1.toNat false = true ∧ LeT p n (s.st.getD y.1.toNat zeroS)
structure SvInv (p : List LClass) (c : Int) (m : LMeth) (s : SvSt) : Prop where
 ok : SvOk p m s
 beg : s.re.getD 0 false = true ∧ LeT p (beginS c m) (s.st.getD 0 zeroS)
 dn : ∀ i, i < m.code.length → s.re.getD i false = true → s.ra.getD i false = false → Done p m s i
 ra : ∀ i, i < 40 → s.ra.getD i false = true → s.re.getD i false = true
theorem ask_inv {c : Int} (hs : SupOk p p.length) (h6 : p.length ≤ 6) (h8 : m.stack ≤ 8) (h40 : m.code.length ≤ 40) (hins : ∀ i ∈ m.code, insB p m i = true) {i : Nat} (hi : i < m.code.length) {s s' : SvSt × Bool} (I : SvInv p c m s.1) (e : askP p m i s = some s') : SvInv p c m s'.1 := by
 unfold askP at e
 split at e
 ·rename_i hr
  obtain ⟨s1, h1, rfl⟩ := Option.map_eq_some_iff.1 e
  obtain ⟨c1, _⟩ := clear_msr I.ok (show i < 40 by omega) hr
  unfold goOnP at h1
  obtain ⟨n, g1, g2⟩ := bind_iff h1
  have g1' : nextS p m i (s.1.st.getD i zeroS) = some n := g1
  have ho := I.ok.ok i (by omega)
  obtain ⟨n1, n2⟩ := next_len g1' ho.1 ho.2
  have hin := onward_in hi hins g1'
  have hy40 : ∀ y ∈ onwardL (insAt m i) i, y.1.toNat < 40 := fun y hy => by have := hin y hy; omega
  obtain ⟨u1, u2⟩ := reachAll_up hs h6 h8 n1 n2 _ _ _ c1 hy40 g2
  obtain ⟨O1, _⟩ := reachAll_msr hs h6 h8 n1 n2 _ _ _ c1 hy40 g2
  have hra0 : ∀ j, j ≠ i → (s.1.ra.set i false).getD j false = s.1.ra.getD j false := fun j hj => getD_set_ne hj _ _
  refine ⟨O1, ⟨u1.re 0 (by omega) I.beg.1, I.beg.2.trans hs (u1.le 0 (by omega) I.beg.1)⟩, fun j hj hre hra => ?_, fun j hj hr' => ?_⟩
  ·rcases u1.ch j (by omega) hre with e | ⟨e1, e2, e3⟩
   ·dsimp only at hra; rw [hra] at e; cases e
   ·by_cases ej : j = i
    ·subst ej
     refine ⟨n, ?_, u2⟩
     dsimp only
     rw [e2]
     exact g1'
    ·have hr0 : s.1.ra.getD j false = false := by
      rw [← hra0 j ej]
      exact e3.symm.trans hra
     obtain ⟨nj, d1, d2⟩ := I.dn j hj e1 hr0
     refine ⟨nj, ?_, fun y hy => ?_⟩
     ·dsimp only
      rw [e2]
      exact d1
     ·have hyj := onward_in hj hins d1 y hy
      obtain ⟨k1, k2⟩ := d2 y hy
      exact ⟨u1.re _ (by omega) k1, k2.trans hs (u1.le _ (by omega) k1)⟩
  ·rcases u1.ra j hj hr' with e | e
   ·exact e
   ·have e' : (s.1.ra.set i false).getD j false = true := e
    by_cases ej : j = i
    ·subst ej
     rw [getD_set_self (by rw [I.ok.l3]; omega)] at e'
     cases e'
    ·rw [getD_set_ne ej] at e'
     exact u1.re j hj (I.ra j hj e')
 ·cases e
  exact I
theorem round_inv {c : Int} (hs : SupOk p p.length) (h6 : p.length ≤ 6) (h8 : m.stack ≤ 8) (h40 : m.code.length ≤ 40) (hins : ∀ i ∈ m.code, insB p m i = true) {s : SvSt} (I : SvInv p c m s) : ∀ (k : Nat) (s' : SvSt × Bool), k ≤ m.code.length → roundP p m s k = some s' → SvInv p c m s'.1 ∧ (s'.2 = false → s'.1 = s ∧ ∀ i, i < k → s.ra.getD i false = false)
 | 0, s', _, e => by cases e; exact ⟨I, fun _ => ⟨rfl, fun i h => by omega⟩⟩
 | k + 1, s', hk, e => by
  unfold roundP at e
  obtain ⟨s1, e1, e2⟩ := bind_iff e
  obtain ⟨I1, h1⟩ := round_inv hs h6 h8 h40 hins I k s1 (by omega) e1
  refine ⟨ask_inv hs h6 h8 h40 hins (by omega) I1 e2, fun hf => ?_⟩
  unfold askP at e2
  split at e2
  ·obtain ⟨s2, _, rfl⟩ := Option.map_eq_some_iff.1 e2
   cases hf
  ·rename_i hr
   cases e2
   obtain ⟨h2, h3⟩ := h1 hf
   refine ⟨h2, fun i hi => ?_⟩
   by_cases ei : i = k
   ·subst ei
    rw [h2] at hr
    simpa using hr
   ·exact h3 i (by omega)
theorem solve_inv {c : Int} (hs : SupOk p p.length) (h6 : p.length ≤ 6) (h8 : m.stack ≤ 8) (h40 : m.code.length ≤ 40) (hins : ∀ i ∈ m.code, insB p m i = true) : ∀ (n : Nat) (s r : SvSt), SvInv p c m s → solveN p m n s = some (some r) → SvInv p c m r ∧ ∀ i, i < m.code.length → r.ra.getD i false = false
 | 0, s, r, _, e => by cases e
 | n + 1, s, r, I, e => by
  unfold solveN at e
  cases hq : roundP p m s m.code.length with
  | none => rw [hq] at e; cases e
  | some x =>
   obtain ⟨s', b⟩ := x
   rw [hq] at e
   obtain ⟨I1, h1⟩ := round_inv hs h6 h8 h40 hins I _ _ (Nat.le_refl _) hq
   cases b with
   | true => exact solve_inv hs h6 h8 h40 hins n s' r I1 e
   | false =>
    cases e
    obtain ⟨h2, h3⟩ := h1 rfl
    dsimp only at h2
    subst h2
    exact ⟨I1, h3⟩
theorem start_inv {c : Int} (ha : m.args.length ≤ 7) (hk0 : 0 ≤ m.stack) : SvInv p c m (putP sv0 0 (beginS c m)) := by
 have hz : ∀ i, i < 40 → (sv0.st.getD i zeroS) = zeroS := fun i hi => by
  show (List.replicate 40 zeroS).getD i zeroS = zeroS
  rw [List.getD_eq_getElem?_getD, List.getElem?_replicate]
  split <;> rfl
 have hb : ∀ i, (List.replicate 40 false).getD i false = false := fun i => by
  rw [List.getD_eq_getElem?_getD, List.getElem?_replicate]
  split <;> rfl
 have O0 : SvOk p m sv0 := ⟨by simp [sv0], by simp [sv0], by simp [sv0], fun i hi => by rw [hz i hi]; exact ⟨rfl, hk0⟩⟩
 have hl := (okS_begin (c := c) ha).1
 refine ⟨O0.put (by omega) hl (by show ((0 : Nat) : Int) ≤ m.stack; omega), ⟨?_, ?_⟩, fun i hi hr hra => ?_, fun i hi hr => ?_⟩
 ·show (sv0.re.set 0 true).getD 0 false = true
  rw [getD_set_self (by rw [O0.l2]; omega)]
 ·show LeT p _ ((sv0.st.set 0 (beginS c m)).getD 0 zeroS)
  rw [getD_set_self (by rw [O0.l1]; omega)]
  exact LeT.refl hl
 ·have hr' : (sv0.re.set 0 true).getD i false = true := hr
  have hra' : (sv0.ra.set 0 true).getD i false = false := hra
  by_cases e : i = 0
  ·subst e
   rw [getD_set_self (by rw [O0.l3]; omega)] at hra'
   cases hra'
  ·rw [getD_set_ne e] at hr'
   have := hb i
   rw [show sv0.re = List.replicate 40 false from rfl, this] at hr'
   cases hr'
 ·have hr' : (sv0.ra.set 0 true).getD i false = true := hr
  show (sv0.re.set 0 true).getD i false = true
  by_cases e : i = 0
  ·subst e
   rw [getD_set_self (by rw [O0.l2]; omega)]
  ·rw [getD_set_ne e] at hr'
   rw [show sv0.ra = List.replicate 40 false from rfl, hb i] at hr'
   cases hr'
end
section
variable {p : List LClass} {m : LMeth} {c : Int} {σ : Nat → Option TSt}
theorem round_bel (hF : formI p = 0) (hz : szProg p ≤ 4194304) {k : Int} (hown : ownM p c k = some m) (S : Sol p c m σ) {s : SvSt} (I : SvInv p c m s) (B : SvBel p σ s) : ∀ (n : Nat), n ≤ m.code.length → ∃ s', roundP p m s n = some s' ∧ SvBel p σ s'.1 ∧ SvInv p c m s'.1
 | 0, _ => ⟨(s, false), rfl, B, I⟩
 | n + 1, hn => by
  obtain ⟨_, _, M⟩ := form_own hF hown
  obtain ⟨s1, e1, B1, I1⟩ := round_bel hF hz hown S I B n (by omega)
  obtain ⟨s2, e2, B2, _⟩ := ask_bel hF hz hown S (show n < m.code.length by omega) I1.ok B1 (fun j hj => by
   rcases Nat.lt_or_ge j 40 with h | h
   ·exact I1.ra j h hj
   ·rw [List.getD_eq_getElem?_getD, List.getElem?_eq_none (by rw [I1.ok.l3]; exact h)] at hj
    cases hj)
  refine ⟨s2, ?_, B2, ask_inv (form_sup hF) (form_all hF).1.2 M.ok.stk M.c40 M.ins (by omega) I1 e2⟩
  unfold roundP
  rw [e1, Option.bind_some, e2]
theorem solve_bel (hF : formI p = 0) (hz : szProg p ≤ 4194304) {k : Int} (hown : ownM p c k = some m) (S : Sol p c m σ) : ∀ (n : Nat) (s : SvSt) (r : Option SvSt), SvInv p c m s → SvBel p σ s → solveN p m n s = some r → ∃ t, r = some t ∧ SvBel p σ t
 | 0, s, r, _, _, e => by cases e
 | n + 1, s, r, I, B, e => by
  obtain ⟨s1, e1, B1, I1⟩ := round_bel hF hz hown S I B m.code.length (Nat.le_refl _)
  unfold solveN at e
  rw [e1] at e
  obtain ⟨s', b⟩ := s1
  cases b with
  | true => exact solve_bel hF hz hown S n s' r I1 B1 e
  | false =>
   cases e
   exact ⟨s', rfl, B1⟩
theorem begin_tin (O : MethOk p c m) : TIn p (beginS c m) := ⟨O.bg.1, O.bg.2.1⟩
theorem start_bel (O : MethOk p c m) (hk0 : 0 ≤ m.stack) (S : Sol p c m σ) : SvBel p σ (putP sv0 0 (beginS c m)) := by
 have hb : ∀ i, (List.replicate 40 false).getD i false = false := fun i => by
  rw [List.getD_eq_getElem?_getD, List.getElem?_replicate]
  split <;> rfl
 have I := start_inv (p := p) (c := c) O.a7 hk0
 have hr0 : ∀ i, i ≠ 0 → (putP sv0 0 (beginS c m)).re.getD i false = false := fun i hi => by
  show ((List.replicate 40 false).set 0 true).getD i false = false
  rw [getD_set_ne hi, hb]
 have hst : (putP sv0 0 (beginS c m)).st.getD 0 zeroS = beginS c m := by
  show ((List.replicate 40 zeroS).set 0 (beginS c m)).getD 0 zeroS = beginS c m
  rw [getD_set_self (by simp)]
 refine ⟨fun i hi hr => ?_, fun i hi hr => ?_⟩
 ·by_cases e : i = 0
  ·subst e
   obtain ⟨t, h1, h2⟩ := S.beg
   exact ⟨t, h1, by rw [hst]; exact h2⟩
  ·rw [hr0 i e] at hr; cases hr
 ·by_cases e : i = 0
  ·subst e
   rw [hst]
   exact begin_tin O
  ·rw [hr0 i e] at hr; cases hr
theorem infer_ends (hF : formI p = 0) {k : Int} (hown : ownM p c k = some m) : ∃ N r, solveN p m N (putP sv0 0 (beginS c m)) = some r := by
 obtain ⟨_, _, O⟩ := form_own hF hown
 have hk0 : 0 ≤ m.stack := by have := O.bg.2.2; have h : ((beginS c m).stk.length : Int) = 0 := rfl; omega
 have I := start_inv (p := p) (c := c) O.a7 hk0
 obtain ⟨r, hr⟩ := solve_ends (form_sup hF) (form_all hF).1.2 O.ok.stk O.c40 O.ins (msr p (putP sv0 0 (beginS c m)) + 1) _ I.ok (by omega)
 exact ⟨_, r, hr⟩
end
section
variable {p : List LClass} {m : LMeth} {c : Int}
end
section
variable {p : List LClass} {m : LMeth} {c : Int}
theorem do_loc {i : LIns} {s s' : TSt} (h : doS p m i s = some s') (hk : (s.stk.length : Int) ≤ m.stack) : s'.loc = s.loc ∨ (i.op = 2 ∧ ∃ t, s'.loc = s.loc.set i.a.toNat t) := by
 unfold doS at h
 by_cases c : i.op = 0
 ·rw [if_pos c] at h
  obtain ⟨a, b⟩ := leave_len h hk
  exact .inl (by rw [b])
 rw [if_neg c] at h; clear c
 by_cases c : i.op = 1
 ·rw [if_pos c] at h
  obtain ⟨t, _, h⟩ := bind_iff h
  obtain ⟨a, b⟩ := leave_len h hk
  exact .inl (by rw [b])
 rw [if_neg c] at h; clear c
 by_cases c : i.op = 2
 ·rw [if_pos c] at h
  obtain ⟨⟨t, s1⟩, h1, h2⟩ := bind_iff h
  obtain ⟨a, b⟩ := take_len h1 hk
  obtain ⟨u, _, rfl⟩ := Option.map_eq_some_iff.1 h2
  exact .inr ⟨c, u, by dsimp only; rw [b]⟩
 rw [if_neg c] at h; clear c
 by_cases c : i.op = 3 ∨ i.op = 4 ∨ i.op = 5 ∨ i.op = 6
 ·rw [if_pos c] at h
  obtain ⟨s1, h1, h2⟩ := bind_iff h
  obtain ⟨s2, h3, h4⟩ := bind_iff h2
  obtain ⟨a1, b1⟩ := want_len h1 hk
  obtain ⟨a2, b2⟩ := want_len h3 a1
  obtain ⟨a3, b3⟩ := leave_len h4 a2
  exact .inl (by rw [b3, b2, b1])
 rw [if_neg c] at h; clear c
 by_cases c : i.op = 8 ∨ i.op = 19
 ·rw [if_pos c] at h
  obtain ⟨a1, b1⟩ := want_len h hk
  exact .inl (by rw [b1])
 rw [if_neg c] at h; clear c
 by_cases c : i.op = 9
 ·rw [if_pos c] at h
  obtain ⟨a, b⟩ := leave_len h hk
  exact .inl (by rw [b])
 rw [if_neg c] at h; clear c
 by_cases c : i.op = 10
 ·rw [if_pos c] at h
  obtain ⟨s1, h1, h2⟩ := bind_iff h
  obtain ⟨a1, b1⟩ := want_len h1 hk
  obtain ⟨a3, b3⟩ := leave_len h2 a1
  exact .inl (by rw [b3, b1])
 rw [if_neg c] at h; clear c
 by_cases c : i.op = 11
 ·rw [if_pos c] at h
  obtain ⟨s1, h1, h2⟩ := bind_iff h
  obtain ⟨a1, b1⟩ := want_len h1 hk
  obtain ⟨a3, b3⟩ := want_len h2 a1
  exact .inl (by rw [b3, b1])
 rw [if_neg c] at h; clear c
 by_cases c : i.op = 12
 ·rw [if_pos c] at h
  obtain ⟨s1, h1, h2⟩ := bind_iff h
  obtain ⟨s2, h3, h4⟩ := bind_iff h2
  obtain ⟨a1, b1⟩ := wants_len _ h1 hk
  obtain ⟨a2, b2⟩ := want_len h3 a1
  obtain ⟨a3, b3⟩ := leave_len h4 a2
  exact .inl (by rw [b3, b2, b1])
 rw [if_neg c] at h; clear c
 by_cases c : i.op = 13
 ·rw [if_pos c] at h
  obtain ⟨a1, b1⟩ := want_len h hk
  exact .inl (by rw [b1])
 rw [if_neg c] at h; clear c
 by_cases c : i.op = 14
 ·rw [if_pos c] at h
  obtain ⟨⟨t, s1⟩, h1, rfl⟩ := Option.map_eq_some_iff.1 h
  obtain ⟨a1, b1⟩ := take_len h1 hk
  exact .inl (by dsimp only; rw [b1])
 rw [if_neg c] at h; clear c
 by_cases c : i.op = 15
 ·rw [if_pos c] at h
  obtain ⟨⟨t, s1⟩, h1, h2⟩ := bind_iff h
  obtain ⟨s2, h3, h4⟩ := bind_iff h2
  obtain ⟨a1, b1⟩ := take_len h1 hk
  obtain ⟨a2, b2⟩ := leave_len h3 a1
  obtain ⟨a3, b3⟩ := leave_len h4 a2
  exact .inl (by rw [b3, b2, b1])
 rw [if_neg c] at h; clear c
 by_cases c : i.op = 16
 ·rw [if_pos c] at h
  obtain ⟨a, b⟩ := leave_len h hk
  exact .inl (by rw [b])
 rw [if_neg c] at h; clear c
 by_cases c : i.op = 17
 ·rw [if_pos c] at h
  obtain ⟨s1, h1, h2⟩ := bind_iff h
  obtain ⟨a1, b1⟩ := wantO_len (m := m) h1 hk
  obtain ⟨a3, b3⟩ := leave_len h2 a1
  exact .inl (by rw [b3, b1])
 rw [if_neg c] at h; clear c
 by_cases c : i.op = 18
 ·rw [if_pos c] at h
  obtain ⟨a1, b1⟩ := wantO_len (m := m) h hk
  exact .inl (by rw [b1])
 rw [if_neg c] at h; clear c
 by_cases c : i.op = 20
 ·rw [if_pos c] at h
  obtain ⟨⟨t, s1⟩, h1, h2⟩ := bind_iff h
  obtain ⟨⟨u, s2⟩, h3, h4⟩ := bind_iff h2
  obtain ⟨s3, h5, h6⟩ := bind_iff h4
  obtain ⟨a1, b1⟩ := take_len h1 hk
  obtain ⟨a2, b2⟩ := take_len h3 a1
  obtain ⟨a3, b3⟩ := leave_len h5 a2
  obtain ⟨a4, b4⟩ := leave_len h6 a3
  dsimp only at b2 b3
  exact .inl (by rw [b4, b3, b2, b1])
 rw [if_neg c] at h
 cases h
 exact .inl rfl
structure Kept (p : List LClass) (m : LMeth) (Q : TSt → Prop) : Prop where
 nx : ∀ i s n, i < m.code.length → Q s → s.loc.length = 8 → (s.stk.length : Int) ≤ m.stack → nextS p m i s = some n → Q n
 jn : ∀ s t, Q s → Q t → s.loc.length = 8 → Q (joinS p s t)
variable {Q : TSt → Prop}
def AllQ (Q : TSt → Prop) (s : SvSt) : Prop := ∀ i, i < 40 → s.re.getD i false = true → Q (s.st.getD i zeroS)
theorem put_q {s : SvSt} (O : SvOk p m s) (A : AllQ Q s) {i : Nat} {x : TSt} (hx : Q x) : AllQ Q (putP s i x) := fun j hj hr => by
 by_cases e : j = i
 ·subst e
  show Q ((s.st.set j x).getD j zeroS)
  rw [getD_set_self (by rw [O.l1]; exact hj)]
  exact hx
 ·have hr' : (s.re.set i true).getD j false = true := hr
  rw [getD_set_ne e] at hr'
  show Q ((s.st.set i x).getD j zeroS)
  rw [getD_set_ne e]
  exact A j hj hr'
theorem reach_q (K : Kept p m Q) {s s' : SvSt} (O : SvOk p m s) (A : AllQ Q s) {i : Nat} (hi : i < 40) {g : TSt} (hg : Q g) (e : reachP p i g s = some s') : AllQ Q s' := by
 unfold reachP at e
 split at e
 ·rename_i hr
  split at e
  ·cases e; exact A
  ·split at e
   ·cases e
    exact put_q O A (K.jn _ _ (A i hi hr) hg (O.ok i hi).1)
   ·cases e
 ·cases e
  exact put_q O A hg
theorem reachAll_q (hs : SupOk p p.length) (h6 : p.length ≤ 6) (h8 : m.stack ≤ 8) (K : Kept p m Q) {n : TSt} (hl : n.loc.length = 8) (hk : (n.stk.length : Int) ≤ m.stack) (hn : Q n) : ∀ (l : List (Int × Bool)) (s s' : SvSt), SvOk p m s → AllQ Q s → (∀ y ∈ l, y.1.toNat < 40) → reachAll p n l s = some s' → AllQ Q s'
 | [], s, s', _, A, _, e => by cases e; exact A
 | y :: l, s, s', O, A, hy, e => by
  unfold reachAll at e
  obtain ⟨s1, e1, e2⟩ := bind_iff e
  obtain ⟨O1, _⟩ := reach_msr hs h6 h8 O (hy y (by simp)) hl hk e1
  exact reachAll_q hs h6 h8 K hl hk hn l s1 s' O1 (reach_q K O A (hy y (by simp)) hn e1) (fun z hz => hy z (by simp [hz])) e2
theorem ask_q (hs : SupOk p p.length) (h6 : p.length ≤ 6) (h8 : m.stack ≤ 8) (h40 : m.code.length ≤ 40) (hins : ∀ i ∈ m.code, insB p m i = true) (K : Kept p m Q) {i : Nat} (hi : i < m.code.length) {s s' : SvSt × Bool} (I : SvInv p c m s.1) (A : AllQ Q s.1) (e : askP p m i s = some s') : AllQ Q s'.1 := by
 unfold askP at e
 split at e
 ·rename_i hr
  obtain ⟨s1, h1, rfl⟩ := Option.map_eq_some_iff.1 e
  obtain ⟨c1, _⟩ := clear_msr I.ok (show i < 40 by omega) hr
  unfold goOnP at h1
  obtain ⟨n, g1, g2⟩ := bind_iff h1
  have g1' : nextS p m i (s.1.st.getD i zeroS) = some n := g1
  have ho := I.ok.ok i (by omega)
  obtain ⟨n1, n2⟩ := next_len g1' ho.1 ho.2
  have hin := onward_in hi hins g1'
  have hre := I.ra i (by omega) hr
  exact reachAll_q hs h6 h8 K n1 n2 (K.nx i _ n hi (A i (by omega) hre) ho.1 ho.2 g1') _ _ _ c1 A (fun y hy => by have := hin y hy; omega) g2
 ·cases e
  exact A
theorem round_q (hs : SupOk p p.length) (h6 : p.length ≤ 6) (h8 : m.stack ≤ 8) (h40 : m.code.length ≤ 40) (hins : ∀ i ∈ m.code, insB p m i = true) (K : Kept p m Q) {s : SvSt} (I : SvInv p c m s) (A : AllQ Q s) : ∀ (k : Nat) (s' : SvSt × Bool), k ≤ m.code.length → roundP p m s k = some s' → AllQ Q s'.1
 | 0, s', _, e => by cases e; exact A
 | k + 1, s', hk, e => by
  unfold roundP at e
  obtain ⟨s1, e1, e2⟩ := bind_iff e
  exact ask_q hs h6 h8 h40 hins K (by omega) (round_inv hs h6 h8 h40 hins I k s1 (by omega) e1).1 (round_q hs h6 h8 h40 hins K I A k s1 (by omega) e1) e2
theorem solve_q (hs : SupOk p p.length) (h6 : p.length ≤ 6) (h8 : m.stack ≤ 8) (h40 : m.code.length ≤ 40) (hins : ∀ i ∈ m.code, insB p m i = true) (K : Kept p m Q) : ∀ (n : Nat) (s r : SvSt), SvInv p c m s → AllQ Q s → solveN p m n s = some (some r) → AllQ Q r
 | 0, s, r, _, _, e => by cases e
 | n + 1, s, r, I, A, e => by
  unfold solveN at e
  cases hq : roundP p m s m.code.length with
  | none => rw [hq] at e; cases e
  | some x =>
   obtain ⟨s', b⟩ := x
   rw [hq] at e
   have A1 := round_q hs h6 h8 h40 hins K I A _ _ (Nat.le_refl _) hq
   have I1 := (round_inv hs h6 h8 h40 hins I _ _ (Nat.le_refl _) hq).1
   cases b with
   | true => exact solve_q hs h6 h8 h40 hins K n s' r I1 A1 e
   | false => cases e; exact A1
def Hi (m : LMeth) (s : TSt) : Prop := ∀ i : Nat, m.locals ≤ (i : Int) → i < 8 → s.loc.getD i 0 = 2
theorem hi_kept (hins : ∀ i ∈ m.code, insB p m i = true) : Kept p m (Hi m) := by
 refine ⟨fun i s n hi hq hl hk e => ?_, fun s t hq ht hl j hj hj8 => ?_⟩
 ·unfold nextS at e
  obtain ⟨t1, e1, e2⟩ := bind_iff e
  split at e2
  ·cases e2
  ·cases e2
   have hmem : insAt m i ∈ m.code := by
    unfold insAt
    rw [List.getElem?_eq_getElem hi]
    exact List.getElem_mem _
   have J := ins_ok (p := p) (m := m) (op := (insAt m i).op) (a := (insAt m i).a) (b := (insAt m i).b) (hins _ hmem)
   rcases do_loc e1 hk with h | ⟨ho, t, h⟩
   ·intro j hj hj8
    rw [h]
    exact hq j hj hj8
   ·intro j hj hj8
    have := J.loc (.inr ho)
    rw [h, getD_set_ne (by omega)]
    exact hq j hj hj8
 ·rw [joinS_loc p s t hl hj8, hq j hj hj8, ht j hj hj8]
  unfold joinB
  rw [if_pos (below_refl _ _)]
theorem begin_hi (ha : 1 + (m.args.length : Int) ≤ m.locals) (h7 : m.args.length ≤ 7) : Hi m (beginS c m) := fun i hi h8 => by
 unfold beginS
 dsimp only
 cases i with
 | zero => omega
 | succ i =>
  rw [List.getD_cons_succ, List.getD_eq_getElem?_getD, List.getElem?_append_right (by omega), List.getElem?_replicate, if_pos (by omega)]
  rfl
end
def frmAt (m : LMeth) (r : SvSt) (k : Nat) : LFrame := ⟨(k : Int), (r.st.getD k zeroS).loc.take m.locals.toNat, (r.st.getD k zeroS).stk⟩
def placB (m : LMeth) (r : SvSt) (k : Nat) : Bool := (List.range m.code.length).any fun i => r.re.getD i false && jumpsB (insAt m i) && ((insAt m i).a.toNat == k)
def certL (m : LMeth) (r : SvSt) : List LFrame := (frmL m r m.code.length).filter fun f => placB m r f.pc.toNat
section
variable {p : List LClass} {m : LMeth} {c : Int}
end
structure SameM (m m' : LMeth) : Prop where
 slot : m'.slot = m.slot
 args : m'.args = m.args
 ret : m'.ret = m.ret
 locals : m'.locals = m.locals
 stack : m'.stack = m.stack
 code : m'.code = m.code
structure SameC (x x' : LClass) : Prop where
 sup : x'.sup = x.sup
 fields : x'.fields = x.fields
 len : x'.meths.length = x.meths.length
 meth : ∀ (k : Nat) (m m' : LMeth), x.meths[k]? = some m → x'.meths[k]? = some m' → SameM m m'
structure SameP (p p' : List LClass) : Prop where
 len : p'.length = p.length
 cls : ∀ (j : Nat) (x x' : LClass), p[j]? = some x → p'[j]? = some x' → SameC x x'
theorem get_same {α β : Type} {l : List α} {l' : List β} (h : l'.length = l.length) (j : Nat) : (l[j]? = none ∧ l'[j]? = none) ∨ ∃ x x', l[j]? = some x ∧ l'[j]? = some x' := by
 rcases Nat.lt_or_ge j l.length with hj | hj
 ·exact .inr ⟨_, _, List.getElem?_eq_getElem hj, List.getElem?_eq_getElem (by omega)⟩
 ·exact .inl ⟨List.getElem?_eq_none hj, List.getElem?_eq_none (by omega)⟩
section
variable {p p' : List LClass} (S : SameP p p')
include S
theorem chain_same : ∀ (f : Nat) (c : Int), chain p' f c = chain p f c
 | 0, _ => rfl
 | f + 1, c => by
  unfold chain
  split
  ·rfl
  ·rcases get_same S.len c.toNat with ⟨h1, h2⟩ | ⟨x, x', h1, h2⟩
   ·rw [h1, h2]
   ·rw [h1, h2]
    dsimp only
    rw [(S.cls _ x x' h1 h2).sup, chain_same f x.sup]
theorem chainOf_same (c : Int) : chainOf p' c = chainOf p c := chain_same S _ _
theorem fields_same (c : Int) : fieldsOf p' c = fieldsOf p c := by
 unfold fieldsOf
 rw [chainOf_same S]
 congr 2
 funext k
 unfold ownFields
 rcases get_same S.len k with ⟨h1, h2⟩ | ⟨x, x', h1, h2⟩
 ·rw [h1, h2]
 ·rw [h1, h2]
  exact (S.cls _ x x' h1 h2).fields
omit S in
theorem slotIn_same {x x' : LClass} (h : SameC x x') (slot : Int) : slotIn x'.meths slot = slotIn x.meths slot := by
 have hm : x'.meths.map (·.slot) = x.meths.map (·.slot) := by
  apply List.ext_getElem?
  intro k
  rw [List.getElem?_map, List.getElem?_map]
  rcases get_same h.len k with ⟨h1, h2⟩ | ⟨m, m', h1, h2⟩
  ·rw [h1, h2]
  ·rw [h1, h2]
   exact congrArg some (h.meth k m m' h1 h2).slot
 have key : ∀ l : List LMeth, slotIn l slot = (l.map (·.slot)).findIdx? (fun t => t == slot) := fun l => by
  unfold slotIn
  rw [List.findIdx?_map]
  rfl
 rw [key, key, hm]
theorem methOf_same (c slot : Int) : methOf p' c slot = methOf p c slot := by
 unfold methOf
 rw [chainOf_same S]
 congr 1
 funext k
 unfold ownSlot
 rcases get_same S.len k with ⟨h1, h2⟩ | ⟨x, x', h1, h2⟩
 ·rw [h1, h2]
 ·rw [h1, h2]
  show (slotIn x'.meths slot).map _ = (slotIn x.meths slot).map _
  rw [slotIn_same (S.cls _ x x' h1 h2)]
omit S in
end
theorem framesB_iff {n : Nat} {m : LMeth} : ∀ {l : List LFrame} {last : Int}, framesB n m last l = true ↔ (∀ f ∈ l, last < f.pc) ∧ l.Pairwise (fun f g => f.pc < g.pc) ∧ ∀ f ∈ l, frameB n m f = true
 | [], _ => ⟨fun _ => ⟨fun f h => (by cases h), List.Pairwise.nil, fun f h => (by cases h)⟩, fun _ => rfl⟩
 | f :: l, last => by
  unfold framesB
  simp only [Bool.and_eq_true, decide_eq_true_eq]
  rw [framesB_iff (l := l) (last := f.pc), List.pairwise_cons]
  constructor
  ·rintro ⟨⟨h1, h2⟩, h3, h4, h5⟩
   refine ⟨fun g hg => ?_, ⟨h3, h4⟩, fun g hg => ?_⟩
   ·rcases List.mem_cons.1 hg with rfl | hg
    ·exact h1
    ·have := h3 g hg; omega
   ·rcases List.mem_cons.1 hg with rfl | hg
    ·exact h2
    ·exact h5 g hg
  ·rintro ⟨h1, ⟨h2, h3⟩, h4⟩
   exact ⟨⟨h1 f (by simp), h4 f (by simp)⟩, h2, h3, fun g hg => h4 g (by simp [hg])⟩
theorem frm_mem {m : LMeth} {r : SvSt} : ∀ {n : Nat} {f : LFrame}, f ∈ frmL m r n → ∃ k, k < n ∧ r.re.getD k false = true ∧ f = frmAt m r k
 | 0, f, h => by cases h
 | n + 1, f, h => by
  have hsplit : frmL m r (n + 1) = frmL m r n ++ (if r.re.getD n false then [frmAt m r n] else []) := rfl
  rw [hsplit] at h
  rcases List.mem_append.1 h with h | h
  ·obtain ⟨k, h1, h2, h3⟩ := frm_mem h
   exact ⟨k, by omega, h2, h3⟩
  ·split at h
   ·rename_i hr
    obtain rfl := List.mem_singleton.1 h
    exact ⟨n, by omega, hr, rfl⟩
   ·cases h
theorem frm_sorted (m : LMeth) (r : SvSt) : ∀ n, (frmL m r n).Pairwise (fun f g => f.pc < g.pc)
 | 0 => List.Pairwise.nil
 | n + 1 => by
  have hsplit : frmL m r (n + 1) = frmL m r n ++ (if r.re.getD n false then [frmAt m r n] else []) := rfl
  rw [hsplit, List.pairwise_append]
  refine ⟨frm_sorted m r n, ?_, fun f hf g hg => ?_⟩
  ·split
   ·exact List.pairwise_singleton _ _
   ·exact List.Pairwise.nil
  ·obtain ⟨k, h1, _, rfl⟩ := frm_mem hf
   split at hg
   ·obtain rfl := List.mem_singleton.1 hg
    show (k : Int) < (n : Int)
    omega
   ·cases hg
theorem ty_framed {n : Nat} {t : Int} (h : tyOk n t) : framedB n t = true := by
 obtain ⟨h1, h2⟩ := h
 unfold framedB declB
 simp only [Bool.or_eq_true, Bool.and_eq_true, beq_iff_eq, decide_eq_true_eq]
 omega
section
variable {p : List LClass} {m : LMeth} {c : Int}
theorem tin_kept (G : Good p) (hins : ∀ i ∈ m.code, insB p m i = true) : Kept p m (TIn p) :=
 ⟨fun _ _ _ hi hq _ _ e => next_tin G hins hi hq e, fun _ _ hq ht hl => join_tin hl hq ht⟩
theorem cert_frames (hF : formI p = 0) (hz : szProg p ≤ 4194304) {k : Int} (hown : ownM p c k = some m) {N : Nat} {r : SvSt} (e : solveN p m N (putP sv0 0 (beginS c m)) = some (some r)) : framesB p.length m (-1) (certL m r) = true ∧ (certL m r).length ≤ 40 := by
 obtain ⟨_, _, O⟩ := form_own hF hown
 have hs := form_sup hF
 have h6 := (form_all hF).1.2
 have hb := bareB_iff.1 (show bareB p.length m = true by
  have h := hown
  unfold ownM at h
  split at h
  ·cases hx : p[c.toNat]? with
   | none => rw [hx] at h; cases h
   | some x => rw [hx] at h; exact form_bare hF hx h
  ·cases h)
 have hk0 := hb.2.2.2.2.2.2.2.1
 have I0 := start_inv (p := p) (c := c) O.a7 hk0
 obtain ⟨I, _⟩ := solve_inv hs h6 O.ok.stk O.c40 O.ins N _ r I0 e
 have A0 : AllQ (TIn p) (putP sv0 0 (beginS c m)) := fun j hj hr => by
  by_cases ej : j = 0
  ·subst ej
   show TIn p (((List.replicate 40 zeroS).set 0 (beginS c m)).getD 0 zeroS)
   rw [getD_set_self (by simp)]
   exact begin_tin O
  ·have h' : ((List.replicate 40 false).set 0 true).getD j false = true := hr
   rw [getD_set_ne ej, List.getD_eq_getElem?_getD, List.getElem?_replicate] at h'
   split at h' <;> cases h'
 have A := solve_q hs h6 O.ok.stk O.c40 O.ins (tin_kept (form_good hF hz) O.ins) N _ r I0 A0 e
 have hl8 := hb.2.2.2.2.2.2.1
 have hl1 := hb.2.2.2.2.2.1
 have h40 := O.c40
 have hlen : ∀ n, (frmL m r n).length ≤ n := fun n => by
  induction n with
  | zero => exact Nat.le_refl _
  | succ n ih =>
   have hsplit : frmL m r (n + 1) = frmL m r n ++ (if r.re.getD n false then [frmAt m r n] else []) := rfl
   rw [hsplit, List.length_append]
   have : (if r.re.getD n false then [frmAt m r n] else []).length ≤ 1 := by split <;> simp
   omega
 refine ⟨framesB_iff.2 ⟨fun f hf => ?_, (frm_sorted m r _).filter _, fun f hf => ?_⟩, ?_⟩
 ·obtain ⟨j, h1, h2, rfl⟩ := frm_mem (List.mem_filter.1 hf).1
  show (-1 : Int) < (j : Int)
  omega
 ·obtain ⟨j, h1, h2, rfl⟩ := frm_mem (List.mem_filter.1 hf).1
  have ho := I.ok.ok j (by omega)
  have hT := A j (by omega) h2
  unfold frameB frmAt
  simp only [Bool.and_eq_true, decide_eq_true_eq, List.all_eq_true]
  refine ⟨⟨⟨⟨by omega, ?_⟩, ho.2⟩, fun t ht => ty_framed (hT.1 t (List.take_subset _ _ ht))⟩, fun t ht => ty_framed (hT.2 t ht)⟩
  rw [List.length_take, ho.1]
  omega
 ·have h1 := hlen m.code.length
  have h2 : (certL m r).length ≤ (frmL m r m.code.length).length := List.length_filter_le _ _
  omega
end
theorem form_same {p p' : List LClass} (S : SameP p p') (hF : formI p = 0) (hfr : ∀ (c k : Nat) (m' : LMeth), ownM p' c k = some m' → framesB p'.length m' (-1) m'.frames = true ∧ m'.frames.length ≤ 40) : formI p' = 0 := by
 obtain ⟨⟨h1, h6⟩, hcl, hco⟩ := form_all hF
 have hl := S.len
 have hins : ∀ (m m' : LMeth), SameM m m' → ∀ i, insB p' m' i = insB p m i := fun m m' h i => by
  unfold insB
  rw [h.locals, h.code, hl, fields_same S, methOf_same S]
 unfold formI
 rw [if_neg (by omega), if_pos, if_pos]
 ·rw [List.all_eq_true]
  intro x' hx'
  obtain ⟨j, hj⟩ := List.getElem?_of_mem hx'
  obtain ⟨x, hx⟩ : ∃ x, p[j]? = some x := ⟨_, List.getElem?_eq_getElem (by have := (List.getElem?_eq_some_iff.1 hj).1; omega)⟩
  have C := S.cls j x x' hx hj
  rw [List.all_eq_true]
  intro m' hm'
  obtain ⟨k, hk⟩ := List.getElem?_of_mem hm'
  obtain ⟨m, hm⟩ : ∃ m, x.meths[k]? = some m := ⟨_, List.getElem?_eq_getElem (by have := (List.getElem?_eq_some_iff.1 hk).1; have := C.len; omega)⟩
  have M := C.meth k m m' hm hk
  have hc := hco x (List.mem_of_getElem? hx) m (List.mem_of_getElem? hm)
  obtain ⟨f1, f2⟩ := hfr j k m' (by
   unfold ownM
   rw [if_pos ⟨by omega, by omega⟩, Int.toNat_natCast, Int.toNat_natCast, hj]
   exact hk)
  unfold codeB at hc ⊢
  simp only [Bool.and_eq_true, decide_eq_true_eq] at hc ⊢
  obtain ⟨⟨⟨⟨c1, c2⟩, _⟩, c4⟩, _⟩ := hc
  refine ⟨⟨⟨⟨by rw [M.code]; exact c1, by rw [M.code]; exact c2⟩, f2⟩, ?_⟩, f1⟩
  rw [M.code, List.all_eq_true]
  intro i hi
  rw [hins m m' M]
  exact List.all_eq_true.1 c4 i hi
 ·rw [List.all_eq_true]
  intro j hj
  unfold classB
  rcases get_same S.len j with ⟨g1, g2⟩ | ⟨x, x', g1, g2⟩
  ·rw [g2]
  ·rw [g2]
   dsimp only
   have C := S.cls j x x' g1 g2
   obtain ⟨s1, s2⟩ := hcl j x g1
   have hsup : supB j x' = true := by
    unfold supB at s1 ⊢
    rw [C.sup]
    exact s1
   rw [hsup, Bool.true_and]
   unfold restB at s2 ⊢
   simp only [Bool.and_eq_true, decide_eq_true_eq] at s2 ⊢
   obtain ⟨⟨⟨r1, r2⟩, r3⟩, r4⟩ := s2
   refine ⟨⟨⟨by rw [C.fields, hl]; exact r1, by rw [fields_same S]; exact r2⟩, by rw [C.len]; exact r3⟩, ?_⟩
   rw [C.len, List.all_eq_true]
   intro k hk
   have hk' := List.all_eq_true.1 r4 k hk
   rcases get_same C.len k with ⟨q1, q2⟩ | ⟨m, m', q1, q2⟩
   ·rw [q2]
   ·rw [q2]
    rw [q1] at hk'
    dsimp only at hk' ⊢
    have M := C.meth k m m' q1 q2
    unfold headB at hk' ⊢
    simp only [Bool.and_eq_true] at hk' ⊢
    obtain ⟨⟨b1, b2⟩, b3⟩ := hk'
    refine ⟨⟨?_, ?_⟩, ?_⟩
    ·unfold bareB at b1 ⊢
     rw [M.slot, M.args, M.ret, M.locals, M.stack, hl]
     exact b1
    ·rw [List.all_eq_true] at b2 ⊢
     intro o' ho'
     obtain ⟨i, hi⟩ := List.getElem?_of_mem ho'
     have hik : i < k := by
      have := (List.getElem?_eq_some_iff.1 hi).1
      rw [List.length_take] at this
      omega
     rw [List.getElem?_take_of_lt hik] at hi
     rcases get_same C.len i with ⟨z1, z2⟩ | ⟨o, o2, z1, z2⟩
     ·rw [z2] at hi; cases hi
     ·rw [z2] at hi
      cases hi
      have Mo := C.meth i o o' z1 z2
      rw [Mo.slot, M.slot]
      exact b2 o (by
       apply List.mem_of_getElem? (i := i)
       rw [List.getElem?_take_of_lt hik]
       exact z1)
    ·unfold overB at b3 ⊢
     rw [C.sup, M.slot, methOf_same S]
     cases hmo : methOf p x.sup m.slot with
     | none => rfl
     | some ck =>
      rw [hmo] at b3
      dsimp only at b3 ⊢
      unfold methAt at b3 ⊢
      rcases get_same S.len ck.1 with ⟨z1, z2⟩ | ⟨y, y', z1, z2⟩
      ·rw [z2]; rfl
      ·rw [z1] at b3
       rw [z2]
       rw [Option.bind_some] at b3 ⊢
       have Cy := S.cls _ y y' z1 z2
       rcases get_same Cy.len ck.2 with ⟨w1, w2⟩ | ⟨o, o', w1, w2⟩
       ·rw [w2]
       ·rw [w1] at b3
        rw [w2]
        dsimp only at b3 ⊢
        have Mo := Cy.meth _ o o' w1 w2
        rw [Mo.args, Mo.ret, M.args, M.ret]
        exact b3
def certM (m : LMeth) (r : SvSt) : LMeth := { m with frames := certL m r }
def certP (p : List LClass) (R : Nat → Nat → SvSt) : List LClass := p.mapIdx fun c x => { x with meths := x.meths.mapIdx fun k m => certM m (R c k) }
theorem certM_same (m : LMeth) (r : SvSt) : SameM m (certM m r) := ⟨rfl, rfl, rfl, rfl, rfl, rfl⟩
section
variable {p : List LClass} {R : Nat → Nat → SvSt}
theorem certP_get (c : Nat) : (certP p R)[c]? = (p[c]?).map fun x => { x with meths := x.meths.mapIdx fun k m => certM m (R c k) } := by
 unfold certP
 rw [List.getElem?_mapIdx]
theorem cert_same : SameP p (certP p R) := by
 refine ⟨by unfold certP; simp, fun j x x' h1 h2 => ?_⟩
 rw [certP_get, h1] at h2
 cases h2
 refine ⟨rfl, rfl, by simp, fun k m m' g1 g2 => ?_⟩
 rw [List.getElem?_mapIdx, g1] at g2
 cases g2
 exact certM_same _ _
theorem cert_own {c k : Nat} {m' : LMeth} (h : ownM (certP p R) c k = some m') : ∃ m, ownM p c k = some m ∧ m' = certM m (R c k) := by
 unfold ownM at h ⊢
 rw [if_pos ⟨by omega, by omega⟩, Int.toNat_natCast, Int.toNat_natCast] at h ⊢
 rw [certP_get] at h
 cases hx : p[c]? with
 | none => rw [hx] at h; cases h
 | some x =>
  rw [hx] at h
  rw [Option.bind_some]
  have h' : (x.meths.mapIdx fun k m => certM m (R c k))[k]? = some m' := h
  rw [List.getElem?_mapIdx] at h'
  obtain ⟨m, h1, h2⟩ := Option.map_eq_some_iff.1 h'
  exact ⟨m, h1, h2.symm⟩
def Sols (p : List LClass) (R : Nat → Nat → SvSt) : Prop := ∀ (c k : Nat) (m : LMeth), ownM p c k = some m → ∃ N, solveN p m N (putP sv0 0 (beginS c m)) = some (some (R c k))
theorem cert_form (hF : formI p = 0) (hz : szProg p ≤ 4194304) (h : Sols p R) : formI (certP p R) = 0 := by
 refine form_same cert_same hF (fun c k m' hm => ?_)
 obtain ⟨m, h1, rfl⟩ := cert_own hm
 obtain ⟨N, h2⟩ := h c k m h1
 obtain ⟨f1, f2⟩ := cert_frames hF hz h1 h2
 refine ⟨?_, f2⟩
 rw [cert_same.len]
 rw [framesB_iff] at f1 ⊢
 exact f1
end
end Go.Proofs.YtiiokkllmchohaaGreat
