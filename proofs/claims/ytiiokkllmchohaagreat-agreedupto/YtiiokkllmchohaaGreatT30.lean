/- What fits a state fits all below it (pure). -/
import Derived.Test.YtiiokkllmchohaaGreatT29
/- LeqD -/
namespace Go.Proofs.YtiiokkllmchohaaGreat
open Go.RowKit Go.Shelf

def LeL (p : List LClass) : List Int → List Int → Prop
 | [], [] => True
 | a :: l, b :: u => belowB p a b = true ∧ LeL p l u
 | _, _ => False
theorem LeL.len {p : List LClass} : ∀ {l u : List Int}, LeL p l u → l.length = u.length
 | [], [], _ => rfl
 | _ :: _, _ :: _, h => by simp only [List.length_cons]; rw [LeL.len h.2]
 | [], _ :: _, h => h.elim
 | _ :: _, [], h => h.elim
theorem LeL.app {p : List LClass} : ∀ {l u l' u' : List Int}, LeL p l u → LeL p l' u' → LeL p (l ++ l') (u ++ u')
 | [], [], _, _, _, h => h
 | _ :: _, _ :: _, _, _, h, h' => ⟨h.1, LeL.app h.2 h'⟩
 | [], _ :: _, _, _, h, _ => h.elim
 | _ :: _, [], _, _, h, _ => h.elim
theorem LeL.snoc {p : List LClass} : ∀ {u l : List Int} {t : Int}, LeL p l (u ++ [t]) → ∃ r x, l = r ++ [x] ∧ LeL p r u ∧ belowB p x t = true
 | [], [x], _, h => ⟨[], x, rfl, trivial, h.1⟩
 | [], [], _, h => h.elim
 | [], _ :: _ :: _, _, h => h.2.elim
 | b :: u, [], _, h => h.elim
 | b :: u, a :: l, t, h => by
  obtain ⟨r, x, rfl, h1, h2⟩ := LeL.snoc (u := u) h.2
  exact ⟨a :: r, x, rfl, ⟨h.1, h1⟩, h2⟩
theorem LeL.iff {p : List LClass} : ∀ {l u : List Int}, l.length = u.length → (LeL p l u ↔ ∀ i, i < l.length → belowB p (l.getD i 0) (u.getD i 0) = true)
 | [], [], _ => ⟨fun _ i h => by simp at h, fun _ => trivial⟩
 | a :: l, b :: u, h => by
  show (belowB p a b = true ∧ LeL p l u) ↔ _
  rw [LeL.iff (by simpa using h)]
  constructor
  ·rintro ⟨h1, h2⟩ i hi
   cases i with
   | zero => exact h1
   | succ i => exact h2 i (by simpa using hi)
  ·intro h
   exact ⟨h 0 (by simp), fun i hi => h (i + 1) (by simpa using hi)⟩
 | [], _ :: _, h => by simp at h
 | _ :: _, [], h => by simp at h
structure LeT (p : List LClass) (s t : TSt) : Prop where
 l : ∀ i, i < 8 → belowB p (s.loc.getD i 0) (t.loc.getD i 0) = true
 k : LeL p s.stk t.stk
 sl : s.loc.length = 8
 tl : t.loc.length = 8
theorem LeT.iff {p : List LClass} {s t : TSt} (hs : s.loc.length = 8) (ht : t.loc.length = 8) : LeT p s t ↔ LeS p s t :=
 ⟨fun h => ⟨h.k.len, h.l, (LeL.iff h.k.len).1 h.k⟩, fun h => ⟨h.l, (LeL.iff h.n).2 h.k, hs, ht⟩⟩
theorem take_mk {s : TSt} {r : List Int} {x : Int} (h : s.stk = r ++ [x]) : takeS s = some (x, { s with stk := r }) := by
 unfold takeS
 rw [h, List.getLast?_concat, List.dropLast_concat]; rfl
section
variable {p : List LClass} {m : LMeth} {s t t' : TSt}
theorem take_mono (h : LeT p s t) {u : Int} (e : takeS t = some (u, t')) : ∃ u' s', takeS s = some (u', s') ∧ LeT p s' t' ∧ belowB p u' u = true := by
 obtain ⟨h1, h2⟩ := takeS_iff e
 have hk := h.k
 rw [h1] at hk
 obtain ⟨r, x, hr, h3, h4⟩ := hk.snoc
 exact ⟨x, { s with stk := r }, take_mk hr, ⟨fun i hi => by rw [h2]; exact h.l i hi, h3, h.sl, by rw [h2]; exact h.tl⟩, h4⟩
theorem want_mono (hs : SupOk p p.length) (h : LeT p s t) {x : Int} (e : wantS p x t = some t') : ∃ s', wantS p x s = some s' ∧ LeT p s' t' := by
 unfold wantS at e
 obtain ⟨⟨u, t1⟩, e1, e2⟩ := bind_iff e
 obtain ⟨u', s', h1, h2, h3⟩ := take_mono h e1
 dsimp only at e2
 split at e2
 ·rename_i hb
  cases e2
  refine ⟨s', ?_, h2⟩
  unfold wantS
  rw [h1, Option.bind_some, if_pos (below_trans hs h3 hb)]
 ·cases e2
theorem obj_mono {u u' : Int} (h : belowB p u' u = true) (hu : mayObj u = true) : mayObj u' = true := by
 unfold mayObj at hu ⊢
 rw [below_iff] at h
 simp only [Bool.or_eq_true, beq_iff_eq, decide_eq_true_eq] at hu ⊢
 omega
theorem wantO_mono (h : LeT p s t) (e : wantO t = some t') : ∃ s', wantO s = some s' ∧ LeT p s' t' := by
 unfold wantO at e
 obtain ⟨⟨u, t1⟩, e1, e2⟩ := bind_iff e
 obtain ⟨u', s', h1, h2, h3⟩ := take_mono h e1
 dsimp only at e2
 split at e2
 ·rename_i hb
  cases e2
  refine ⟨s', ?_, h2⟩
  unfold wantO
  rw [h1, Option.bind_some, if_pos (obj_mono h3 hb)]
 ·cases e2
theorem leave_mono (h : LeT p s t) {x x' : Int} (hx : belowB p x' x = true) (e : leaveS m x t = some t') : ∃ s', leaveS m x' s = some s' ∧ LeT p s' t' := by
 obtain ⟨h1, h2, h3⟩ := leaveS_iff e
 refine ⟨{ s with stk := s.stk ++ [x'] }, ?_, ⟨fun i hi => by rw [h3]; exact h.l i hi, by rw [h2]; exact h.k.app ⟨hx, trivial⟩, h.sl, by rw [h3]; exact h.tl⟩⟩
 unfold leaveS
 rw [h.k.len, if_neg h1]
theorem wants_mono (hs : SupOk p p.length) : ∀ (l : List Int) {s t t' : TSt}, LeT p s t → wantsS p l t = some t' → ∃ s', wantsS p l s = some s' ∧ LeT p s' t'
 | [], s, t, t', h, e => by cases e; exact ⟨s, rfl, h⟩
 | x :: l, s, t, t', h, e => by
  unfold wantsS at e
  obtain ⟨t1, e1, e2⟩ := bind_iff e
  obtain ⟨s1, f1, f2⟩ := want_mono hs h e1
  obtain ⟨s2, f3, f4⟩ := wants_mono hs l f2 e2
  refine ⟨s2, ?_, f4⟩
  unfold wantsS
  rw [f1, Option.bind_some, f3]
theorem known_mono {u u' : Int} (h : belowB p u' u = true) {x : Int} (e : knownS u = some x) : ∃ x', knownS u' = some x' ∧ belowB p x' x = true := by
 obtain ⟨rfl, h2⟩ := knownS_iff e
 refine ⟨u', ?_, h⟩
 unfold knownS
 rw [if_neg]
 rw [below_iff] at h
 omega
theorem do_mono (hs : SupOk p p.length) {i : LIns} (hloc : (i.op = 1 ∨ i.op = 2) → i.a.toNat < 8) (h : LeT p s t) (e : doS p m i t = some t') : ∃ s', doS p m i s = some s' ∧ LeT p s' t' := by
 unfold doS at e ⊢
 by_cases c : i.op = 0
 ·rw [if_pos c] at e ⊢
  exact leave_mono h (below_refl _ _) e
 rw [if_neg c] at e ⊢; clear c
 by_cases c : i.op = 1
 ·rw [if_pos c] at e ⊢
  obtain ⟨x, e1, e2⟩ := bind_iff e
  obtain ⟨x', f1, f2⟩ := known_mono (h.l i.a.toNat (hloc (.inl c))) e1
  rw [f1, Option.bind_some]
  exact leave_mono h f2 e2
 rw [if_neg c] at e ⊢
 by_cases c2 : i.op = 2
 ·rw [if_pos c2] at e ⊢
  obtain ⟨⟨u, t1⟩, e1, e2⟩ := bind_iff e
  obtain ⟨u', s', h1, h2, h3⟩ := take_mono h e1
  obtain ⟨x, e3, rfl⟩ := Option.map_eq_some_iff.1 e2
  obtain ⟨x', f1, f2⟩ := known_mono h3 e3
  rw [h1, Option.bind_some]
  dsimp only
  rw [f1]
  refine ⟨_, rfl, ⟨fun j hj => ?_, h2.k, by dsimp only; rw [List.length_set]; exact h2.sl, by dsimp only; rw [List.length_set]; exact h2.tl⟩⟩
  dsimp only
  by_cases ej : j = i.a.toNat
  ·subst ej
   rw [getD_set_self (by rw [h2.sl]; exact hj), getD_set_self (by rw [h2.tl]; exact hj)]
   exact f2
  ·rw [getD_set_ne ej, getD_set_ne ej]
   exact h2.l j hj
 rw [if_neg c2] at e ⊢; clear c c2
 by_cases c : i.op = 3 ∨ i.op = 4 ∨ i.op = 5 ∨ i.op = 6
 ·rw [if_pos c] at e ⊢
  obtain ⟨t1, e1, e2⟩ := bind_iff e
  obtain ⟨t2, e3, e4⟩ := bind_iff e2
  obtain ⟨s1, f1, g1⟩ := want_mono hs h e1
  obtain ⟨s2, f2, g2⟩ := want_mono hs g1 e3
  rw [f1, Option.bind_some, f2, Option.bind_some]
  exact leave_mono g2 (below_refl _ _) e4
 rw [if_neg c] at e ⊢; clear c
 by_cases c : i.op = 8 ∨ i.op = 19
 ·rw [if_pos c] at e ⊢
  exact want_mono hs h e
 rw [if_neg c] at e ⊢; clear c
 by_cases c : i.op = 9
 ·rw [if_pos c] at e ⊢
  exact leave_mono h (below_refl _ _) e
 rw [if_neg c] at e ⊢; clear c
 by_cases c : i.op = 10
 ·rw [if_pos c] at e ⊢
  obtain ⟨t1, e1, e2⟩ := bind_iff e
  obtain ⟨s1, f1, g1⟩ := want_mono hs h e1
  rw [f1, Option.bind_some]
  exact leave_mono g1 (below_refl _ _) e2
 rw [if_neg c] at e ⊢; clear c
 by_cases c : i.op = 11
 ·rw [if_pos c] at e ⊢
  obtain ⟨t1, e1, e2⟩ := bind_iff e
  obtain ⟨s1, f1, g1⟩ := want_mono hs h e1
  rw [f1, Option.bind_some]
  exact want_mono hs g1 e2
 rw [if_neg c] at e ⊢; clear c
 by_cases c : i.op = 12
 ·rw [if_pos c] at e ⊢
  obtain ⟨t1, e1, e2⟩ := bind_iff e
  obtain ⟨t2, e3, e4⟩ := bind_iff e2
  obtain ⟨s1, f1, g1⟩ := wants_mono hs _ h e1
  obtain ⟨s2, f2, g2⟩ := want_mono hs g1 e3
  rw [f1, Option.bind_some, f2, Option.bind_some]
  exact leave_mono g2 (below_refl _ _) e4
 rw [if_neg c] at e ⊢; clear c
 by_cases c : i.op = 13
 ·rw [if_pos c] at e ⊢
  exact want_mono hs h e
 rw [if_neg c] at e ⊢; clear c
 by_cases c : i.op = 14
 ·rw [if_pos c] at e ⊢
  obtain ⟨⟨u, t1⟩, e1, rfl⟩ := Option.map_eq_some_iff.1 e
  obtain ⟨u', s', h1, h2, h3⟩ := take_mono h e1
  rw [h1]
  exact ⟨s', rfl, h2⟩
 rw [if_neg c] at e ⊢; clear c
 by_cases c : i.op = 15
 ·rw [if_pos c] at e ⊢
  obtain ⟨⟨u, t1⟩, e1, e2⟩ := bind_iff e
  obtain ⟨t2, e3, e4⟩ := bind_iff e2
  obtain ⟨u', s', h1, h2, h3⟩ := take_mono h e1
  obtain ⟨s2, f2, g2⟩ := leave_mono h2 h3 e3
  rw [h1, Option.bind_some]
  dsimp only
  rw [f2, Option.bind_some]
  exact leave_mono g2 h3 e4
 rw [if_neg c] at e ⊢; clear c
 by_cases c : i.op = 16
 ·rw [if_pos c] at e ⊢
  exact leave_mono h (below_refl _ _) e
 rw [if_neg c] at e ⊢; clear c
 by_cases c : i.op = 17
 ·rw [if_pos c] at e ⊢
  obtain ⟨t1, e1, e2⟩ := bind_iff e
  obtain ⟨s1, f1, g1⟩ := wantO_mono h e1
  rw [f1, Option.bind_some]
  exact leave_mono g1 (below_refl _ _) e2
 rw [if_neg c] at e ⊢; clear c
 by_cases c : i.op = 18
 ·rw [if_pos c] at e ⊢
  exact wantO_mono h e
 rw [if_neg c] at e ⊢; clear c
 by_cases c : i.op = 20
 ·rw [if_pos c] at e ⊢
  obtain ⟨⟨u, t1⟩, e1, e2⟩ := bind_iff e
  obtain ⟨⟨v, t2⟩, e3, e4⟩ := bind_iff e2
  obtain ⟨t3, e5, e6⟩ := bind_iff e4
  obtain ⟨u', s1, h1, h2, h3⟩ := take_mono h e1
  obtain ⟨v', s2, k1, k2, k3⟩ := take_mono h2 e3
  obtain ⟨s3, f2, g2⟩ := leave_mono k2 h3 e5
  rw [h1, Option.bind_some]
  dsimp only
  rw [k1, Option.bind_some]
  dsimp only
  rw [f2, Option.bind_some]
  exact leave_mono g2 k3 e6
 rw [if_neg c] at e ⊢
 cases e
 exact ⟨s, rfl, h⟩
theorem next_mono (hs : SupOk p p.length) (hins : ∀ i ∈ m.code, insB p m i = true) (hl8 : m.locals ≤ 8) {pc : Nat} (hpc : pc < m.code.length) (h : LeT p s t) (e : nextS p m pc t = some t') : ∃ s', nextS p m pc s = some s' ∧ LeT p s' t' := by
 unfold nextS at e ⊢
 obtain ⟨t1, e1, e2⟩ := bind_iff e
 have hmem : insAt m pc ∈ m.code := by
  unfold insAt
  rw [List.getElem?_eq_getElem hpc]
  exact List.getElem_mem _
 have J := ins_ok (p := p) (m := m) (op := (insAt m pc).op) (a := (insAt m pc).a) (b := (insAt m pc).b) (hins _ hmem)
 obtain ⟨s1, f1, g1⟩ := do_mono hs (fun ho => by have := J.loc ho; omega) h e1
 rw [f1, Option.bind_some]
 split at e2
 ·cases e2
 ·rename_i hne
  cases e2
  rw [if_neg hne]
  exact ⟨s1, rfl, g1⟩
end
end Go.Proofs.YtiiokkllmchohaaGreat
/- The solver stays below every solution (pure). -/
namespace Go.Proofs.YtiiokkllmchohaaGreat
open Go.RowKit Go.Shelf

def TIn (p : List LClass) (s : TSt) : Prop := (∀ x ∈ s.loc, tyOk p.length x) ∧ ∀ x ∈ s.stk, tyOk p.length x
theorem tin_get {n : Nat} {l : List Int} (h : ∀ x ∈ l, tyOk n x) (i : Nat) : tyOk n (l.getD i 0) := by
 rw [List.getD_eq_getElem?_getD]
 cases e : l[i]? with
 | none => exact ⟨by simp, by simp; omega⟩
 | some x => exact h x (List.mem_of_getElem? e)
theorem TIn.tyIn {p : List LClass} {s : TSt} (h : TIn p s) : TyIn p s :=
 ⟨fun i _ _ => by have := (tin_get h.1 i).2; omega, fun i _ _ => by have := (tin_get h.2 i).2; omega⟩
section
variable {p : List LClass} {m : LMeth} {s s' : TSt}
theorem take_tin (h : TIn p s) {u : Int} (e : takeS s = some (u, s')) : TIn p s' ∧ tyOk p.length u := by
 obtain ⟨h1, h2⟩ := takeS_iff e
 refine ⟨⟨by rw [h2]; exact h.1, fun x hx => h.2 x (by rw [h1]; simp [hx])⟩, h.2 u (by rw [h1]; simp)⟩
theorem want_tin (h : TIn p s) {x : Int} (e : wantS p x s = some s') : TIn p s' := by
 obtain ⟨u, h1, h2, _⟩ := wantS_iff e
 exact ⟨by rw [h2]; exact h.1, fun x hx => h.2 x (by rw [h1]; simp [hx])⟩
theorem wantO_tin (h : TIn p s) (e : wantO s = some s') : TIn p s' := by
 obtain ⟨u, h1, h2, _⟩ := wantO_iff e
 exact ⟨by rw [h2]; exact h.1, fun x hx => h.2 x (by rw [h1]; simp [hx])⟩
theorem leave_tin (h : TIn p s) {x : Int} (hx : tyOk p.length x) (e : leaveS m x s = some s') : TIn p s' := by
 obtain ⟨_, h2, h3⟩ := leaveS_iff e
 refine ⟨by rw [h3]; exact h.1, fun y hy => ?_⟩
 rw [h2] at hy
 rcases List.mem_append.1 hy with hy | hy
 ·exact h.2 y hy
 ·obtain rfl := List.mem_singleton.1 hy
  exact hx
theorem wants_tin : ∀ (l : List Int) {s s' : TSt}, TIn p s → wantsS p l s = some s' → TIn p s'
 | [], s, s', h, e => by cases e; exact h
 | x :: l, s, s', h, e => by
  unfold wantsS at e
  obtain ⟨s1, e1, e2⟩ := bind_iff e
  exact wants_tin l (want_tin h e1) e2
theorem do_tin (G : Good p) {i : LIns} (J : InsOk p m i.op i.a i.b) (h : TIn p s) (e : doS p m i s = some s') : TIn p s' := by
 have z0 : tyOk p.length 0 := ⟨by omega, by omega⟩
 have z1 : tyOk p.length 1 := ⟨by omega, by omega⟩
 unfold doS at e
 by_cases c : i.op = 0
 ·rw [if_pos c] at e
  exact leave_tin h z0 e
 rw [if_neg c] at e; clear c
 by_cases c : i.op = 1
 ·rw [if_pos c] at e
  obtain ⟨t, e1, e2⟩ := bind_iff e
  obtain ⟨rfl, _⟩ := knownS_iff e1
  exact leave_tin h (tin_get h.1 _) e2
 rw [if_neg c] at e; clear c
 by_cases c : i.op = 2
 ·rw [if_pos c] at e
  obtain ⟨⟨t, s1⟩, e1, e2⟩ := bind_iff e
  obtain ⟨h1, h2⟩ := take_tin h e1
  obtain ⟨u, e3, rfl⟩ := Option.map_eq_some_iff.1 e2
  obtain ⟨rfl, _⟩ := knownS_iff e3
  refine ⟨fun x hx => ?_, h1.2⟩
  rcases List.mem_or_eq_of_mem_set hx with hx | rfl
  ·exact h1.1 x hx
  ·exact h2
 rw [if_neg c] at e; clear c
 by_cases c : i.op = 3 ∨ i.op = 4 ∨ i.op = 5 ∨ i.op = 6
 ·rw [if_pos c] at e
  obtain ⟨s1, e1, e2⟩ := bind_iff e
  obtain ⟨s2, e3, e4⟩ := bind_iff e2
  exact leave_tin (want_tin (want_tin h e1) e3) z0 e4
 rw [if_neg c] at e; clear c
 by_cases c : i.op = 8 ∨ i.op = 19
 ·rw [if_pos c] at e
  exact want_tin h e
 rw [if_neg c] at e; clear c
 by_cases c : i.op = 9
 ·rw [if_pos c] at e
  have := J.cls (by omega)
  exact leave_tin h ⟨by omega, by omega⟩ e
 rw [if_neg c] at e; clear c
 by_cases c : i.op = 10
 ·rw [if_pos c] at e
  obtain ⟨s1, e1, e2⟩ := bind_iff e
  have hc := J.cls (by omega)
  have hf := J.fld (by omega)
  obtain ⟨j, hj⟩ := Int.eq_ofNat_of_zero_le hf.1
  refine leave_tin (want_tin h e1) ?_ e2
  rw [hj]
  exact G.fld i.a j hc.1 hc.2 (by omega)
 rw [if_neg c] at e; clear c
 by_cases c : i.op = 11
 ·rw [if_pos c] at e
  obtain ⟨s1, e1, e2⟩ := bind_iff e
  exact want_tin (want_tin h e1) e2
 rw [if_neg c] at e; clear c
 by_cases c : i.op = 12
 ·rw [if_pos c] at e
  obtain ⟨s1, e1, e2⟩ := bind_iff e
  obtain ⟨s2, e3, e4⟩ := bind_iff e2
  have hc := J.cls (by omega)
  exact leave_tin (want_tin (wants_tin _ h e1) e3) (G.arg i.a i.b hc.1 hc.2 (J.call c)).2 e4
 rw [if_neg c] at e; clear c
 by_cases c : i.op = 13
 ·rw [if_pos c] at e
  exact want_tin h e
 rw [if_neg c] at e; clear c
 by_cases c : i.op = 14
 ·rw [if_pos c] at e
  obtain ⟨⟨t, s1⟩, e1, rfl⟩ := Option.map_eq_some_iff.1 e
  exact (take_tin h e1).1
 rw [if_neg c] at e; clear c
 by_cases c : i.op = 15
 ·rw [if_pos c] at e
  obtain ⟨⟨t, s1⟩, e1, e2⟩ := bind_iff e
  obtain ⟨s2, e3, e4⟩ := bind_iff e2
  obtain ⟨h1, h2⟩ := take_tin h e1
  exact leave_tin (leave_tin h1 h2 e3) h2 e4
 rw [if_neg c] at e; clear c
 by_cases c : i.op = 16
 ·rw [if_pos c] at e
  exact leave_tin h z1 e
 rw [if_neg c] at e; clear c
 by_cases c : i.op = 17
 ·rw [if_pos c] at e
  obtain ⟨s1, e1, e2⟩ := bind_iff e
  have := J.cls (by omega)
  exact leave_tin (wantO_tin h e1) ⟨by omega, by omega⟩ e2
 rw [if_neg c] at e; clear c
 by_cases c : i.op = 18
 ·rw [if_pos c] at e
  exact wantO_tin h e
 rw [if_neg c] at e; clear c
 by_cases c : i.op = 20
 ·rw [if_pos c] at e
  obtain ⟨⟨t, s1⟩, e1, e2⟩ := bind_iff e
  obtain ⟨⟨u, s2⟩, e3, e4⟩ := bind_iff e2
  obtain ⟨s3, e5, e6⟩ := bind_iff e4
  obtain ⟨h1, h2⟩ := take_tin h e1
  obtain ⟨h3, h4⟩ := take_tin h1 e3
  exact leave_tin (leave_tin h3 h2 e5) h4 e6
 rw [if_neg c] at e
 cases e
 exact h
theorem next_tin (G : Good p) (hins : ∀ i ∈ m.code, insB p m i = true) {pc : Nat} (hpc : pc < m.code.length) (h : TIn p s) (e : nextS p m pc s = some s') : TIn p s' := by
 unfold nextS at e
 obtain ⟨t1, e1, e2⟩ := bind_iff e
 have hmem : insAt m pc ∈ m.code := by
  unfold insAt
  rw [List.getElem?_eq_getElem hpc]
  exact List.getElem_mem _
 split at e2
 ·cases e2
 ·cases e2
  exact do_tin G (ins_ok (p := p) (m := m) (op := (insAt m pc).op) (a := (insAt m pc).a) (b := (insAt m pc).b) (hins _ hmem)) h e1
end
structure Sol (p : List LClass) (c : Int) (m : LMeth) (σ : Nat → Option TSt) : Prop where
 beg : ∃ s, σ 0 = some s ∧ LeT p (beginS c m) s
 go : ∀ i s, i < m.code.length → σ i = some s → ∃ n, nextS p m i s = some n ∧ ∀ y ∈ onwardL (insAt m i) i, ∃ t, σ y.1.toNat = some t ∧ LeT p n t
structure SvBel (p : List LClass) (σ : Nat → Option TSt) (s : SvSt) : Prop where
 le : ∀ i, i < 40 → s.re.getD i false = true → ∃ t, σ i = some t ∧ LeT p (s.st.getD i zeroS) t
 ty : ∀ i, i < 40 → s.re.getD i false = true → TIn p (s.st.getD i zeroS)
section
variable {p : List LClass} {m : LMeth} {c : Int} {σ : Nat → Option TSt}
theorem join_tin {s t : TSt} (hl : s.loc.length = 8) (_hs : TIn p s) (ht : TIn p t) : TIn p (joinS p s t) := by
 have hj : ∀ a b : Int, tyOk p.length b → tyOk p.length (joinB p a b) := fun a b hb => by
  unfold joinB
  split
  ·exact hb
  ·split
   ·rcases up_cases p b (chainOf p (a - 3)) with ⟨h1, _⟩ | ⟨pre, d, post, h1, h2, _, _⟩
    ·rw [h1]; exact ⟨by omega, by omega⟩
    ·rw [h2]
     have hd : descB p (a - 3) (d : Int) = true := desc_mem.2 (by rw [h1]; simp)
     have hlt : d < p.length := by
      have hm : d ∈ chainOf p (a - 3) := by rw [h1]; simp
      unfold chainOf at hm
      have key : ∀ (f : Nat) (c : Int) (x : Nat), x ∈ chain p f c → x < p.length := by
       intro f
       induction f with
       | zero => intro c x h; cases h
       | succ f ih =>
        intro c x h
        unfold chain at h
        split at h
        ·cases h
        ·split at h
         ·cases h
         ·rename_i y hy
          rcases List.mem_cons.1 h with rfl | h
          ·exact (List.getElem?_eq_some_iff.1 hy).1
          ·exact ih _ _ h
      exact key _ _ _ hm
     exact ⟨by omega, by omega⟩
   ·exact ⟨by omega, by omega⟩
 obtain ⟨j1, j2⟩ := joinS_len p s t
 refine ⟨fun x hx => ?_, fun x hx => ?_⟩
 ·obtain ⟨i, hi, rfl⟩ := List.getElem_of_mem hx
  have : (joinS p s t).loc[i] = (joinS p s t).loc.getD i 0 := by rw [List.getD_eq_getElem?_getD, List.getElem?_eq_getElem hi]; rfl
  rw [this, joinS_loc p s t hl (by omega)]
  exact hj _ _ (tin_get ht.1 i)
 ·obtain ⟨i, hi, rfl⟩ := List.getElem_of_mem hx
  have : (joinS p s t).stk[i] = (joinS p s t).stk.getD i 0 := by rw [List.getD_eq_getElem?_getD, List.getElem?_eq_getElem hi]; rfl
  rw [this, joinS_stk p s t (by omega)]
  exact hj _ _ (tin_get ht.2 i)
theorem LeT.trans (hs : SupOk p p.length) {s t u : TSt} (h : LeT p s t) (h' : LeT p t u) : LeT p s u :=
 (LeT.iff h.sl h'.tl).2 (((LeT.iff h.sl h.tl).1 h).trans hs ((LeT.iff h'.sl h'.tl).1 h'))
theorem LeT.refl {s : TSt} (h : s.loc.length = 8) : LeT p s s := (LeT.iff h h).2 (LeS.refl p s)
theorem SvBel.put {s : SvSt} (O : SvOk p m s) (B : SvBel p σ s) {i : Nat} (hi : i < 40) {x t : TSt} (hσ : σ i = some t) (hx : LeT p x t) (hT : TIn p x) : SvBel p σ (putP s i x) := by
 refine ⟨fun j hj hr => ?_, fun j hj hr => ?_⟩
 ·by_cases e : j = i
  ·subst e
   refine ⟨t, hσ, ?_⟩
   show LeT p ((s.st.set j x).getD j zeroS) t
   rw [getD_set_self (by rw [O.l1]; exact hj)]
   exact hx
  ·have hr' : (s.re.set i true).getD j false = true := hr
   rw [getD_set_ne e] at hr'
   show ∃ t, σ j = some t ∧ LeT p ((s.st.set i x).getD j zeroS) t
   rw [getD_set_ne e]
   exact B.le j hj hr'
 ·by_cases e : j = i
  ·subst e
   show TIn p ((s.st.set j x).getD j zeroS)
   rw [getD_set_self (by rw [O.l1]; exact hj)]
   exact hT
  ·have hr' : (s.re.set i true).getD j false = true := hr
   rw [getD_set_ne e] at hr'
   show TIn p ((s.st.set i x).getD j zeroS)
   rw [getD_set_ne e]
   exact B.ty j hj hr'
theorem reach_bel (hs : SupOk p p.length) {s : SvSt} (O : SvOk p m s) (B : SvBel p σ s) {i : Nat} (hi : i < 40) {g t : TSt} (hσ : σ i = some t) (hg : LeT p g t) (hT : TIn p g) : ∃ s', reachP p i g s = some s' ∧ SvBel p σ s' := by
 unfold reachP
 cases hr : s.re.getD i false with
 | false => exact ⟨_, rfl, B.put O hi hσ hg hT⟩
 | true =>
  rw [if_pos rfl]
  obtain ⟨t0, h1, h2⟩ := B.le i hi hr
  rw [hσ] at h1
  cases h1
  have ho := O.ok i hi
  cases hb : belowS p g (s.st.getD i zeroS) with
  | true => exact ⟨s, rfl, B⟩
  | false =>
   have hn : (s.st.getD i zeroS).stk.length = g.stk.length := by rw [h2.k.len, hg.k.len]
   rw [if_neg (by simp), if_pos hn]
   refine ⟨_, rfl, B.put O hi hσ ?_ (join_tin ho.1 (B.ty i hi hr) hT)⟩
   have hj := joinS_len p (s.st.getD i zeroS) g
   exact (LeT.iff (by rw [hj.2]; exact ho.1) h2.tl).2 (join_least hs ho.1 (B.ty i hi hr).tyIn ((LeT.iff ho.1 h2.tl).1 h2) ((LeT.iff hg.sl hg.tl).1 hg))
theorem reachAll_bel (hs : SupOk p p.length) (h6 : p.length ≤ 6) (h8 : m.stack ≤ 8) {n : TSt} (hl : n.loc.length = 8) (hk : (n.stk.length : Int) ≤ m.stack) (hT : TIn p n) : ∀ (l : List (Int × Bool)) (s : SvSt), SvOk p m s → SvBel p σ s → (∀ y ∈ l, y.1.toNat < 40 ∧ ∃ t, σ y.1.toNat = some t ∧ LeT p n t) → ∃ s', reachAll p n l s = some s' ∧ SvBel p σ s' ∧ SvOk p m s'
 | [], s, O, B, _ => ⟨s, rfl, B, O⟩
 | y :: l, s, O, B, hy => by
  obtain ⟨h1, t, h2, h3⟩ := hy y (by simp)
  obtain ⟨s1, e1, B1⟩ := reach_bel hs O B h1 h2 h3 hT
  obtain ⟨O1, _⟩ := reach_msr hs h6 h8 O h1 hl hk e1
  obtain ⟨s2, e2, B2, O2⟩ := reachAll_bel hs h6 h8 hl hk hT l s1 O1 B1 (fun z hz => hy z (by simp [hz]))
  refine ⟨s2, ?_, B2, O2⟩
  unfold reachAll
  rw [e1, Option.bind_some, e2]
theorem ask_bel (hF : formI p = 0) (hz : szProg p ≤ 4194304) {k : Int} (hown : ownM p c k = some m) (S : Sol p c m σ) {i : Nat} (hi : i < m.code.length) {s : SvSt × Bool} (O : SvOk p m s.1) (B : SvBel p σ s.1) (hra : ∀ j, s.1.ra.getD j false = true → s.1.re.getD j false = true) : ∃ s', askP p m i s = some s' ∧ SvBel p σ s'.1 ∧ SvOk p m s'.1 := by
 have hs := form_sup hF
 have G := form_good hF hz
 obtain ⟨_, _, M⟩ := form_own hF hown
 have h6 := (form_all hF).1.2
 have h40 := M.c40
 unfold askP
 split
 ·rename_i hr
  obtain ⟨c1, _⟩ := clear_msr O (show i < 40 by omega) hr
  have B1 : SvBel p σ { s.1 with ra := s.1.ra.set i false } := ⟨B.le, B.ty⟩
  have hre := hra i hr
  obtain ⟨t, h1, h2⟩ := B.le i (by omega) hre
  obtain ⟨n', g1, g2⟩ := S.go i t hi h1
  obtain ⟨n, f1, f2⟩ := next_mono hs M.ins M.ok.loc hi h2 g1
  have ho := O.ok i (by omega)
  obtain ⟨n1, n2⟩ := next_len f1 ho.1 ho.2
  have hin := onward_in hi M.ins f1
  have hT := next_tin G M.ins hi (B.ty i (by omega) hre) f1
  obtain ⟨s', e1, B2, O2⟩ := reachAll_bel (σ := σ) hs h6 M.ok.stk n1 n2 hT (onwardL (insAt m i) i) _ c1 B1 (fun y hy => by
   obtain ⟨t', k1, k2⟩ := g2 y hy
   exact ⟨by have := hin y hy; omega, t', k1, f2.trans hs k2⟩)
  refine ⟨(s', true), ?_, B2, O2⟩
  unfold goOnP
  show ((nextS p m i (s.1.st.getD i zeroS)).bind _).map _ = _
  rw [f1, Option.bind_some, e1]
  rfl
 ·exact ⟨s, rfl, B, O⟩
end
end Go.Proofs.YtiiokkllmchohaaGreat
/- What the solver ends with is a solution (pure). -/
namespace Go.Proofs.YtiiokkllmchohaaGreat
open Go.RowKit Go.Shelf

structure Up (p : List LClass) (s s' : SvSt) : Prop where
 re : ∀ i, i < 40 → s.re.getD i false = true → s'.re.getD i false = true
 le : ∀ i, i < 40 → s.re.getD i false = true → LeT p (s.st.getD i zeroS) (s'.st.getD i zeroS)
 ch : ∀ i, i < 40 → s'.re.getD i false = true → s'.ra.getD i false = true ∨ (s.re.getD i false = true ∧ s'.st.getD i zeroS = s.st.getD i zeroS ∧ s'.ra.getD i false = s.ra.getD i false)
 ra : ∀ i, i < 40 → s'.ra.getD i false = true → s'.re.getD i false = true ∨ s.ra.getD i false = true
section
variable {p : List LClass} {m : LMeth}
theorem Up.refl {s : SvSt} (O : SvOk p m s) : Up p s s := ⟨fun _ _ h => h, fun i hi _ => LeT.refl (O.ok i hi).1, fun _ _ h => .inr ⟨h, rfl, rfl⟩, fun _ _ h => .inr h⟩
theorem Up.trans (hs : SupOk p p.length) {s t u : SvSt} (h : Up p s t) (h' : Up p t u) : Up p s u := by
 refine ⟨fun i hi hr => h'.re i hi (h.re i hi hr), fun i hi hr => (h.le i hi hr).trans hs (h'.le i hi (h.re i hi hr)), fun i hi hr => ?_, fun i hi hr => ?_⟩
 ·rcases h'.ch i hi hr with e | ⟨e1, e2, e3⟩
  ·exact .inl e
  ·rcases h.ch i hi e1 with e | ⟨f1, f2, f3⟩
   ·exact .inl (by rw [e3]; exact e)
   ·exact .inr ⟨f1, e2.trans f2, e3.trans f3⟩
 ·rcases h'.ra i hi hr with e | e
  ·exact .inl e
  ·rcases h.ra i hi e with e | e
   ·exact .inl (h'.re i hi e)
   ·exact .inr e
theorem put_up {s : SvSt} (O : SvOk p m s) {i : Nat} (hi : i < 40) {x : TSt} (hx : s.re.getD i false = true → LeT p (s.st.getD i zeroS) x) : Up p s (putP s i x) := by
 have a1 : ∀ j, (putP s i x).re.getD j false = (s.re.set i true).getD j false := fun _ => rfl
 have a2 : ∀ j, (putP s i x).st.getD j zeroS = (s.st.set i x).getD j zeroS := fun _ => rfl
 have a3 : ∀ j, (putP s i x).ra.getD j false = (s.ra.set i true).getD j false := fun _ => rfl
 refine ⟨fun j hj hr => ?_, fun j hj hr => ?_, fun j hj hr => ?_, fun j hj hr => ?_⟩
 ·rw [a1]
  by_cases e : j = i
  ·subst e; rw [getD_set_self (by rw [O.l2]; exact hj)]
  ·rw [getD_set_ne e]; exact hr
 ·rw [a2]
  by_cases e : j = i
  ·subst e; rw [getD_set_self (by rw [O.l1]; exact hj)]; exact hx hr
  ·rw [getD_set_ne e]; exact LeT.refl (O.ok j hj).1
 ·rw [a1] at hr
  rw [a2, a3]
  by_cases e : j = i
  ·subst e; left; rw [getD_set_self (by rw [O.l3]; exact hj)]
  ·rw [getD_set_ne e] at hr
   right
   rw [getD_set_ne e, getD_set_ne e]
   exact ⟨hr, rfl, rfl⟩
 ·rw [a3] at hr
  rw [a1]
  by_cases e : j = i
  ·subst e; left; rw [getD_set_self (by rw [O.l2]; exact hj)]
  ·rw [getD_set_ne e] at hr; exact .inr hr
theorem reach_up (_hs : SupOk p p.length) {s s' : SvSt} (O : SvOk p m s) {i : Nat} (hi : i < 40) {g : TSt} (hl : g.loc.length = 8) (e : reachP p i g s = some s') : Up p s s' ∧ s'.re.getD i false = true ∧ LeT p g (s'.st.getD i zeroS) := by
 have ho := O.ok i hi
 have b1 : ∀ x, (putP s i x).re.getD i false = true := fun x => by
  show (s.re.set i true).getD i false = true
  rw [getD_set_self (by rw [O.l2]; exact hi)]
 have b2 : ∀ x, (putP s i x).st.getD i zeroS = x := fun x => by
  show (s.st.set i x).getD i zeroS = x
  rw [getD_set_self (by rw [O.l1]; exact hi)]
 unfold reachP at e
 split at e
 ·rename_i hr
  split at e
  ·rename_i hb
   cases e
   exact ⟨Up.refl O, hr, (LeT.iff hl ho.1).2 ((le_iff hl ho.1).1 hb)⟩
  ·split at e
   ·rename_i hn
    cases e
    have hj := (joinS_len p (s.st.getD i zeroS) g).2
    refine ⟨put_up O hi (fun _ => (LeT.iff ho.1 (by rw [hj]; exact ho.1)).2 (join_up1 ho.1)), b1 _, ?_⟩
    rw [b2]
    exact (LeT.iff hl (by rw [hj]; exact ho.1)).2 (join_up2 ho.1 hn)
   ·cases e
 ·rename_i hr
  cases e
  refine ⟨put_up O hi (fun h => absurd h hr), b1 _, ?_⟩
  rw [b2]
  exact LeT.refl hl
theorem reachAll_up (hs : SupOk p p.length) (h6 : p.length ≤ 6) (h8 : m.stack ≤ 8) {n : TSt} (hl : n.loc.length = 8) (hk : (n.stk.length : Int) ≤ m.stack) : ∀ (l : List (Int × Bool)) (s s' : SvSt), SvOk p m s → (∀ y ∈ l, y.1.toNat < 40) → reachAll p n l s = some s' → Up p s s' ∧ ∀ y ∈ l, s'.re.getD y.1.toNat false = true ∧ LeT p n (s'.st.getD y.1.toNat zeroS)
 | [], s, s', O, _, e => by cases e; exact ⟨Up.refl O, fun y h => by cases h⟩
 | y :: l, s, s', O, hy, e => by
  unfold reachAll at e
  obtain ⟨s1, e1, e2⟩ := bind_iff e
  obtain ⟨u1, u2, u3⟩ := reach_up hs O (hy y (by simp)) hl e1
  obtain ⟨O1, _⟩ := reach_msr hs h6 h8 O (hy y (by simp)) hl hk e1
  obtain ⟨v1, v2⟩ := reachAll_up hs h6 h8 hl hk l s1 s' O1 (fun z hz => hy z (by simp [hz])) e2
  refine ⟨u1.trans hs v1, fun z hz => ?_⟩
  rcases List.mem_cons.1 hz with rfl | hz
  ·exact ⟨v1.re _ (hy z (by simp)) u2, u3.trans hs (v1.le _ (hy z (by simp)) u2)⟩
  ·exact v2 z hz
def Done (p : List LClass) (m : LMeth) (s : SvSt) (i : Nat) : Prop := ∃ n, nextS p m i (s.st.getD i zeroS) = some n ∧ ∀ y ∈ onwardL (insAt m i) i, s.re.getD y.1.toNat false = true ∧ LeT p n (s.st.getD y.1.toNat zeroS)
structure SvInv (p : List LClass) (c : Int) (m : LMeth) (s : SvSt) : Prop where
 ok : SvOk p m s
 beg : s.re.getD 0 false = true ∧ LeT p (beginS c m) (s.st.getD 0 zeroS)
 dn : ∀ i, i < m.code.length → s.re.getD i false = true → s.ra.getD i false = false → Done p m s i
 ra : ∀ i, i < 40 → s.ra.getD i false = true → s.re.getD i false = true
theorem ask_inv {c : Int} (hs : SupOk p p.length) (h6 : p.length ≤ 6) (h8 : m.stack ≤ 8) (h40 : m.code.length ≤ 40) (hins : ∀ i ∈ m.code, insB p m i = true) {i : Nat} (hi : i < m.code.length) {s s' : SvSt × Bool} (I : SvInv p c m s.1) (e : askP p m i s = some s') : SvInv p c m s'.1 := by
 unfold askP at e
 split at e
 ·rename_i hr
  obtain ⟨s1, h1, rfl⟩ := Option.map_eq_some_iff.1 e
  obtain ⟨c1, _⟩ := clear_msr I.ok (show i < 40 by omega) hr
  unfold goOnP at h1
  obtain ⟨n, g1, g2⟩ := bind_iff h1
  have g1' : nextS p m i (s.1.st.getD i zeroS) = some n := g1
  have ho := I.ok.ok i (by omega)
  obtain ⟨n1, n2⟩ := next_len g1' ho.1 ho.2
  have hin := onward_in hi hins g1'
  have hy40 : ∀ y ∈ onwardL (insAt m i) i, y.1.toNat < 40 := fun y hy => by have := hin y hy; omega
  obtain ⟨u1, u2⟩ := reachAll_up hs h6 h8 n1 n2 _ _ _ c1 hy40 g2
  obtain ⟨O1, _⟩ := reachAll_msr hs h6 h8 n1 n2 _ _ _ c1 hy40 g2
  have hra0 : ∀ j, j ≠ i → (s.1.ra.set i false).getD j false = s.1.ra.getD j false := fun j hj => getD_set_ne hj _ _
  refine ⟨O1, ⟨u1.re 0 (by omega) I.beg.1, I.beg.2.trans hs (u1.le 0 (by omega) I.beg.1)⟩, fun j hj hre hra => ?_, fun j hj hr' => ?_⟩
  ·rcases u1.ch j (by omega) hre with e | ⟨e1, e2, e3⟩
   ·dsimp only at hra; rw [hra] at e; cases e
   ·by_cases ej : j = i
    ·subst ej
     refine ⟨n, ?_, u2⟩
     dsimp only
     rw [e2]
     exact g1'
    ·have hr0 : s.1.ra.getD j false = false := by
      rw [← hra0 j ej]
      exact e3.symm.trans hra
     obtain ⟨nj, d1, d2⟩ := I.dn j hj e1 hr0
     refine ⟨nj, ?_, fun y hy => ?_⟩
     ·dsimp only
      rw [e2]
      exact d1
     ·have hyj := onward_in hj hins d1 y hy
      obtain ⟨k1, k2⟩ := d2 y hy
      exact ⟨u1.re _ (by omega) k1, k2.trans hs (u1.le _ (by omega) k1)⟩
  ·rcases u1.ra j hj hr' with e | e
   ·exact e
   ·have e' : (s.1.ra.set i false).getD j false = true := e
    by_cases ej : j = i
    ·subst ej
     rw [getD_set_self (by rw [I.ok.l3]; omega)] at e'
     cases e'
    ·rw [getD_set_ne ej] at e'
     exact u1.re j hj (I.ra j hj e')
 ·cases e
  exact I
theorem round_inv {c : Int} (hs : SupOk p p.length) (h6 : p.length ≤ 6) (h8 : m.stack ≤ 8) (h40 : m.code.length ≤ 40) (hins : ∀ i ∈ m.code, insB p m i = true) {s : SvSt} (I : SvInv p c m s) : ∀ (k : Nat) (s' : SvSt × Bool), k ≤ m.code.length → roundP p m s k = some s' → SvInv p c m s'.1 ∧ (s'.2 = false → s'.1 = s ∧ ∀ i, i < k → s.ra.getD i false = false)
 | 0, s', _, e => by cases e; exact ⟨I, fun _ => ⟨rfl, fun i h => by omega⟩⟩
 | k + 1, s', hk, e => by
  unfold roundP at e
  obtain ⟨s1, e1, e2⟩ := bind_iff e
  obtain ⟨I1, h1⟩ := round_inv hs h6 h8 h40 hins I k s1 (by omega) e1
  refine ⟨ask_inv hs h6 h8 h40 hins (by omega) I1 e2, fun hf => ?_⟩
  unfold askP at e2
  split at e2
  ·obtain ⟨s2, _, rfl⟩ := Option.map_eq_some_iff.1 e2
   cases hf
  ·rename_i hr
   cases e2
   obtain ⟨h2, h3⟩ := h1 hf
   refine ⟨h2, fun i hi => ?_⟩
   by_cases ei : i = k
   ·subst ei
    rw [h2] at hr
    simpa using hr
   ·exact h3 i (by omega)
theorem solve_inv {c : Int} (hs : SupOk p p.length) (h6 : p.length ≤ 6) (h8 : m.stack ≤ 8) (h40 : m.code.length ≤ 40) (hins : ∀ i ∈ m.code, insB p m i = true) : ∀ (n : Nat) (s r : SvSt), SvInv p c m s → solveN p m n s = some (some r) → SvInv p c m r ∧ ∀ i, i < m.code.length → r.ra.getD i false = false
 | 0, s, r, _, e => by cases e
 | n + 1, s, r, I, e => by
  unfold solveN at e
  cases hq : roundP p m s m.code.length with
  | none => rw [hq] at e; cases e
  | some x =>
   obtain ⟨s', b⟩ := x
   rw [hq] at e
   obtain ⟨I1, h1⟩ := round_inv hs h6 h8 h40 hins I _ _ (Nat.le_refl _) hq
   cases b with
   | true => exact solve_inv hs h6 h8 h40 hins n s' r I1 e
   | false =>
    cases e
    obtain ⟨h2, h3⟩ := h1 rfl
    dsimp only at h2
    subst h2
    exact ⟨I1, h3⟩
theorem start_inv {c : Int} (ha : m.args.length ≤ 7) (hk0 : 0 ≤ m.stack) : SvInv p c m (putP sv0 0 (beginS c m)) := by
 have hz : ∀ i, i < 40 → (sv0.st.getD i zeroS) = zeroS := fun i hi => by
  show (List.replicate 40 zeroS).getD i zeroS = zeroS
  rw [List.getD_eq_getElem?_getD, List.getElem?_replicate]
  split <;> rfl
 have hb : ∀ i, (List.replicate 40 false).getD i false = false := fun i => by
  rw [List.getD_eq_getElem?_getD, List.getElem?_replicate]
  split <;> rfl
 have O0 : SvOk p m sv0 := ⟨by simp [sv0], by simp [sv0], by simp [sv0], fun i hi => by rw [hz i hi]; exact ⟨rfl, hk0⟩⟩
 have hl := (okS_begin (c := c) ha).1
 refine ⟨O0.put (by omega) hl (by show ((0 : Nat) : Int) ≤ m.stack; omega), ⟨?_, ?_⟩, fun i hi hr hra => ?_, fun i hi hr => ?_⟩
 ·show (sv0.re.set 0 true).getD 0 false = true
  rw [getD_set_self (by rw [O0.l2]; omega)]
 ·show LeT p _ ((sv0.st.set 0 (beginS c m)).getD 0 zeroS)
  rw [getD_set_self (by rw [O0.l1]; omega)]
  exact LeT.refl hl
 ·have hr' : (sv0.re.set 0 true).getD i false = true := hr
  have hra' : (sv0.ra.set 0 true).getD i false = false := hra
  by_cases e : i = 0
  ·subst e
   rw [getD_set_self (by rw [O0.l3]; omega)] at hra'
   cases hra'
  ·rw [getD_set_ne e] at hr'
   have := hb i
   rw [show sv0.re = List.replicate 40 false from rfl, this] at hr'
   cases hr'
 ·have hr' : (sv0.ra.set 0 true).getD i false = true := hr
  show (sv0.re.set 0 true).getD i false = true
  by_cases e : i = 0
  ·subst e
   rw [getD_set_self (by rw [O0.l2]; omega)]
  ·rw [getD_set_ne e] at hr'
   rw [show sv0.ra = List.replicate 40 false from rfl, hb i] at hr'
   cases hr'
end
end Go.Proofs.YtiiokkllmchohaaGreat
/- Infer ends for every method that Form takes; what passes is sound (pure). -/
namespace Go.Proofs.YtiiokkllmchohaaGreat
open Go.RowKit Go.Shelf

section
variable {p : List LClass} {m : LMeth} {c : Int} {σ : Nat → Option TSt}
theorem round_bel (hF : formI p = 0) (hz : szProg p ≤ 4194304) {k : Int} (hown : ownM p c k = some m) (S : Sol p c m σ) {s : SvSt} (I : SvInv p c m s) (B : SvBel p σ s) : ∀ (n : Nat), n ≤ m.code.length → ∃ s', roundP p m s n = some s' ∧ SvBel p σ s'.1 ∧ SvInv p c m s'.1
 | 0, _ => ⟨(s, false), rfl, B, I⟩
 | n + 1, hn => by
  obtain ⟨_, _, M⟩ := form_own hF hown
  obtain ⟨s1, e1, B1, I1⟩ := round_bel hF hz hown S I B n (by omega)
  obtain ⟨s2, e2, B2, _⟩ := ask_bel hF hz hown S (show n < m.code.length by omega) I1.ok B1 (fun j hj => by
   rcases Nat.lt_or_ge j 40 with h | h
   ·exact I1.ra j h hj
   ·rw [List.getD_eq_getElem?_getD, List.getElem?_eq_none (by rw [I1.ok.l3]; exact h)] at hj
    cases hj)
  refine ⟨s2, ?_, B2, ask_inv (form_sup hF) (form_all hF).1.2 M.ok.stk M.c40 M.ins (by omega) I1 e2⟩
  unfold roundP
  rw [e1, Option.bind_some, e2]
theorem solve_bel (hF : formI p = 0) (hz : szProg p ≤ 4194304) {k : Int} (hown : ownM p c k = some m) (S : Sol p c m σ) : ∀ (n : Nat) (s : SvSt) (r : Option SvSt), SvInv p c m s → SvBel p σ s → solveN p m n s = some r → ∃ t, r = some t ∧ SvBel p σ t
 | 0, s, r, _, _, e => by cases e
 | n + 1, s, r, I, B, e => by
  obtain ⟨s1, e1, B1, I1⟩ := round_bel hF hz hown S I B m.code.length (Nat.le_refl _)
  unfold solveN at e
  rw [e1] at e
  obtain ⟨s', b⟩ := s1
  cases b with
  | true => exact solve_bel hF hz hown S n s' r I1 B1 e
  | false =>
   cases e
   exact ⟨s', rfl, B1⟩
theorem begin_tin (O : MethOk p c m) : TIn p (beginS c m) := ⟨O.bg.1, O.bg.2.1⟩
theorem start_bel (O : MethOk p c m) (hk0 : 0 ≤ m.stack) (S : Sol p c m σ) : SvBel p σ (putP sv0 0 (beginS c m)) := by
 have hb : ∀ i, (List.replicate 40 false).getD i false = false := fun i => by
  rw [List.getD_eq_getElem?_getD, List.getElem?_replicate]
  split <;> rfl
 have I := start_inv (p := p) (c := c) O.a7 hk0
 have hr0 : ∀ i, i ≠ 0 → (putP sv0 0 (beginS c m)).re.getD i false = false := fun i hi => by
  show ((List.replicate 40 false).set 0 true).getD i false = false
  rw [getD_set_ne hi, hb]
 have hst : (putP sv0 0 (beginS c m)).st.getD 0 zeroS = beginS c m := by
  show ((List.replicate 40 zeroS).set 0 (beginS c m)).getD 0 zeroS = beginS c m
  rw [getD_set_self (by simp)]
 refine ⟨fun i hi hr => ?_, fun i hi hr => ?_⟩
 ·by_cases e : i = 0
  ·subst e
   obtain ⟨t, h1, h2⟩ := S.beg
   exact ⟨t, h1, by rw [hst]; exact h2⟩
  ·rw [hr0 i e] at hr; cases hr
 ·by_cases e : i = 0
  ·subst e
   rw [hst]
   exact begin_tin O
  ·rw [hr0 i e] at hr; cases hr
theorem infer_ends (hF : formI p = 0) {k : Int} (hown : ownM p c k = some m) : ∃ N r, solveN p m N (putP sv0 0 (beginS c m)) = some r := by
 obtain ⟨_, _, O⟩ := form_own hF hown
 have hk0 : 0 ≤ m.stack := by have := O.bg.2.2; have h : ((beginS c m).stk.length : Int) = 0 := rfl; omega
 have I := start_inv (p := p) (c := c) O.a7 hk0
 obtain ⟨r, hr⟩ := solve_ends (form_sup hF) (form_all hF).1.2 O.ok.stk O.c40 O.ins (msr p (putP sv0 0 (beginS c m)) + 1) _ I.ok (by omega)
 exact ⟨_, r, hr⟩
theorem pass_len (O : MethOk p c m) (hk0 : 0 ≤ m.stack) : ∀ (k : Nat) (s : TSt), passK p c m k = some (some s) → s.loc.length = 8 ∧ (s.stk.length : Int) ≤ m.stack
 | 0, s, h => by
  cases h
  exact ⟨(okS_begin O.a7).1, by show ((0 : Nat) : Int) ≤ m.stack; omega⟩
 | k + 1, s, h => by
  unfold passK at h
  obtain ⟨h0, e1, e2⟩ := bind_iff h
  have fr : ∀ t, frameAtS m k = some t → t.loc.length = 8 ∧ (t.stk.length : Int) ≤ m.stack := fun t ht => by
   refine ⟨frameAtS_len O.fr ht, ?_⟩
   unfold frameAtS at ht
   cases ef : m.frames.find? (fun f => f.pc == (k : Int)) with
   | none => rw [ef] at ht; cases ht
   | some f =>
    rw [ef] at ht
    cases ht
    exact (O.fr f (List.mem_of_find?_eq_some ef)).2.2.2.2
  have go : ∀ t, t.loc.length = 8 ∧ (t.stk.length : Int) ≤ m.stack → goS p m k t = some (some s) → s.loc.length = 8 ∧ (s.stk.length : Int) ≤ m.stack := fun t ht hg => by
   unfold goS at hg
   obtain ⟨n, g1, g2⟩ := bind_iff hg
   split at g2
   ·split at g2
    ·cases g2
     exact next_len g1 ht.1 ht.2
    ·cases g2
   ·cases g2
  unfold stepS at e2
  cases hf : frameAtS m k with
  | none =>
   rw [hf] at e2
   cases h0 with
   | none => cases e2
   | some s0 => exact go s0 (pass_len O hk0 k s0 e1) e2
  | some t =>
   rw [hf] at e2
   cases h0 with
   | none => exact go t (fr t hf) e2
   | some s0 =>
    dsimp only at e2
    split at e2
    ·exact go t (fr t hf) e2
    ·cases e2
theorem at_len (O : MethOk p c m) (hk0 : 0 ≤ m.stack) {i : Nat} {s : TSt} (h : atS p c m i = some s) : s.loc.length = 8 ∧ (s.stk.length : Int) ≤ m.stack := by
 unfold atS at h
 cases hf : frameAtS m i with
 | some t =>
  rw [hf] at h
  cases h
  refine ⟨frameAtS_len O.fr hf, ?_⟩
  unfold frameAtS at hf
  cases ef : m.frames.find? (fun f => f.pc == (i : Int)) with
  | none => rw [ef] at hf; cases hf
  | some f =>
   rw [ef] at hf
   cases hf
   exact (O.fr f (List.mem_of_find?_eq_some ef)).2.2.2.2
 | none =>
  rw [hf] at h
  cases hk : passK p c m i with
  | none => rw [hk] at h; cases h
  | some x =>
   rw [hk] at h
   cases x with
   | none => cases h
   | some y => cases h; exact pass_len O hk0 i _ hk
theorem pass_sol (O : MethOk p c m) (hk0 : 0 ≤ m.stack) (h : passB p c m = true) : Sol p c m (atS p c m) := by
 refine ⟨?_, fun i s hi hs => ?_⟩
 ·have hl := (okS_begin (c := c) O.a7).1
  obtain ⟨h1, eK⟩ := passK_some h 1 O.c1
  have eS : stepS p m 0 (some (beginS c m)) = some h1 := by
   have := eK
   unfold passK at this
   exact this
  cases hfr : frameAtS m ((0 : Nat) : Int) with
  | none =>
   refine ⟨beginS c m, ?_, LeT.refl hl⟩
   unfold atS
   rw [hfr]
   rfl
  | some t =>
   have ht := frameAtS_len O.fr hfr
   refine ⟨t, ?_, (LeT.iff hl ht).2 ((le_iff hl ht).1 ((stepS_go eS (s := t) (by rw [hfr])).2 _ _ rfl hfr))⟩
   unfold atS
   rw [hfr]
 ·obtain ⟨s', hd, hj, hf⟩ := pass_at h O.fr O.ins hi hs
  obtain ⟨l1, l2⟩ := at_len O hk0 hs
  obtain ⟨n1, n2⟩ := do_len hd l1 l2
  have hmem : insAt m i ∈ m.code := by
   unfold insAt
   rw [List.getElem?_eq_getElem hi]
   exact List.getElem_mem _
  have hon : ∀ y ∈ onwardL (insAt m i) i, (jumpsB (insAt m i) = true ∧ y.1 = (insAt m i).a ∧ 0 ≤ y.1 ∧ y.1 < (m.code.length : Int)) ∨ (fallsB (insAt m i) = true ∧ y.1 = (i : Int) + 1 ∧ i + 1 < m.code.length) := fun y hy => by
   unfold onwardL at hy
   rcases List.mem_append.1 hy with hy | hy
   ·split at hy
    ·rename_i hjb
     obtain rfl := List.mem_singleton.1 hy
     exact .inl ⟨hjb, rfl, jump_in (O.ins _ hmem) hjb⟩
    ·cases hy
   ·split at hy
    ·rename_i hfb
     obtain rfl := List.mem_singleton.1 hy
     obtain ⟨_, _, _, hlt, _⟩ := hf hfb
     exact .inr ⟨hfb, rfl, hlt⟩
    ·cases hy
  have hend : endB m i = false := by
   unfold endB
   rw [List.any_eq_false]
   intro y hy
   simp only [beq_iff_eq]
   rcases hon y hy with ⟨_, _, h1, h2⟩ | ⟨_, h1, h2⟩
   ·omega
   ·omega
  refine ⟨s', ?_, fun y hy => ?_⟩
  ·unfold nextS
   rw [hd, Option.bind_some, hend]
   rfl
  ·rcases hon y hy with ⟨h1, h2, h3, h4⟩ | ⟨h1, h2, h3⟩
   ·obtain ⟨t, a1, a2, _, a4⟩ := hj h1
    rw [h2]
    exact ⟨t, a1, (LeT.iff n1 a4).2 ((le_iff n1 a4).1 a2)⟩
   ·obtain ⟨t, a1, a2, _, _⟩ := hf h1
    have ht := (at_len O hk0 a1).1
    rw [h2, show ((i : Int) + 1).toNat = i + 1 by omega]
    exact ⟨t, a1, (LeT.iff n1 ht).2 ((le_iff n1 ht).1 a2)⟩
theorem pass_solves (hF : formI p = 0) (hz : szProg p ≤ 4194304) {k : Int} (hown : ownM p c k = some m) (h : passB p c m = true) {N : Nat} {r : Option SvSt} (e : solveN p m N (putP sv0 0 (beginS c m)) = some r) : ∃ s, r = some s := by
 obtain ⟨_, _, O⟩ := form_own hF hown
 have hk0 : 0 ≤ m.stack := by have := O.bg.2.2; have h : ((beginS c m).stk.length : Int) = 0 := rfl; omega
 have S := pass_sol O hk0 h
 obtain ⟨t, h1, _⟩ := solve_bel hF hz hown S N _ r (start_inv O.a7 hk0) (start_bel O hk0 S) e
 exact ⟨t, h1⟩
end
end Go.Proofs.YtiiokkllmchohaaGreat
/- With the frames of its solution a method passes (pure). -/
namespace Go.Proofs.YtiiokkllmchohaaGreat
open Go.RowKit Go.Shelf

def Prov (m : LMeth) (s : SvSt) : Prop := ∀ k, k < 40 → s.re.getD k false = true → k = 0 ∨ ∃ i, i < m.code.length ∧ s.re.getD i false = true ∧ ∃ y ∈ onwardL (insAt m i) i, y.1.toNat = k
section
variable {p : List LClass} {m : LMeth} {c : Int}
theorem reach_re {s s' : SvSt} (_O : SvOk p m s) {i : Nat} (_hi : i < 40) {g : TSt} (e : reachP p i g s = some s') : ∀ k, k < 40 → s'.re.getD k false = true → s.re.getD k false = true ∨ k = i := fun k hk hr => by
 have hp : ∀ x, (putP s i x).re.getD k false = true → s.re.getD k false = true ∨ k = i := fun x h => by
  have h' : (s.re.set i true).getD k false = true := h
  by_cases e : k = i
  ·exact .inr e
  ·rw [getD_set_ne e] at h'
   exact .inl h'
 unfold reachP at e
 split at e
 ·split at e
  ·cases e; exact .inl hr
  ·split at e
   ·cases e; exact hp _ hr
   ·cases e
 ·cases e; exact hp _ hr
theorem reachAll_re (hs : SupOk p p.length) (h6 : p.length ≤ 6) (h8 : m.stack ≤ 8) {n : TSt} (hl : n.loc.length = 8) (hk : (n.stk.length : Int) ≤ m.stack) : ∀ (l : List (Int × Bool)) (s s' : SvSt), SvOk p m s → (∀ y ∈ l, y.1.toNat < 40) → reachAll p n l s = some s' → ∀ k, k < 40 → s'.re.getD k false = true → s.re.getD k false = true ∨ ∃ y ∈ l, y.1.toNat = k
 | [], s, s', _, _, e, k, _, hr => by cases e; exact .inl hr
 | y :: l, s, s', O, hy, e, k, hk40, hr => by
  unfold reachAll at e
  obtain ⟨s1, e1, e2⟩ := bind_iff e
  obtain ⟨O1, _⟩ := reach_msr hs h6 h8 O (hy y (by simp)) hl hk e1
  rcases reachAll_re hs h6 h8 hl hk l s1 s' O1 (fun z hz => hy z (by simp [hz])) e2 k hk40 hr with h | ⟨z, hz, h⟩
  ·rcases reach_re O (hy y (by simp)) e1 k hk40 h with h | h
   ·exact .inl h
   ·exact .inr ⟨y, by simp, h.symm⟩
  ·exact .inr ⟨z, by simp [hz], h⟩
theorem ask_prov (hs : SupOk p p.length) (h6 : p.length ≤ 6) (h8 : m.stack ≤ 8) (h40 : m.code.length ≤ 40) (hins : ∀ i ∈ m.code, insB p m i = true) {i : Nat} (hi : i < m.code.length) {s s' : SvSt × Bool} (I : SvInv p c m s.1) (P : Prov m s.1) (e : askP p m i s = some s') : Prov m s'.1 := by
 unfold askP at e
 split at e
 ·rename_i hr
  obtain ⟨s1, h1, rfl⟩ := Option.map_eq_some_iff.1 e
  obtain ⟨c1, _⟩ := clear_msr I.ok (show i < 40 by omega) hr
  unfold goOnP at h1
  obtain ⟨n, g1, g2⟩ := bind_iff h1
  have g1' : nextS p m i (s.1.st.getD i zeroS) = some n := g1
  have ho := I.ok.ok i (by omega)
  obtain ⟨n1, n2⟩ := next_len g1' ho.1 ho.2
  have hin := onward_in hi hins g1'
  have hy40 : ∀ y ∈ onwardL (insAt m i) i, y.1.toNat < 40 := fun y hy => by have := hin y hy; omega
  obtain ⟨u1, _⟩ := reachAll_up hs h6 h8 n1 n2 _ _ _ c1 hy40 g2
  have hre := I.ra i (by omega) hr
  intro k hk hrk
  rcases reachAll_re hs h6 h8 n1 n2 _ _ _ c1 hy40 g2 k hk hrk with h | ⟨y, hy, h⟩
  ·rcases P k hk h with h0 | ⟨j, j1, j2, j3⟩
   ·exact .inl h0
   ·exact .inr ⟨j, j1, u1.re j (by omega) j2, j3⟩
  ·exact .inr ⟨i, hi, u1.re i (by omega) hre, y, hy, h⟩
 ·cases e
  exact P
theorem round_prov (hs : SupOk p p.length) (h6 : p.length ≤ 6) (h8 : m.stack ≤ 8) (h40 : m.code.length ≤ 40) (hins : ∀ i ∈ m.code, insB p m i = true) {s : SvSt} (I : SvInv p c m s) (P : Prov m s) : ∀ (k : Nat) (s' : SvSt × Bool), k ≤ m.code.length → roundP p m s k = some s' → Prov m s'.1
 | 0, s', _, e => by cases e; exact P
 | k + 1, s', hk, e => by
  unfold roundP at e
  obtain ⟨s1, e1, e2⟩ := bind_iff e
  exact ask_prov hs h6 h8 h40 hins (by omega) (round_inv hs h6 h8 h40 hins I k s1 (by omega) e1).1 (round_prov hs h6 h8 h40 hins I P k s1 (by omega) e1) e2
theorem solve_prov (hs : SupOk p p.length) (h6 : p.length ≤ 6) (h8 : m.stack ≤ 8) (h40 : m.code.length ≤ 40) (hins : ∀ i ∈ m.code, insB p m i = true) : ∀ (n : Nat) (s r : SvSt), SvInv p c m s → Prov m s → solveN p m n s = some (some r) → Prov m r
 | 0, s, r, _, _, e => by cases e
 | n + 1, s, r, I, P, e => by
  unfold solveN at e
  cases hq : roundP p m s m.code.length with
  | none => rw [hq] at e; cases e
  | some x =>
   obtain ⟨s', b⟩ := x
   rw [hq] at e
   have P1 := round_prov hs h6 h8 h40 hins I P _ _ (Nat.le_refl _) hq
   have I1 := (round_inv hs h6 h8 h40 hins I _ _ (Nat.le_refl _) hq).1
   cases b with
   | true => exact solve_prov hs h6 h8 h40 hins n s' r I1 P1 e
   | false => cases e; exact P1
theorem start_prov (c : Int) : Prov m (putP sv0 0 (beginS c m)) := fun k _ hr => by
 by_cases e : k = 0
 ·exact .inl e
 ·have h' : ((List.replicate 40 false).set 0 true).getD k false = true := hr
  rw [getD_set_ne e, List.getD_eq_getElem?_getD, List.getElem?_replicate] at h'
  split at h' <;> cases h'
def Place (m : LMeth) (s : SvSt) (k : Nat) : Prop := ∃ i, i < m.code.length ∧ s.re.getD i false = true ∧ jumpsB (insAt m i) = true ∧ (insAt m i).a.toNat = k
theorem cert_pass (hs : SupOk p p.length) (O : MethOk p c m) {r : SvSt} (I : SvInv p c m r) (hra : ∀ i, i < m.code.length → r.ra.getD i false = false) (P : Prov m r) {m' : LMeth} (hc : m'.code = m.code) (hargs : m'.args = m.args) (hnext : ∀ i s, nextS p m' i s = nextS p m i s)
  (hfr : ∀ i : Nat, i < m.code.length → (r.re.getD i false = true → Place m r i → frameAtS m' i = some (r.st.getD i zeroS)) ∧ (¬ (r.re.getD i false = true ∧ Place m r i) → frameAtS m' i = none)) : passB p c m' = true := by
 have hia : ∀ i, insAt m' i = insAt m i := fun i => by unfold insAt; rw [hc]
 have h40 := O.c40
 have hbg : beginS c m' = beginS c m := by unfold beginS; rw [hargs]
 -- goS with a state below the solution's
 have go : ∀ (k : Nat) (s : TSt), k < m.code.length → r.re.getD k false = true → LeT p s (r.st.getD k zeroS) → ∃ n, goS p m' k s = some (if fallsB (insAt m k) then some n else none) ∧ (fallsB (insAt m k) = true → k + 1 < m.code.length ∧ r.re.getD (k + 1) false = true ∧ LeT p n (r.st.getD (k + 1) zeroS)) := fun k s hk hre hle => by
  obtain ⟨n, d1, d2⟩ := I.dn k hk hre (hra k hk)
  obtain ⟨n', e1, e2⟩ := next_mono hs O.ins O.ok.loc hk hle d1
  have hin := onward_in hk O.ins d1
  have hmem : insAt m k ∈ m.code := by
   unfold insAt
   rw [List.getElem?_eq_getElem hk]
   exact List.getElem_mem _
  refine ⟨n', ?_, fun hf => ?_⟩
  ·unfold goS
   rw [hnext, e1, Option.bind_some, hia, if_pos]
   rw [List.all_eq_true]
   intro y hy
   obtain ⟨y1, y2⟩ := y
   cases y2 with
   | false => rfl
   | true =>
    have hj : jumpsB (insAt m k) = true ∧ y1 = (insAt m k).a := by
     unfold onwardL at hy
     rcases List.mem_append.1 hy with hy | hy
     ·split at hy
      ·rename_i hjb
       have := List.mem_singleton.1 hy
       cases this
       exact ⟨hjb, rfl⟩
      ·cases hy
     ·split at hy
      ·have := List.mem_singleton.1 hy
       cases this
      ·cases hy
    have hy0 := hin _ hy
    dsimp only at hy0
    obtain ⟨k1, k2⟩ := d2 _ hy
    dsimp only at k1 k2
    have hpl : Place m r y1.toNat := ⟨k, hk, hre, hj.1, by rw [hj.2]⟩
    have hft := (hfr y1.toNat (by omega)).1 k1 hpl
    rw [show ((y1.toNat : Nat) : Int) = y1 by omega] at hft
    show (!true || frOk p m' n' y1) = true
    unfold frOk
    rw [hft]
    exact (le_iff e2.sl k2.tl).2 ((LeT.iff e2.sl k2.tl).1 (e2.trans hs k2))
  ·have hyf : ((k : Int) + 1, false) ∈ onwardL (insAt m k) k := by
    unfold onwardL
    rw [if_pos hf]
    simp
   obtain ⟨k1, k2⟩ := d2 _ hyf
   rw [show ((k : Int) + 1).toNat = k + 1 by omega] at k1 k2
   have hlt := hin _ hyf
   dsimp only at hlt
   exact ⟨by omega, k1, e2.trans hs k2⟩
 have key : ∀ k, k ≤ m.code.length → ∃ h, passK p c m' k = some h ∧ (∀ s, h = some s → k < m.code.length ∧ r.re.getD k false = true ∧ LeT p s (r.st.getD k zeroS)) ∧ (h = none → k < m.code.length → r.re.getD k false = true → Place m r k) := by
  intro k
  induction k with
  | zero =>
   intro _
   refine ⟨some (beginS c m'), rfl, fun s e => ?_, fun e => by cases e⟩
   cases e
   rw [hbg]
   exact ⟨O.c1, I.beg.1, I.beg.2⟩
  | succ k ih =>
   intro hk
   obtain ⟨h, e1, e2, e3⟩ := ih (by omega)
   have hkl : k < m.code.length := by omega
   have hpk : passK p c m' (k + 1) = stepS p m' k h := by
    show (passK p c m' k).bind (stepS p m' k) = _
    rw [e1, Option.bind_some]
   -- if k + 1 is come to otherwise than by a jump, then from k
   have prev : k + 1 < m.code.length → r.re.getD (k + 1) false = true → ¬ Place m r (k + 1) → r.re.getD k false = true ∧ fallsB (insAt m k) = true := fun hlt hre hnp => by
    rcases P (k + 1) (by omega) hre with h0 | ⟨i, i1, i2, y, hy, hy2⟩
    ·omega
    ·unfold onwardL at hy
     rcases List.mem_append.1 hy with hy | hy
     ·split at hy
      ·rename_i hjb
       obtain rfl := List.mem_singleton.1 hy
       exact absurd ⟨i, i1, i2, hjb, hy2⟩ hnp
      ·cases hy
     ·split at hy
      ·rename_i hfb
       obtain rfl := List.mem_singleton.1 hy
       dsimp only at hy2
       obtain rfl : i = k := by omega
       exact ⟨i2, hfb⟩
      ·cases hy
   have fin : ∀ n, (fallsB (insAt m k) = true → k + 1 < m.code.length ∧ r.re.getD (k + 1) false = true ∧ LeT p n (r.st.getD (k + 1) zeroS)) → (∀ s, (if fallsB (insAt m k) then some n else none) = some s → k + 1 < m.code.length ∧ r.re.getD (k + 1) false = true ∧ LeT p s (r.st.getD (k + 1) zeroS)) ∧ ((if fallsB (insAt m k) then some n else none) = none → k + 1 < m.code.length → r.re.getD (k + 1) false = true → Place m r (k + 1)) := fun n hn => by
    cases hf : fallsB (insAt m k) with
    | true =>
     refine ⟨fun s e => ?_, fun e => by cases e⟩
     cases e
     exact hn hf
    | false =>
     refine ⟨fun s e => (by cases e), fun _ hlt hre => ?_⟩
     apply Classical.byContradiction
     intro hnp
     have := (prev hlt hre hnp).2
     rw [hf] at this
     cases this
   by_cases hre : r.re.getD k false = true
   ·by_cases hpl : Place m r k
    ·have hft := (hfr k hkl).1 hre hpl
     have hok := I.ok.ok k (by omega)
     obtain ⟨n, g1, g2⟩ := go k (r.st.getD k zeroS) hkl hre (LeT.refl hok.1)
     refine ⟨_, ?_, fin n g2⟩
     rw [hpk]
     unfold stepS
     rw [hft]
     cases h with
     | none => exact g1
     | some s =>
      obtain ⟨_, _, hle⟩ := e2 s rfl
      dsimp only
      rw [if_pos ((le_iff hle.sl hle.tl).2 ((LeT.iff hle.sl hle.tl).1 hle))]
      exact g1
    ·have hft := (hfr k hkl).2 (fun h => hpl h.2)
     cases h with
     | none => exact absurd (e3 rfl hkl hre) hpl
     | some s =>
      obtain ⟨_, _, hle⟩ := e2 s rfl
      obtain ⟨n, g1, g2⟩ := go k s hkl hre hle
      refine ⟨_, ?_, fin n g2⟩
      rw [hpk]
      unfold stepS
      rw [hft]
      exact g1
   ·have hft := (hfr k hkl).2 (fun h => hre h.1)
    cases h with
    | some s => exact absurd (e2 s rfl).2.1 hre
    | none =>
     refine ⟨none, ?_, fun s e => (by cases e), fun _ hlt hre1 => ?_⟩
     ·rw [hpk]
      unfold stepS
      rw [hft]
     ·apply Classical.byContradiction
      intro hnp
      exact hre (prev hlt hre1 hnp).1
 obtain ⟨h, e1, _⟩ := key m.code.length (Nat.le_refl _)
 unfold passB
 rw [hc, e1]
 rfl
end
end Go.Proofs.YtiiokkllmchohaaGreat
