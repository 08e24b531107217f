/- What every state of the solver keeps; a frame of the solution tells the state itself (pure). -/
import Derived.Test.YtiiokkllmchohaaGreatT19
import Derived.Test.YtiiokkllmchohaaGreatT30
/- LeqI -/
namespace Go.Proofs.YtiiokkllmchohaaGreat
open Go.RowKit Go.Shelf

section
variable {p : List LClass} {m : LMeth} {c : Int}
theorem do_loc {i : LIns} {s s' : TSt} (h : doS p m i s = some s') (hk : (s.stk.length : Int) ≤ m.stack) : s'.loc = s.loc ∨ (i.op = 2 ∧ ∃ t, s'.loc = s.loc.set i.a.toNat t) := by
 unfold doS at h
 by_cases c : i.op = 0
 ·rw [if_pos c] at h
  obtain ⟨a, b⟩ := leave_len h hk
  exact .inl (by rw [b])
 rw [if_neg c] at h; clear c
 by_cases c : i.op = 1
 ·rw [if_pos c] at h
  obtain ⟨t, _, h⟩ := bind_iff h
  obtain ⟨a, b⟩ := leave_len h hk
  exact .inl (by rw [b])
 rw [if_neg c] at h; clear c
 by_cases c : i.op = 2
 ·rw [if_pos c] at h
  obtain ⟨⟨t, s1⟩, h1, h2⟩ := bind_iff h
  obtain ⟨a, b⟩ := take_len h1 hk
  obtain ⟨u, _, rfl⟩ := Option.map_eq_some_iff.1 h2
  exact .inr ⟨c, u, by dsimp only; rw [b]⟩
 rw [if_neg c] at h; clear c
 by_cases c : i.op = 3 ∨ i.op = 4 ∨ i.op = 5 ∨ i.op = 6
 ·rw [if_pos c] at h
  obtain ⟨s1, h1, h2⟩ := bind_iff h
  obtain ⟨s2, h3, h4⟩ := bind_iff h2
  obtain ⟨a1, b1⟩ := want_len h1 hk
  obtain ⟨a2, b2⟩ := want_len h3 a1
  obtain ⟨a3, b3⟩ := leave_len h4 a2
  exact .inl (by rw [b3, b2, b1])
 rw [if_neg c] at h; clear c
 by_cases c : i.op = 8 ∨ i.op = 19
 ·rw [if_pos c] at h
  obtain ⟨a1, b1⟩ := want_len h hk
  exact .inl (by rw [b1])
 rw [if_neg c] at h; clear c
 by_cases c : i.op = 9
 ·rw [if_pos c] at h
  obtain ⟨a, b⟩ := leave_len h hk
  exact .inl (by rw [b])
 rw [if_neg c] at h; clear c
 by_cases c : i.op = 10
 ·rw [if_pos c] at h
  obtain ⟨s1, h1, h2⟩ := bind_iff h
  obtain ⟨a1, b1⟩ := want_len h1 hk
  obtain ⟨a3, b3⟩ := leave_len h2 a1
  exact .inl (by rw [b3, b1])
 rw [if_neg c] at h; clear c
 by_cases c : i.op = 11
 ·rw [if_pos c] at h
  obtain ⟨s1, h1, h2⟩ := bind_iff h
  obtain ⟨a1, b1⟩ := want_len h1 hk
  obtain ⟨a3, b3⟩ := want_len h2 a1
  exact .inl (by rw [b3, b1])
 rw [if_neg c] at h; clear c
 by_cases c : i.op = 12
 ·rw [if_pos c] at h
  obtain ⟨s1, h1, h2⟩ := bind_iff h
  obtain ⟨s2, h3, h4⟩ := bind_iff h2
  obtain ⟨a1, b1⟩ := wants_len _ h1 hk
  obtain ⟨a2, b2⟩ := want_len h3 a1
  obtain ⟨a3, b3⟩ := leave_len h4 a2
  exact .inl (by rw [b3, b2, b1])
 rw [if_neg c] at h; clear c
 by_cases c : i.op = 13
 ·rw [if_pos c] at h
  obtain ⟨a1, b1⟩ := want_len h hk
  exact .inl (by rw [b1])
 rw [if_neg c] at h; clear c
 by_cases c : i.op = 14
 ·rw [if_pos c] at h
  obtain ⟨⟨t, s1⟩, h1, rfl⟩ := Option.map_eq_some_iff.1 h
  obtain ⟨a1, b1⟩ := take_len h1 hk
  exact .inl (by dsimp only; rw [b1])
 rw [if_neg c] at h; clear c
 by_cases c : i.op = 15
 ·rw [if_pos c] at h
  obtain ⟨⟨t, s1⟩, h1, h2⟩ := bind_iff h
  obtain ⟨s2, h3, h4⟩ := bind_iff h2
  obtain ⟨a1, b1⟩ := take_len h1 hk
  obtain ⟨a2, b2⟩ := leave_len h3 a1
  obtain ⟨a3, b3⟩ := leave_len h4 a2
  exact .inl (by rw [b3, b2, b1])
 rw [if_neg c] at h; clear c
 by_cases c : i.op = 16
 ·rw [if_pos c] at h
  obtain ⟨a, b⟩ := leave_len h hk
  exact .inl (by rw [b])
 rw [if_neg c] at h; clear c
 by_cases c : i.op = 17
 ·rw [if_pos c] at h
  obtain ⟨s1, h1, h2⟩ := bind_iff h
  obtain ⟨a1, b1⟩ := wantO_len (m := m) h1 hk
  obtain ⟨a3, b3⟩ := leave_len h2 a1
  exact .inl (by rw [b3, b1])
 rw [if_neg c] at h; clear c
 by_cases c : i.op = 18
 ·rw [if_pos c] at h
  obtain ⟨a1, b1⟩ := wantO_len (m := m) h hk
  exact .inl (by rw [b1])
 rw [if_neg c] at h; clear c
 by_cases c : i.op = 20
 ·rw [if_pos c] at h
  obtain ⟨⟨t, s1⟩, h1, h2⟩ := bind_iff h
  obtain ⟨⟨u, s2⟩, h3, h4⟩ := bind_iff h2
  obtain ⟨s3, h5, h6⟩ := bind_iff h4
  obtain ⟨a1, b1⟩ := take_len h1 hk
  obtain ⟨a2, b2⟩ := take_len h3 a1
  obtain ⟨a3, b3⟩ := leave_len h5 a2
  obtain ⟨a4, b4⟩ := leave_len h6 a3
  dsimp only at b2 b3
  exact .inl (by rw [b4, b3, b2, b1])
 rw [if_neg c] at h
 cases h
 exact .inl rfl
structure Kept (p : List LClass) (m : LMeth) (Q : TSt → Prop) : Prop where
 nx : ∀ i s n, i < m.code.length → Q s → s.loc.length = 8 → (s.stk.length : Int) ≤ m.stack → nextS p m i s = some n → Q n
 jn : ∀ s t, Q s → Q t → s.loc.length = 8 → Q (joinS p s t)
variable {Q : TSt → Prop}
def AllQ (Q : TSt → Prop) (s : SvSt) : Prop := ∀ i, i < 40 → s.re.getD i false = true → Q (s.st.getD i zeroS)
theorem put_q {s : SvSt} (O : SvOk p m s) (A : AllQ Q s) {i : Nat} {x : TSt} (hx : Q x) : AllQ Q (putP s i x) := fun j hj hr => by
 by_cases e : j = i
 ·subst e
  show Q ((s.st.set j x).getD j zeroS)
  rw [getD_set_self (by rw [O.l1]; exact hj)]
  exact hx
 ·have hr' : (s.re.set i true).getD j false = true := hr
  rw [getD_set_ne e] at hr'
  show Q ((s.st.set i x).getD j zeroS)
  rw [getD_set_ne e]
  exact A j hj hr'
theorem reach_q (K : Kept p m Q) {s s' : SvSt} (O : SvOk p m s) (A : AllQ Q s) {i : Nat} (hi : i < 40) {g : TSt} (hg : Q g) (e : reachP p i g s = some s') : AllQ Q s' := by
 unfold reachP at e
 split at e
 ·rename_i hr
  split at e
  ·cases e; exact A
  ·split at e
   ·cases e
    exact put_q O A (K.jn _ _ (A i hi hr) hg (O.ok i hi).1)
   ·cases e
 ·cases e
  exact put_q O A hg
theorem reachAll_q (hs : SupOk p p.length) (h6 : p.length ≤ 6) (h8 : m.stack ≤ 8) (K : Kept p m Q) {n : TSt} (hl : n.loc.length = 8) (hk : (n.stk.length : Int) ≤ m.stack) (hn : Q n) : ∀ (l : List (Int × Bool)) (s s' : SvSt), SvOk p m s → AllQ Q s → (∀ y ∈ l, y.1.toNat < 40) → reachAll p n l s = some s' → AllQ Q s'
 | [], s, s', _, A, _, e => by cases e; exact A
 | y :: l, s, s', O, A, hy, e => by
  unfold reachAll at e
  obtain ⟨s1, e1, e2⟩ := bind_iff e
  obtain ⟨O1, _⟩ := reach_msr hs h6 h8 O (hy y (by simp)) hl hk e1
  exact reachAll_q hs h6 h8 K hl hk hn l s1 s' O1 (reach_q K O A (hy y (by simp)) hn e1) (fun z hz => hy z (by simp [hz])) e2
theorem ask_q (hs : SupOk p p.length) (h6 : p.length ≤ 6) (h8 : m.stack ≤ 8) (h40 : m.code.length ≤ 40) (hins : ∀ i ∈ m.code, insB p m i = true) (K : Kept p m Q) {i : Nat} (hi : i < m.code.length) {s s' : SvSt × Bool} (I : SvInv p c m s.1) (A : AllQ Q s.1) (e : askP p m i s = some s') : AllQ Q s'.1 := by
 unfold askP at e
 split at e
 ·rename_i hr
  obtain ⟨s1, h1, rfl⟩ := Option.map_eq_some_iff.1 e
  obtain ⟨c1, _⟩ := clear_msr I.ok (show i < 40 by omega) hr
  unfold goOnP at h1
  obtain ⟨n, g1, g2⟩ := bind_iff h1
  have g1' : nextS p m i (s.1.st.getD i zeroS) = some n := g1
  have ho := I.ok.ok i (by omega)
  obtain ⟨n1, n2⟩ := next_len g1' ho.1 ho.2
  have hin := onward_in hi hins g1'
  have hre := I.ra i (by omega) hr
  exact reachAll_q hs h6 h8 K n1 n2 (K.nx i _ n hi (A i (by omega) hre) ho.1 ho.2 g1') _ _ _ c1 A (fun y hy => by have := hin y hy; omega) g2
 ·cases e
  exact A
theorem round_q (hs : SupOk p p.length) (h6 : p.length ≤ 6) (h8 : m.stack ≤ 8) (h40 : m.code.length ≤ 40) (hins : ∀ i ∈ m.code, insB p m i = true) (K : Kept p m Q) {s : SvSt} (I : SvInv p c m s) (A : AllQ Q s) : ∀ (k : Nat) (s' : SvSt × Bool), k ≤ m.code.length → roundP p m s k = some s' → AllQ Q s'.1
 | 0, s', _, e => by cases e; exact A
 | k + 1, s', hk, e => by
  unfold roundP at e
  obtain ⟨s1, e1, e2⟩ := bind_iff e
  exact ask_q hs h6 h8 h40 hins K (by omega) (round_inv hs h6 h8 h40 hins I k s1 (by omega) e1).1 (round_q hs h6 h8 h40 hins K I A k s1 (by omega) e1) e2
theorem solve_q (hs : SupOk p p.length) (h6 : p.length ≤ 6) (h8 : m.stack ≤ 8) (h40 : m.code.length ≤ 40) (hins : ∀ i ∈ m.code, insB p m i = true) (K : Kept p m Q) : ∀ (n : Nat) (s r : SvSt), SvInv p c m s → AllQ Q s → solveN p m n s = some (some r) → AllQ Q r
 | 0, s, r, _, _, e => by cases e
 | n + 1, s, r, I, A, e => by
  unfold solveN at e
  cases hq : roundP p m s m.code.length with
  | none => rw [hq] at e; cases e
  | some x =>
   obtain ⟨s', b⟩ := x
   rw [hq] at e
   have A1 := round_q hs h6 h8 h40 hins K I A _ _ (Nat.le_refl _) hq
   have I1 := (round_inv hs h6 h8 h40 hins I _ _ (Nat.le_refl _) hq).1
   cases b with
   | true => exact solve_q hs h6 h8 h40 hins K n s' r I1 A1 e
   | false => cases e; exact A1
def Hi (m : LMeth) (s : TSt) : Prop := ∀ i : Nat, m.locals ≤ (i : Int) → i < 8 → s.loc.getD i 0 = 2
theorem hi_kept (hins : ∀ i ∈ m.code, insB p m i = true) : Kept p m (Hi m) := by
 refine ⟨fun i s n hi hq hl hk e => ?_, fun s t hq ht hl j hj hj8 => ?_⟩
 ·unfold nextS at e
  obtain ⟨t1, e1, e2⟩ := bind_iff e
  split at e2
  ·cases e2
  ·cases e2
   have hmem : insAt m i ∈ m.code := by
    unfold insAt
    rw [List.getElem?_eq_getElem hi]
    exact List.getElem_mem _
   have J := ins_ok (p := p) (m := m) (op := (insAt m i).op) (a := (insAt m i).a) (b := (insAt m i).b) (hins _ hmem)
   rcases do_loc e1 hk with h | ⟨ho, t, h⟩
   ·intro j hj hj8
    rw [h]
    exact hq j hj hj8
   ·intro j hj hj8
    have := J.loc (.inr ho)
    rw [h, getD_set_ne (by omega)]
    exact hq j hj hj8
 ·rw [joinS_loc p s t hl hj8, hq j hj hj8, ht j hj hj8]
  unfold joinB
  rw [if_pos (below_refl _ _)]
theorem begin_hi (ha : 1 + (m.args.length : Int) ≤ m.locals) (h7 : m.args.length ≤ 7) : Hi m (beginS c m) := fun i hi h8 => by
 unfold beginS
 dsimp only
 cases i with
 | zero => omega
 | succ i =>
  rw [List.getD_cons_succ, List.getD_eq_getElem?_getD, List.getElem?_append_right (by omega), List.getElem?_replicate, if_pos (by omega)]
  rfl
theorem told_eq {s : TSt} (hl : s.loc.length = 8) (h : Hi m s) (h0 : 0 ≤ m.locals) (h8 : m.locals ≤ 8) (k : Int) : toldS ⟨k, s.loc.take m.locals.toNat, s.stk⟩ = s := by
 obtain ⟨loc, stk⟩ := s
 unfold toldS
 dsimp only at hl h ⊢
 have : loc.take m.locals.toNat ++ List.replicate (8 - (loc.take m.locals.toNat).length) 2 = loc := by
  apply List.ext_getElem?
  intro i
  have hlen : (loc.take m.locals.toNat).length = m.locals.toNat := by rw [List.length_take]; omega
  rcases Nat.lt_or_ge i m.locals.toNat with hi | hi
  ·rw [List.getElem?_append_left (by rw [hlen]; exact hi), List.getElem?_take_of_lt hi]
  ·rw [List.getElem?_append_right (by rw [hlen]; exact hi), hlen, List.getElem?_replicate]
   split
   ·have h2 := h i (by omega) (by omega)
    dsimp only at h2
    rw [List.getD_eq_getElem?_getD, List.getElem?_eq_getElem (by omega)] at h2
    rw [List.getElem?_eq_getElem (by omega)]
    exact congrArg some h2.symm
   ·rw [List.getElem?_eq_none (by omega)]
 rw [this]
end
end Go.Proofs.YtiiokkllmchohaaGreat
/- The frames that Certify gives a method; with them it passes (pure). -/
namespace Go.Proofs.YtiiokkllmchohaaGreat
open Go.RowKit Go.Shelf

def frmAt (m : LMeth) (r : SvSt) (k : Nat) : LFrame := ⟨(k : Int), (r.st.getD k zeroS).loc.take m.locals.toNat, (r.st.getD k zeroS).stk⟩
def placB (m : LMeth) (r : SvSt) (k : Nat) : Bool := (List.range m.code.length).any fun i => r.re.getD i false && jumpsB (insAt m i) && ((insAt m i).a.toNat == k)
def certL (m : LMeth) (r : SvSt) : List LFrame := (frmL m r m.code.length).filter fun f => placB m r f.pc.toNat
theorem placB_iff {m : LMeth} {r : SvSt} {k : Nat} : placB m r k = true ↔ Place m r k := by
 unfold placB Place
 rw [List.any_eq_true]
 constructor
 ·rintro ⟨i, hi, h⟩
  simp only [Bool.and_eq_true, beq_iff_eq] at h
  exact ⟨i, List.mem_range.1 hi, h.1.1, h.1.2, h.2⟩
 ·rintro ⟨i, h1, h2, h3, h4⟩
  exact ⟨i, List.mem_range.2 h1, by rw [Bool.and_eq_true, Bool.and_eq_true, beq_iff_eq]; exact ⟨⟨h2, h3⟩, h4⟩⟩
theorem frm_find (m : LMeth) (r : SvSt) (k : Nat) (P : LFrame → Bool) : ∀ n, (frmL m r n).find? (fun f => P f && f.pc == (k : Int)) = if k < n ∧ r.re.getD k false = true ∧ P (frmAt m r k) = true then some (frmAt m r k) else none
 | 0 => by rw [if_neg (by omega)]; rfl
 | n + 1 => by
  have hsplit : frmL m r (n + 1) = frmL m r n ++ (if r.re.getD n false then [frmAt m r n] else []) := rfl
  rw [hsplit, List.find?_append, frm_find m r k P n]
  by_cases h1 : k < n ∧ r.re.getD k false = true ∧ P (frmAt m r k) = true
  ·have e2 : (if k < n + 1 ∧ r.re.getD k false = true ∧ P (frmAt m r k) = true then some (frmAt m r k) else none) = some (frmAt m r k) := if_pos ⟨by omega, h1.2⟩
   rw [if_pos h1, e2]
   rfl
  ·rw [if_neg h1, Option.none_or]
   by_cases e : k = n
   ·subst e
    cases hr : r.re.getD k false with
    | false =>
     have e2 : (if k < k + 1 ∧ false = true ∧ P (frmAt m r k) = true then some (frmAt m r k) else none) = none := if_neg (fun h => by cases h.2.1)
     rw [e2]
     rfl
    | true =>
     cases hP : P (frmAt m r k) with
     | true =>
      have e2 : (if k < k + 1 ∧ true = true ∧ true = true then some (frmAt m r k) else none) = some (frmAt m r k) := if_pos ⟨by omega, rfl, rfl⟩
      rw [e2]
      show (match (P (frmAt m r k) && ((k : Int) == (k : Int))) with | true => some (frmAt m r k) | false => none) = _
      rw [hP, show ((k : Int) == (k : Int)) = true by simp]
      rfl
     | false =>
      have e2 : (if k < k + 1 ∧ true = true ∧ false = true then some (frmAt m r k) else none) = none := if_neg (fun h => by cases h.2.2)
      rw [e2]
      show (match (P (frmAt m r k) && ((k : Int) == (k : Int))) with | true => some (frmAt m r k) | false => none) = _
      rw [hP]
      rfl
   ·have e2 : (if k < n + 1 ∧ r.re.getD k false = true ∧ P (frmAt m r k) = true then some (frmAt m r k) else none) = none := if_neg (fun h => h1 ⟨by omega, h.2⟩)
    rw [e2]
    cases hr : r.re.getD n false with
    | false => rfl
    | true =>
     show (match (P (frmAt m r n) && ((n : Int) == (k : Int))) with | true => some (frmAt m r n) | false => none) = _
     rw [show ((n : Int) == (k : Int)) = false by simp only [beq_eq_false_iff_ne, ne_eq]; omega, Bool.and_false]
section
variable {p : List LClass} {m : LMeth} {c : Int}
theorem cert_at {r : SvSt} (O : SvOk p m r) (A : AllQ (Hi m) r) (h0 : 0 ≤ m.locals) (h8 : m.locals ≤ 8) (h40 : m.code.length ≤ 40) {m' : LMeth} (hf : m'.frames = certL m r) (i : Nat) (hi : i < m.code.length) :
  (r.re.getD i false = true → Place m r i → frameAtS m' i = some (r.st.getD i zeroS)) ∧ (¬ (r.re.getD i false = true ∧ Place m r i) → frameAtS m' i = none) := by
 have hfind : frameAtS m' i = (if i < m.code.length ∧ r.re.getD i false = true ∧ placB m r i = true then some (frmAt m r i) else none).map toldS := by
  unfold frameAtS
  rw [hf]
  unfold certL
  rw [List.find?_filter]
  have hh := frm_find m r i (fun f => placB m r f.pc.toNat) m.code.length
  have e0 : placB m r (frmAt m r i).pc.toNat = placB m r i := by
   show placB m r ((i : Int)).toNat = _
   rw [Int.toNat_natCast]
  rw [e0] at hh
  rw [← hh]
  congr 2
  funext f
  rw [Bool.eq_iff_iff, decide_eq_true_iff, Bool.and_eq_true]
 refine ⟨fun h1 h2 => ?_, fun h => ?_⟩
 ·rw [hfind, if_pos ⟨hi, h1, placB_iff.2 h2⟩]
  show some (toldS (frmAt m r i)) = _
  exact congrArg some (told_eq (O.ok i (by omega)).1 (A i (by omega) h1) h0 h8 i)
 ·rw [hfind, if_neg (fun e => h ⟨e.2.1, placB_iff.1 e.2.2⟩)]
  rfl
theorem cert_passes (hF : formI p = 0) {k : Int} (hown : ownM p c k = some m) {N : Nat} {r : SvSt} (e : solveN p m N (putP sv0 0 (beginS c m)) = some (some r)) {m' : LMeth} (hc : m'.code = m.code) (hargs : m'.args = m.args) (hnext : ∀ i s, nextS p m' i s = nextS p m i s) (hf : m'.frames = certL m r) : passB p c m' = true := by
 obtain ⟨_, _, O⟩ := form_own hF hown
 have hs := form_sup hF
 have h6 := (form_all hF).1.2
 have hb := bareB_iff.1 (show bareB p.length m = true by
  have h := hown
  unfold ownM at h
  split at h
  ·cases hx : p[c.toNat]? with
   | none => rw [hx] at h; cases h
   | some x => rw [hx] at h; exact form_bare hF hx h
  ·cases h)
 have hk0 := hb.2.2.2.2.2.2.2.1
 have I0 := start_inv (p := p) (c := c) O.a7 hk0
 obtain ⟨I, hra⟩ := solve_inv hs h6 O.ok.stk O.c40 O.ins N _ r I0 e
 have P := solve_prov hs h6 O.ok.stk O.c40 O.ins N _ r I0 (start_prov c) e
 have A0 : AllQ (Hi m) (putP sv0 0 (beginS c m)) := fun j hj hr => by
  by_cases ej : j = 0
  ·subst ej
   show Hi m (((List.replicate 40 zeroS).set 0 (beginS c m)).getD 0 zeroS)
   rw [getD_set_self (by simp)]
   exact begin_hi (by omega) O.a7
  ·have h' : ((List.replicate 40 false).set 0 true).getD j false = true := hr
   rw [getD_set_ne ej, List.getD_eq_getElem?_getD, List.getElem?_replicate] at h'
   split at h' <;> cases h'
 have A := solve_q hs h6 O.ok.stk O.c40 O.ins (hi_kept O.ins) N _ r I0 A0 e
 exact cert_pass hs O I hra P hc hargs hnext (fun i hi => cert_at I.ok A (by omega) hb.2.2.2.2.2.2.1 O.c40 hf i hi)
end
end Go.Proofs.YtiiokkllmchohaaGreat
/- Programs that differ in their frames alone have the same solutions (pure). -/
namespace Go.Proofs.YtiiokkllmchohaaGreat
open Go.RowKit Go.Shelf

structure SameM (m m' : LMeth) : Prop where
 slot : m'.slot = m.slot
 args : m'.args = m.args
 ret : m'.ret = m.ret
 locals : m'.locals = m.locals
 stack : m'.stack = m.stack
 code : m'.code = m.code
structure SameC (x x' : LClass) : Prop where
 sup : x'.sup = x.sup
 fields : x'.fields = x.fields
 len : x'.meths.length = x.meths.length
 meth : ∀ (k : Nat) (m m' : LMeth), x.meths[k]? = some m → x'.meths[k]? = some m' → SameM m m'
structure SameP (p p' : List LClass) : Prop where
 len : p'.length = p.length
 cls : ∀ (j : Nat) (x x' : LClass), p[j]? = some x → p'[j]? = some x' → SameC x x'
theorem get_same {α β : Type} {l : List α} {l' : List β} (h : l'.length = l.length) (j : Nat) : (l[j]? = none ∧ l'[j]? = none) ∨ ∃ x x', l[j]? = some x ∧ l'[j]? = some x' := by
 rcases Nat.lt_or_ge j l.length with hj | hj
 ·exact .inr ⟨_, _, List.getElem?_eq_getElem hj, List.getElem?_eq_getElem (by omega)⟩
 ·exact .inl ⟨List.getElem?_eq_none hj, List.getElem?_eq_none (by omega)⟩
section
variable {p p' : List LClass} (S : SameP p p')
include S
theorem chain_same : ∀ (f : Nat) (c : Int), chain p' f c = chain p f c
 | 0, _ => rfl
 | f + 1, c => by
  unfold chain
  split
  ·rfl
  ·rcases get_same S.len c.toNat with ⟨h1, h2⟩ | ⟨x, x', h1, h2⟩
   ·rw [h1, h2]
   ·rw [h1, h2]
    dsimp only
    rw [(S.cls _ x x' h1 h2).sup, chain_same f x.sup]
theorem chainOf_same (c : Int) : chainOf p' c = chainOf p c := chain_same S _ _
theorem below_same : belowB p' = belowB p := by
 funext t o
 unfold belowB descB
 rw [chainOf_same S]
theorem belowS_same : belowS p' = belowS p := by
 funext s t
 unfold belowS
 rw [below_same S]
theorem fields_same (c : Int) : fieldsOf p' c = fieldsOf p c := by
 unfold fieldsOf
 rw [chainOf_same S]
 congr 2
 funext k
 unfold ownFields
 rcases get_same S.len k with ⟨h1, h2⟩ | ⟨x, x', h1, h2⟩
 ·rw [h1, h2]
 ·rw [h1, h2]
  exact (S.cls _ x x' h1 h2).fields
theorem fieldT_same : fieldT p' = fieldT p := by
 funext c b
 unfold fieldT
 rw [fields_same S]
omit S in
theorem slotIn_same {x x' : LClass} (h : SameC x x') (slot : Int) : slotIn x'.meths slot = slotIn x.meths slot := by
 have hm : x'.meths.map (·.slot) = x.meths.map (·.slot) := by
  apply List.ext_getElem?
  intro k
  rw [List.getElem?_map, List.getElem?_map]
  rcases get_same h.len k with ⟨h1, h2⟩ | ⟨m, m', h1, h2⟩
  ·rw [h1, h2]
  ·rw [h1, h2]
   exact congrArg some (h.meth k m m' h1 h2).slot
 have key : ∀ l : List LMeth, slotIn l slot = (l.map (·.slot)).findIdx? (fun t => t == slot) := fun l => by
  unfold slotIn
  rw [List.findIdx?_map]
  rfl
 rw [key, key, hm]
theorem methOf_same (c slot : Int) : methOf p' c slot = methOf p c slot := by
 unfold methOf
 rw [chainOf_same S]
 congr 1
 funext k
 unfold ownSlot
 rcases get_same S.len k with ⟨h1, h2⟩ | ⟨x, x', h1, h2⟩
 ·rw [h1, h2]
 ·rw [h1, h2]
  show (slotIn x'.meths slot).map _ = (slotIn x.meths slot).map _
  rw [slotIn_same (S.cls _ x x' h1 h2)]
theorem find_same (c slot : Int) : (findM p' c slot).args = (findM p c slot).args ∧ (findM p' c slot).ret = (findM p c slot).ret := by
 unfold findM
 rw [methOf_same S]
 cases methOf p c slot with
 | none => exact ⟨rfl, rfl⟩
 | some ck =>
  rw [Option.bind_some, Option.bind_some]
  unfold methAt
  rcases get_same S.len ck.1 with ⟨h1, h2⟩ | ⟨x, x', h1, h2⟩
  ·rw [h1, h2]; exact ⟨rfl, rfl⟩
  ·rw [h1, h2, Option.bind_some, Option.bind_some]
   have hc := S.cls _ x x' h1 h2
   rcases get_same hc.len ck.2 with ⟨g1, g2⟩ | ⟨m, m', g1, g2⟩
   ·rw [g1, g2]; exact ⟨rfl, rfl⟩
   ·rw [g1, g2]
    have := hc.meth _ m m' g1 g2
    exact ⟨this.args, this.ret⟩
theorem want_same : wantS p' = wantS p := by
 funext t s
 unfold wantS
 rw [below_same S]
theorem wants_same : ∀ (l : List Int) (s : TSt), wantsS p' l s = wantsS p l s
 | [], _ => rfl
 | t :: l, s => by
  unfold wantsS
  rw [want_same S]
  congr 1
  funext s'
  exact wants_same l s'
theorem do_same {m m' : LMeth} (h : SameM m m') (i : LIns) (s : TSt) : doS p' m' i s = doS p m i s := by
 have hl : leaveS m' = leaveS m := by
  funext t s
  unfold leaveS
  rw [h.stack]
 obtain ⟨f1, f2⟩ := find_same S i.a i.b
 unfold doS
 rw [want_same S, fieldT_same S, wants_same S, hl, h.ret, f1, f2]
theorem next_same {m m' : LMeth} (h : SameM m m') (i : Nat) (s : TSt) : nextS p' m' i s = nextS p m i s := by
 have hi : insAt m' i = insAt m i := by unfold insAt; rw [h.code]
 have he : endB m' i = endB m i := by unfold endB; rw [hi, h.code]
 unfold nextS
 rw [hi, do_same S h, he]
theorem join_same : joinS p' = joinS p := by
 have hj : joinB p' = joinB p := by
  funext a b
  unfold joinB upB
  rw [below_same S, chainOf_same S]
 have hk : ∀ (s t : TSt) (k : Nat), joinK p' s t k = joinK p s t k := fun s t k => by
  induction k with
  | zero => rfl
  | succ k ih =>
   show setL (joinK p' s t k) k _ = setL (joinK p s t k) k _
   rw [ih, hj]
 have ht : ∀ (s t : TSt) (k : Nat), joinT p' s t k = joinT p s t k := fun s t k => by
  induction k with
  | zero => exact hk s t 8
  | succ k ih =>
   show setK (joinT p' s t k) k _ = setK (joinT p s t k) k _
   rw [ih, hj]
 funext s t
 exact ht s t _
theorem reachAll_same : ∀ (n : TSt) (l : List (Int × Bool)) (s : SvSt), reachAll p' n l s = reachAll p n l s
 | n, [], s => rfl
 | n, y :: l, s => by
  unfold reachAll
  have hr : reachP p' y.1.toNat n s = reachP p y.1.toNat n s := by
   unfold reachP
   rw [belowS_same S, join_same S]
  rw [hr]
  congr 1
  funext s'
  exact reachAll_same n l s'
theorem solve_same {m m' : LMeth} (h : SameM m m') : ∀ (n : Nat) (s : SvSt), solveN p' m' n s = solveN p m n s := by
 have hi : ∀ i, insAt m' i = insAt m i := fun i => by unfold insAt; rw [h.code]
 have hg : ∀ i s, goOnP p' m' i s = goOnP p m i s := fun i s => by
  unfold goOnP
  rw [next_same S h, hi]
  congr 1
  funext n
  exact reachAll_same S n _ s
 have hr : ∀ s k, roundP p' m' s k = roundP p m s k := fun s k => by
  induction k with
  | zero => rfl
  | succ k ih =>
   unfold roundP
   rw [ih]
   congr 1
   funext x
   unfold askP
   rw [hg]
 intro n
 induction n with
 | zero => intro s; rfl
 | succ n ih =>
  intro s
  unfold solveN
  rw [h.code, hr]
  cases roundP p m s m.code.length with
  | none => rfl
  | some x =>
   obtain ⟨s', b⟩ := x
   cases b with
   | true => exact ih s'
   | false => rfl
omit S in
theorem begin_same {m m' : LMeth} (h : SameM m m') (c : Int) : beginS c m' = beginS c m := by
 unfold beginS
 rw [h.args]
theorem pass_same (m' : LMeth) (c : Int) : passB p' c m' = passB p c m' := by
 have hS : SameM m' m' := ⟨rfl, rfl, rfl, rfl, rfl, rfl⟩
 have hn : ∀ i s, nextS p' m' i s = nextS p m' i s := fun i s => next_same S hS i s
 have hg : ∀ i s, goS p' m' i s = goS p m' i s := fun i s => by
  unfold goS frOk
  rw [hn, belowS_same S]
 have hst : ∀ i h, stepS p' m' i h = stepS p m' i h := fun i h => by
  unfold stepS
  simp only [hg, belowS_same S]
 have hk : ∀ k, passK p' c m' k = passK p c m' k := fun k => by
  induction k with
  | zero => rfl
  | succ k ih =>
   unfold passK
   rw [ih]
   congr 1
   funext h
   exact hst k h
 unfold passB
 rw [hk]
end
end Go.Proofs.YtiiokkllmchohaaGreat
/- The frames of Certify are frames; Form takes a program with them (pure). -/
namespace Go.Proofs.YtiiokkllmchohaaGreat
open Go.RowKit Go.Shelf

theorem framesB_iff {n : Nat} {m : LMeth} : ∀ {l : List LFrame} {last : Int}, framesB n m last l = true ↔ (∀ f ∈ l, last < f.pc) ∧ l.Pairwise (fun f g => f.pc < g.pc) ∧ ∀ f ∈ l, frameB n m f = true
 | [], _ => ⟨fun _ => ⟨fun f h => (by cases h), List.Pairwise.nil, fun f h => (by cases h)⟩, fun _ => rfl⟩
 | f :: l, last => by
  unfold framesB
  simp only [Bool.and_eq_true, decide_eq_true_eq]
  rw [framesB_iff (l := l) (last := f.pc), List.pairwise_cons]
  constructor
  ·rintro ⟨⟨h1, h2⟩, h3, h4, h5⟩
   refine ⟨fun g hg => ?_, ⟨h3, h4⟩, fun g hg => ?_⟩
   ·rcases List.mem_cons.1 hg with rfl | hg
    ·exact h1
    ·have := h3 g hg; omega
   ·rcases List.mem_cons.1 hg with rfl | hg
    ·exact h2
    ·exact h5 g hg
  ·rintro ⟨h1, ⟨h2, h3⟩, h4⟩
   exact ⟨⟨h1 f (by simp), h4 f (by simp)⟩, h2, h3, fun g hg => h4 g (by simp [hg])⟩
theorem frm_mem {m : LMeth} {r : SvSt} : ∀ {n : Nat} {f : LFrame}, f ∈ frmL m r n → ∃ k, k < n ∧ r.re.getD k false = true ∧ f = frmAt m r k
 | 0, f, h => by cases h
 | n + 1, f, h => by
  have hsplit : frmL m r (n + 1) = frmL m r n ++ (if r.re.getD n false then [frmAt m r n] else []) := rfl
  rw [hsplit] at h
  rcases List.mem_append.1 h with h | h
  ·obtain ⟨k, h1, h2, h3⟩ := frm_mem h
   exact ⟨k, by omega, h2, h3⟩
  ·split at h
   ·rename_i hr
    obtain rfl := List.mem_singleton.1 h
    exact ⟨n, by omega, hr, rfl⟩
   ·cases h
theorem frm_sorted (m : LMeth) (r : SvSt) : ∀ n, (frmL m r n).Pairwise (fun f g => f.pc < g.pc)
 | 0 => List.Pairwise.nil
 | n + 1 => by
  have hsplit : frmL m r (n + 1) = frmL m r n ++ (if r.re.getD n false then [frmAt m r n] else []) := rfl
  rw [hsplit, List.pairwise_append]
  refine ⟨frm_sorted m r n, ?_, fun f hf g hg => ?_⟩
  ·split
   ·exact List.pairwise_singleton _ _
   ·exact List.Pairwise.nil
  ·obtain ⟨k, h1, _, rfl⟩ := frm_mem hf
   split at hg
   ·obtain rfl := List.mem_singleton.1 hg
    show (k : Int) < (n : Int)
    omega
   ·cases hg
theorem ty_framed {n : Nat} {t : Int} (h : tyOk n t) : framedB n t = true := by
 obtain ⟨h1, h2⟩ := h
 unfold framedB declB
 simp only [Bool.or_eq_true, Bool.and_eq_true, beq_iff_eq, decide_eq_true_eq]
 omega
section
variable {p : List LClass} {m : LMeth} {c : Int}
theorem tin_kept (G : Good p) (hins : ∀ i ∈ m.code, insB p m i = true) : Kept p m (TIn p) :=
 ⟨fun _ _ _ hi hq _ _ e => next_tin G hins hi hq e, fun _ _ hq ht hl => join_tin hl hq ht⟩
theorem cert_frames (hF : formI p = 0) (hz : szProg p ≤ 4194304) {k : Int} (hown : ownM p c k = some m) {N : Nat} {r : SvSt} (e : solveN p m N (putP sv0 0 (beginS c m)) = some (some r)) : framesB p.length m (-1) (certL m r) = true ∧ (certL m r).length ≤ 40 := by
 obtain ⟨_, _, O⟩ := form_own hF hown
 have hs := form_sup hF
 have h6 := (form_all hF).1.2
 have hb := bareB_iff.1 (show bareB p.length m = true by
  have h := hown
  unfold ownM at h
  split at h
  ·cases hx : p[c.toNat]? with
   | none => rw [hx] at h; cases h
   | some x => rw [hx] at h; exact form_bare hF hx h
  ·cases h)
 have hk0 := hb.2.2.2.2.2.2.2.1
 have I0 := start_inv (p := p) (c := c) O.a7 hk0
 obtain ⟨I, _⟩ := solve_inv hs h6 O.ok.stk O.c40 O.ins N _ r I0 e
 have A0 : AllQ (TIn p) (putP sv0 0 (beginS c m)) := fun j hj hr => by
  by_cases ej : j = 0
  ·subst ej
   show TIn p (((List.replicate 40 zeroS).set 0 (beginS c m)).getD 0 zeroS)
   rw [getD_set_self (by simp)]
   exact begin_tin O
  ·have h' : ((List.replicate 40 false).set 0 true).getD j false = true := hr
   rw [getD_set_ne ej, List.getD_eq_getElem?_getD, List.getElem?_replicate] at h'
   split at h' <;> cases h'
 have A := solve_q hs h6 O.ok.stk O.c40 O.ins (tin_kept (form_good hF hz) O.ins) N _ r I0 A0 e
 have hl8 := hb.2.2.2.2.2.2.1
 have hl1 := hb.2.2.2.2.2.1
 have h40 := O.c40
 have hlen : ∀ n, (frmL m r n).length ≤ n := fun n => by
  induction n with
  | zero => exact Nat.le_refl _
  | succ n ih =>
   have hsplit : frmL m r (n + 1) = frmL m r n ++ (if r.re.getD n false then [frmAt m r n] else []) := rfl
   rw [hsplit, List.length_append]
   have : (if r.re.getD n false then [frmAt m r n] else []).length ≤ 1 := by split <;> simp
   omega
 refine ⟨framesB_iff.2 ⟨fun f hf => ?_, (frm_sorted m r _).filter _, fun f hf => ?_⟩, ?_⟩
 ·obtain ⟨j, h1, h2, rfl⟩ := frm_mem (List.mem_filter.1 hf).1
  show (-1 : Int) < (j : Int)
  omega
 ·obtain ⟨j, h1, h2, rfl⟩ := frm_mem (List.mem_filter.1 hf).1
  have ho := I.ok.ok j (by omega)
  have hT := A j (by omega) h2
  unfold frameB frmAt
  simp only [Bool.and_eq_true, decide_eq_true_eq, List.all_eq_true]
  refine ⟨⟨⟨⟨by omega, ?_⟩, ho.2⟩, fun t ht => ty_framed (hT.1 t (List.take_subset _ _ ht))⟩, fun t ht => ty_framed (hT.2 t ht)⟩
  rw [List.length_take, ho.1]
  omega
 ·have h1 := hlen m.code.length
  have h2 : (certL m r).length ≤ (frmL m r m.code.length).length := List.length_filter_le _ _
  omega
end
theorem form_same {p p' : List LClass} (S : SameP p p') (hF : formI p = 0) (hfr : ∀ (c k : Nat) (m' : LMeth), ownM p' c k = some m' → framesB p'.length m' (-1) m'.frames = true ∧ m'.frames.length ≤ 40) : formI p' = 0 := by
 obtain ⟨⟨h1, h6⟩, hcl, hco⟩ := form_all hF
 have hl := S.len
 have hins : ∀ (m m' : LMeth), SameM m m' → ∀ i, insB p' m' i = insB p m i := fun m m' h i => by
  unfold insB
  rw [h.locals, h.code, hl, fields_same S, methOf_same S]
 unfold formI
 rw [if_neg (by omega), if_pos, if_pos]
 ·rw [List.all_eq_true]
  intro x' hx'
  obtain ⟨j, hj⟩ := List.getElem?_of_mem hx'
  obtain ⟨x, hx⟩ : ∃ x, p[j]? = some x := ⟨_, List.getElem?_eq_getElem (by have := (List.getElem?_eq_some_iff.1 hj).1; omega)⟩
  have C := S.cls j x x' hx hj
  rw [List.all_eq_true]
  intro m' hm'
  obtain ⟨k, hk⟩ := List.getElem?_of_mem hm'
  obtain ⟨m, hm⟩ : ∃ m, x.meths[k]? = some m := ⟨_, List.getElem?_eq_getElem (by have := (List.getElem?_eq_some_iff.1 hk).1; have := C.len; omega)⟩
  have M := C.meth k m m' hm hk
  have hc := hco x (List.mem_of_getElem? hx) m (List.mem_of_getElem? hm)
  obtain ⟨f1, f2⟩ := hfr j k m' (by
   unfold ownM
   rw [if_pos ⟨by omega, by omega⟩, Int.toNat_natCast, Int.toNat_natCast, hj]
   exact hk)
  unfold codeB at hc ⊢
  simp only [Bool.and_eq_true, decide_eq_true_eq] at hc ⊢
  obtain ⟨⟨⟨⟨c1, c2⟩, _⟩, c4⟩, _⟩ := hc
  refine ⟨⟨⟨⟨by rw [M.code]; exact c1, by rw [M.code]; exact c2⟩, f2⟩, ?_⟩, f1⟩
  rw [M.code, List.all_eq_true]
  intro i hi
  rw [hins m m' M]
  exact List.all_eq_true.1 c4 i hi
 ·rw [List.all_eq_true]
  intro j hj
  unfold classB
  rcases get_same S.len j with ⟨g1, g2⟩ | ⟨x, x', g1, g2⟩
  ·rw [g2]
  ·rw [g2]
   dsimp only
   have C := S.cls j x x' g1 g2
   obtain ⟨s1, s2⟩ := hcl j x g1
   have hsup : supB j x' = true := by
    unfold supB at s1 ⊢
    rw [C.sup]
    exact s1
   rw [hsup, Bool.true_and]
   unfold restB at s2 ⊢
   simp only [Bool.and_eq_true, decide_eq_true_eq] at s2 ⊢
   obtain ⟨⟨⟨r1, r2⟩, r3⟩, r4⟩ := s2
   refine ⟨⟨⟨by rw [C.fields, hl]; exact r1, by rw [fields_same S]; exact r2⟩, by rw [C.len]; exact r3⟩, ?_⟩
   rw [C.len, List.all_eq_true]
   intro k hk
   have hk' := List.all_eq_true.1 r4 k hk
   rcases get_same C.len k with ⟨q1, q2⟩ | ⟨m, m', q1, q2⟩
   ·rw [q2]
   ·rw [q2]
    rw [q1] at hk'
    dsimp only at hk' ⊢
    have M := C.meth k m m' q1 q2
    unfold headB at hk' ⊢
    simp only [Bool.and_eq_true] at hk' ⊢
    obtain ⟨⟨b1, b2⟩, b3⟩ := hk'
    refine ⟨⟨?_, ?_⟩, ?_⟩
    ·unfold bareB at b1 ⊢
     rw [M.slot, M.args, M.ret, M.locals, M.stack, hl]
     exact b1
    ·rw [List.all_eq_true] at b2 ⊢
     intro o' ho'
     obtain ⟨i, hi⟩ := List.getElem?_of_mem ho'
     have hik : i < k := by
      have := (List.getElem?_eq_some_iff.1 hi).1
      rw [List.length_take] at this
      omega
     rw [List.getElem?_take_of_lt hik] at hi
     rcases get_same C.len i with ⟨z1, z2⟩ | ⟨o, o2, z1, z2⟩
     ·rw [z2] at hi; cases hi
     ·rw [z2] at hi
      cases hi
      have Mo := C.meth i o o' z1 z2
      rw [Mo.slot, M.slot]
      exact b2 o (by
       apply List.mem_of_getElem? (i := i)
       rw [List.getElem?_take_of_lt hik]
       exact z1)
    ·unfold overB at b3 ⊢
     rw [C.sup, M.slot, methOf_same S]
     cases hmo : methOf p x.sup m.slot with
     | none => rfl
     | some ck =>
      rw [hmo] at b3
      dsimp only at b3 ⊢
      unfold methAt at b3 ⊢
      rcases get_same S.len ck.1 with ⟨z1, z2⟩ | ⟨y, y', z1, z2⟩
      ·rw [z2]; rfl
      ·rw [z1] at b3
       rw [z2]
       rw [Option.bind_some] at b3 ⊢
       have Cy := S.cls _ y y' z1 z2
       rcases get_same Cy.len ck.2 with ⟨w1, w2⟩ | ⟨o, o', w1, w2⟩
       ·rw [w2]
       ·rw [w1] at b3
        rw [w2]
        dsimp only at b3 ⊢
        have Mo := Cy.meth _ o o' w1 w2
        rw [Mo.args, Mo.ret, M.args, M.ret]
        exact b3
end Go.Proofs.YtiiokkllmchohaaGreat
/- Certify, pure: what is sound passes with its frames; Certify of that is the same. -/
namespace Go.Proofs.YtiiokkllmchohaaGreat
open Go.RowKit Go.Shelf

def certM (m : LMeth) (r : SvSt) : LMeth := { m with frames := certL m r }
def certP (p : List LClass) (R : Nat → Nat → SvSt) : List LClass := p.mapIdx fun c x => { x with meths := x.meths.mapIdx fun k m => certM m (R c k) }
theorem certM_same (m : LMeth) (r : SvSt) : SameM m (certM m r) := ⟨rfl, rfl, rfl, rfl, rfl, rfl⟩
theorem certM_again (m : LMeth) (r r' : SvSt) : certM (certM m r) r' = certM m r' := by
 unfold certM
 have : certL { m with frames := certL m r } r' = certL m r' := by
  unfold certL
  have hf : ∀ n, frmL { m with frames := certL m r } r' n = frmL m r' n := fun n => by
   induction n with
   | zero => rfl
   | succ n ih =>
    unfold frmL
    rw [show frmL { m with frames := certL m r } r' n = frmL m r' n from ih]
  show (frmL { m with frames := certL m r } r' m.code.length).filter _ = _
  rw [hf]
  rfl
 show { m with frames := certL { m with frames := certL m r } r' } = _
 rw [this]
section
variable {p : List LClass} {R : Nat → Nat → SvSt}
theorem certP_get (c : Nat) : (certP p R)[c]? = (p[c]?).map fun x => { x with meths := x.meths.mapIdx fun k m => certM m (R c k) } := by
 unfold certP
 rw [List.getElem?_mapIdx]
theorem cert_same : SameP p (certP p R) := by
 refine ⟨by unfold certP; simp, fun j x x' h1 h2 => ?_⟩
 rw [certP_get, h1] at h2
 cases h2
 refine ⟨rfl, rfl, by simp, fun k m m' g1 g2 => ?_⟩
 rw [List.getElem?_mapIdx, g1] at g2
 cases g2
 exact certM_same _ _
theorem cert_own {c k : Nat} {m' : LMeth} (h : ownM (certP p R) c k = some m') : ∃ m, ownM p c k = some m ∧ m' = certM m (R c k) := by
 unfold ownM at h ⊢
 rw [if_pos ⟨by omega, by omega⟩, Int.toNat_natCast, Int.toNat_natCast] at h ⊢
 rw [certP_get] at h
 cases hx : p[c]? with
 | none => rw [hx] at h; cases h
 | some x =>
  rw [hx] at h
  rw [Option.bind_some]
  have h' : (x.meths.mapIdx fun k m => certM m (R c k))[k]? = some m' := h
  rw [List.getElem?_mapIdx] at h'
  obtain ⟨m, h1, h2⟩ := Option.map_eq_some_iff.1 h'
  exact ⟨m, h1, h2.symm⟩
def Sols (p : List LClass) (R : Nat → Nat → SvSt) : Prop := ∀ (c k : Nat) (m : LMeth), ownM p c k = some m → ∃ N, solveN p m N (putP sv0 0 (beginS c m)) = some (some (R c k))
theorem cert_sols (h : Sols p R) : Sols (certP p R) R := fun c k m' hm => by
 obtain ⟨m, h1, rfl⟩ := cert_own hm
 obtain ⟨N, h2⟩ := h c k m h1
 refine ⟨N, ?_⟩
 rw [solve_same cert_same (certM_same m _), begin_same (certM_same m _)]
 exact h2
theorem cert_form (hF : formI p = 0) (hz : szProg p ≤ 4194304) (h : Sols p R) : formI (certP p R) = 0 := by
 refine form_same cert_same hF (fun c k m' hm => ?_)
 obtain ⟨m, h1, rfl⟩ := cert_own hm
 obtain ⟨N, h2⟩ := h c k m h1
 obtain ⟨f1, f2⟩ := cert_frames hF hz h1 h2
 refine ⟨?_, f2⟩
 rw [cert_same.len]
 rw [framesB_iff] at f1 ⊢
 exact f1
theorem cert_passAll (hF : formI p = 0) (h : Sols p R) : ∀ (c k : Int) (m' : LMeth), ownM (certP p R) c k = some m' → passB (certP p R) c m' = true := fun c k m' hm => by
 have hck : 0 ≤ c ∧ 0 ≤ k := by
  unfold ownM at hm
  split at hm
  ·rename_i h; exact h
  ·cases hm
 obtain ⟨c', rfl⟩ := Int.eq_ofNat_of_zero_le hck.1
 obtain ⟨k', rfl⟩ := Int.eq_ofNat_of_zero_le hck.2
 obtain ⟨m, h1, rfl⟩ := cert_own hm
 obtain ⟨N, h2⟩ := h c' k' m h1
 rw [pass_same cert_same]
 have hS : SameP p p := ⟨rfl, fun j x x' a b => by
  rw [a] at b
  cases b
  refine ⟨rfl, rfl, rfl, fun k m m' a b => ?_⟩
  rw [a] at b
  cases b
  exact ⟨rfl, rfl, rfl, rfl, rfl, rfl⟩⟩
 exact cert_passes hF h1 h2 rfl rfl (fun i s => next_same hS (certM_same m _) i s) rfl
theorem cert_again : certP (certP p R) R = certP p R := by
 apply List.ext_getElem?
 intro c
 rw [certP_get, certP_get]
 cases p[c]? with
 | none => rfl
 | some x =>
  show some _ = some _
  congr 1
  have : ((x.meths.mapIdx fun k m => certM m (R c k)).mapIdx fun k m => certM m (R c k)) = x.meths.mapIdx fun k m => certM m (R c k) := by
   apply List.ext_getElem?
   intro k
   rw [List.getElem?_mapIdx, List.getElem?_mapIdx]
   cases x.meths[k]? with
   | none => rfl
   | some m =>
    show some (certM (certM m (R c k)) (R c k)) = some (certM m (R c k))
    rw [certM_again]
  show (⟨x.sup, x.fields, _⟩ : LClass) = ⟨x.sup, x.fields, _⟩
  rw [this]
end
end Go.Proofs.YtiiokkllmchohaaGreat
/- The places that Certify marks (pure). -/
namespace Go.Proofs.YtiiokkllmchohaaGreat
open Go.RowKit Go.Shelf

def jumpTo (m : LMeth) (l : List LFrame) (k : Nat) : Bool := l.any fun f => jumpsB (insAt m f.pc.toNat) && ((insAt m f.pc.toNat).a.toNat == k)
theorem frm_in {m : LMeth} {r : SvSt} : ∀ {n k : Nat}, k < n → r.re.getD k false = true → frmAt m r k ∈ frmL m r n
 | 0, k, h, _ => by omega
 | n + 1, k, h, hr => by
  have hsplit : frmL m r (n + 1) = frmL m r n ++ (if r.re.getD n false then [frmAt m r n] else []) := rfl
  rw [hsplit]
  by_cases e : k = n
  ·subst e
   rw [if_pos hr]
   simp
  ·exact List.mem_append.2 (.inl (frm_in (by omega) hr))
theorem jumpTo_plac (m : LMeth) (r : SvSt) (k : Nat) : jumpTo m (frmL m r m.code.length) k = placB m r k := by
 rw [Bool.eq_iff_iff, placB_iff]
 unfold jumpTo
 rw [List.any_eq_true]
 constructor
 ·rintro ⟨f, hf, h⟩
  obtain ⟨i, h1, h2, rfl⟩ := frm_mem hf
  have e : (frmAt m r i).pc.toNat = i := Int.toNat_natCast i
  rw [e] at h
  simp only [Bool.and_eq_true, beq_iff_eq] at h
  exact ⟨i, h1, h2, h.1, h.2⟩
 ·rintro ⟨i, h1, h2, h3, h4⟩
  refine ⟨frmAt m r i, frm_in h1 h2, ?_⟩
  have e : (frmAt m r i).pc.toNat = i := Int.toNat_natCast i
  rw [e, Bool.and_eq_true, beq_iff_eq]
  exact ⟨h3, h4⟩
theorem certL_eq (m : LMeth) (r : SvSt) : certL m r = (frmL m r m.code.length).filter fun f => jumpTo m (frmL m r m.code.length) f.pc.toNat := by
 unfold certL
 congr 1
 funext f
 rw [jumpTo_plac]
end Go.Proofs.YtiiokkllmchohaaGreat
/- Certify, pure: how the methods' rounds end. -/
namespace Go.Proofs.YtiiokkllmchohaaGreat
open Go.RowKit Go.Shelf

def Ends (p : List LClass) (Q : Nat → Nat → Option SvSt) : Prop := ∀ (c k : Nat) (m : LMeth), ownM p c k = some m → ∃ N, solveN p m N (putP sv0 0 (beginS c m)) = some (Q c k)
def AllS (p : List LClass) (Q : Nat → Nat → Option SvSt) : Prop := ∀ (c k : Nat) (m : LMeth), ownM p c k = some m → Q c k ≠ none
def getR (Q : Nat → Nat → Option SvSt) (c k : Nat) : SvSt := (Q c k).getD sv0
section
variable {p : List LClass} {Q : Nat → Nat → Option SvSt} {R : Nat → Nat → SvSt}
theorem ends_ex (hF : formI p = 0) : ∃ Q, Ends p Q := by
 have key : ∀ c k : Nat, ∃ q : Option SvSt, ∀ m, ownM p c k = some m → ∃ N, solveN p m N (putP sv0 0 (beginS c m)) = some q := fun c k => by
  cases h : ownM p c k with
  | none => exact ⟨none, fun m e => (by cases e)⟩
  | some m =>
   obtain ⟨N, r, hr⟩ := infer_ends hF h
   exact ⟨r, fun m' e => by cases e; exact ⟨N, hr⟩⟩
 exact ⟨fun c k => (key c k).choose, fun c k m h => (key c k).choose_spec m h⟩
theorem ends_sols (h : Ends p Q) (a : AllS p Q) : Sols p (getR Q) := fun c k m hm => by
 obtain ⟨N, hN⟩ := h c k m hm
 refine ⟨N, ?_⟩
 rw [hN]
 have := a c k m hm
 unfold getR
 cases hq : Q c k with
 | none => exact absurd hq this
 | some r => rfl
theorem cert_ends (h : Ends p Q) (a : AllS p Q) : Ends (certP p (getR Q)) Q ∧ AllS (certP p (getR Q)) Q := by
 have hs := ends_sols h a
 refine ⟨fun c k m' hm => ?_, fun c k m' hm => ?_⟩
 ·obtain ⟨N, hN⟩ := cert_sols hs c k m' hm
  obtain ⟨m, h1, _⟩ := cert_own hm
  refine ⟨N, ?_⟩
  rw [hN]
  have := a c k m h1
  unfold getR
  cases hq : Q c k with
  | none => exact absurd hq this
  | some r => rfl
 ·obtain ⟨m, h1, _⟩ := cert_own hm
  exact a c k m h1
theorem framed_I64 {n t : Int} (hn : n ≤ 4194304) (h : framedB n t = true) : I64 t := by
 unfold framedB declB at h
 unfold I64
 simp at h
 omega
theorem cert_wf (hwf : wfProg p) (hF : formI p = 0) (hz : szProg p ≤ 4194304) (h : Sols p R) : wfProg (certP p R) := by
 intro x' hx'
 obtain ⟨c, hc⟩ := List.getElem?_of_mem hx'
 rw [certP_get] at hc
 cases hx : p[c]? with
 | none => rw [hx] at hc; cases hc
 | some x =>
  rw [hx] at hc
  cases hc
  have hxm := List.mem_of_getElem? hx
  obtain ⟨w1, w2, w3⟩ := hwf x hxm
  refine ⟨w1, w2, fun m' hm' => ?_⟩
  obtain ⟨k, hk⟩ := List.getElem?_of_mem hm'
  have hk' : (x.meths.mapIdx fun k m => certM m (R c k))[k]? = some m' := hk
  rw [List.getElem?_mapIdx] at hk'
  obtain ⟨m, h1, rfl⟩ := Option.map_eq_some_iff.1 hk'
  obtain ⟨g1, g2, g3, g4, g5, g6, _⟩ := w3 m (List.mem_of_getElem? h1)
  refine ⟨g1, g2, g3, g4, g5, g6, fun f hf => ?_⟩
  have hown : ownM p (c : Int) (k : Int) = some m := by
   unfold ownM
   rw [if_pos ⟨by omega, by omega⟩, Int.toNat_natCast, Int.toNat_natCast, hx]
   exact h1
  obtain ⟨N, hN⟩ := h c k m hown
  have hpl : (p.length : Int) ≤ 4194304 := by have := Nat.le_trans (szProg_len p) hz; omega
  obtain ⟨q1, _, q3⟩ := framesB_iff.1 (cert_frames hF hz hown hN).1
  have a1 := q1 f hf
  have a3 := q3 f hf
  unfold frameB at a3
  simp only [Bool.and_eq_true, decide_eq_true_eq, List.all_eq_true] at a3
  obtain ⟨⟨⟨⟨b1, _⟩, _⟩, b4⟩, b5⟩ := a3
  have hc40 := (form_own hF hown).2.2.c40
  exact ⟨⟨by omega, by omega⟩, fun t ht => framed_I64 hpl (b4 t ht), fun t ht => framed_I64 hpl (b5 t ht)⟩
end
end Go.Proofs.YtiiokkllmchohaaGreat
/- Marks, and what is kept by them (pure). -/
namespace Go.Proofs.YtiiokkllmchohaaGreat
open Go.RowKit Go.Shelf

theorem onward_jump (x : LIns) (pc k : Nat) : ((onwardL x pc).any fun y => y.2 && y.1.toNat == k) = (jumpsB x && x.a.toNat == k) := by
 unfold onwardL
 cases jumpsB x <;> cases fallsB x <;> simp
theorem jumpTo_snoc {m : LMeth} {l : List LFrame} {i : Nat} (h : i < l.length) (k : Nat) : jumpTo m (l.take (i + 1)) k = (jumpTo m (l.take i) k || (jumpsB (insAt m l[i].pc.toNat) && ((insAt m l[i].pc.toNat).a.toNat == k))) := by
 unfold jumpTo
 rw [List.take_add_one, List.getElem?_eq_getElem h, List.any_append]
 simp
theorem filter_snoc {q : LFrame → Bool} {l : List LFrame} {i : Nat} (h : i < l.length) : (l.take (i + 1)).filter q = (l.take i).filter q ++ (if q l[i] then [l[i]] else []) := by
 rw [List.take_add_one, List.getElem?_eq_getElem h, List.filter_append]
 congr 1
 simp [List.filter_cons]
def mrk (n : Nat) (f : Nat → Bool) : List Bool := (List.range n).map f
theorem mrk_set {n j : Nat} {f f' : Nat → Bool} (hf : ∀ k, f' k = (f k || (j == k))) : (mrk n f).set j true = mrk n f' := by
 apply List.ext_getElem?
 intro i
 unfold mrk
 rw [List.getElem?_set, List.getElem?_map, List.getElem?_map]
 by_cases e : j = i
 ·subst e
  rw [if_pos rfl]
  by_cases h : j < n
  ·rw [if_pos (by simpa using h), List.getElem?_range h, Option.map_some, hf]; simp
  ·rw [if_neg (by simpa using h), List.getElem?_eq_none (by simpa using h)]; rfl
 ·rw [if_neg e]
  by_cases h : i < n
  ·rw [List.getElem?_range h, Option.map_some, Option.map_some, hf, show (j == i) = false by simpa using e, Bool.or_false]
  ·rw [List.getElem?_eq_none (by simpa using h)]; rfl
theorem mrk_get {n j : Nat} {f : Nat → Bool} (h : j < n) : (mrk n f)[j]? = some (f j) := by
 unfold mrk
 rw [List.getElem?_map, List.getElem?_range h]; rfl
end Go.Proofs.YtiiokkllmchohaaGreat
