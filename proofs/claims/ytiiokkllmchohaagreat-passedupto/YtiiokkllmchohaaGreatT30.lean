/- Certify, pure: how the methods' rounds end. -/
import Derived.Test.YtiiokkllmchohaaGreatT23
import Derived.Test.YtiiokkllmchohaaGreatT27
import Derived.Test.YtiiokkllmchohaaGreatT28
import Derived.Test.YtiiokkllmchohaaGreatT29
namespace Go.Proofs.YtiiokkllmchohaaGreat
open Go.RowKit Go.Shelf
def Ends (p : List LClass) (Q : Nat → Nat → Option SvSt) : Prop := ∀ (c k : Nat) (m : LMeth), ownM p c k = some m → ∃ N, solveN p m N (putP sv0 0 (beginS c m)) = some (Q c k)
def AllS (p : List LClass) (Q : Nat → Nat → Option SvSt) : Prop := ∀ (c k : Nat) (m : LMeth), ownM p c k = some m → Q c k ≠ none
def getR (Q : Nat → Nat → Option SvSt) (c k : Nat) : SvSt := (Q c k).getD sv0
section
variable {p : List LClass} {Q : Nat → Nat → Option SvSt} {R : Nat → Nat → SvSt}
theorem ends_ex (hF : formI p = 0) : ∃ Q, Ends p Q := by
 have key : ∀ c k : Nat, ∃ q : Option SvSt, ∀ m, ownM p c k = some m → ∃ N, solveN p m N (putP sv0 0 (beginS c m)) = some q := fun c k => by
  cases h : ownM p c k with
  | none => exact ⟨none, fun m e => (by cases e)⟩
  | some m =>
   obtain ⟨N, r, hr⟩ := infer_ends hF h
   exact ⟨r, fun m' e => by cases e; exact ⟨N, hr⟩⟩
 exact ⟨fun c k => (key c k).choose, fun c k m h => (key c k).choose_spec m h⟩
theorem ends_sols (h : Ends p Q) (a : AllS p Q) : Sols p (getR Q) := fun c k m hm => by
 obtain ⟨N, hN⟩ := h c k m hm
 refine ⟨N, ?_⟩
 rw [hN]
 have := a c k m hm
 unfold getR
 cases hq : Q c k with
 | none => exact absurd hq this
 | some r => rfl
theorem framed_I64 {n t : Int} (hn : n ≤ 4194304) (h : framedB n t = true) : I64 t := by
 unfold framedB declB at h
 unfold I64
 simp at h
 omega
theorem cert_wf (hwf : wfProg p) (hF : formI p = 0) (hz : szProg p ≤ 4194304) (h : Sols p R) : wfProg (certP p R) := by
 intro x' hx'
 obtain ⟨c, hc⟩ := List.getElem?_of_mem hx'
 rw [certP_get] at hc
 cases hx : p[c]? with
 | none => rw [hx] at hc; cases hc
 | some x =>
  rw [hx] at hc
  cases hc
  have hxm := List.mem_of_getElem? hx
  obtain ⟨w1, w2, w3⟩ := hwf x hxm
  refine ⟨w1, w2, fun m' hm' => ?_⟩
  obtain ⟨k, hk⟩ := List.getElem?_of_mem hm'
  have hk' : (x.meths.mapIdx fun k m => certM m (R c k))[k]? = some m' := hk
  rw [List.getElem?_mapIdx] at hk'
  obtain ⟨m, h1, rfl⟩ := Option.map_eq_some_iff.1 hk'
  obtain ⟨g1, g2, g3, g4, g5, g6, _⟩ := w3 m (List.mem_of_getElem? h1)
  refine ⟨g1, g2, g3, g4, g5, g6, fun f hf => ?_⟩
  have hown : ownM p (c : Int) (k : Int) = some m := by
   unfold ownM
   rw [if_pos ⟨by omega, by omega⟩, Int.toNat_natCast, Int.toNat_natCast, hx]
   exact h1
  obtain ⟨N, hN⟩ := h c k m hown
  have hpl : (p.length : Int) ≤ 4194304 := by have := Nat.le_trans (szProg_len p) hz; omega
  obtain ⟨q1, _, q3⟩ := framesB_iff.1 (cert_frames hF hz hown hN).1
  have a1 := q1 f hf
  have a3 := q3 f hf
  unfold frameB at a3
  simp only [Bool.and_eq_true, decide_eq_true_eq, List.all_eq_true] at a3
  obtain ⟨⟨⟨⟨b1, _⟩, _⟩, b4⟩, b5⟩ := a3
  have hc40 := (form_own hF hown).2.2.c40
  exact ⟨⟨by omega, by omega⟩, fun t ht => framed_I64 hpl (b4 t ht), fun t ht => framed_I64 hpl (b5 t ht)⟩
end
def chgB (p : List LClass) (i : Nat) (g : TSt) (s : SvSt) : Bool := !(s.re.getD i false && belowS p g (s.st.getD i zeroS))
def rReach (p : List LClass) (n : TSt) : List (Int × Bool) → SvSt × Bool → Option (SvSt × Bool)
 | [], x => some x
 | y :: l, x => (reachP p y.1.toNat n x.1).bind fun s' => rReach p n l (s', x.2 || chgB p y.1.toNat n x.1)
def rAt (p : List LClass) (m : LMeth) (i : Nat) (x : SvSt × Bool) : Option (SvSt × Bool) :=
 if x.1.re.getD i false then (nextS p m i (x.1.st.getD i zeroS)).bind fun n => rReach p n (onwardL (insAt m i) i).reverse x else some x
def rRound (p : List LClass) (m : LMeth) (s : SvSt) : Nat → Option (SvSt × Bool)
 | 0 => some (s, false)
 | k + 1 => (rRound p m s k).bind (rAt p m k)
def rSolve (p : List LClass) (m : LMeth) : Nat → SvSt → Option (Option SvSt)
 | 0, _ => none
 | n + 1, s => match rRound p m s m.code.length with
  | none => some none
  | some (s', true) => rSolve p m n s'
  | some (s', false) => some (some s')
section
variable {p : List LClass} {m : LMeth} {c : Int} {σ : Nat → Option TSt}
theorem rReach_all {n : TSt} : ∀ {l : List (Int × Bool)} {x x' : SvSt × Bool}, rReach p n l x = some x' → reachAll p n l x.1 = some x'.1
 | [], x, x', e => by cases e; rfl
 | y :: l, x, x', e => by
  unfold rReach at e
  obtain ⟨s1, e1, e2⟩ := bind_iff e
  unfold reachAll
  rw [e1, Option.bind_some]
  exact rReach_all e2
theorem all_rReach {n : TSt} : ∀ {l : List (Int × Bool)} {x : SvSt × Bool} {s' : SvSt}, reachAll p n l x.1 = some s' → ∃ b, rReach p n l x = some (s', b)
 | [], x, s', e => by cases e; exact ⟨x.2, rfl⟩
 | y :: l, x, s', e => by
  unfold reachAll at e
  obtain ⟨s1, e1, e2⟩ := bind_iff e
  unfold rReach
  rw [e1, Option.bind_some]
  exact all_rReach (x := (s1, x.2 || chgB p y.1.toNat n x.1)) e2
theorem reach_mu (hs : SupOk p p.length) (h6 : p.length ≤ 6) (h8 : m.stack ≤ 8) {s s' : SvSt} (h : SvOk p m s) {i : Nat} (hi : i < 40) {g : TSt} (hl : g.loc.length = 8) (hk : (g.stk.length : Int) ≤ m.stack) (e : reachP p i g s = some s') : (chgB p i g s = false → s' = s) ∧ (chgB p i g s = true → mu p s' < mu p s) := by
 unfold reachP at e
 unfold chgB
 split at e
 ·rename_i hre
  rw [hre, Bool.true_and]
  split at e
  ·rename_i hb
   cases e
   rw [hb]
   exact ⟨fun _ => rfl, fun h => by cases h⟩
  ·rename_i hb
   split at e
   ·rename_i hn
    cases e
    refine ⟨fun h => absurd (by simpa using h) hb, fun _ => ?_⟩
    exact (put_mu h hi (g := joinS p (s.st.getD i zeroS) g) (by rw [if_pos hre]; exact rankS_join hs h6 (h.ok i hi).1 hl hn hb)).1
   ·cases e
 ·rename_i hre
  cases e
  have hre' : s.re.getD i false = false := by simpa using hre
  rw [hre']
  refine ⟨fun h => (by cases h), fun _ => ?_⟩
  exact (put_mu h hi (g := g) (by rw [if_neg hre]; have := rankS_le hs h6 hl (by omega); omega)).1
theorem rReach_mu (hs : SupOk p p.length) (h6 : p.length ≤ 6) (h8 : m.stack ≤ 8) {n : TSt} (hl : n.loc.length = 8) (hk : (n.stk.length : Int) ≤ m.stack) : ∀ (l : List (Int × Bool)) (x x' : SvSt × Bool), SvOk p m x.1 → (∀ y ∈ l, y.1.toNat < 40) → rReach p n l x = some x' → (x'.2 = false → x'.1 = x.1 ∧ x.2 = false) ∧ mu p x'.1 ≤ mu p x.1 ∧ (x'.2 = true → x.2 = true ∨ mu p x'.1 < mu p x.1)
 | [], x, x', O, _, e => by
  cases e
  exact ⟨fun h => ⟨rfl, h⟩, Nat.le_refl _, fun h => .inl h⟩
 | y :: l, x, x', O, hy, e => by
  unfold rReach at e
  obtain ⟨s1, e1, e2⟩ := bind_iff e
  obtain ⟨a1, a2⟩ := reach_mu hs h6 h8 O (hy y (by simp)) hl hk e1
  obtain ⟨O1, _⟩ := reach_msr hs h6 h8 O (hy y (by simp)) hl hk e1
  obtain ⟨b1, b2, b3⟩ := rReach_mu hs h6 h8 hl hk l _ x' O1 (fun z hz => hy z (by simp [hz])) e2
  dsimp only at b1 b2 b3
  cases hc : chgB p y.1.toNat n x.1 with
  | false =>
   obtain rfl := a1 hc
   rw [hc, Bool.or_false] at b1 b3
   exact ⟨b1, b2, b3⟩
  | true =>
   have := a2 hc
   rw [hc, Bool.or_true] at b1 b3
   exact ⟨fun h => (by have := (b1 h).2; cases this), by omega, fun _ => .inr (by omega)⟩
theorem rAt_up (hs : SupOk p p.length) (h6 : p.length ≤ 6) (h8 : m.stack ≤ 8) (h40 : m.code.length ≤ 40) (hins : ∀ i ∈ m.code, insB p m i = true) {i : Nat} (hi : i < m.code.length) {x x' : SvSt × Bool} (O : SvOk p m x.1) (e : rAt p m i x = some x') :
  SvOk p m x'.1 ∧ Up p x.1 x'.1 ∧ (x'.2 = false → x'.1 = x.1 ∧ x.2 = false ∧ (x.1.re.getD i false = true → Done p m x.1 i)) ∧ mu p x'.1 ≤ mu p x.1 ∧ (x'.2 = true → x.2 = true ∨ mu p x'.1 < mu p x.1) := by
 unfold rAt at e
 split at e
 ·rename_i hr
  obtain ⟨n, g1, g2⟩ := bind_iff e
  have ho := O.ok i (by omega)
  obtain ⟨n1, n2⟩ := next_len g1 ho.1 ho.2
  have hin := onward_in hi hins g1
  have hy40 : ∀ y ∈ (onwardL (insAt m i) i).reverse, y.1.toNat < 40 := fun y hy => by have := hin y (List.mem_reverse.1 hy); omega
  have g3 := rReach_all g2
  obtain ⟨u1, u2⟩ := reachAll_up hs h6 h8 n1 n2 _ _ _ O hy40 g3
  obtain ⟨O1, _⟩ := reachAll_msr hs h6 h8 n1 n2 _ _ _ O hy40 g3
  obtain ⟨b1, b2, b3⟩ := rReach_mu hs h6 h8 n1 n2 _ _ _ O hy40 g2
  refine ⟨O1, u1, fun h => ?_, b2, b3⟩
  obtain ⟨c1, c2⟩ := b1 h
  refine ⟨c1, c2, fun _ => ⟨n, g1, fun y hy => ?_⟩⟩
  have := u2 y (List.mem_reverse.2 hy)
  rw [c1] at this
  exact this
 ·rename_i hr
  cases e
  exact ⟨O, Up.refl O, fun h => ⟨rfl, h, fun h => absurd h hr⟩, Nat.le_refl _, fun h => .inl h⟩
theorem rRound_up (hs : SupOk p p.length) (h6 : p.length ≤ 6) (h8 : m.stack ≤ 8) (h40 : m.code.length ≤ 40) (hins : ∀ i ∈ m.code, insB p m i = true) {s : SvSt} (O : SvOk p m s) : ∀ (k : Nat) (x' : SvSt × Bool), k ≤ m.code.length → rRound p m s k = some x' →
  SvOk p m x'.1 ∧ Up p s x'.1 ∧ (x'.2 = false → x'.1 = s ∧ ∀ i, i < k → s.re.getD i false = true → Done p m s i) ∧ mu p x'.1 ≤ mu p s ∧ (x'.2 = true → mu p x'.1 < mu p s)
 | 0, x', _, e => by
  cases e
  exact ⟨O, Up.refl O, fun _ => ⟨rfl, fun i h => by omega⟩, Nat.le_refl _, fun h => by cases h⟩
 | k + 1, x', hk, e => by
  unfold rRound at e
  obtain ⟨x1, e1, e2⟩ := bind_iff e
  obtain ⟨O1, U1, d1, m1, c1⟩ := rRound_up hs h6 h8 h40 hins O k x1 (by omega) e1
  obtain ⟨O2, U2, d2, m2, c2⟩ := rAt_up hs h6 h8 h40 hins (by omega) O1 e2
  refine ⟨O2, U1.trans hs U2, fun h => ?_, by omega, fun h => ?_⟩
  ·obtain ⟨f1, f2, f3⟩ := d2 h
   obtain ⟨g1, g2⟩ := d1 f2
   rw [g1] at f1 f3
   refine ⟨f1, fun i hi hr => ?_⟩
   by_cases ei : i = k
   ·subst ei; exact f3 hr
   ·exact g2 i (by omega) hr
  ·rcases c2 h with h1 | h1
   ·have := c1 h1; omega
   ·omega
structure RFin (p : List LClass) (c : Int) (m : LMeth) (s : SvSt) : Prop where
 ok : SvOk p m s
 beg : s.re.getD 0 false = true ∧ LeT p (beginS c m) (s.st.getD 0 zeroS)
 dn : ∀ i, i < m.code.length → s.re.getD i false = true → Done p m s i
theorem rSolve_fin (hs : SupOk p p.length) (h6 : p.length ≤ 6) (h8 : m.stack ≤ 8) (h40 : m.code.length ≤ 40) (hins : ∀ i ∈ m.code, insB p m i = true) : ∀ (n : Nat) (s r : SvSt), SvOk p m s → s.re.getD 0 false = true → LeT p (beginS c m) (s.st.getD 0 zeroS) → rSolve p m n s = some (some r) → RFin p c m r
 | 0, s, r, _, _, _, e => by cases e
 | n + 1, s, r, O, b1, b2, e => by
  unfold rSolve at e
  cases hq : rRound p m s m.code.length with
  | none => rw [hq] at e; cases e
  | some x =>
   obtain ⟨s', b⟩ := x
   rw [hq] at e
   obtain ⟨O1, U1, d1, _, _⟩ := rRound_up hs h6 h8 h40 hins O _ _ (Nat.le_refl _) hq
   cases b with
   | true => exact rSolve_fin hs h6 h8 h40 hins n s' r O1 (U1.re 0 (by omega) b1) (b2.trans hs (U1.le 0 (by omega) b1)) e
   | false =>
    cases e
    obtain ⟨h2, h3⟩ := d1 rfl
    dsimp only at h2
    subst h2
    exact ⟨O1, ⟨b1, b2⟩, h3⟩
theorem rSolve_ends (hs : SupOk p p.length) (h6 : p.length ≤ 6) (h8 : m.stack ≤ 8) (h40 : m.code.length ≤ 40) (hins : ∀ i ∈ m.code, insB p m i = true) : ∀ (n : Nat) (s : SvSt), SvOk p m s → mu p s < n → ∃ r, rSolve p m n s = some r
 | 0, s, _, h => by omega
 | n + 1, s, O, h => by
  unfold rSolve
  cases hq : rRound p m s m.code.length with
  | none => exact ⟨none, rfl⟩
  | some x =>
   obtain ⟨s', b⟩ := x
   obtain ⟨O1, _, _, m1, c1⟩ := rRound_up hs h6 h8 h40 hins O _ _ (Nat.le_refl _) hq
   cases b with
   | true => exact rSolve_ends hs h6 h8 h40 hins n s' O1 (by have := c1 rfl; dsimp only at this; omega)
   | false => exact ⟨some s', rfl⟩
def solOf (s : SvSt) (i : Nat) : Option TSt := if s.re.getD i false then some (s.st.getD i zeroS) else none
theorem RFin.sol {s : SvSt} (F : RFin p c m s) : Sol p c m (solOf s) := by
 refine ⟨⟨s.st.getD 0 zeroS, by unfold solOf; rw [if_pos F.beg.1], F.beg.2⟩, fun i t hi ht => ?_⟩
 unfold solOf at ht
 split at ht
 ·rename_i hr
  cases ht
  obtain ⟨n, h1, h2⟩ := F.dn i hi hr
  exact ⟨n, h1, fun y hy => ⟨_, by unfold solOf; rw [if_pos (h2 y hy).1], (h2 y hy).2⟩⟩
 ·cases ht
theorem rRound_bel (hF : formI p = 0) (hz : szProg p ≤ 4194304) {k : Int} (hown : ownM p c k = some m) (S : Sol p c m σ) {s : SvSt} (O : SvOk p m s) (B : SvBel p σ s) : ∀ (n : Nat), n ≤ m.code.length → ∃ x', rRound p m s n = some x' ∧ SvBel p σ x'.1 ∧ SvOk p m x'.1
 | 0, _ => ⟨(s, false), rfl, B, O⟩
 | n + 1, hn => by
  have hs := form_sup hF
  have G := form_good hF hz
  obtain ⟨_, _, M⟩ := form_own hF hown
  have h6 := (form_all hF).1.2
  have h40 := M.c40
  obtain ⟨x1, e1, B1, O1⟩ := rRound_bel hF hz hown S O B n (by omega)
  unfold rRound
  rw [e1, Option.bind_some]
  unfold rAt
  split
  ·rename_i hr
   obtain ⟨t, h1, h2⟩ := B1.le n (by omega) hr
   obtain ⟨n', g1, g2⟩ := S.go n t (by omega) h1
   obtain ⟨u, f1, f2⟩ := next_mono hs M.ins M.ok.loc (by omega) h2 g1
   have ho := O1.ok n (by omega)
   obtain ⟨n1, n2⟩ := next_len f1 ho.1 ho.2
   have hin := onward_in (by omega) M.ins f1
   have hT := next_tin G M.ins (by omega) (B1.ty n (by omega) hr) f1
   obtain ⟨s', e2, B2, O2⟩ := reachAll_bel (σ := σ) hs h6 M.ok.stk n1 n2 hT (onwardL (insAt m n) n).reverse x1.1 O1 B1 (fun y hy => by
    have hy' := List.mem_reverse.1 hy
    obtain ⟨t', k1, k2⟩ := g2 y hy'
    exact ⟨by have := hin y hy'; omega, t', k1, f2.trans hs k2⟩)
   obtain ⟨b, e3⟩ := all_rReach e2
   exact ⟨(s', b), by rw [f1, Option.bind_some, e3], B2, O2⟩
  ·exact ⟨x1, rfl, B1, O1⟩
theorem rSolve_bel (hF : formI p = 0) (hz : szProg p ≤ 4194304) {k : Int} (hown : ownM p c k = some m) (S : Sol p c m σ) : ∀ (n : Nat) (s : SvSt) (r : Option SvSt), SvOk p m s → SvBel p σ s → rSolve p m n s = some r → ∃ t, r = some t ∧ SvBel p σ t
 | 0, s, r, _, _, e => by cases e
 | n + 1, s, r, O, B, e => by
  obtain ⟨x1, e1, B1, O1⟩ := rRound_bel hF hz hown S O B m.code.length (Nat.le_refl _)
  unfold rSolve at e
  rw [e1] at e
  obtain ⟨s', b⟩ := x1
  cases b with
  | true => exact rSolve_bel hF hz hown S n s' r O1 B1 e
  | false =>
   cases e
   exact ⟨s', rfl, B1⟩
theorem LeL.anti (hs : SupOk p p.length) (h6 : p.length ≤ 6) {l u : List Int} (h1 : LeL p l u) (h2 : LeL p u l) : l = u := by
 have hl := h1.len
 have a1 := (LeL.iff hl).1 h1
 have a2 := (LeL.iff hl.symm).1 h2
 apply List.ext_getElem hl
 intro i hi hi'
 have b1 := a1 i hi
 have b2 := a2 i hi'
 rw [List.getD_eq_getElem?_getD, List.getD_eq_getElem?_getD, List.getElem?_eq_getElem hi, List.getElem?_eq_getElem hi'] at b1 b2
 dsimp only [Option.getD_some] at b1 b2
 have c1 := rank_mono hs h6 b1
 have c2 := rank_mono hs h6 b2
 by_cases e : l[i] = u[i]
 ·exact e
 ·have := c1.2 e
  have := c2.1
  omega
theorem LeT.anti (hs : SupOk p p.length) (h6 : p.length ≤ 6) {s t : TSt} (h1 : LeT p s t) (h2 : LeT p t s) : s = t := by
 obtain ⟨sl, sk⟩ := s
 obtain ⟨tl, tk⟩ := t
 have hsl := h1.sl
 have htl := h1.tl
 obtain rfl : sl = tl := LeL.anti hs h6 ((LeL.iff (by rw [hsl, htl])).2 fun i hi => h1.l i (by rw [hsl] at hi; exact hi)) ((LeL.iff (by rw [hsl, htl])).2 fun i hi => h2.l i (by rw [htl] at hi; exact hi))
 obtain rfl : sk = tk := LeL.anti hs h6 h1.k h2.k
 rfl
theorem solvers_same (hF : formI p = 0) (hz : szProg p ≤ 4194304) {k : Int} (hown : ownM p c k = some m) {N M : Nat} {r r' : Option SvSt} (e : solveN p m N (putP sv0 0 (beginS c m)) = some r) (e' : rSolve p m M (putP sv0 0 (beginS c m)) = some r') :
  (r = none ↔ r' = none) ∧ ∀ s s', r = some s → r' = some s' → ∀ i, i < 40 → s.re.getD i false = s'.re.getD i false ∧ (s.re.getD i false = true → s.st.getD i zeroS = s'.st.getD i zeroS) := by
 have hs := form_sup hF
 obtain ⟨_, _, O⟩ := form_own hF hown
 have h6 := (form_all hF).1.2
 have hk0 : 0 ≤ m.stack := by have := O.bg.2.2; have h : ((beginS c m).stk.length : Int) = 0 := rfl; omega
 have I := start_inv (p := p) (c := c) O.a7 hk0
 have fin : ∀ s, r = some s → RFin p c m s := fun s h => by
  subst h
  obtain ⟨I1, h1⟩ := solve_inv hs h6 O.ok.stk O.c40 O.ins N _ _ I e
  exact ⟨I1.ok, I1.beg, fun i hi hr => I1.dn i hi hr (h1 i hi)⟩
 have fin' : ∀ s, r' = some s → RFin p c m s := fun s h => by
  subst h
  exact rSolve_fin hs h6 O.ok.stk O.c40 O.ins M _ _ I.ok I.beg.1 I.beg.2 e'
 have bel : ∀ s s', r = some s → r' = some s' → SvBel p (solOf s) s' := fun s s' h h' => by
  have S := (fin s h).sol
  obtain ⟨t, h1, h2⟩ := rSolve_bel hF hz hown S M _ r' I.ok (start_bel O hk0 S) e'
  rw [h'] at h1
  cases h1
  exact h2
 have bel' : ∀ s s', r = some s → r' = some s' → SvBel p (solOf s') s := fun s s' h h' => by
  have S := (fin' s' h').sol
  obtain ⟨t, h1, h2⟩ := solve_bel hF hz hown S N _ r I (start_bel O hk0 S) e
  rw [h] at h1
  cases h1
  exact h2
 refine ⟨⟨fun h => ?_, fun h => ?_⟩, fun s s' h h' i hi => ?_⟩
 ·cases hr : r' with
  | none => rfl
  | some s' =>
   have S := (fin' s' hr).sol
   obtain ⟨t, h1, _⟩ := solve_bel hF hz hown S N _ r I (start_bel O hk0 S) e
   rw [h] at h1
   cases h1
 ·cases hr : r with
  | none => rfl
  | some s =>
   have S := (fin s hr).sol
   obtain ⟨t, h1, _⟩ := rSolve_bel hF hz hown S M _ r' I.ok (start_bel O hk0 S) e'
   rw [h] at h1
   cases h1
 ·have b1 := bel s s' h h'
  have b2 := bel' s s' h h'
  have key1 : s'.re.getD i false = true → s.re.getD i false = true ∧ LeT p (s'.st.getD i zeroS) (s.st.getD i zeroS) := fun hr => by
   obtain ⟨t, h1, h2⟩ := b1.le i hi hr
   unfold solOf at h1
   split at h1
   ·rename_i hq
    cases h1
    exact ⟨hq, h2⟩
   ·cases h1
  have key2 : s.re.getD i false = true → s'.re.getD i false = true ∧ LeT p (s.st.getD i zeroS) (s'.st.getD i zeroS) := fun hr => by
   obtain ⟨t, h1, h2⟩ := b2.le i hi hr
   unfold solOf at h1
   split at h1
   ·rename_i hq
    cases h1
    exact ⟨hq, h2⟩
   ·cases h1
  refine ⟨?_, fun hr => ?_⟩
  ·rw [Bool.eq_iff_iff]
   exact ⟨fun h => (key2 h).1, fun h => (key1 h).1⟩
  ·obtain ⟨h1, h2⟩ := key2 hr
   exact LeT.anti hs h6 h2 (key1 h1).2
end
def rWants (p : List LClass) (m : LMeth) (i : LIns) : List Int × List Int :=
 if i.op = 0 then ([], [0])
 else if i.op = 2 then ([-2], [])
 else if i.op = 3 ∨ i.op = 4 ∨ i.op = 5 ∨ i.op = 6 then ([0, 0], [0])
 else if i.op = 8 ∨ i.op = 19 then ([0], [])
 else if i.op = 9 then ([], [i.a + 3])
 else if i.op = 10 then ([i.a + 3], [fieldT p i.a i.b])
 else if i.op = 11 then ([i.a + 3, fieldT p i.a i.b], [])
 else if i.op = 12 then ((i.a + 3) :: (findM p i.a i.b).args, [(findM p i.a i.b).ret])
 else if i.op = 13 then ([m.ret], [])
 else if i.op = 14 then ([2], [])
 else if i.op = 15 then ([2], [-1, -1])
 else if i.op = 16 then ([], [1])
 else if i.op = 17 then ([-1], [i.a + 3])
 else if i.op = 18 then ([-1], [])
 else if i.op = 20 then ([2, 2], [-2, -1])
 else ([], [])
def rFits (p : List LClass) (t w : Int) : Bool := if w = -1 then mayObj t else if w = -2 then !(t == 2) else belowB p t w
def rLeft (tk : List Int) (t : Int) : Int := if t < 0 then tk.getD (-1 - t).toNat 0 else t
def rStep (p : List LClass) (m : LMeth) (i : LIns) (s : TSt) : Option TSt :=
 if i.op = 1 ∧ s.loc.getD i.a.toNat 0 = 2 then none
 else if s.stk.length < (rWants p m i).1.length then none
 else if ((s.stk.drop (s.stk.length - (rWants p m i).1.length)).zip (rWants p m i).1).all fun x => rFits p x.1 x.2 then
  (if (((s.stk.take (s.stk.length - (rWants p m i).1.length) ++ (if i.op = 1 then [s.loc.getD i.a.toNat 0] else (rWants p m i).2).map (rLeft (s.stk.drop (s.stk.length - (rWants p m i).1.length)))).length : Nat) : Int) ≤ m.stack then
    some ⟨if i.op = 2 then s.loc.set i.a.toNat (s.stk.getD (s.stk.length - (rWants p m i).1.length) 0) else s.loc, s.stk.take (s.stk.length - (rWants p m i).1.length) ++ (if i.op = 1 then [s.loc.getD i.a.toNat 0] else (rWants p m i).2).map (rLeft (s.stk.drop (s.stk.length - (rWants p m i).1.length)))⟩ else none)
 else none
section
variable {p : List LClass} {m : LMeth} {s : TSt}
theorem stk_cases (l : List Int) : l = [] ∨ ∃ r x, l = r ++ [x] := by
 rcases List.eq_nil_or_concat l with h | ⟨r, x, h⟩
 ·exact .inl h
 ·exact .inr ⟨r, x, by rw [h]; simp⟩
theorem take_nil (h : s.stk = []) : takeS s = none := by unfold takeS; rw [h]; rfl
theorem take_app {r : List Int} {x : Int} (h : s.stk = r ++ [x]) : takeS s = some (x, { s with stk := r }) := take_mk h
theorem wants_rev : ∀ (l : List Int) (s : TSt), wantsS p l.reverse s = (if s.stk.length < l.length then none else if ((s.stk.drop (s.stk.length - l.length)).zip l).all (fun x => belowB p x.1 x.2) then some { s with stk := s.stk.take (s.stk.length - l.length) } else none) := by
 intro l
 induction h : l.length generalizing l with
 | zero =>
  intro s
  obtain rfl : l = [] := List.eq_nil_of_length_eq_zero h
  simp [wantsS]
 | succ n ih =>
  intro s
  obtain ⟨l', t, rfl⟩ : ∃ l' t, l = l' ++ [t] := by
   rcases stk_cases l with h0 | h0
   ·subst h0; simp at h
   ·exact h0
  have hl' : l'.length = n := by simpa using h
  rw [List.reverse_append, List.reverse_singleton, List.singleton_append]
  unfold wantsS wantS
  rcases stk_cases s.stk with h0 | ⟨r, x, h0⟩
  ·rw [take_nil h0, h0]
   simp
  ·rw [take_app h0, Option.bind_some, h0]
   dsimp only
   have e1 : (r ++ [x]).length - (n + 1) = r.length - n := by simp
   rw [e1]
   by_cases hlt : r.length < n
   ·rw [if_pos (show (r ++ [x]).length < n + 1 by simp; omega)]
    cases hb : belowB p x t with
    | false => rfl
    | true =>
     rw [if_pos rfl, Option.bind_some, ih l' hl', if_pos hlt]
   ·rw [if_neg (show ¬ (r ++ [x]).length < n + 1 by simp; omega)]
    have hd : (r ++ [x]).drop (r.length - n) = r.drop (r.length - n) ++ [x] := List.drop_append_of_le_length (by omega)
    have ht : (r ++ [x]).take (r.length - n) = r.take (r.length - n) := List.take_append_of_le_length (by omega)
    rw [hd, ht, List.zip_append (by rw [List.length_drop, hl']; omega), List.all_append]
    cases hb : belowB p x t with
    | false => simp [hb]
    | true =>
     have e2 : ([x].zip [t]).all (fun x => belowB p x.1 x.2) = true := by
      show (belowB p x t && true) = true
      rw [hb]; rfl
     rw [if_pos rfl, Option.bind_some, ih l' hl', if_neg hlt, e2, Bool.and_true]
theorem leave_one (h : (s.stk.length : Int) ≤ m.stack) (t : Int) : leaveS m t s = if ((s.stk.length : Nat) : Int) + 1 ≤ m.stack then some { s with stk := s.stk ++ [t] } else none := by
 unfold leaveS
 by_cases e : (s.stk.length : Int) = m.stack
 ·rw [if_pos e, if_neg (by omega)]
 ·rw [if_neg e, if_pos (by omega)]
theorem leave_two {r : List Int} (h : (r.length : Int) + 1 ≤ m.stack) (x y : Int) : (leaveS m x { s with stk := r }).bind (leaveS m y) = if (r.length : Int) + 2 ≤ m.stack then some { s with stk := r ++ [x, y] } else none := by
 have e1 : leaveS m x { s with stk := r } = some { s with stk := r ++ [x] } := by
  unfold leaveS
  rw [if_neg (by dsimp only; omega)]
 rw [e1, Option.bind_some]
 unfold leaveS
 dsimp only
 rw [List.length_append, List.length_singleton]
 by_cases e : (r.length : Int) + 2 ≤ m.stack
 ·rw [if_pos e, if_neg (by omega), List.append_assoc]; rfl
 ·rw [if_neg e, if_pos (by omega)]
theorem fits_plain {l u : List Int} (h : ∀ t ∈ u, 0 ≤ t) : ((l.zip u).all fun x => rFits p x.1 x.2) = (l.zip u).all fun x => belowB p x.1 x.2 := by
 rw [Bool.eq_iff_iff, List.all_eq_true, List.all_eq_true]
 have key : ∀ x ∈ l.zip u, rFits p x.1 x.2 = belowB p x.1 x.2 := fun x hx => by
  have := h x.2 (List.of_mem_zip hx).2
  unfold rFits
  rw [if_neg (by omega), if_neg (by omega)]
 exact ⟨fun h x hx => by rw [← key x hx]; exact h x hx, fun h x hx => by rw [key x hx]; exact h x hx⟩
theorem left_plain {tk l : List Int} (h : ∀ t ∈ l, 0 ≤ t) : l.map (rLeft tk) = l := by
 induction l with
 | nil => rfl
 | cons t l ih =>
  rw [List.map_cons, ih (fun x hx => h x (by simp [hx]))]
  have := h t (by simp)
  unfold rLeft
  rw [if_neg (by omega)]
theorem rstep_plain {i : LIns} {tk lv : List Int} (h1 : i.op ≠ 1) (h2 : i.op ≠ 2) (hw : rWants p m i = (tk, lv)) (ht : ∀ t ∈ tk, 0 ≤ t) (hl : ∀ t ∈ lv, 0 ≤ t) :
  rStep p m i s = (wantsS p tk.reverse s).bind fun s' => if ((s'.stk.length + lv.length : Nat) : Int) ≤ m.stack then some { s' with stk := s'.stk ++ lv } else none := by
 unfold rStep
 rw [if_neg (by omega), hw, wants_rev]
 dsimp only
 split
 ·rfl
 ·rw [fits_plain ht]
  split
  ·rw [left_plain hl, List.length_append, Option.bind_some]
  ·rfl
theorem bind_leave (o : Option TSt) (ho : ∀ s', o = some s' → (s'.stk.length : Int) ≤ m.stack) (t : Int) : (o.bind fun s' => if ((s'.stk.length + [t].length : Nat) : Int) ≤ m.stack then some { s' with stk := s'.stk ++ [t] } else none) = o.bind (leaveS m t) := by
 cases o with
 | none => rfl
 | some s' =>
  rw [Option.bind_some, Option.bind_some, leave_one (ho s' rfl)]
  rfl
theorem bind_none (o : Option TSt) (ho : ∀ s', o = some s' → (s'.stk.length : Int) ≤ m.stack) : (o.bind fun s' => if ((s'.stk.length + ([] : List Int).length : Nat) : Int) ≤ m.stack then some { s' with stk := s'.stk ++ [] } else none) = o := by
 cases o with
 | none => rfl
 | some s' =>
  have := ho s' rfl
  rw [Option.bind_some, if_pos (by simpa using this), List.append_nil]
theorem wants_app : ∀ (l u : List Int) (s : TSt), wantsS p (l ++ u) s = (wantsS p l s).bind (wantsS p u)
 | [], u, s => rfl
 | t :: l, u, s => by
  rw [List.cons_append]
  unfold wantsS
  cases wantS p t s with
  | none => rfl
  | some s' => rw [Option.bind_some, Option.bind_some]; exact wants_app l u s'
theorem wants_one (t : Int) (s : TSt) : wantsS p [t] s = wantS p t s := by
 unfold wantsS
 cases wantS p t s <;> rfl
theorem rStep_do {i : LIns} (hk : (s.stk.length : Int) ≤ m.stack) (hl : ∀ x ∈ s.loc, 0 ≤ x) (ha : (9 ≤ i.op ∧ i.op ≤ 12) ∨ i.op = 17 → 0 ≤ i.a) (hf : i.op = 10 ∨ i.op = 11 → 0 ≤ fieldT p i.a i.b) (hm : i.op = 12 → (∀ t ∈ (findM p i.a i.b).args, 0 ≤ t) ∧ 0 ≤ (findM p i.a i.b).ret) (hr : 0 ≤ m.ret) : rStep p m i s = doS p m i s := by
 have hw : ∀ l s', wantsS p l s = some s' → (s'.stk.length : Int) ≤ m.stack := fun l s' h => (wants_len (m := m) l h hk).1
 have hg : 0 ≤ s.loc.getD i.a.toNat 0 := by
  rw [List.getD_eq_getElem?_getD]
  cases e : s.loc[i.a.toNat]? with
  | none => exact Int.le_refl _
  | some x => exact hl x (List.mem_of_getElem? e)
 unfold doS
 by_cases c : i.op = 0
 ·rw [if_pos c, rstep_plain (by omega) (by omega) (show rWants p m i = ([], [0]) by unfold rWants; rw [if_pos c]) (by simp) (by simp), bind_leave _ (hw _)]
  rfl
 rw [if_neg c]
 have c0 := c
 by_cases c : i.op = 1
 ·rw [if_pos c]
  have hW : rWants p m i = ([], []) := by
   unfold rWants
   simp [c]
  unfold rStep knownS
  obtain ⟨t, ht⟩ : ∃ t, t = s.loc.getD i.a.toNat 0 := ⟨_, rfl⟩
  rw [← ht] at hg ⊢
  by_cases h2 : t = 2
  ·rw [if_pos ⟨c, h2⟩, if_pos h2]; rfl
  ·rw [if_neg (fun h => h2 h.2), if_neg h2, hW, Option.bind_some, leave_one hk, if_pos c, if_neg (show ¬ i.op = 2 by omega)]
   have e : ∀ tk, rLeft tk t = t := fun tk => by unfold rLeft; rw [if_neg (by omega)]
   simp [e]
 rw [if_neg c]
 have c1 := c
 by_cases c : i.op = 2
 ·rw [if_pos c]
  have hW : rWants p m i = ([-2], []) := by
   unfold rWants
   rw [if_neg c0, if_pos c]
  unfold rStep
  rw [if_neg (fun h => c1 h.1), hW, if_neg c1, if_pos c]
  rcases stk_cases s.stk with h0 | ⟨r, x, h0⟩
  ·rw [take_nil h0, h0]; simp
  ·rw [take_app h0, Option.bind_some, h0]
   have hk' : (r.length : Int) ≤ m.stack := by rw [h0] at hk; simp at hk; omega
   unfold knownS rFits
   by_cases h2 : x = 2
   ·simp [h2]
   ·simp [h2, hk']
 rw [if_neg c]
 have c2 := c
 have c12 : i.op ≠ 1 ∧ i.op ≠ 2 := ⟨c1, c2⟩
 by_cases c : i.op = 3 ∨ i.op = 4 ∨ i.op = 5 ∨ i.op = 6
 ·rw [if_pos c, rstep_plain (tk := [0, 0]) (lv := [0]) (by omega) (by omega) (by unfold rWants; rw [if_neg c0, if_neg c2, if_pos c]) (by simp) (by simp), bind_leave _ (hw _)]
  show (wantsS p [0, 0] s).bind _ = _
  unfold wantsS
  cases wantS p 0 s with
  | none => rfl
  | some s' => rw [Option.bind_some, Option.bind_some, wants_one]
 rw [if_neg c]
 have c3 := c
 by_cases c : i.op = 8 ∨ i.op = 19
 ·rw [if_pos c, rstep_plain (tk := [0]) (lv := []) (by omega) (by omega) (by unfold rWants; rw [if_neg c0, if_neg c2, if_neg c3, if_pos c]) (by simp) (by simp), bind_none _ (hw _)]
  exact wants_one _ _
 rw [if_neg c]
 have c8 := c
 by_cases c : i.op = 9
 ·have := ha (by omega)
  rw [if_pos c, rstep_plain (tk := []) (lv := [i.a + 3]) (by omega) (by omega) (by unfold rWants; rw [if_neg c0, if_neg c2, if_neg c3, if_neg c8, if_pos c]) (by simp) (by simp; omega), bind_leave _ (hw _)]
  rfl
 rw [if_neg c]
 have c9 := c
 by_cases c : i.op = 10
 ·have := ha (by omega)
  have := hf (by omega)
  rw [if_pos c, rstep_plain (tk := [i.a + 3]) (lv := [fieldT p i.a i.b]) (by omega) (by omega) (by unfold rWants; rw [if_neg c0, if_neg c2, if_neg c3, if_neg c8, if_neg c9, if_pos c]) (by simp; omega) (by simp; omega), bind_leave _ (hw _)]
  show (wantsS p [i.a + 3] s).bind _ = _
  rw [wants_one]
 rw [if_neg c]
 have c10 := c
 by_cases c : i.op = 11
 ·have := ha (by omega)
  have := hf (by omega)
  rw [if_pos c, rstep_plain (tk := [i.a + 3, fieldT p i.a i.b]) (lv := []) (by omega) (by omega) (by unfold rWants; rw [if_neg c0, if_neg c2, if_neg c3, if_neg c8, if_neg c9, if_neg c10, if_pos c]) (by simp; omega) (by simp), bind_none _ (hw _)]
  show wantsS p [fieldT p i.a i.b, i.a + 3] s = _
  unfold wantsS
  cases wantS p (fieldT p i.a i.b) s with
  | none => rfl
  | some s' => rw [Option.bind_some, Option.bind_some, wants_one]
 rw [if_neg c]
 have c11 := c
 by_cases c : i.op = 12
 ·have := ha (by omega)
  obtain ⟨m1, m2⟩ := hm c
  rw [if_pos c, rstep_plain (tk := (i.a + 3) :: (findM p i.a i.b).args) (lv := [(findM p i.a i.b).ret]) (by omega) (by omega) (by unfold rWants; rw [if_neg c0, if_neg c2, if_neg c3, if_neg c8, if_neg c9, if_neg c10, if_neg c11, if_pos c]) (fun t ht => by
   rcases List.mem_cons.1 ht with rfl | ht
   ·omega
   ·exact m1 t ht) (by simpa using m2), bind_leave _ (hw _), List.reverse_cons, wants_app]
  cases wantsS p (findM p i.a i.b).args.reverse s with
  | none => rfl
  | some s' => rw [Option.bind_some, Option.bind_some, wants_one]
 rw [if_neg c]
 have c12 := c
 by_cases c : i.op = 13
 ·rw [if_pos c, rstep_plain (tk := [m.ret]) (lv := []) (by omega) (by omega) (by unfold rWants; rw [if_neg c0, if_neg c2, if_neg c3, if_neg c8, if_neg c9, if_neg c10, if_neg c11, if_neg c12, if_pos c]) (by simpa using hr) (by simp), bind_none _ (hw _)]
  exact wants_one _ _
 rw [if_neg c]
 have c13 := c
 have b2 : ∀ x, belowB p x 2 = true := fun x => by unfold belowB; simp
 by_cases c : i.op = 14
 ·rw [if_pos c, rstep_plain (tk := [2]) (lv := []) (by omega) (by omega) (by unfold rWants; rw [if_neg c0, if_neg c2, if_neg c3, if_neg c8, if_neg c9, if_neg c10, if_neg c11, if_neg c12, if_neg c13, if_pos c]) (by simp) (by simp), bind_none _ (hw _)]
  show wantsS p [2] s = _
  rw [wants_one]
  unfold wantS
  cases takeS s with
  | none => rfl
  | some x => rw [Option.bind_some, b2]; rfl
 rw [if_neg c]
 have c14 := c
 by_cases c : i.op = 15
 ·rw [if_pos c]
  have hW : rWants p m i = ([2], [-1, -1]) := by unfold rWants; rw [if_neg c0, if_neg c2, if_neg c3, if_neg c8, if_neg c9, if_neg c10, if_neg c11, if_neg c12, if_neg c13, if_neg c14, if_pos c]
  unfold rStep
  rw [if_neg (fun h => c1 h.1), hW, if_neg c1, if_neg c2]
  rcases stk_cases s.stk with h0 | ⟨r, x, h0⟩
  ·rw [take_nil h0, h0]; simp
  ·rw [take_app h0, Option.bind_some, h0]
   have hk' : (r.length : Int) + 1 ≤ m.stack := by rw [h0] at hk; simp at hk; omega
   have e2 := leave_two (m := m) (s := s) hk' x x
   dsimp only at e2 ⊢
   rw [e2]
   unfold rFits rLeft
   simp [b2]
 rw [if_neg c]
 have c15 := c
 by_cases c : i.op = 16
 ·rw [if_pos c, rstep_plain (tk := []) (lv := [1]) (by omega) (by omega) (by unfold rWants; rw [if_neg c0, if_neg c2, if_neg c3, if_neg c8, if_neg c9, if_neg c10, if_neg c11, if_neg c12, if_neg c13, if_neg c14, if_neg c15, if_pos c]) (by simp) (by simp), bind_leave _ (hw _)]
  rfl
 rw [if_neg c]
 have c16 := c
 by_cases c : i.op = 17
 ·rw [if_pos c]
  have := ha (by omega)
  have hW : rWants p m i = ([-1], [i.a + 3]) := by unfold rWants; rw [if_neg c0, if_neg c2, if_neg c3, if_neg c8, if_neg c9, if_neg c10, if_neg c11, if_neg c12, if_neg c13, if_neg c14, if_neg c15, if_neg c16, if_pos c]
  unfold rStep wantO
  rw [if_neg (fun h => c1 h.1), hW, if_neg c1, if_neg c2]
  rcases stk_cases s.stk with h0 | ⟨r, x, h0⟩
  ·rw [take_nil h0, h0]; simp
  ·rw [take_app h0, Option.bind_some, h0]
   have hk' : (r.length : Int) + 1 ≤ m.stack := by rw [h0] at hk; simp at hk; omega
   unfold rFits rLeft
   cases hq : mayObj x with
   | false => simp [hq]
   | true =>
    rw [if_pos rfl, Option.bind_some, leave_one (s := { s with stk := r }) (by dsimp only; omega)]
    have : ¬ i.a + 3 < 0 := by omega
    simp [hq, this]
 rw [if_neg c]
 have c17 := c
 by_cases c : i.op = 18
 ·rw [if_pos c]
  have hW : rWants p m i = ([-1], []) := by unfold rWants; rw [if_neg c0, if_neg c2, if_neg c3, if_neg c8, if_neg c9, if_neg c10, if_neg c11, if_neg c12, if_neg c13, if_neg c14, if_neg c15, if_neg c16, if_neg c17, if_pos c]
  unfold rStep wantO
  rw [if_neg (fun h => c1 h.1), hW, if_neg c1, if_neg c2]
  rcases stk_cases s.stk with h0 | ⟨r, x, h0⟩
  ·rw [take_nil h0, h0]; simp
  ·rw [take_app h0, Option.bind_some, h0]
   have hk' : (r.length : Int) ≤ m.stack := by rw [h0] at hk; simp at hk; omega
   unfold rFits
   cases hq : mayObj x with
   | false => simp [hq]
   | true => simp [hq, hk']
 rw [if_neg c]
 have c18 := c
 by_cases c : i.op = 20
 ·rw [if_pos c]
  have hW : rWants p m i = ([2, 2], [-2, -1]) := by unfold rWants; rw [if_neg c0, if_neg c2, if_neg c3, if_neg c8, if_neg c9, if_neg c10, if_neg c11, if_neg c12, if_neg c13, if_neg c14, if_neg c15, if_neg c16, if_neg c17, if_neg c18, if_pos c]
  unfold rStep
  rw [if_neg (fun h => c1 h.1), hW, if_neg c1, if_neg c2]
  rcases stk_cases s.stk with h0 | ⟨r, x, h0⟩
  ·rw [take_nil h0, h0]; simp
  ·rw [take_app h0, Option.bind_some, h0]
   rcases stk_cases r with h1 | ⟨r', y, h1⟩
   ·rw [take_nil (s := { s with stk := r }) h1]
    subst h1
    simp
   ·rw [take_app (s := { s with stk := r }) h1, Option.bind_some]
    subst h1
    have hk' : (r'.length : Int) + 2 ≤ m.stack := by rw [h0] at hk; simp at hk; omega
    have e2 := leave_two (m := m) (s := s) (show (r'.length : Int) + 1 ≤ m.stack by omega) x y
    dsimp only at e2 ⊢
    rw [e2]
    unfold rFits rLeft
    simp [b2]
    omega
 rw [if_neg c]
 rw [rstep_plain (tk := []) (lv := []) (by omega) (by omega) (by unfold rWants; rw [if_neg c0, if_neg c2, if_neg c3, if_neg c8, if_neg c9, if_neg c10, if_neg c11, if_neg c12, if_neg c13, if_neg c14, if_neg c15, if_neg c16, if_neg c17, if_neg c18, if_neg c]) (by simp) (by simp), bind_none _ (hw _)]
 rfl
end
def cutS (m : LMeth) (s : TSt) : TSt := ⟨s.loc.take m.locals.toNat, s.stk⟩
section
variable {p : List LClass} {m : LMeth} {s t : TSt}
theorem getD_take {l : List Int} {n i : Nat} (h : i < n) (d : Int) : (l.take n).getD i d = l.getD i d := by
 rw [List.getD_eq_getElem?_getD, List.getD_eq_getElem?_getD, List.getElem?_take, if_pos h]
theorem cut_do {i : LIns} (hloc : i.op = 1 ∨ i.op = 2 → i.a.toNat < m.locals.toNat) : doS p m i (cutS m s) = (doS p m i s).map (cutS m) := by
 have hlv : ∀ (t : Int) (s : TSt), leaveS m t (cutS m s) = (leaveS m t s).map (cutS m) := fun t s => by
  unfold leaveS cutS
  dsimp only
  split <;> rfl
 have htk : ∀ s : TSt, takeS (cutS m s) = (takeS s).map fun x => (x.1, cutS m x.2) := fun s => by
  unfold takeS cutS
  dsimp only
  cases s.stk.getLast? <;> rfl
 have hwn : ∀ (t : Int) (s : TSt), wantS p t (cutS m s) = (wantS p t s).map (cutS m) := fun t s => by
  unfold wantS
  rw [htk]
  cases takeS s with
  | none => rfl
  | some x =>
   rw [Option.map_some, Option.bind_some, Option.bind_some]
   dsimp only
   split <;> rfl
 have hwo : ∀ s : TSt, wantO (cutS m s) = (wantO s).map (cutS m) := fun s => by
  unfold wantO
  rw [htk]
  cases takeS s with
  | none => rfl
  | some x =>
   rw [Option.map_some, Option.bind_some, Option.bind_some]
   dsimp only
   split <;> rfl
 have hws : ∀ (l : List Int) (s : TSt), wantsS p l (cutS m s) = (wantsS p l s).map (cutS m) := fun l => by
  induction l with
  | nil => exact fun s => rfl
  | cons t l ih =>
   intro s
   unfold wantsS
   rw [hwn]
   cases wantS p t s with
   | none => rfl
   | some x => rw [Option.map_some, Option.bind_some, Option.bind_some, ih]
 have bm : ∀ (o : Option TSt) (f g : TSt → Option TSt), (∀ x, f (cutS m x) = (g x).map (cutS m)) → (o.map (cutS m)).bind f = (o.bind g).map (cutS m) := fun o f g h => by
  cases o with
  | none => rfl
  | some x => rw [Option.map_some, Option.bind_some, Option.bind_some, h]
 unfold doS
 by_cases c : i.op = 0
 ·simp only [if_pos c]
  exact hlv _ _
 simp only [if_neg c]; clear c
 by_cases c : i.op = 1
 ·simp only [if_pos c]
  have e : (cutS m s).loc.getD i.a.toNat 0 = s.loc.getD i.a.toNat 0 := getD_take (hloc (.inl c)) 0
  rw [e]
  cases knownS (s.loc.getD i.a.toNat 0) with
  | none => rfl
  | some t => rw [Option.bind_some, Option.bind_some, hlv]
 simp only [if_neg c]; clear c
 by_cases c : i.op = 2
 ·simp only [if_pos c]
  rw [htk]
  cases takeS s with
  | none => rfl
  | some x =>
   rw [Option.map_some, Option.bind_some, Option.bind_some]
   dsimp only
   cases knownS x.1 with
   | none => rfl
   | some t =>
    rw [Option.map_some, Option.map_some, Option.map_some]
    unfold cutS
    dsimp only
    rw [List.take_set]
 simp only [if_neg c]; clear c
 by_cases c : i.op = 3 ∨ i.op = 4 ∨ i.op = 5 ∨ i.op = 6
 ·simp only [if_pos c]
  rw [hwn, bm _ _ _ (fun x => by rw [hwn, bm _ _ _ (fun y => hlv _ y)])]
 simp only [if_neg c]; clear c
 by_cases c : i.op = 8 ∨ i.op = 19
 ·simp only [if_pos c]
  exact hwn _ _
 simp only [if_neg c]; clear c
 by_cases c : i.op = 9
 ·simp only [if_pos c]
  exact hlv _ _
 simp only [if_neg c]; clear c
 by_cases c : i.op = 10
 ·simp only [if_pos c]
  rw [hwn, bm _ _ _ (fun x => hlv _ x)]
 simp only [if_neg c]; clear c
 by_cases c : i.op = 11
 ·simp only [if_pos c]
  rw [hwn, bm _ _ _ (fun x => hwn _ x)]
 simp only [if_neg c]; clear c
 by_cases c : i.op = 12
 ·simp only [if_pos c]
  rw [hws, bm _ _ _ (fun x => by rw [hwn, bm _ _ _ (fun y => hlv _ y)])]
 simp only [if_neg c]; clear c
 by_cases c : i.op = 13
 ·simp only [if_pos c]
  exact hwn _ _
 simp only [if_neg c]; clear c
 by_cases c : i.op = 14
 ·simp only [if_pos c]
  rw [htk]
  cases takeS s <;> rfl
 simp only [if_neg c]; clear c
 by_cases c : i.op = 15
 ·simp only [if_pos c]
  rw [htk]
  cases takeS s with
  | none => rfl
  | some x =>
   rw [Option.map_some, Option.bind_some, Option.bind_some]
   dsimp only
   rw [hlv, bm _ _ _ (fun y => hlv _ y)]
 simp only [if_neg c]; clear c
 by_cases c : i.op = 16
 ·simp only [if_pos c]
  exact hlv _ _
 simp only [if_neg c]; clear c
 by_cases c : i.op = 17
 ·simp only [if_pos c]
  rw [hwo, bm _ _ _ (fun x => hlv _ x)]
 simp only [if_neg c]; clear c
 by_cases c : i.op = 18
 ·simp only [if_pos c]
  exact hwo _
 simp only [if_neg c]; clear c
 by_cases c : i.op = 20
 ·simp only [if_pos c]
  rw [htk]
  cases takeS s with
  | none => rfl
  | some x =>
   rw [Option.map_some, Option.bind_some, Option.bind_some]
   dsimp only
   rw [htk]
   cases takeS x.2 with
   | none => rfl
   | some y =>
    rw [Option.map_some, Option.bind_some, Option.bind_some]
    dsimp only
    rw [hlv, bm _ _ _ (fun y => hlv _ y)]
 simp only [if_neg c]; clear c
 rfl
theorem cut_below (hs : s.loc.length = 8) (ht : t.loc.length = 8) (hi : Hi m t) (h0 : 0 ≤ m.locals) (h8 : m.locals ≤ 8) : belowS p (cutS m s) (cutS m t) = belowS p s t := by
 have e : (((cutS m s).loc.zip (cutS m t).loc).all fun x => belowB p x.1 x.2) = ((s.loc.zip t.loc).all fun x => belowB p x.1 x.2) := by
  rw [Bool.eq_iff_iff, zip_all (show (cutS m s).loc.length = (cutS m t).loc.length by unfold cutS; simp [hs, ht]), zip_all (by rw [hs, ht])]
  have hl : (cutS m s).loc.length = m.locals.toNat := by unfold cutS; simp [hs]; omega
  rw [hl, hs]
  constructor
  ·intro h i hi8
   rcases Nat.lt_or_ge i m.locals.toNat with hlt | hge
   ·have := h i hlt
    unfold cutS at this
    dsimp only at this
    rwa [getD_take hlt, getD_take hlt] at this
   ·rw [hi i (by omega) hi8]
    exact below_top _ _
  ·intro h i hlt
   unfold cutS
   dsimp only
   rw [getD_take hlt, getD_take hlt]
   exact h i (by omega)
 unfold belowS
 rw [e]
 rfl
def rJoin (p : List LClass) (s t : TSt) : TSt := ⟨(s.loc.zip t.loc).map fun x => joinB p x.1 x.2, (s.stk.zip t.stk).map fun x => joinB p x.1 x.2⟩
theorem zipmap_get {l u : List Int} (h : l.length = u.length) (i : Nat) (hi : i < l.length) : ((l.zip u).map fun x => joinB p x.1 x.2)[i]? = some (joinB p (l.getD i 0) (u.getD i 0)) := by
 rw [List.getElem?_map, List.getElem?_eq_getElem (by simp; omega), List.getElem_zip, List.getD_eq_getElem?_getD, List.getD_eq_getElem?_getD, List.getElem?_eq_getElem hi, List.getElem?_eq_getElem (by omega)]
 rfl
theorem cut_join (hs : s.loc.length = 8) (ht : t.loc.length = 8) (hn : s.stk.length = t.stk.length) (h8 : m.locals ≤ 8) : rJoin p (cutS m s) (cutS m t) = cutS m (joinS p s t) := by
 obtain ⟨j1, j2⟩ := joinS_len p s t
 unfold rJoin cutS
 dsimp only
 congr 1
 ·apply List.ext_getElem?
  intro i
  rcases Nat.lt_or_ge i m.locals.toNat with hlt | hge
  ·rw [zipmap_get (by simp [hs, ht]) i (by simp [hs]; omega), List.getElem?_take, if_pos hlt, getD_take hlt, getD_take hlt, ← joinS_loc p s t hs (by omega), List.getD_eq_getElem?_getD, List.getElem?_eq_getElem (by rw [j2, hs]; omega)]
   rfl
  ·rw [List.getElem?_eq_none (by simp; omega), List.getElem?_eq_none (by simp; omega)]
 ·apply List.ext_getElem?
  intro i
  rcases Nat.lt_or_ge i s.stk.length with hlt | hge
  ·rw [zipmap_get hn i hlt, ← joinS_stk p s t hlt, List.getD_eq_getElem?_getD, List.getElem?_eq_getElem (by rw [j1]; exact hlt)]
   rfl
  ·rw [List.getElem?_eq_none (by simp; omega), List.getElem?_eq_none (by omega)]
theorem join_self_below (hs : SupOk p p.length) (hl : s.loc.length = 8) (ht : t.loc.length = 8) (hn : s.stk.length = t.stk.length) (hT : TIn p s) : belowS p (joinS p s t) s = belowS p t s := by
 obtain ⟨j1, j2⟩ := joinS_len p s t
 rw [Bool.eq_iff_iff, le_iff (by rw [j2]; exact hl) hl, le_iff ht hl]
 constructor
 ·exact fun h => (join_up2 hl hn).trans hs h
 ·exact fun h => join_least hs hl hT.tyIn (LeS.refl p s) h
end
def rJ (p : List LClass) (a b : Int) : Nat → Int
 | 0 => 2
 | k + 1 => if belowB p a (k : Int) && belowB p b (k : Int) && belowB p (k : Int) (rJ p a b k) then (k : Int) else rJ p a b k
section
variable {p : List LClass} {a b : Int}
theorem joinB_in (hb : tyOk p.length b) : tyOk p.length (joinB p a b) := by
 unfold joinB
 split
 ·exact hb
 ·split
  ·rcases up_cases p b (chainOf p (a - 3)) with ⟨h1, _⟩ | ⟨pre, d, post, h1, h2, _, _⟩
   ·rw [h1]; exact ⟨by omega, by omega⟩
   ·rw [h2]
    have hlt : d < p.length := by
     have hm : d ∈ chainOf p (a - 3) := by rw [h1]; simp
     unfold chainOf at hm
     have key : ∀ (f : Nat) (c : Int) (x : Nat), x ∈ chain p f c → x < p.length := by
      intro f
      induction f with
      | zero => intro c x h; cases h
      | succ f ih =>
       intro c x h
       unfold chain at h
       split at h
       ·cases h
       ·split at h
        ·cases h
        ·rename_i y hy
         rcases List.mem_cons.1 h with rfl | h
         ·exact (List.getElem?_eq_some_iff.1 hy).1
         ·exact ih _ _ h
     exact key _ _ _ hm
    exact ⟨by omega, by omega⟩
  ·exact ⟨by omega, by omega⟩
theorem below_anti (hs : SupOk p p.length) (h6 : p.length ≤ 6) {x y : Int} (h1 : belowB p x y = true) (h2 : belowB p y x = true) : x = y := by
 by_cases e : x = y
 ·exact e
 ·have c1 := (rank_mono hs h6 h1).2 e
  have c2 := (rank_mono hs h6 h2).1
  omega
theorem rJ_is (hs : SupOk p p.length) (h6 : p.length ≤ 6) (ha : tyOk p.length a) (hb : tyOk p.length b) : rJ p a b (p.length + 3) = joinB p a b := by
 have hj := joinB_in (p := p) (a := a) hb
 have lub : ∀ u, belowB p a u = true → belowB p b u = true → belowB p (joinB p a b) u = true := fun u h1 h2 => join_lub hs h1 h2 (fun _ => by have := ha.2; omega)
 have key : ∀ k : Nat, (belowB p a (rJ p a b k) = true ∧ belowB p b (rJ p a b k) = true) ∧ (joinB p a b < (k : Int) → rJ p a b k = joinB p a b) := by
  intro k
  induction k with
  | zero => exact ⟨⟨below_top _ _, below_top _ _⟩, fun h => by have := hj.1; omega⟩
  | succ k ih =>
   unfold rJ
   split
   ·rename_i h
    simp only [Bool.and_eq_true] at h
    obtain ⟨⟨h1, h2⟩, h3⟩ := h
    refine ⟨⟨h1, h2⟩, fun hlt => ?_⟩
    rcases Int.lt_or_le (joinB p a b) (k : Int) with h | h
    ·rw [ih.2 h] at h3
     exact below_anti hs h6 h3 (lub _ h1 h2)
    ·omega
   ·rename_i h
    refine ⟨ih.1, fun hlt => ?_⟩
    rcases Int.lt_or_le (joinB p a b) (k : Int) with h' | h'
    ·exact ih.2 h'
    ·have e : joinB p a b = (k : Int) := by omega
     exfalso
     apply h
     rw [← e]
     simp only [Bool.and_eq_true]
     exact ⟨⟨join_ub1 a b, join_ub2 a b⟩, lub _ ih.1.1 ih.1.2⟩
 exact (key (p.length + 3)).2 (by have := hj.2; omega)
end
theorem rWants_neg {p : List LClass} {m : LMeth} {x : LIns} (hc : x.op = 9 ∨ x.op = 17 → 0 ≤ x.a) (hf : x.op = 10 → 0 ≤ fieldT p x.a x.b) (hm : x.op = 12 → 0 ≤ (findM p x.a x.b).ret) : ∀ t ∈ (rWants p m x).2, t < 0 → (-1 - t).toNat < (rWants p m x).1.length := by
 intro t ht hn
 by_cases c15 : x.op = 15
 ·have hW : rWants p m x = ([2], [-1, -1]) := by unfold rWants; simp [c15]
  rw [hW] at ht ⊢
  simp at ht
  subst ht
  decide
 by_cases c20 : x.op = 20
 ·have hW : rWants p m x = ([2, 2], [-2, -1]) := by unfold rWants; simp [c20]
  rw [hW] at ht ⊢
  simp at ht
  rcases ht with rfl | rfl <;> decide
 exfalso
 have key : 0 ≤ t := by
  unfold rWants at ht
  by_cases c : x.op = 0
  ·rw [if_pos c] at ht; simp at ht; omega
  rw [if_neg c] at ht; clear c
  by_cases c : x.op = 2
  ·rw [if_pos c] at ht; simp at ht
  rw [if_neg c] at ht; clear c
  by_cases c : x.op = 3 ∨ x.op = 4 ∨ x.op = 5 ∨ x.op = 6
  ·rw [if_pos c] at ht; simp at ht; omega
  rw [if_neg c] at ht; clear c
  by_cases c : x.op = 8 ∨ x.op = 19
  ·rw [if_pos c] at ht; simp at ht
  rw [if_neg c] at ht; clear c
  by_cases c : x.op = 9
  ·rw [if_pos c] at ht; simp at ht; have := hc (.inl c); omega
  rw [if_neg c] at ht; clear c
  by_cases c : x.op = 10
  ·rw [if_pos c] at ht; simp at ht; have := hf c; omega
  rw [if_neg c] at ht; clear c
  by_cases c : x.op = 11
  ·rw [if_pos c] at ht; simp at ht
  rw [if_neg c] at ht; clear c
  by_cases c : x.op = 12
  ·rw [if_pos c] at ht; simp at ht; have := hm c; omega
  rw [if_neg c] at ht; clear c
  by_cases c : x.op = 13
  ·rw [if_pos c] at ht; simp at ht
  rw [if_neg c] at ht; clear c
  by_cases c : x.op = 14
  ·rw [if_pos c] at ht; simp at ht
  rw [if_neg c, if_neg c15] at ht; clear c
  by_cases c : x.op = 16
  ·rw [if_pos c] at ht; simp at ht; omega
  rw [if_neg c] at ht; clear c
  by_cases c : x.op = 17
  ·rw [if_pos c] at ht; simp at ht; have := hc (.inr c); omega
  rw [if_neg c] at ht; clear c
  by_cases c : x.op = 18
  ·rw [if_pos c] at ht; simp at ht
  rw [if_neg c, if_neg c20] at ht
  simp at ht
 omega
theorem rWants_ty {p : List LClass} {m : LMeth} {x : LIns} (hc : x.op = 10 ∨ x.op = 11 ∨ x.op = 12 → 0 ≤ x.a ∧ x.a < (p.length : Int)) (hf : x.op = 11 → tyOk p.length (fieldT p x.a x.b)) (hm : x.op = 12 → ∀ t ∈ (findM p x.a x.b).args, tyOk p.length t) (hr : tyOk p.length m.ret) : ∀ t ∈ (rWants p m x).1, t = -1 ∨ t = -2 ∨ tyOk p.length t := by
 intro t ht
 have z : ∀ n : Int, 0 ≤ n → n < 3 → tyOk p.length n := fun n h0 h3 => ⟨h0, by omega⟩
 unfold rWants at ht
 by_cases c : x.op = 0
 ·rw [if_pos c] at ht; simp at ht
 rw [if_neg c] at ht; clear c
 by_cases c : x.op = 2
 ·rw [if_pos c] at ht; simp at ht; exact .inr (.inl ht)
 rw [if_neg c] at ht; clear c
 by_cases c : x.op = 3 ∨ x.op = 4 ∨ x.op = 5 ∨ x.op = 6
 ·rw [if_pos c] at ht; simp at ht; subst ht; exact .inr (.inr (z 0 (by omega) (by omega)))
 rw [if_neg c] at ht; clear c
 by_cases c : x.op = 8 ∨ x.op = 19
 ·rw [if_pos c] at ht; simp at ht; subst ht; exact .inr (.inr (z 0 (by omega) (by omega)))
 rw [if_neg c] at ht; clear c
 by_cases c : x.op = 9
 ·rw [if_pos c] at ht; simp at ht
 rw [if_neg c] at ht; clear c
 by_cases c : x.op = 10
 ·rw [if_pos c] at ht; simp at ht; subst ht; have := hc (.inl c); exact .inr (.inr ⟨by omega, by omega⟩)
 rw [if_neg c] at ht; clear c
 by_cases c : x.op = 11
 ·rw [if_pos c] at ht; simp at ht
  rcases ht with rfl | rfl
  ·have := hc (.inr (.inl c)); exact .inr (.inr ⟨by omega, by omega⟩)
  ·exact .inr (.inr (hf c))
 rw [if_neg c] at ht; clear c
 by_cases c : x.op = 12
 ·rw [if_pos c] at ht; simp only [List.mem_cons] at ht
  rcases ht with rfl | ht
  ·have := hc (.inr (.inr c)); exact .inr (.inr ⟨by omega, by omega⟩)
  ·exact .inr (.inr (hm c t ht))
 rw [if_neg c] at ht; clear c
 by_cases c : x.op = 13
 ·rw [if_pos c] at ht; simp at ht; subst ht; exact .inr (.inr hr)
 rw [if_neg c] at ht; clear c
 by_cases c : x.op = 14
 ·rw [if_pos c] at ht; simp at ht; subst ht; exact .inr (.inr (z 2 (by omega) (by omega)))
 rw [if_neg c] at ht; clear c
 by_cases c : x.op = 15
 ·rw [if_pos c] at ht; simp at ht; subst ht; exact .inr (.inr (z 2 (by omega) (by omega)))
 rw [if_neg c] at ht; clear c
 by_cases c : x.op = 16
 ·rw [if_pos c] at ht; simp at ht
 rw [if_neg c] at ht; clear c
 by_cases c : x.op = 17
 ·rw [if_pos c] at ht; simp at ht; exact .inl ht
 rw [if_neg c] at ht; clear c
 by_cases c : x.op = 18
 ·rw [if_pos c] at ht; simp at ht; exact .inl ht
 rw [if_neg c] at ht; clear c
 by_cases c : x.op = 20
 ·rw [if_pos c] at ht; simp at ht; subst ht; exact .inr (.inr (z 2 (by omega) (by omega)))
 rw [if_neg c] at ht
 simp at ht
theorem rWants_len {p : List LClass} {m : LMeth} {x : LIns} {N : Nat} (hN : 2 ≤ N) (hm : x.op = 12 → 1 + (findM p x.a x.b).args.length ≤ N) : (rWants p m x).1.length ≤ N ∧ (rWants p m x).2.length ≤ 2 := by
 have two : ∀ (a b : List Int), a.length ≤ 2 → b.length ≤ 2 → (a, b).1.length ≤ N ∧ (a, b).2.length ≤ 2 := fun a b h1 h2 => ⟨Nat.le_trans h1 hN, h2⟩
 unfold rWants
 by_cases c : x.op = 0
 ·rw [if_pos c]
  exact two _ _ (by simp) (by simp)
 rw [if_neg c]; clear c
 by_cases c : x.op = 2
 ·rw [if_pos c]
  exact two _ _ (by simp) (by simp)
 rw [if_neg c]; clear c
 by_cases c : x.op = 3 ∨ x.op = 4 ∨ x.op = 5 ∨ x.op = 6
 ·rw [if_pos c]
  exact two _ _ (by simp) (by simp)
 rw [if_neg c]; clear c
 by_cases c : x.op = 8 ∨ x.op = 19
 ·rw [if_pos c]
  exact two _ _ (by simp) (by simp)
 rw [if_neg c]; clear c
 by_cases c : x.op = 9
 ·rw [if_pos c]
  exact two _ _ (by simp) (by simp)
 rw [if_neg c]; clear c
 by_cases c : x.op = 10
 ·rw [if_pos c]
  exact two _ _ (by simp) (by simp)
 rw [if_neg c]; clear c
 by_cases c : x.op = 11
 ·rw [if_pos c]
  exact two _ _ (by simp) (by simp)
 rw [if_neg c]; clear c
 by_cases c : x.op = 12
 ·rw [if_pos c]
  exact ⟨by have := hm c; rw [List.length_cons]; omega, by simp⟩
 rw [if_neg c]; clear c
 by_cases c : x.op = 13
 ·rw [if_pos c]
  exact two _ _ (by simp) (by simp)
 rw [if_neg c]; clear c
 by_cases c : x.op = 14
 ·rw [if_pos c]
  exact two _ _ (by simp) (by simp)
 rw [if_neg c]; clear c
 by_cases c : x.op = 15
 ·rw [if_pos c]
  exact two _ _ (by simp) (by simp)
 rw [if_neg c]; clear c
 by_cases c : x.op = 16
 ·rw [if_pos c]
  exact two _ _ (by simp) (by simp)
 rw [if_neg c]; clear c
 by_cases c : x.op = 17
 ·rw [if_pos c]
  exact two _ _ (by simp) (by simp)
 rw [if_neg c]; clear c
 by_cases c : x.op = 18
 ·rw [if_pos c]
  exact two _ _ (by simp) (by simp)
 rw [if_neg c]; clear c
 by_cases c : x.op = 20
 ·rw [if_pos c]
  exact two _ _ (by simp) (by simp)
 rw [if_neg c]; clear c
 exact two _ _ (by simp) (by simp)
end Go.Proofs.YtiiokkllmchohaaGreat
namespace Go.Proofs.YtiiokkllmchohaaGreat
open Go.RowKit Go.Shelf
attribute [local go_sem ↓] Go.wp_at_zero Go.wp_at_succ
attribute [local go_sem] frz_drew
attribute [local go_sem] Oper.semAt_some
section
variable {w V V' : World} {bp : Nat} {ds : List Nat} {f f' : Nat → Bool}
end
def FopR (B : Nat) (l : List LFrame) (w w' : World) (e : Ending) : Prop := ∃ v, e = .returned v ∧ SlAt 3 (GFrame (sel (fun k => B ≤ k) w')) v l ∧ Below w.heap.size w w'
def FopF (w V : World) (B : Nat) (v : Value) (l : List LFrame) : Prop := ∃ cs, V.ownsRow w.heap.size 42 3 v l.length cs ∧ RowG 3 (FrmC (sel (fun k => B ≤ k) w)) cs l
section
variable {w V V' : World} {B bp : Nat} {ds : List Nat} {f : Nat → Bool} {v : Value} {l : List LFrame}
theorem FopF.below (F : FopF w V B v l) (b : Below V.heap.size V V') : FopF w V' B v l := by
 obtain ⟨cs, hO, hR⟩ := F
 exact ⟨cs, own_mods hO (Mods.of_below b) (fun g hg e => by have := (hO.lt g hg).2; omega), hR⟩
end
end Go.Proofs.YtiiokkllmchohaaGreat
namespace Go.Proofs.YtiiokkllmchohaaGreat
open Go.RowKit Go.Shelf
attribute [local go_sem ↓] Go.wp_at_zero Go.wp_at_succ
attribute [local go_sem] frz_drew
end Go.Proofs.YtiiokkllmchohaaGreat
namespace Go.Proofs.YtiiokkllmchohaaGreat
open Go.RowKit Go.Shelf
section
variable {w V W : World} {vp v : Value} {q : List LClass}
theorem infoCls : (Tryz.prog.info? 66).map (fun i => (i.zero, i.size, i.bytes)) = some (some (.agg #[.int .i64 0, .slice none 0 0, .slice none 0 0]), 3, 56) := by kernel_rfl
end
end Go.Proofs.YtiiokkllmchohaaGreat
namespace Go.Proofs.YtiiokkllmchohaaGreat
open Go.RowKit Go.Shelf
attribute [local go_sem ↓] Go.wp_at_zero Go.wp_at_succ
attribute [local go_sem] frz_drew
theorem aggPr1 : AggOk Tryz.prog 24 1 := ⟨by kernel_rfl, by kernel_rfl⟩
end Go.Proofs.YtiiokkllmchohaaGreat
