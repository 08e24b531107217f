/- Numbers in bytes, and the walk of the document's answer that writes one. -/
import Derived.Test.YtiiokkllmchohaaGreatRows
import Derived.Deep.RegionHeld3
import Derived.Deep.DrawnRows
import Derived.Test.YtiiokkllmchohaaGreatT01
/- NumA -/
namespace Go.Proofs.YtiiokkllmchohaaGreat
open Go.RowKit

def foldZ (n : Int) : Nat := if n < 0 then (2 * (-(n + 1)) + 1).toNat else (2 * n).toNat
def encU : Nat → Nat → List UInt8
  | 0, _ => []
  | f + 1, v => if v < 128 then [UInt8.ofNat v] else UInt8.ofNat (128 + v % 128) :: encU f (v / 128)
def encN (n : Int) : List UInt8 := encU 10 (foldZ n)
theorem foldZ_lt {n : Int} (h : I64 n) : foldZ n < 18446744073709551616 := by
  obtain ⟨h1, h2⟩ := h
  unfold foldZ
  split <;> omega

theorem encU_lt {f v : Nat} (h : v < 128) : encU (f + 1) v = [UInt8.ofNat v] := by rw [encU, if_pos h]
theorem encU_ge {f v : Nat} (h : ¬ v < 128) : encU (f + 1) v = UInt8.ofNat (128 + v % 128) :: encU f (v / 128) := by rw [encU, if_neg h]
end Go.Proofs.YtiiokkllmchohaaGreat
/- Walks of the document's answer that write types and methods in bytes. -/
namespace Go.Proofs.YtiiokkllmchohaaGreat
open Go.RowKit
attribute [local go_sem ↓] Go.wp_at_zero Go.wp_at_succ

theorem encU_len : ∀ (f v : Nat), (encU f v).length ≤ f
  | 0, _ => Nat.le_refl _
  | f + 1, v => by
    rw [encU]
    split
    · simp
    · have := encU_len f (v / 128); simp; omega
theorem encN_len (n : Int) : (encN n).length ≤ 10 := encU_len 10 _
def encTs (l : List Int) : List UInt8 := l.flatMap encN
theorem encTs_len (l : List Int) : (encTs l).length ≤ 10 * l.length := by
  unfold encTs
  induction l with
  | nil => simp
  | cons x r ih => rw [List.flatMap_cons, List.length_append, List.length_cons]; have := encN_len x; omega
def encIns (i : LIns) : List UInt8 := encN i.op ++ encN i.a ++ encN i.b
def encFrame (f : LFrame) : List UInt8 := encN f.pc ++ encTs f.locals ++ encN f.stack.length ++ encTs f.stack
def encHead (m : LMeth) : List UInt8 := encN m.slot ++ encN m.args.length ++ encTs m.args ++ encN m.ret ++ encN m.locals ++ encN m.stack ++ encN m.code.length
def encMeth (m : LMeth) : List UInt8 := encHead m ++ m.code.flatMap encIns ++ encN m.frames.length ++ m.frames.flatMap encFrame
theorem encHead_len (m : LMeth) : (encHead m).length ≤ 10 * m.args.length + 60 := by
  unfold encHead
  simp only [List.length_append]
  have := encN_len m.slot; have := encN_len (m.args.length : Int); have := encTs_len m.args; have := encN_len m.ret; have := encN_len m.locals; have := encN_len m.stack; have := encN_len (m.code.length : Int)
  omega
theorem encIns_len (i : LIns) : (encIns i).length ≤ 30 := by
  unfold encIns
  simp only [List.length_append]
  have := encN_len i.op; have := encN_len i.a; have := encN_len i.b
  omega
theorem encFrame_len (f : LFrame) : (encFrame f).length ≤ 10 * szFrame f := by
  unfold encFrame szFrame
  simp only [List.length_append]
  have := encN_len f.pc; have := encTs_len f.locals; have := encN_len (f.stack.length : Int); have := encTs_len f.stack
  omega
theorem i64_nat {n : Nat} (h : n ≤ 4194304) : I64 (n : Int) := ⟨by omega, by omega⟩

theorem code_len : ∀ l : List LIns, (l.flatMap encIns).length ≤ 30 * l.length
  | [] => by simp
  | x :: r => by rw [List.flatMap_cons, List.length_append, List.length_cons]; have := encIns_len x; have := code_len r; omega
theorem frames_len : ∀ l : List LFrame, (l.flatMap encFrame).length ≤ 10 * (l.map szFrame).sum
  | [] => by simp
  | x :: r => by rw [List.flatMap_cons, List.length_append, List.map_cons, List.sum_cons]; have := encFrame_len x; have := frames_len r; omega
end Go.Proofs.YtiiokkllmchohaaGreat
/- The walk of the document's answer that reads one number. -/
namespace Go.Proofs.YtiiokkllmchohaaGreat
open Go.RowKit
attribute [local go_sem ↓] Go.wp_at_zero Go.wp_at_succ

def unfoldZ (v : Nat) : Int := if v % 2 = 1 then -((v / 2 : Nat) : Int) - 1 else ((v / 2 : Nat) : Int)
def rdU (s : List UInt8) : Nat → Nat → Nat → Nat → Int × Nat × Bool
  | 0, i, _, _ => (0, i, true)
  | f + 1, i, v, u => match s[i]? with
    | none => (0, i, true)
    | some c => if c.toNat < 128 then (unfoldZ ((v + u * (c.toNat % 128) % 18446744073709551616) % 18446744073709551616), i + 1, false) else rdU s f (i + 1) ((v + u * (c.toNat % 128) % 18446744073709551616) % 18446744073709551616) (u * 128 % 18446744073709551616)
def rdN (s : List UInt8) (i : Nat) (bad : Bool) : Int × Nat × Bool := if bad then (0, i, true) else rdU s 10 i 0 1
end Go.Proofs.YtiiokkllmchohaaGreat
/- The walk of the document's answer that reads how many there are. -/
namespace Go.Proofs.YtiiokkllmchohaaGreat
open Go.RowKit
attribute [local go_sem ↓] Go.wp_at_zero Go.wp_at_succ

def rdM (s : List UInt8) (i : Nat) (bad : Bool) : Int × Nat × Bool := if (rdN s i bad).1 < 0 ∨ 40 < (rdN s i bad).1 then (0, (rdN s i bad).2.1, true) else rdN s i bad
end Go.Proofs.YtiiokkllmchohaaGreat
/- The walk of the document's answer that reads types. -/
namespace Go.Proofs.YtiiokkllmchohaaGreat
open Go.RowKit
attribute [local go_sem ↓] Go.wp_at_zero Go.wp_at_succ

def rdTs (s : List UInt8) : Nat → Nat → Bool → List Int × Nat × Bool
  | 0, i, bad => ([], i, bad)
  | n + 1, i, bad => if bad then ([], i, true) else ((rdN s i false).1 :: (rdTs s n (rdN s i false).2.1 (rdN s i false).2.2).1, (rdTs s n (rdN s i false).2.1 (rdN s i false).2.2).2)
theorem rdTs_succ (s : List UInt8) (n i : Nat) : rdTs s (n + 1) i false = ((rdN s i false).1 :: (rdTs s n (rdN s i false).2.1 (rdN s i false).2.2).1, (rdTs s n (rdN s i false).2.1 (rdN s i false).2.2).2) := rfl
end Go.Proofs.YtiiokkllmchohaaGreat
/- What was written is read back: numbers and lists of numbers. -/
namespace Go.Proofs.YtiiokkllmchohaaGreat
open Go.RowKit

theorem unfold_fold (n : Int) : unfoldZ (foldZ n) = n := by
  unfold unfoldZ foldZ
  split <;> split <;> omega
theorem drop_cons_get {s r : List UInt8} {i : Nat} {c : UInt8} (h : s.drop i = c :: r) : s[i]? = some c ∧ s.drop (i + 1) = r := by
  constructor
  · rw [← List.head?_drop, h]; rfl
  · rw [← List.tail_drop, h]; rfl
theorem rdU_enc {s rest : List UInt8} : ∀ (f V i v u : Nat), V < 128 ^ f → s.drop i = encU f V ++ rest → v + u * V < 18446744073709551616 → 0 < f → rdU s f i v u = (unfoldZ (v + u * V), i + (encU f V).length, false)
  | 0, _, _, _, _, _, _, _, h => absurd h (by omega)
  | f + 1, V, i, v, u, hV, hd, hb, _ => by
    by_cases hlt : V < 128
    · rw [encU_lt hlt] at hd ⊢
      obtain ⟨hg, _⟩ := drop_cons_get hd
      have hc : (UInt8.ofNat V).toNat = V := by simp [UInt8.toNat_ofNat']; omega
      have huv : u * V % 18446744073709551616 = u * V := Nat.mod_eq_of_lt (by omega)
      rw [rdU, hg]
      simp only [hc, if_pos hlt, Nat.mod_eq_of_lt hlt, huv, Nat.mod_eq_of_lt hb]
      rfl
    · rw [encU_ge hlt] at hd ⊢
      obtain ⟨hg, hd'⟩ := drop_cons_get (show s.drop i = UInt8.ofNat (128 + V % 128) :: (encU f (V / 128) ++ rest) from hd)
      have hc : (UInt8.ofNat (128 + V % 128)).toNat = 128 + V % 128 := by simp [UInt8.toNat_ofNat']; omega
      have hu1 : u * 128 ≤ u * V := Nat.mul_le_mul_left u (by omega)
      have hu2 : u * (V % 128) ≤ u * V := Nat.mul_le_mul_left u (Nat.mod_le _ _)
      have hsum : v + u * (V % 128) + u * 128 * (V / 128) = v + u * V := by
        rw [Nat.mul_assoc, Nat.add_assoc, ← Nat.mul_add]
        congr 2
        omega
      have hf : 0 < f := by
        cases f with
        | zero => simp at hV; omega
        | succ f => omega
      have ih := rdU_enc (s := s) (rest := rest) f (V / 128) (i + 1) (v + u * (V % 128)) (u * 128) (by rw [Nat.pow_succ] at hV; omega) hd' (by omega) hf
      have e1 : (128 + V % 128) % 128 = V % 128 := by omega
      have e2 : ¬ 128 + V % 128 < 128 := by omega
      rw [rdU, hg]
      simp only [hc, e1, if_neg e2, Nat.mod_eq_of_lt (by omega : u * (V % 128) < 18446744073709551616), Nat.mod_eq_of_lt (by omega : v + u * (V % 128) < 18446744073709551616), Nat.mod_eq_of_lt (by omega : u * 128 < 18446744073709551616)]
      rw [ih, hsum, List.length_cons]
      congr 2
      omega
theorem rdN_enc {s rest : List UInt8} {n : Int} {i : Nat} (hn : I64 n) (hd : s.drop i = encN n ++ rest) : rdN s i false = (n, i + (encN n).length, false) := by
  have hf := foldZ_lt hn
  have := rdU_enc (s := s) (rest := rest) 10 (foldZ n) i 0 1 (by omega) hd (by omega) (by omega)
  rw [Nat.zero_add, Nat.one_mul, unfold_fold] at this
  exact this
theorem drop_app {s a b : List UInt8} {i : Nat} (h : s.drop i = a ++ b) : s.drop (i + a.length) = b := by
  rw [← List.drop_drop, h, List.drop_left]
theorem rdTs_enc {s : List UInt8} : ∀ (l : List Int) (rest : List UInt8) (i : Nat), (∀ x ∈ l, I64 x) → s.drop i = encTs l ++ rest → rdTs s l.length i false = (l, i + (encTs l).length, false)
  | [], rest, i, _, _ => by simp [rdTs, encTs]
  | x :: r, rest, i, hx, hd => by
    have e : encTs (x :: r) = encN x ++ encTs r := by unfold encTs; rw [List.flatMap_cons]
    rw [e, List.append_assoc] at hd
    have h1 := rdN_enc (hx x (List.mem_cons_self ..)) hd
    have h2 := rdTs_enc r rest (i + (encN x).length) (fun y hy => hx y (List.mem_cons_of_mem _ hy)) (drop_app hd)
    rw [List.length_cons, rdTs_succ, h1]
    simp only [h2, e, List.length_append]
    congr 2
    omega
theorem rdM_enc {s rest : List UInt8} {n i : Nat} (hn : n ≤ 40) (hd : s.drop i = encN (n : Int) ++ rest) : rdM s i false = ((n : Int), i + (encN (n : Int)).length, false) := by
  have h1 := rdN_enc (i64_nat (by omega)) hd
  unfold rdM
  rw [h1, if_neg (by simp; omega)]
end Go.Proofs.YtiiokkllmchohaaGreat
