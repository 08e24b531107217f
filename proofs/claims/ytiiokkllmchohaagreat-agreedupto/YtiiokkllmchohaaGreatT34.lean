/- Plain lists: cells of elements side by side. -/
import Derived.Laws.MakeOwn
import Derived.Test.YtiiokkllmchohaaGreatT01
/- Flat -/
namespace Go.Proofs.YtiiokkllmchohaaGreat
open Go.RowKit

theorem flat_len {α β : Type} {f : α → List β} {s : Nat} (hf : ∀ x, (f x).length = s) : ∀ (l : List α), (l.flatMap f).length = l.length * s
 | [] => by simp
 | x :: r => by
  rw [List.flatMap_cons, List.length_append, hf, flat_len hf r, List.length_cons, Nat.succ_mul, Nat.add_comm]
theorem flat_get {α β : Type} {f : α → List β} {s : Nat} (hf : ∀ x, (f x).length = s) : ∀ (l : List α) (j r : Nat), r < s → (l.flatMap f)[j * s + r]? = (l[j]?).bind fun x => (f x)[r]?
 | [], j, r, _ => by simp
 | x :: l, 0, r, hr => by
  rw [List.flatMap_cons, Nat.zero_mul, Nat.zero_add, List.getElem?_append_left (by rw [hf]; exact hr)]
  rfl
 | x :: l, j + 1, r, hr => by
  rw [List.flatMap_cons, List.getElem?_append_right (by rw [hf, Nat.succ_mul]; omega), hf, show (j + 1) * s + r - s = j * s + r by rw [Nat.succ_mul]; omega, flat_get hf l j r hr]
  rfl
def insCells (i : LIns) : List Value := [.int .i64 i.op, .int .i64 i.a, .int .i64 i.b]
def codeCells (l : List LIns) : List Value := l.flatMap insCells
theorem codeCells_len (l : List LIns) : (codeCells l).length = l.length * 3 := flat_len (f := insCells) (s := 3) (fun _ => rfl) l
theorem addr_add (b off j : Nat) : (⟨b, off, none⟩ : Addr).add j = ⟨b, off + j, none⟩ := by unfold Addr.add; split <;> simp_all
end Go.Proofs.YtiiokkllmchohaaGreat
