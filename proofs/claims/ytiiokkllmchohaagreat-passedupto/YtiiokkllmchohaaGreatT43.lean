/- The code's Run, of a program that holds, a method that is there. -/
import Derived.Test.YtiiokkllmchohaaGreatT02
import Derived.Test.YtiiokkllmchohaaGreatT07
import Derived.Test.YtiiokkllmchohaaGreatT14
import Derived.Test.YtiiokkllmchohaaGreatT25
import Derived.Test.YtiiokkllmchohaaGreatT27
import Derived.Test.YtiiokkllmchohaaGreatT29
namespace Go.Proofs.YtiiokkllmchohaaGreat
open Go.RowKit Go.Shelf
attribute [local go_sem ↓] Go.wp_at_zero Go.wp_at_succ
attribute [local go_sem] frz_drew
end Go.Proofs.YtiiokkllmchohaaGreat
namespace Go.Proofs.YtiiokkllmchohaaGreat
open Go.RowKit Go.Shelf
end Go.Proofs.YtiiokkllmchohaaGreat
namespace Go.Proofs.YtiiokkllmchohaaGreat
open Go.RowKit Go.Shelf
attribute [local go_sem ↓] Go.wp_at_zero Go.wp_at_succ
attribute [local go_sem] frz_drew
theorem sum_bound {α : Type} (f : α → Nat) (B : Nat) : ∀ l : List α, (∀ x ∈ l, f x ≤ B) → (l.map f).sum ≤ l.length * B
 | [], _ => by simp
 | x :: l, h => by
  have h1 := sum_bound f B l (fun y hy => h y (List.mem_cons_of_mem _ hy))
  have h2 := h x List.mem_cons_self
  rw [List.map_cons, List.sum_cons, List.length_cons, Nat.succ_mul]
  omega
theorem form_sz {p : List LClass} (h : formI p = 0) : szProg p ≤ 1048576 := by
 obtain ⟨h1, h2⟩ := form_short h
 have hf : ∀ x ∈ p, szClass x ≤ 142764 := fun x hx => by
  obtain ⟨a1, a2, a3⟩ := h2 x hx
  have hm : ∀ m ∈ x.meths, szMeth m ≤ 3568 := fun m hm => by
   obtain ⟨b1, b2, b3, b4, b5⟩ := a3 m hm
   have hfr : ∀ f ∈ m.frames, szFrame f ≤ 84 := fun f hf => by
    obtain ⟨c1, c2⟩ := b5 f hf
    unfold szFrame
    omega
   have := sum_bound szFrame 84 m.frames hfr
   have : m.frames.length * 84 ≤ 40 * 84 := Nat.mul_le_mul_right _ b4
   unfold szMeth
   omega
  have := sum_bound szMeth 3568 x.meths hm
  have : x.meths.length * 3568 ≤ 40 * 3568 := Nat.mul_le_mul_right _ a2
  unfold szClass
  omega
 have := sum_bound szClass 142764 p hf
 have : p.length * 142764 ≤ 6 * 142764 := Nat.mul_le_mul_right _ h1
 unfold szProg
 omega
end Go.Proofs.YtiiokkllmchohaaGreat
