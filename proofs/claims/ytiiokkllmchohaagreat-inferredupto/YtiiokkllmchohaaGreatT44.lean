/- What the code's Decode answers. -/
import Derived.Test.YtiiokkllmchohaaGreatT14
set_option maxHeartbeats 4000000
set_option maxRecDepth 100000
namespace Go.Proofs.YtiiokkllmchohaaGreat
open Go.RowKit
attribute [local go_sem ↓] Go.wp_at_zero Go.wp_at_succ
theorem FT {α :Type}(f: α→Nat)(B:Nat):∀(l:List α),(∀x∈l,f x≤B)→(l.map f).sum≤l.length*B
 | [], _ => by simp
 | x :: r, h => by
  rw [List.map_cons,List.sum_cons,List.length_cons,Nat.succ_mul];have:=h x (List.mem_cons_self ..);have:=FT f B r (fun y hy=>h y (List.mem_cons_of_mem _ hy));omega
end Go.Proofs.YtiiokkllmchohaaGreat
