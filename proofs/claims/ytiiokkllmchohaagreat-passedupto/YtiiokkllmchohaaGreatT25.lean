/- The code's reader: lists of methods, classes. -/
import Derived.Defers
import Derived.Recover
import Derived.Test.YtiiokkllmchohaaGreatT14
namespace Go.Proofs.YtiiokkllmchohaaGreat
open Go.RowKit
attribute [local go_sem ↓] Go.wp_at_zero Go.wp_at_succ
end Go.Proofs.YtiiokkllmchohaaGreat
namespace Go.Proofs.YtiiokkllmchohaaGreat
open Go.RowKit
theorem catch_idle (p : Addr) (w : World) :
  CallsD Tryz.prog 72 #[.pointer (some p)] .returning w fun e u' w' => e = .returned (.tuple #[]) ∧ u' = .returning ∧ w' = w := by
 refine callsD_of_wpS Tryz.func72 rfl fun c₀ cs hu => ?_
 apply wpS_seq
 apply wpS_region
 simp [wpOpsS, go_sem, recoverD, hu, Tryz.ntmps72, Exit.thenS, Array.replicate]
 refine wpS_of_wp ?_
 go_wp2
 cases c₀
 simp_all [bodyPostS, results, Tryz.results72]
set_option maxHeartbeats 1000000 in
set_option maxRecDepth 100000 in
theorem catch_giving (p : Addr) (why x : Int) (w : World) (hc : w.cell? p = some (.int .i64 x)) (hz : w.frozen? p = false) :
  CallsD Tryz.prog 72 #[.pointer (some p)] (.panicking (refC why)) w fun e u' w' =>
   e = .returned (.tuple #[]) ∧ u' = .panicking [{ v := .iface 119 (.agg #[.int .i64 why]), recovered := true }] ∧ w' = (w.alloc (.cells #[.int .i64 why] 119)).setCell p (.int .i64 why) := by
 refine callsD_of_wpS Tryz.func72 rfl fun c₀ cs hu => ?_
 unfold refC at hu
 have hta : ∀ W : World, (Instr.typeAssert (.iface 119 (.agg #[.int .i64 why])) 20 119 true).run Tryz.prog W = .ok (.tuple #[.agg #[.int .i64 why], .bool true]) W := fun W => by kernel_rfl
 apply wpS_seq
 apply wpS_region
 simp [wpOpsS, go_sem, recoverD, hu, Tryz.ntmps72, Exit.thenS, Array.replicate]
 refine wpS_of_wp ?_
 have hc' : ∀ o, (w.alloc o).cell? p = some (.int .i64 x) := fun o => box_keeps w o _ _ hc
 have hz' : ∀ o, (w.alloc o).frozen? p = false := fun o => by rw [World.frozen?_alloc_old _ _ _ (Nat.ne_of_lt (cell_lt hc))]; exact hz
 go_wp2_with fail
 cases c₀
 simp_all [bodyPostS, results, Tryz.results72]

end Go.Proofs.YtiiokkllmchohaaGreat
namespace Go.Proofs.YtiiokkllmchohaaGreat
open Go.RowKit
attribute [local go_sem ↓] Go.wp_at_zero Go.wp_at_succ
end Go.Proofs.YtiiokkllmchohaaGreat
