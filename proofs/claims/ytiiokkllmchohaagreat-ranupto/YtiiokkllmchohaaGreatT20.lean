/- The code's reader: methods. -/
import Derived.Defers
import Derived.Recover
import Derived.Test.YtiiokkllmchohaaGreatT16
set_option maxHeartbeats 0
set_option maxRecDepth 99999
namespace Go.Proofs.YtiiokkllmchohaaGreat
open Go.Value renaming int->J,slice->O,pointer->zP,bool->zB
open Go.IntKind renaming i64->I
open Option renaming none->U,some->M
open Bool renaming true->K,false->F
open Go.Ending renaming returned->zR
open Go.Obj renaming cells->zC
open Go.RowKit
section
attribute [local go_sem ↓] Go.wp_at_zero Go.wp_at_succ
theorem ee.vK{b c d}(a:ee b c.drew d):ee b c d:=⟨a.os,a.tape,a.output,a.size,a.block⟩
end
theorem catch_idle(p a):
  CallsD Tryz.prog 72 #[zP (M p)] .returning a λc e f=>c=zR (.tuple #[])/\e= .returning/\f=a:=by
 refine callsD_of_wpS Tryz.func72 rfl λb a d=>?_
 apply wpS_seq
 apply wpS_region
 simp[wpOpsS,go_sem,recoverD,d,Tryz.ntmps72,Exit.thenS,Array.replicate];refine wpS_of_wp ?_
 go_wp2
 cases b
 simp_all[bodyPostS,results,Tryz.results72]
theorem Gk(p b x a)(c:a.cell? p=M (J I x))(g:a.frozen? p=F):
  CallsD Tryz.prog 72 #[zP (M p)] (.panicking (lJ b)) a λf h i=>
   f=zR (.tuple #[])/\h= .panicking [{ v:=.iface 119 (.agg #[J I b]),recovered:=K }]/\i=(a.alloc (zC #[J I b] 119)).setCell p (J I b):=by
 refine callsD_of_wpS Tryz.func72 rfl λe f d=>?_;unfold lJ at d;have:∀a:World,(Instr.typeAssert (.iface 119 (.agg #[J I b])) 20 119 K).run Tryz.prog a= .ok (.tuple #[.agg #[J I b],zB K]) a:=λa=>by kernel_rfl
 apply wpS_seq
 apply wpS_region
 simp[wpOpsS,go_sem,recoverD,d,Tryz.ntmps72,Exit.thenS,Array.replicate];refine wpS_of_wp ?_;have:∀b,(a.alloc b).cell? p=M (J I x):=λb=>kK a b _ _ c;have:∀b,(a.alloc b).frozen? p=F:=λb=>by rw[World.frozen?_alloc_old _ _ _ (Nat.ne_of_lt (Oo c))];exact g
 go_wp2_with fail
 cases e
 simp_all[bodyPostS,results,Tryz.results72]
section
attribute [local go_sem ↓] Go.wp_at_zero Go.wp_at_succ
end
end Go.Proofs.YtiiokkllmchohaaGreat
