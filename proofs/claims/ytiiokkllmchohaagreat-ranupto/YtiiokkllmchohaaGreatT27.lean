/- The solver: Solve. -/
import Derived.Laws.Tables
import Derived.Test.YtiiokkllmchohaaGreatT26
set_option maxHeartbeats 0
set_option maxRecDepth 99999
namespace Go.Proofs.YtiiokkllmchohaaGreat
open Go.Value renaming int->J,slice->O,pointer->zP,bool->zB
open Go.IntKind renaming i64->I
open Option renaming none->U,some->M
open Bool renaming true->K,false->F
open Go.Ending renaming returned->zR
open Go.Obj renaming cells->zC
open Go.RowKit Go.Shelf
section
attribute [local go_sem ↓] Go.wp_at_zero Go.wp_at_succ
attribute [local go_sem] eZ
theorem C7:(Tryz.prog.info? 43).map (λa=>(a.zero,a.size,a.bytes))=M (M (J I 0),1,8):=by kernel_rfl
end
end Go.Proofs.YtiiokkllmchohaaGreat
