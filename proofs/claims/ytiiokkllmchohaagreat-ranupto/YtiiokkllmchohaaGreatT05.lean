/- The document's example, as data. -/
import Derived.Test.YtiiokkllmchohaaGreatT01
set_option maxHeartbeats 0
set_option maxRecDepth 99999
namespace Go.Proofs.YtiiokkllmchohaaGreat
open Go.Value renaming int->J,slice->O,pointer->zP,bool->zB
open Go.IntKind renaming i64->I
open Option renaming none->U,some->M
open Bool renaming true->K,false->F
open Go.Ending renaming returned->zR
open Go.Obj renaming cells->zC
open Go.RowKit
def pA:List eb:= [⟨-1,[0],[⟨0,[],0,1,2,[⟨1,0,0⟩,⟨10,0,0⟩,⟨13,0,0⟩],[]⟩,⟨1,[0],0,2,3,[⟨1,0,0⟩,⟨1,1,0⟩,⟨11,0,0⟩,⟨1,0,0⟩,⟨12,0,0⟩,⟨13,0,0⟩],[]⟩]⟩]
theorem Il:je pA:=by
 unfold je pA;intro f hx;obtain rfl:=aC.1 hx;refine⟨by unfold I64;decide,λd b=>?_,λf c=>?_⟩
 .obtain rfl:=aC.1 b;unfold I64;decide
 .simp only [aE,aF,or_false]at c
  rcases c with rfl | rfl
  .refine⟨by unfold I64;decide,λd b=>(by cases b),by unfold I64;decide,by unfold I64;decide,by unfold I64;decide,λe a=>?_,λb a=>(by cases a)⟩;simp only[aE,aF,or_false]at a
   rcases a with rfl | rfl | rfl <;> (unfold uh I64;decide)
  .refine⟨by unfold I64;decide,λd b=>?_,by unfold I64;decide,by unfold I64;decide,by unfold I64;decide,λe a=>?_,λb a=>(by cases a)⟩
   .obtain rfl:=aC.1 b;unfold I64;decide
   .simp only [aE,aF,or_false]at a
    rcases a with rfl | rfl | rfl | rfl | rfl | rfl <;> (unfold uh I64;decide)
end Go.Proofs.YtiiokkllmchohaaGreat
