/- The document's example, as data. -/
import Derived.Test.YtiiokkllmchohaaGreatT01
set_option maxHeartbeats 4000000
set_option maxRecDepth 100000
namespace Go.Proofs.YtiiokkllmchohaaGreat
open Go.RowKit
def Ad:List aj:= [⟨-1,[0],[⟨0,[],0,1,2,[⟨1,0,0⟩,⟨10,0,0⟩,⟨13,0,0⟩],[]⟩,⟨1,[0],0,2,3,[⟨1,0,0⟩,⟨1,1,0⟩,⟨11,0,0⟩,⟨1,0,0⟩,⟨12,0,0⟩,⟨13,0,0⟩],[]⟩]⟩]
theorem afJ:bD Ad=0:=by decide

theorem afL:jq Ad:=by
 unfold jq Ad;intro x hx;obtain rfl:=List.mem_singleton.1 hx;refine⟨by unfold I64;decide,fun y hy=>?_,fun m hm=>?_⟩
 ·obtain rfl:=List.mem_singleton.1 hy;unfold I64;decide
 ·simp only [List.mem_cons,List.not_mem_nil,or_false] at hm
  rcases hm with rfl | rfl
  ·refine⟨by unfold I64;decide,fun y hy=>(by cases hy),by unfold I64;decide,by unfold I64;decide,by unfold I64;decide,fun i hi=>?_,fun f hf=>(by cases hf)⟩;simp only [List.mem_cons,List.not_mem_nil,or_false] at hi
   rcases hi with rfl | rfl | rfl <;> (unfold Jf I64;decide)
  ·refine⟨by unfold I64;decide,fun y hy=>?_,by unfold I64;decide,by unfold I64;decide,by unfold I64;decide,fun i hi=>?_,fun f hf=>(by cases hf)⟩
   ·obtain rfl:=List.mem_singleton.1 hy;unfold I64;decide
   ·simp only [List.mem_cons,List.not_mem_nil,or_false] at hi
    rcases hi with rfl | rfl | rfl | rfl | rfl | rfl <;> (unfold Jf I64;decide)
end Go.Proofs.YtiiokkllmchohaaGreat
