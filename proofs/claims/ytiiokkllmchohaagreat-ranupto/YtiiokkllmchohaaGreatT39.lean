/- The law: Form and Encode are as the document says. -/
import Derived.Test.YtiiokkllmchohaaGreatT16
set_option maxHeartbeats 0
set_option maxRecDepth 99999
namespace Go.Proofs.YtiiokkllmchohaaGreat
open Go.Value renaming int->J,slice->O,pointer->zP,bool->zB
open Go.IntKind renaming i64->I
open Option renaming none->U,some->M
open Bool renaming true->K,false->F
open Go.Ending renaming returned->zR
open Go.Obj renaming cells->zC
open Go.RowKit
section
attribute [local go_sem ↓] Go.wp_at_zero Go.wp_at_succ
theorem tQ{a b c x}(d:a.cell? c=M x)(e:Below a.heap.size a b):b.cell? c=M x:=Oq e _ _ d
theorem we{a b}(c:Below a.heap.size a b):ee (λ_=>False) a b:=(Ox c).mono (λc b a=>absurd a (by omega))
theorem MU {c b:Oj}(f:c.length=b.length)(h:b[0]? =M (O U 0 0))(i:b[1]? =M (O U 0 0))(j:b[2]? =M (O U 0 0))(k:b[3]? =M (O U 0 0))(l:b[4]? =M (O U 0 0))(e:b[5]? =M (O U 0 0))(g:∀a,5<=a->c[a]? =b[a]?) :
  (((((c.set 0 (O U 0 0)).set 1 (O U 0 0)).set 2 (O U 0 0)).set 3 (O U 0 0)).set 4 (O U 0 0)).set 5 (O U 0 0)=b:=by
 have m:6<=c.length:=by
  rw[f]
  rcases bt b.length 6 with d | d
  .rw [cH (by omega)]at e;cases e
  .exact d
 apply cM
 intro a
 rcases bt 5 a with d | d
 .rw [ah (by omega),ah (by omega),ah (by omega),ah (by omega),ah (by omega),ah (by omega)];exact g a (by omega)
 .have:a=0\/a=1\/a=2\/a=3\/a=4\/a=5:=by omega
  rcases this with rfl | rfl | rfl | rfl | rfl | rfl
  .rw [ah (by omega),ah (by omega),ah (by omega),ah (by omega),ah (by omega),aA (by omega)];exact h.symm
  .rw [ah (by omega),ah (by omega),ah (by omega),ah (by omega),aA (by simp only[aO];omega)];exact i.symm
  .rw [ah (by omega),ah (by omega),ah (by omega),aA (by simp only[aO];omega)];exact j.symm
  .rw [ah (by omega),ah (by omega),aA (by simp only[aO];omega)];exact k.symm
  .rw [ah (by omega),aA (by simp only[aO];omega)];exact l.symm
  .rw [aA (by simp only[aO];omega)];exact e.symm
end
end Go.Proofs.YtiiokkllmchohaaGreat
