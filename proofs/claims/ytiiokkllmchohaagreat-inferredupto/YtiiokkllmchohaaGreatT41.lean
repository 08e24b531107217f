/- The law: Form and Encode are as the document says. -/
import Derived.Test.YtiiokkllmchohaaGreatT07
import Derived.Test.YtiiokkllmchohaaGreatT12
import Derived.Test.YtiiokkllmchohaaGreatT14
set_option maxHeartbeats 4000000
set_option maxRecDepth 100000
namespace Go.Proofs.YtiiokkllmchohaaGreat
open Go.RowKit
attribute [local go_sem ↓] Go.wp_at_zero Go.wp_at_succ
theorem IB {A B:World}{a:Addr}{x:Value}(h:A.cell? a=some x)(k:Below A.heap.size A B):B.cell? a=some x:=Keeps.of_below k _ _ h
theorem sJ {w w':World}(h:Below w.heap.size w w'):ay (fun _=>False) w w':=(ay.of_below h).mono (fun i hi e=>absurd e (by omega))
theorem aci {cs cs0:List Value}(hl:cs.length=cs0.length)(n0:cs0[0]? =some (.slice none 0 0))(n1:cs0[1]? =some (.slice none 0 0))(n2:cs0[2]? =some (.slice none 0 0))(n3:cs0[3]? =some (.slice none 0 0))(n4:cs0[4]? =some (.slice none 0 0))(n5:cs0[5]? =some (.slice none 0 0))(hr:∀j,5≤j→cs[j]? =cs0[j]?) :
  (((((cs.set 0 (.slice none 0 0)).set 1 (.slice none 0 0)).set 2 (.slice none 0 0)).set 3 (.slice none 0 0)).set 4 (.slice none 0 0)).set 5 (.slice none 0 0)=cs0:=by
 have hlen:6≤cs.length:=by
  rw [hl]
  rcases Nat.lt_or_ge cs0.length 6 with h | h
  ·rw [List.getElem?_eq_none (by omega)] at n5;cases n5
  ·exact h
 apply List.ext_getElem?
 intro j
 rcases Nat.lt_or_ge 5 j with h | h
 ·rw [List.getElem?_set_ne (by omega),List.getElem?_set_ne (by omega),List.getElem?_set_ne (by omega),List.getElem?_set_ne (by omega),List.getElem?_set_ne (by omega),List.getElem?_set_ne (by omega)];exact hr j (by omega)
 ·have:j=0∨j=1∨j=2∨j=3∨j=4∨j=5:=by omega
  rcases this with rfl | rfl | rfl | rfl | rfl | rfl
  ·rw [List.getElem?_set_ne (by omega),List.getElem?_set_ne (by omega),List.getElem?_set_ne (by omega),List.getElem?_set_ne (by omega),List.getElem?_set_ne (by omega),List.getElem?_set_self (by omega)];exact n0.symm
  ·rw [List.getElem?_set_ne (by omega),List.getElem?_set_ne (by omega),List.getElem?_set_ne (by omega),List.getElem?_set_ne (by omega),List.getElem?_set_self (by simp only [List.length_set];omega)];exact n1.symm
  ·rw [List.getElem?_set_ne (by omega),List.getElem?_set_ne (by omega),List.getElem?_set_ne (by omega),List.getElem?_set_self (by simp only [List.length_set];omega)];exact n2.symm
  ·rw [List.getElem?_set_ne (by omega),List.getElem?_set_ne (by omega),List.getElem?_set_self (by simp only [List.length_set];omega)];exact n3.symm
  ·rw [List.getElem?_set_ne (by omega),List.getElem?_set_self (by simp only [List.length_set];omega)];exact n4.symm
  ·rw [List.getElem?_set_self (by simp only [List.length_set];omega)];exact n5.symm

end Go.Proofs.YtiiokkllmchohaaGreat
