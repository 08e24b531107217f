/- A run whose steps are known to be in order, told by a test. -/
import Derived.Test.YtiiokkllmchohaaGreatT02
import Derived.Test.YtiiokkllmchohaaGreatT06
import Derived.Test.YtiiokkllmchohaaGreatT14
import Derived.Test.YtiiokkllmchohaaGreatT27
import Derived.Test.YtiiokkllmchohaaGreatT37
import Derived.Test.YtiiokkllmchohaaGreatT44
set_option maxHeartbeats 4000000
set_option maxRecDepth 100000
namespace Go.Proofs.YtiiokkllmchohaaGreat
open Go.RowKit Go.Shelf
instance (n:Nat) (t:Int):Decidable (bT n t):=inferInstanceAs (Decidable (0≤t∧t<(n:Int)+3))
end Go.Proofs.YtiiokkllmchohaaGreat
namespace Go.Proofs.YtiiokkllmchohaaGreat
open Go.RowKit Go.Shelf
attribute [local go_sem ↓] Go.wp_at_zero Go.wp_at_succ
attribute [local go_sem] bW
end Go.Proofs.YtiiokkllmchohaaGreat
namespace Go.Proofs.YtiiokkllmchohaaGreat
open Go.RowKit Go.Shelf
def yM:aC:=⟨0,[],0,1,2,[⟨1,0,0⟩,⟨10,0,0⟩,⟨13,0,0⟩],[]⟩
theorem YR:bQ Ad 0 0=some yM:=by kernel_rfl
end Go.Proofs.YtiiokkllmchohaaGreat
namespace Go.Proofs.YtiiokkllmchohaaGreat
open Go.RowKit Go.Shelf
attribute [local go_sem ↓] Go.wp_at_zero Go.wp_at_succ
attribute [local go_sem] bW
theorem PL {α :Type}(f: α→Nat)(B:Nat):∀l:List α,(∀x∈l,f x≤B)→(l.map f).sum≤l.length*B
 | [], _ => by simp
 | x :: l, h => by
  have h1:=PL f B l (fun y hy=>h y (List.mem_cons_of_mem _ hy));have h2:=h x List.mem_cons_self;rw [List.map_cons,List.sum_cons,List.length_cons,Nat.succ_mul];omega
theorem af4 {p:List aj}(h:bD p=0):bn p≤1048576:=by
 obtain⟨h1,h2⟩:=Y5 h
 have hf:∀x∈p,gJ x≤142764:=fun x hx=>by
  obtain⟨a1,a2,a3⟩:=h2 x hx
  have hm:∀m∈x.aB,dN m≤3568:=fun m hm=>by
   obtain⟨b1,b2,b3,b4,b5⟩:=a3 m hm
   have hfr:∀f∈m.frames,iH f≤84:=fun f hf=>by
    obtain⟨c1,c2⟩:=b5 f hf;unfold iH;omega
   have:=PL iH 84 m.frames hfr;have:m.frames.length*84≤40*84:=Nat.mul_le_mul_right _ b4;unfold dN;omega
  have:=PL dN 3568 x.aB hm;have:x.aB.length*3568≤40*3568:=Nat.mul_le_mul_right _ a2;unfold gJ;omega
 have:=PL gJ 142764 p hf;have:p.length*142764≤6*142764:=Nat.mul_le_mul_right _ h1;unfold bn;omega
end Go.Proofs.YtiiokkllmchohaaGreat
