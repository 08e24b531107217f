/- What an instruction takes and leaves, pure. -/
import Derived.Test.YtiiokkllmchohaaGreatT34
set_option maxHeartbeats 0
set_option maxRecDepth 99999
namespace Go.Proofs.YtiiokkllmchohaaGreat
open Go.Value renaming int->J,slice->O,pointer->zP,bool->zB
open Go.IntKind renaming i64->I
open Option renaming none->U,some->M
open Bool renaming true->K,false->F
open Go.Ending renaming returned->zR
open Go.Obj renaming cells->zC
open Go.RowKit Go.Shelf
theorem LG{p m x}(h:x.op=9\/x.op=17->0<=x.a)(i:x.op=10->0<=gi p x.a x.b)(j:x.op=12->0<=(ew p x.a x.b).ret):∀e∈(eB p m x).2,e<0->(-1-e).toNat<(eB p m x).1.length:=by
 intro e d h
 by_cases g:x.op=15
 .simp_all [eB]
 by_cases f:x.op=20
 .have c:eB p m x=([2,2],[-2,-1]):=by unfold eB;simp[f]
  rw[c]at d ⊢;simp at d
  rcases d with rfl | rfl <;> decide
 exfalso
 have:0<=e:=by
  unfold eB at d
  by_cases c:x.op=0
  .grind
  rw[af c]at d;clear c
  by_cases c:x.op=2
  .grind
  rw[af c]at d;clear c
  by_cases c:x.op=3\/x.op=4\/x.op=5\/x.op=6
  .grind
  rw[af c]at d;clear c
  by_cases c:x.op=8\/x.op=19
  .grind
  rw[af c]at d;clear c
  by_cases c:x.op=9
  .grind
  rw[af c]at d;clear c
  by_cases c:x.op=10
  .grind
  rw[af c]at d;clear c
  by_cases c:x.op=11
  .grind
  rw[af c]at d;clear c
  by_cases c:x.op=12
  .grind
  rw[af c]at d;clear c
  by_cases c:x.op=13
  .grind
  rw[af c]at d;clear c
  by_cases c:x.op=14
  .grind
  rw[af c,af g]at d;clear c
  by_cases c:x.op=16
  .grind
  rw[af c]at d;clear c
  by_cases c:x.op=17
  .grind
  rw[af c]at d;clear c
  by_cases c:x.op=18
  .grind
  rw[af c,af f]at d;simp at d
 omega
theorem LH{p m x}(f:x.op=10\/x.op=11\/x.op=12->0<=x.a/\x.a<(p.length:Int))(g:x.op=11->fz p.length (gi p x.a x.b))(h:x.op=12->∀e∈(ew p x.a x.b).args,fz p.length e)(i:fz p.length m.ret):∀e∈(eB p m x).1,e= -1\/e= -2\/fz p.length e:=by
 intro e d;have:∀c:Int,0<=c->c<3->fz p.length c:=λc e f=>⟨e,by omega⟩;unfold eB at d
 by_cases c:x.op=0
 .grind
 rw[af c]at d;clear c
 by_cases c:x.op=2
 .grind
 rw[af c]at d;clear c
 by_cases c:x.op=3\/x.op=4\/x.op=5\/x.op=6
 .grind
 rw[af c]at d;clear c
 by_cases c:x.op=8\/x.op=19
 .grind
 rw[af c]at d;clear c
 by_cases c:x.op=9
 .grind
 rw[af c]at d;clear c
 by_cases c:x.op=10
 .rw [am c]at d;simp at d;subst d;have:=f (.inl c);exact .inr (.inr ⟨by omega,by omega⟩)
 rw[af c]at d;clear c
 by_cases c:x.op=11
 .rw [am c]at d;simp at d
  rcases d with rfl | rfl
  .have:=f (.inr (.inl c));exact .inr (.inr ⟨by omega,by omega⟩)
  .grind
 rw[af c]at d;clear c
 by_cases c:x.op=12
 .rw [am c]at d;simp only[aE]at d
  rcases d with rfl | d
  .have:=f (.inr (.inr c));exact .inr (.inr ⟨by omega,by omega⟩)
  .grind
 rw[af c]at d;clear c
 by_cases c:x.op=13
 .grind
 rw[af c]at d;clear c
 by_cases c:x.op=14
 .grind
 rw[af c]at d;clear c
 by_cases c:x.op=15
 .grind
 rw[af c]at d;clear c
 by_cases c:x.op=16
 .grind
 rw[af c]at d;clear c
 by_cases c:x.op=17
 .grind
 rw[af c]at d;clear c
 by_cases c:x.op=18
 .grind
 rw[af c]at d;clear c
 by_cases c:x.op=20
 .grind
 rw[af c]at d;simp at d
theorem LF{p m x N}(g:2<=N)(e:x.op=12->1+(ew p x.a x.b).args.length<=N):(eB p m x).1.length<=N/\(eB p m x).2.length<=2:=by
 have d:∀(c d:List Int),c.length<=2->d.length<=2->(c,d).1.length<=N/\(c,d).2.length<=2:=λc d e f=>⟨ap e g,f⟩;unfold eB
 by_cases c:x.op=0
 .grind
 rw[af c];clear c
 by_cases c:x.op=2
 .grind
 rw[af c];clear c
 by_cases c:x.op=3\/x.op=4\/x.op=5\/x.op=6
 .grind
 rw[af c];clear c
 by_cases c:x.op=8\/x.op=19
 .grind
 rw[af c];clear c
 by_cases c:x.op=9
 .grind
 rw[af c];clear c
 by_cases c:x.op=10
 .grind
 rw[af c];clear c
 by_cases c:x.op=11
 .grind
 rw[af c];clear c
 by_cases c:x.op=12
 .grind
 rw[af c];clear c
 by_cases c:x.op=13
 .grind
 rw[af c];clear c
 by_cases c:x.op=14
 .grind
 rw[af c];clear c
 by_cases c:x.op=15
 .grind
 rw[af c];clear c
 by_cases c:x.op=16
 .grind
 rw[af c];clear c
 by_cases c:x.op=17
 .grind
 rw[af c];clear c
 by_cases c:x.op=18
 .grind
 rw[af c];clear c
 by_cases c:x.op=20
 .grind
 rw[af c];clear c;exact d _ _ (by simp) (by simp)
end Go.Proofs.YtiiokkllmchohaaGreat
