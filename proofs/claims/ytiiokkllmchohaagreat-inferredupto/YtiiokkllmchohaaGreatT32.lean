/- What an instruction takes and leaves, pure. -/
import Derived.Test.YtiiokkllmchohaaGreatT28
set_option maxHeartbeats 4000000
set_option maxRecDepth 100000
namespace Go.Proofs.YtiiokkllmchohaaGreat
open Go.RowKit Go.Shelf
theorem aiK {p:List aj}{m:aC}{x:eF}(hc:x.op=9∨x.op=17→0≤x.a)(hf:x.op=10→0≤jm p x.a x.b)(hm:x.op=12→0≤(cO p x.a x.b).ret):∀t∈(bZ p m x).2,t<0→(-1-t).toNat<(bZ p m x).1.length:=by
 intro t ht hn
 by_cases c15:x.op=15
 ·have hW:bZ p m x=([2],[-1,-1]):=by unfold bZ;simp [c15]
  rw [hW] at ht ⊢;simp at ht;subst ht
  decide
 by_cases c20:x.op=20
 ·have hW:bZ p m x=([2,2],[-2,-1]):=by unfold bZ;simp [c20]
  rw [hW] at ht ⊢;simp at ht
  rcases ht with rfl | rfl <;> decide
 exfalso
 have key:0≤t:=by
  unfold bZ at ht
  by_cases c:x.op=0
  ·rw [if_pos c] at ht;simp at ht;omega
  rw [if_neg c] at ht;clear c
  by_cases c:x.op=2
  ·rw [if_pos c] at ht;simp at ht
  rw [if_neg c] at ht;clear c
  by_cases c:x.op=3∨x.op=4∨x.op=5∨x.op=6
  ·rw [if_pos c] at ht;simp at ht;omega
  rw [if_neg c] at ht;clear c
  by_cases c:x.op=8∨x.op=19
  ·rw [if_pos c] at ht;simp at ht
  rw [if_neg c] at ht;clear c
  by_cases c:x.op=9
  ·rw [if_pos c] at ht;simp at ht;have:=hc (.inl c);omega
  rw [if_neg c] at ht;clear c
  by_cases c:x.op=10
  ·rw [if_pos c] at ht;simp at ht;have:=hf c;omega
  rw [if_neg c] at ht;clear c
  by_cases c:x.op=11
  ·rw [if_pos c] at ht;simp at ht
  rw [if_neg c] at ht;clear c
  by_cases c:x.op=12
  ·rw [if_pos c] at ht;simp at ht;have:=hm c;omega
  rw [if_neg c] at ht;clear c
  by_cases c:x.op=13
  ·rw [if_pos c] at ht;simp at ht
  rw [if_neg c] at ht;clear c
  by_cases c:x.op=14
  ·rw [if_pos c] at ht;simp at ht
  rw [if_neg c,if_neg c15] at ht;clear c
  by_cases c:x.op=16
  ·rw [if_pos c] at ht;simp at ht;omega
  rw [if_neg c] at ht;clear c
  by_cases c:x.op=17
  ·rw [if_pos c] at ht;simp at ht;have:=hc (.inr c);omega
  rw [if_neg c] at ht;clear c
  by_cases c:x.op=18
  ·rw [if_pos c] at ht;simp at ht
  rw [if_neg c,if_neg c20] at ht;simp at ht
 omega
theorem aiL {p:List aj}{m:aC}{x:eF}(hc:x.op=10∨x.op=11∨x.op=12→0≤x.a∧x.a<(p.length:Int))(hf:x.op=11→bT p.length (jm p x.a x.b))(hm:x.op=12→∀t∈(cO p x.a x.b).args,bT p.length t)(hr:bT p.length m.ret):∀t∈(bZ p m x).1,t= -1∨t= -2∨bT p.length t:=by
 intro t ht;have z:∀n:Int,0≤n→n<3→bT p.length n:=fun n h0 h3=>⟨h0,by omega⟩;unfold bZ at ht
 by_cases c:x.op=0
 ·rw [if_pos c] at ht;simp at ht
 rw [if_neg c] at ht;clear c
 by_cases c:x.op=2
 ·rw [if_pos c] at ht;simp at ht;exact .inr (.inl ht)
 rw [if_neg c] at ht;clear c
 by_cases c:x.op=3∨x.op=4∨x.op=5∨x.op=6
 ·rw [if_pos c] at ht;simp at ht;subst ht;exact .inr (.inr (z 0 (by omega) (by omega)))
 rw [if_neg c] at ht;clear c
 by_cases c:x.op=8∨x.op=19
 ·rw [if_pos c] at ht;simp at ht;subst ht;exact .inr (.inr (z 0 (by omega) (by omega)))
 rw [if_neg c] at ht;clear c
 by_cases c:x.op=9
 ·rw [if_pos c] at ht;simp at ht
 rw [if_neg c] at ht;clear c
 by_cases c:x.op=10
 ·rw [if_pos c] at ht;simp at ht;subst ht;have:=hc (.inl c);exact .inr (.inr ⟨by omega,by omega⟩)
 rw [if_neg c] at ht;clear c
 by_cases c:x.op=11
 ·rw [if_pos c] at ht;simp at ht
  rcases ht with rfl | rfl
  ·have:=hc (.inr (.inl c));exact .inr (.inr ⟨by omega,by omega⟩)
  ·exact .inr (.inr (hf c))
 rw [if_neg c] at ht;clear c
 by_cases c:x.op=12
 ·rw [if_pos c] at ht;simp only [List.mem_cons] at ht
  rcases ht with rfl | ht
  ·have:=hc (.inr (.inr c));exact .inr (.inr ⟨by omega,by omega⟩)
  ·exact .inr (.inr (hm c t ht))
 rw [if_neg c] at ht;clear c
 by_cases c:x.op=13
 ·rw [if_pos c] at ht;simp at ht;subst ht;exact .inr (.inr hr)
 rw [if_neg c] at ht;clear c
 by_cases c:x.op=14
 ·rw [if_pos c] at ht;simp at ht;subst ht;exact .inr (.inr (z 2 (by omega) (by omega)))
 rw [if_neg c] at ht;clear c
 by_cases c:x.op=15
 ·rw [if_pos c] at ht;simp at ht;subst ht;exact .inr (.inr (z 2 (by omega) (by omega)))
 rw [if_neg c] at ht;clear c
 by_cases c:x.op=16
 ·rw [if_pos c] at ht;simp at ht
 rw [if_neg c] at ht;clear c
 by_cases c:x.op=17
 ·rw [if_pos c] at ht;simp at ht;exact .inl ht
 rw [if_neg c] at ht;clear c
 by_cases c:x.op=18
 ·rw [if_pos c] at ht;simp at ht;exact .inl ht
 rw [if_neg c] at ht;clear c
 by_cases c:x.op=20
 ·rw [if_pos c] at ht;simp at ht;subst ht;exact .inr (.inr (z 2 (by omega) (by omega)))
 rw [if_neg c] at ht;simp at ht
theorem aiJ {p:List aj}{m:aC}{x:eF}{N:Nat}(hN:2≤N)(hm:x.op=12→1+(cO p x.a x.b).args.length≤N):(bZ p m x).1.length≤N∧(bZ p m x).2.length≤2:=by
 have two:∀(a b:List Int),a.length≤2→b.length≤2→(a,b).1.length≤N∧(a,b).2.length≤2:=fun a b h1 h2=>⟨Nat.le_trans h1 hN,h2⟩;unfold bZ
 by_cases c:x.op=0
 ·rw [if_pos c];exact two _ _ (by simp) (by simp)
 rw [if_neg c];clear c
 by_cases c:x.op=2
 ·rw [if_pos c];exact two _ _ (by simp) (by simp)
 rw [if_neg c];clear c
 by_cases c:x.op=3∨x.op=4∨x.op=5∨x.op=6
 ·rw [if_pos c];exact two _ _ (by simp) (by simp)
 rw [if_neg c];clear c
 by_cases c:x.op=8∨x.op=19
 ·rw [if_pos c];exact two _ _ (by simp) (by simp)
 rw [if_neg c];clear c
 by_cases c:x.op=9
 ·rw [if_pos c];exact two _ _ (by simp) (by simp)
 rw [if_neg c];clear c
 by_cases c:x.op=10
 ·rw [if_pos c];exact two _ _ (by simp) (by simp)
 rw [if_neg c];clear c
 by_cases c:x.op=11
 ·rw [if_pos c];exact two _ _ (by simp) (by simp)
 rw [if_neg c];clear c
 by_cases c:x.op=12
 ·rw [if_pos c];exact⟨by have:=hm c;rw [List.length_cons];omega,by simp⟩
 rw [if_neg c];clear c
 by_cases c:x.op=13
 ·rw [if_pos c];exact two _ _ (by simp) (by simp)
 rw [if_neg c];clear c
 by_cases c:x.op=14
 ·rw [if_pos c];exact two _ _ (by simp) (by simp)
 rw [if_neg c];clear c
 by_cases c:x.op=15
 ·rw [if_pos c];exact two _ _ (by simp) (by simp)
 rw [if_neg c];clear c
 by_cases c:x.op=16
 ·rw [if_pos c];exact two _ _ (by simp) (by simp)
 rw [if_neg c];clear c
 by_cases c:x.op=17
 ·rw [if_pos c];exact two _ _ (by simp) (by simp)
 rw [if_neg c];clear c
 by_cases c:x.op=18
 ·rw [if_pos c];exact two _ _ (by simp) (by simp)
 rw [if_neg c];clear c
 by_cases c:x.op=20
 ·rw [if_pos c];exact two _ _ (by simp) (by simp)
 rw [if_neg c];clear c;exact two _ _ (by simp) (by simp)
end Go.Proofs.YtiiokkllmchohaaGreat
