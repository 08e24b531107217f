/- The document's Check. -/
import Derived.Test.YtiiokkllmchohaaGreatT13
import Derived.Test.YtiiokkllmchohaaGreatT34
import Derived.Test.YtiiokkllmchohaaGreatT36
import Derived.Test.YtiiokkllmchohaaGreatT37
import Derived.Test.YtiiokkllmchohaaGreatT41
set_option maxHeartbeats 4000000
set_option maxRecDepth 100000
namespace Go.Proofs.YtiiokkllmchohaaGreat
open Go.RowKit Go.Shelf
attribute [local go_sem ↓] Go.wp_at_zero Go.wp_at_succ
attribute [local go_sem] bW
structure adz (p:List aj)(c:Int)(m:aC):Prop where
 c0:0≤c
 c1:c<(p.length:Int)
 ok:vJ p m
 ins:∀i∈m.code,bC p m i=true
 c40:m.code.length≤40
 cl:1≤m.code.length
 f40:m.frames.length≤40
 fr:iP p.length m (-1) m.frames=true
 l1:1+(m.args.length:Int)≤m.locals
 cd:wF p m (dO c m)
theorem abY {p:List aj}{c k:Int}{m:aC}(hF:bD p=0)(hm:bQ p c k=some m):adz p c m:=by
 obtain⟨o0,o1,O⟩:=qY hF hm
 have hx:∃x,p[c.toNat]? =some x∧x.aB[k.toNat]? =some m:=by
  unfold bQ at hm
  split at hm
  ·cases hx:p[c.toNat]? with
   | none => rw [hx] at hm; cases hm
   | some x => rw [hx] at hm; exact ⟨x, rfl, hm⟩
  ·cases hm
 obtain⟨x,hx1,hx2⟩:=hx;have hb:=vO.1 (Hy hF hx1 hx2);have hc:=(qX hF).2.2 x (List.mem_of_getElem? hx1) m (List.mem_of_getElem? hx2);unfold iL at hc;simp only [Bool.and_eq_true] at hc;have hl:=hb.2.2.2.2.2.1;refine⟨o0,o1,O.ok,O.ins,O.c40,O.c1,O.f40,hc.2,by omega,?_,adR (by omega) O.a7,?_,Rz O⟩
 ·exact (OX (c:=c) O.a7).1
 ·exact O.bg.2.2
theorem aje (p:List aj)(vc:Value)(c k:Int)(w:World)(hp:aX w vc p)(hz:bn p≤4194304) :
  Calls Tryz.prog 85 #[.agg #[vc],.int .i64 c,.int .i64 k] w fun e w'=>e= .returned (.bool (bQ p c k).isSome)∧Below w.heap.size w w':=by
 obtain⟨pa,pb,dB,aA,rfl,_,hpa,hpr⟩:=aZ hp;have kP:=hide hpr;have hpl:p.length≤4194304:=Nat.le_trans (eG p) hz;clear hpr hp;have hbel:=aS w (.cells #[.slice pa p.length aA] 24);go_enter Tryz.func85,Tryz.ntmps85
 by_cases h0:0≤c
 rotate_left
 ·have HR:Hid ((bQ p c k).isSome=false):=by show _=_;unfold bQ;rw [if_neg (fun h=>h0 h.1)];rfl
  go_wp2_with fail
  go_ret;exact⟨aT (ah HR).symm,hbel⟩
 obtain⟨n,rfl⟩:=Int.eq_ofNat_of_zero_le h0
 by_cases h1:n<p.length
 rotate_left
 ·have HR:Hid ((bQ p n k).isSome=false):=by show _=_;unfold bQ;rw [Int.toNat_natCast,List.getElem?_eq_none (by omega)];split <;> rfl
  have h1':¬(n:Int)<(p.length:Int):=by omega
  have n0:(0:Int)≤(n:Int):=by omega
  clear h1;go_wp2_with fail
  go_ret;exact⟨aT (ah HR).symm,hbel⟩
 obtain rfl:=hpa (bJ h1);have h1':(n:Int)<(p.length:Int):=by omega
 have n0:(0:Int)≤(n:Int):=by omega
 by_cases k0:0≤k
 rotate_left
 ·have HR:Hid ((bQ p n k).isSome=false):=by show _=_;unfold bQ;rw [if_neg (fun h=>k0 h.2)];rfl
  go_wp2_with fail
  go_ret;exact⟨aT (ah HR).symm,hbel⟩
 obtain⟨j,rfl⟩:=Int.eq_ofNat_of_zero_le k0;obtain⟨vf,vm,d0,d1,d2,hf,hmm⟩:=ah kP n h1;obtain⟨ma,mb,fH,dW,rfl,yV,hma,hmr⟩:=aZ hmm;have e2:=Keeps.of_below hbel _ _ d2
 have HR:Hid ((bQ p n j).isSome=decide (j<p[n].aB.length)):=by
  show _=_
  unfold bQ;rw [if_pos ⟨by omega,by omega⟩,Int.toNat_natCast,Int.toNat_natCast,List.getElem?_eq_getElem h1,Option.bind_some]
  by_cases hj:j<p[n].aB.length
  ·rw [List.getElem?_eq_getElem hj];simp [hj]
  ·rw [List.getElem?_eq_none (by omega)];simp [hj]
 clear d0 d1 d2 hf hmm hma hmr;generalize p[n].aB.length=ml at *;have j0:(0:Int)≤(j:Int):=by omega
 by_cases hj:j<ml
 ·have hj':(j:Int)<(ml:Int):=by omega
  have HR2:Hid ((bQ p n j).isSome=true):=by show _=_;rw [ah HR];simp [hj]
  clear hj;go_wp2_with fail
  go_ret;exact⟨aT (ah HR2).symm,hbel⟩
 ·have hj':¬(j:Int)<(ml:Int):=by omega
  have HR2:Hid ((bQ p n j).isSome=false):=by show _=_;rw [ah HR];simp [hj]
  clear hj;go_wp2_with fail
  go_ret;exact⟨aT (ah HR2).symm,hbel⟩
end Go.Proofs.YtiiokkllmchohaaGreat
namespace Go.Proofs.YtiiokkllmchohaaGreat
open Go.RowKit
attribute [local go_sem ↓] Go.wp_at_zero Go.wp_at_succ
theorem Ya {b n n':Nat}{w w':World}(m:ay (fun _=>False) w w')(h:n≤n'):dM (jV b n w) (jV b n' w'):=fun p v e=>by
 have hp:=JZ e;unfold jV at e ⊢;rw [if_pos hp] at e;rw [if_pos ⟨hp.1,by omega⟩];exact m.cell e (fun f=>f)
end Go.Proofs.YtiiokkllmchohaaGreat
