/- Walk of the document's answer: a method's head. -/
import Derived.Test.YtiiokkllmchohaaGreatT01
import Derived.Test.YtiiokkllmchohaaGreatT09
import Derived.Test.YtiiokkllmchohaaGreatT11
set_option maxHeartbeats 4000000
set_option maxRecDepth 100000
namespace Go.Proofs.YtiiokkllmchohaaGreat
open Go.RowKit
attribute [local go_sem ↓] Go.wp_at_zero Go.wp_at_succ
theorem ai0 (p:List aj)(vc:Value)(c k:Nat)(x:aj)(m:aC)(w:World)(hp:aX w vc p)(hX:p[c]? =some x)(hM:x.aB[k]? =some m)(hwf:jq p)(hz:bn p≤4194304)(hb:qO p.length m=false) :
  Calls Tryz.prog 93 #[.agg #[vc],.int .i64 c,.int .i64 k] w fun e w'=>e= .returned (.bool (headB p x k m))∧Below w.heap.size w w':=by
 obtain⟨hi,hxe⟩:=List.getElem?_eq_some_iff.1 hX;obtain⟨hk,hme⟩:=List.getElem?_eq_some_iff.1 hM;have hxm:x∈p:=hxe▸List.getElem_mem hi;have hmm:m∈x.aB:=hme▸List.getElem_mem hk;have hwx:=hwf x hxm;have hwm:=hwx.2.2 m hmm;have hpl:p.length≤4194304:=Nat.le_trans (eG p) hz;have hxl:gJ x≤4194304:=Nat.le_trans (nR hxm) hz;have hml:dN m≤4194304:=Nat.le_trans (Bj hmm) hxl;have hms:x.aB.length≤4194304:=Nat.le_trans (tC x) hxl;have hal:m.args.length≤4194304:=by unfold dN at hml;omega
 obtain⟨a,b,off,cap,rfl,hcap,ha,hr⟩:=aZ hp;obtain rfl:=ha (bJ hi);obtain⟨vf,vm,c0,c1,c2,hf,hmt⟩:=hr c hi;rw [hxe] at c0 hf hmt;obtain⟨ma,mb,fH,dW,rfl,yV,hma,hmr⟩:=aZ hmt;obtain rfl:=hma (bJ hk);obtain⟨va,eU,dH,hmv,m0,m1,m2,m3,m4,m5,m6⟩:=hmr k hk;rw [hme] at m0 m2 m3 m4 hmv;obtain⟨ha0,hc0,hf0⟩:=hmv;have MJ:=hide ha0;obtain⟨aa,ab,Ns,aI,rfl,_,_,_⟩:=aZ ha0;obtain⟨ca,cb,nZ,aF,rfl,_,_,_⟩:=aZ hc0;obtain⟨fa,fb,kU,aG,rfl,_,_,_⟩:=aZ hf0;clear ha0 hc0 hf0;have hlt:=cell_lt c0;have hlt':=cell_lt m0;have Q7:=hide hxe;have zJ:=hide hme;have HX:=hide hX;have HM:=hide hM;have pY:=hide hmr;clear hr hf hxe hme hX hM hmr
 go_enter Tryz.func93,Tryz.ntmps93
 go_wp2_with fail
 generalize hW:(w.alloc _).alloc _=W;have hbel:Below w.heap.size w W:=by rw [←hW];exact dS _ _ _
 have hbox:W.cell? ⟨w.heap.size,0,none⟩=some (.slice (some ⟨b,off,none⟩) p.length cap):=by rw [←hW];exact lZ _ _ _ _ 0
 have l0:W.cell? ⟨w.heap.size+1,0,none⟩=some (.int .i64 m.slot):=by rw [←hW];exact fC _ _ _ _ 0
 have l1:W.cell? ⟨w.heap.size+1,1,none⟩=some (.slice aa m.args.length aI):=by rw [←hW];exact fC _ _ _ _ 1
 have l2:W.cell? ⟨w.heap.size+1,2,none⟩=some (.int .i64 m.ret):=by rw [←hW];exact fC _ _ _ _ 2
 have l3:W.cell? ⟨w.heap.size+1,3,none⟩=some (.int .i64 m.locals):=by rw [←hW];exact fC _ _ _ _ 3
 have l4:W.cell? ⟨w.heap.size+1,4,none⟩=some (.int .i64 m.stack):=by rw [←hW];exact fC _ _ _ _ 4
 clear hW;have hkp:=Keeps.of_below hbel;have KP:=hide hkp;have d0:=hkp _ _ c0;have d2:=hkp _ _ c2;clear hkp c0 c1 c2 m0 m1 m2 m3 m4 m5 m6;refine (U0 _ _ _ _ (dA (ah KP) (ah MJ)) hwm.2.1 hal).mono ?_;rintro e w1 ⟨rfl,rfl⟩;go_wp2_with fail
 refine (IG _ _ _ hwm.2.2.1).mono ?_;rintro e w2 ⟨rfl,rfl⟩
 by_cases g1:m.slot<0
 ·go_wp2_with fail
  go_ret;exact⟨aT (Aw (fun h=>by omega)).symm,hbel⟩
 by_cases g2:5<m.slot
 ·go_wp2_with fail
  go_ret;exact⟨aT (Aw (fun h=>by omega)).symm,hbel⟩
 by_cases g3:3<m.args.length
 ·go_wp2_with fail
  go_ret;exact⟨aT (Aw (fun h=>by omega)).symm,hbel⟩
 cases hA:m.args.all (fF p.length)
 ·go_wp2_with fail
  go_ret;exact⟨aT (Aw (fun h=>by rw [hA] at h;exact Bool.false_ne_true h.2.2.2.1)).symm,hbel⟩
 cases hR:fF p.length m.ret
 ·go_wp2_with fail
  go_ret;exact⟨aT (Aw (fun h=>by rw [hR] at h;exact Bool.false_ne_true h.2.2.2.2.1)).symm,hbel⟩
 by_cases g4:m.locals<1+m.args.length
 ·go_wp2_with fail
  go_ret;exact⟨aT (Aw (fun h=>by omega)).symm,hbel⟩
 by_cases g5:8<m.locals
 ·go_wp2_with fail
  go_ret;exact⟨aT (Aw (fun h=>by omega)).symm,hbel⟩
 by_cases g6:m.stack<0
 ·go_wp2_with fail
  go_ret;exact⟨aT (Aw (fun h=>by omega)).symm,hbel⟩
 by_cases g7:8<m.stack
 ·go_wp2_with fail
  go_ret;exact⟨aT (Aw (fun h=>by omega)).symm,hbel⟩
 exact absurd (vO.2 ⟨by omega,by omega,by omega,hA,hR,by omega,by omega,by omega,by omega⟩) (by rw [hb];exact Bool.false_ne_true)
theorem ai1 (p:List aj)(vc:Value)(c k:Nat)(x:aj)(m:aC)(w:World)(hp:aX w vc p)(hs:aU p (c+1))(hX:p[c]? =some x)(hM:x.aB[k]? =some m)(hwf:jq p)(hz:bn p≤4194304)(hb:qO p.length m=true) :
  Calls Tryz.prog 93 #[.agg #[vc],.int .i64 c,.int .i64 k] w fun e w'=>e= .returned (.bool (headB p x k m))∧Below w.heap.size w w':=by
 obtain⟨g1,g2,g3,hA,hR,g4,g5,g6,g7⟩:=vO.1 hb;have HB:=hide hb;clear hb;obtain⟨hi,hxe⟩:=List.getElem?_eq_some_iff.1 hX;obtain⟨hk,hme⟩:=List.getElem?_eq_some_iff.1 hM;have hxm:x∈p:=hxe▸List.getElem_mem hi;have hmm:m∈x.aB:=hme▸List.getElem_mem hk;have hwx:=hwf x hxm;have hwm:=hwx.2.2 m hmm;have hpl:p.length≤4194304:=Nat.le_trans (eG p) hz;have hxl:gJ x≤4194304:=Nat.le_trans (nR hxm) hz;have hml:dN m≤4194304:=Nat.le_trans (Bj hmm) hxl;have hms:x.aB.length≤4194304:=Nat.le_trans (tC x) hxl;have hal:m.args.length≤4194304:=by unfold dN at hml;omega
 obtain⟨a,b,off,cap,rfl,hcap,ha,hr⟩:=aZ hp;obtain rfl:=ha (bJ hi);obtain⟨vf,vm,c0,c1,c2,hf,hmt⟩:=hr c hi;rw [hxe] at c0 hf hmt;obtain⟨ma,mb,fH,dW,rfl,yV,hma,hmr⟩:=aZ hmt;obtain rfl:=hma (bJ hk);obtain⟨va,eU,dH,hmv,m0,m1,m2,m3,m4,m5,m6⟩:=hmr k hk;rw [hme] at m0 m2 m3 m4 hmv;obtain⟨ha0,hc0,hf0⟩:=hmv;have MJ:=hide ha0;obtain⟨aa,ab,Ns,aI,rfl,_,_,_⟩:=aZ ha0;obtain⟨ca,cb,nZ,aF,rfl,_,_,_⟩:=aZ hc0;obtain⟨fa,fb,kU,aG,rfl,_,_,_⟩:=aZ hf0;clear ha0 hc0 hf0;have hlt:=cell_lt c0;have hlt':=cell_lt m0;have Q7:=hide hxe;have zJ:=hide hme;have HX:=hide hX;have HM:=hide hM;have pY:=hide hmr;clear hr hf hxe hme hX hM hmr
 go_enter Tryz.func93,Tryz.ntmps93
 go_wp2_with fail
 generalize hW:(w.alloc _).alloc _=W;have hbel:Below w.heap.size w W:=by rw [←hW];exact dS _ _ _
 have hbox:W.cell? ⟨w.heap.size,0,none⟩=some (.slice (some ⟨b,off,none⟩) p.length cap):=by rw [←hW];exact lZ _ _ _ _ 0
 have l0:W.cell? ⟨w.heap.size+1,0,none⟩=some (.int .i64 m.slot):=by rw [←hW];exact fC _ _ _ _ 0
 have l1:W.cell? ⟨w.heap.size+1,1,none⟩=some (.slice aa m.args.length aI):=by rw [←hW];exact fC _ _ _ _ 1
 have l2:W.cell? ⟨w.heap.size+1,2,none⟩=some (.int .i64 m.ret):=by rw [←hW];exact fC _ _ _ _ 2
 have l3:W.cell? ⟨w.heap.size+1,3,none⟩=some (.int .i64 m.locals):=by rw [←hW];exact fC _ _ _ _ 3
 have l4:W.cell? ⟨w.heap.size+1,4,none⟩=some (.int .i64 m.stack):=by rw [←hW];exact fC _ _ _ _ 4
 clear hW;have hkp:=Keeps.of_below hbel;have KP:=hide hkp;have d0:=hkp _ _ c0;have d2:=hkp _ _ c2;clear hkp c0 c1 c2 m0 m1 m2 m3 m4 m5 m6;refine (U0 _ _ _ _ (dA (ah KP) (ah MJ)) hwm.2.1 hal).mono ?_;rintro e w1 ⟨rfl,rfl⟩;go_wp2_with fail
 refine (IG _ _ _ hwm.2.2.1).mono ?_;rintro e w2 ⟨rfl,rfl⟩
 have aaD:∀(j:Nat) (hj:j<x.aB.length),w2.cell? ⟨mb,fH+j*7,none⟩=some (.int .i64 x.aB[j].slot):=fun j hj=>by
  obtain⟨_,_,_,_,h,_⟩:=ah pY j hj;exact ah KP _ _ h
 go_wp2_with fail
 go_loopw [11] (fun s wr=>∃i:Nat,i≤k∧s= .int .i64 i∧(∀(j:Nat) (hj:j<x.aB.length),j<i→x.aB[j].slot≠m.slot)∧∃nq,wr=w2.drewN nq) (fun s _=>k-(intOf s).toNat)
 case atStart=>exact ⟨0,Nat.zero_le _,rfl,fun j _ h=>absurd h (Nat.not_lt_zero j),0,rfl⟩
 case round=>
  obtain⟨i,hik,rfl,hno,nq,rfl⟩:=hrel;have fK:=hide hno;clear hno
  by_cases hlt:i<k
  ·have hin:i<x.aB.length:=by omega
   have hci:(c:Int)<(p.length:Int):=by omega
   have hii:(i:Int)<(x.aB.length:Int):=by omega
   go_wp2
   go_quiet (fail)
   go_wp2
   ·go_ret;have hx:x.aB[i].slot=m.slot:=by simpa using ‹(x.aB[i].slot == m.slot)=true›
    exact⟨aT (agC hin hlt hx).symm,below_drewN (below_drewN hbel _) _⟩
   ·have hx:x.aB[i].slot≠m.slot:=by simpa using ‹(x.aB[i].slot == m.slot)=false›
    exact⟨⟨i+1,by omega,by go_num,fun j hj h=>by
     rcases Nat.lt_or_ge j i with g | g
     ·exact ah fK j hj g
     ·obtain rfl:j=i:=by omega
      exact hx,_,rfl⟩,by simp [intOf];omega⟩
  ·have HE:=hide (head_eq (p:=p) (k:=k) (ah HB) fun j hj h=>ah fK j hj (by omega));have hbN:Below w.heap.size w (w2.drewN nq):=below_drewN hbel _
   by_cases hc0:c=0
   ·have hc0':((c:Int) == 0)=true:=by subst hc0;rfl
    have hsup:=Vl (hc0▸hs c x (by omega) (ah HX));have HC:=hide hc0;clear hc0
    go_wp2
    go_ret;refine⟨aT ?_,hbN⟩;rw [ah HE];unfold oG;rw [FD p _ (by omega)]
   ·have hc0':((c:Int) == 0)=false:=by simpa using hc0
    have hci:(c:Int)<(p.length:Int):=by omega
    have hcz:(0:Int)≤(c:Int):=by omega
    have hsup:=PO (by omega) (hs c x (by omega) (ah HX));have uN:=aP (Keeps.of_below hbN) hp;have jR:=hide uN;clear uN;have e0:(w2.drewN nq).cell? ⟨w.heap.size,0,none⟩=some (.slice (some ⟨b,off,none⟩) p.length cap):=by simpa using hbox
    go_wp2
    go_region_held3 (fun w'=>w'.cell? ⟨w.heap.size,0,none⟩=some (.slice (some ⟨b,off,none⟩) p.length cap)∧w'.cell? ⟨b,off+c*3,none⟩=some (.int .i64 x.sup)∧w'.cell? ⟨w.heap.size+1,0,none⟩=some (.int .i64 m.slot))
     (first | go_keep | (exact⟨Keeps.of_below hb1 _ _ (by simpa using hbox),Keeps.of_below hb1 _ _ (by simpa using d0),Keeps.of_below hb1 _ _ (by simpa using l0)⟩))
     (first | ((go_at_call 116;refine (U6 p _ (c+1) _ _ _ (aP (Keeps.of_below ((Below.refl _ _).drew)) (ah jR)) hs (by omega) (by omega) (by omega) hz).mono ?_);rintro e w3 ⟨rfl,hb1⟩))
    have hW3:Below w.heap.size w w3:=hbN.drew.trans (hb1.mono (by simpa using hbN.size));have k0:w3.cell? ⟨w.heap.size,0,none⟩=some (.slice (some ⟨b,off,none⟩) p.length cap):=Keeps.of_below hb1 _ _ (by simpa using hbox);have k1:w3.cell? ⟨w.heap.size+1,1,none⟩=some (.slice aa m.args.length aI):=Keeps.of_below hb1 _ _ (by simpa using l1);have k2:w3.cell? ⟨w.heap.size+1,2,none⟩=some (.int .i64 m.ret):=Keeps.of_below hb1 _ _ (by simpa using l2);have hkp:=Keeps.of_below hW3;clear hb1 hbN e0 hbel hbox l0 l1 l2 l3 l4 d0 d2 aaD
    cases hmo:fO p x.sup m.slot with
    | none =>
     have hover:oG p x m=true:=by unfold oG;rw [hmo]
     have hm1:(qE p x.sup m.slot).1= -1:=by unfold qE;rw [hmo]
     have hm2:(qE p x.sup m.slot).2= -1:=by unfold qE;rw [hmo]
     have HO:=hide hover;rw [hm1,hm2];clear hm1 hm2 hmo hover
     go_wp2
     go_ret;exact⟨aT (by rw [ah HE,ah HO]),hW3⟩
    | some ij =>
     obtain⟨i2,j2⟩:=ij;obtain⟨d,hd⟩:=Int.eq_ofNat_of_zero_le hsup.1;obtain⟨y,o,hy,ho,hid,_⟩:=OQ p hs m.slot d (by omega) (by rw [←hd];exact hmo);have hover:oG p x m=(o.args == m.args && o.ret == m.ret):=by unfold oG sV;rw [hmo];simp only [hy,Option.bind_some,ho]
     have hm1:(qE p x.sup m.slot).1=i2:=by unfold qE;rw [hmo]
     have hm2:(qE p x.sup m.slot).2=j2:=by unfold qE;rw [hmo]
     have HO:=hide hover;rw [hm1,hm2];obtain⟨hi2,hye⟩:=List.getElem?_eq_some_iff.1 hy;obtain⟨hj2,hoe⟩:=List.getElem?_eq_some_iff.1 ho;have hyl:gJ y≤4194304:=Nat.le_trans (nR (hye▸List.getElem_mem hi2)) hz;have hol:dN o≤4194304:=Nat.le_trans (Bj (hoe▸List.getElem_mem hj2)) hyl;have agW:o.args.length≤4194304:=by unfold dN at hol;omega
     have hys:y.aB.length≤4194304:=Nat.le_trans (tC y) hyl;obtain⟨_,b',off',_,he1,_,ha1,hr1⟩:=aZ hp;have he2:=ha1 (bJ hi2)
     injection he1 with he3 he4 he5
     rw [he2] at he3
     injection he3 with he6
     injection he6 with he7 he8
     subst he7 he8;obtain⟨vf2,vm2,q0,q1,q2,qf,qm⟩:=(hr1 i2 hi2).keep hkp;rw [hye] at qf qm;obtain⟨Uz,mb2,alv,UE,rfl,ak3,agT,aat⟩:=aZ qm;obtain rfl:=agT (bJ hj2);obtain⟨va2,alD,alF,⟨ra,rc,rf⟩,n0,n1,n2,n3,n4,n5,n6⟩:=aat j2 hj2;rw [hoe] at n0 n2 n3 n4 ra rc rf;have RA:=hide ra;obtain⟨aa2,ab2,akA,akz,rfl,_,_,_⟩:=aZ ra;obtain⟨ca2,cb2,akF,akD,rfl,_,_,_⟩:=aZ rc;obtain⟨fa2,fb2,akI,wW,rfl,_,_,_⟩:=aZ rf;have hlt2:=cell_lt q2;have hlt3:=cell_lt n0;have hsz3:=hW3.size;have hlt4:=cell_lt k1;clear hm1 hm2 hmo hover hr1 qf aat ra rc rf hye hoe hy ho hd hkp;go_wp2_with fail
     generalize KG:w3.alloc _=w4;have hb4:Below w3.heap.size w3 w4:=by rw [←KG];exact aS _ _
     have t2:w4.cell? ⟨w3.heap.size,2,none⟩=some (.int .i64 o.ret):=by rw [←KG];exact iK _ _ _ 2
     clear KG;have t3:=Keeps.of_below hb4 _ _ k2;refine (ai5 _ _ _ _ _ (dA (Keeps.of_below hb4) (ah RA)) (dA (Keeps.of_below (hW3.trans (hb4.mono hsz3))) (ah MJ)) agW hal).mono ?_;rintro e w5 ⟨rfl,n5,rfl⟩;have hfin:Below w.heap.size w (w4.drewN n5):=below_drewN (hW3.trans (hb4.mono hsz3)) _
     cases hsa:(o.args == m.args)
     ·go_wp2
      go_ret;exact⟨aT (by rw [ah HE,ah HO,hsa];rfl),hfin⟩
     ·go_wp2
      go_ret;exact⟨aT (by rw [ah HE,ah HO,hsa];simp),hfin⟩

theorem aiZ (p:List aj)(vc:Value)(c k:Nat)(x:aj)(m:aC)(w:World)(hp:aX w vc p)(hs:aU p (c+1))(hX:p[c]? =some x)(hM:x.aB[k]? =some m)(hwf:jq p)(hz:bn p≤4194304) :
  Calls Tryz.prog 93 #[.agg #[vc],.int .i64 c,.int .i64 k] w fun e w'=>e= .returned (.bool (headB p x k m))∧Below w.heap.size w w':=by
 cases hb:qO p.length m
 ·exact ai0 p vc c k x m w hp hX hM hwf hz hb
 ·exact ai1 p vc c k x m w hp hs hX hM hwf hz hb
def qF (p:List aj)(c:Nat):Bool:=match p[c]? with
 | none => true
 | some x => nP c x
theorem PN {p:List aj}{c:Nat}{x:aj}(h:p[c]? =some x):qF p c=nP c x:=by unfold qF;rw [h]
theorem Ac {v n:Int}{q:Bool}(h:dV v n=q)(w:World):Calls Tryz.prog 182 #[.int .i64 v,.int .i64 n] w fun e w'=>e= .returned (.bool q)∧w'=w:=h▸ae6 v n w
theorem Ph {f:Nat→Bool}{c:Nat} :(List.range (c+1)).all f=((List.range c).all f && f c):=by
 rw [List.range_succ,List.all_append,List.all_cons,List.all_nil,Bool.and_true]
theorem FN {f:Nat→Bool}{c n:Nat}(hc:c<n)(h:f c=false):(List.range n).all f=false:=by
 rw [List.all_eq_false];exact⟨c,List.mem_range.2 hc,by simp [h]⟩

theorem ae5 (p:List aj)(vc:Value)(w:World)(hp:aX w vc p)(hz:bn p≤4194304) :
  Calls Tryz.prog 128 #[.agg #[vc]] w fun e w'=>e= .returned (.bool ((List.range p.length).all (qF p)))∧Below w.heap.size w w':=by
 have hpl:p.length≤4194304:=Nat.le_trans (eG p) hz;obtain⟨a,b,off,cap,rfl,hcap,ha,hr⟩:=aZ hp;have HR:=hide hr;clear hp hr;go_enter Tryz.func128,Tryz.ntmps128
 go_wp2
 generalize hW:w.alloc _=W;have hbel:Below w.heap.size w W:=hW▸aS _ _;clear hW
 go_loopw [8] (fun s wr=>∃c:Nat,c≤p.length∧s= .int .i64 c∧(List.range c).all (qF p)=true∧Below W.heap.size W wr) (fun s _=>p.length-(intOf s).toNat)
 case atStart=>exact ⟨0,Nat.zero_le _,rfl,rfl,Below.refl _ _⟩
 case round=>
  obtain⟨c,hc,rfl,hall,hbr⟩:=hrel;have HA:=hide hall;clear hall;have hfin:Below w.heap.size w wr:=hbel.trans (hbr.mono hbel.size)
  by_cases hlt:c<p.length
  ·obtain rfl:=ha (bJ hlt);obtain⟨vf,vm,c0,c1,c2,hf,hmm⟩:=(ah HR c hlt).keep (Keeps.of_below hfin);have HX:=hide (List.getElem?_eq_getElem hlt);generalize p[c]=x at *;obtain⟨fa,_,_,aG,rfl,_⟩:=hf;obtain⟨ma,_,_,dW,rfl,_⟩:=hmm;have Dv:=cell_lt c0;have hfz:=hfin.trans ((aS wr (.cells #[.int .i64 x.sup,.slice fa x.fields.length aG,.slice ma x.aB.length dW] 66)).mono hfin.size);have hbz:=hbr.trans ((aS wr (.cells #[.int .i64 x.sup,.slice fa x.fields.length aG,.slice ma x.aB.length dW] 66)).mono hbr.size)
   rcases Nat.eq_zero_or_pos c with h0 | h0
   ·have hc0:((c:Int) == 0)=true:=by subst h0;rfl
    have hc1:¬(0:Int)<(c:Int):=by omega
    have HS:=hide (show qF p c=(x.sup == -1) by rw [PN (ah HX)];unfold nP;rw [if_pos h0]);clear h0
    cases hb:(x.sup == -1)
    ·have hb':(x.sup != -1)=true:=by unfold bne;rw [hb];rfl
     clear hb;have HF:=hide (show (List.range p.length).all (qF p)=false from FN hlt (by rw [ah HS];simpa using hb'))
     go_wp2
     go_ret;exact⟨aT (ah HF).symm,hfz⟩
    ·have hb':(x.sup != -1)=false:=by unfold bne;rw [hb];rfl
     go_wp2_with fail
     exact⟨⟨c+1,by omega,by go_num,by rw [Ph,ah HA,ah HS,hb];rfl,hbz⟩,by simp [intOf];omega⟩
   ·have hc0:((c:Int) == 0)=false:=by simpa using (by omega:c≠0)
    have hc1:(0:Int)<(c:Int):=by omega
    have HS:=hide (show qF p c=dV x.sup c by rw [PN (ah HX)];unfold nP dV;rw [if_neg (by omega)]);clear h0
    cases hb:dV x.sup c
    ·have HF:=hide (show (List.range p.length).all (qF p)=false from FN hlt (by rw [ah HS,hb]));go_wp2_with (go_at_call 182;refine (Ac hb _).mono ?_;rintro e w' ⟨rfl,rfl⟩)
     go_ret;exact⟨aT (ah HF).symm,hfz⟩
    ·go_wp2_with (go_at_call 182;refine (Ac hb _).mono ?_;rintro e w' ⟨rfl,rfl⟩)
     exact⟨⟨c+1,by omega,by go_num,by rw [Ph,ah HA,ah HS,hb];rfl,hbz⟩,by simp [intOf];omega⟩
  ·go_wp2
   go_ret;have:c=p.length:=by omega
   subst this;exact⟨aT (ah HA).symm,hfin⟩

theorem RQ {p:List aj}{l:List Int}{q:Bool}(h:l.all (fF p.length)=q)(vc v:Value)(w:World)(hp:aX w vc p)(hpl:p.length≤4194304)(hl:aV 1 (jL w) v l)(hw:∀x∈l,I64 x)(hs:l.length≤4194304) :
  Calls Tryz.prog 184 #[.agg #[vc],v] w fun e w'=>e= .returned (.bool q)∧Below w.heap.size w w':=h▸aeC p vc l v w hp hpl hl hw hs
theorem EI {n:Nat}{m:aC}(h:¬(0≤m.slot∧m.slot≤5∧m.args.length≤3∧m.args.all (fF n)=true∧fF n m.ret=true∧1+m.args.length≤m.locals∧m.locals≤8∧0≤m.stack∧m.stack≤8)):qO n m=false:=Bool.eq_false_iff.2 (fun e=>h (vO.1 e))
theorem oU {v n:Int} :dV v n=true↔0≤v∧v<n:=by unfold dV;simp
theorem abG {v n:Int}(h:dV v n=false):¬(0≤v∧v<n):=fun e=>by rw [oU.2 e] at h;cases h

theorem aeQ (p:List aj)(vc:Value)(m:aC)(va eU dH:Value)(w:World)(hp:aX w vc p)(hm:qg w m va eU dH)(hz:bn p≤4194304)(hml:dN m≤4194304)(hwm:zk m) :
  Calls Tryz.prog 185 #[.agg #[vc],bP m va eU dH] w fun e w'=>e= .returned (.bool (qO p.length m))∧Below w.heap.size w w':=by
 have hpl:p.length≤4194304:=Nat.le_trans (eG p) hz;have hal:m.args.length≤4194304:=by unfold dN at hml;omega
 have HP:=hide hp;have um:=hide hm;obtain⟨pa,_,_,aA,rfl,_⟩:=hp;obtain⟨⟨aa,_,_,aI,rfl,_⟩,⟨ca,_,_,aF,rfl,_⟩,⟨fa,_,_,aG,rfl,_⟩⟩:=hm;unfold bP;go_enter Tryz.func185,Tryz.ntmps185
 go_wp2_with fail
 generalize hW:(w.alloc _).alloc _=W;have hbel:Below w.heap.size w W:=by rw [←hW];exact dS _ _ _
 have hbox:W.cell? ⟨w.heap.size,0,none⟩=some (.slice pa p.length aA):=by rw [←hW];exact lZ _ _ _ _ 0
 have l1:W.cell? ⟨w.heap.size+1,1,none⟩=some (.slice aa m.args.length aI):=by rw [←hW];exact fC _ _ _ _ 1
 have l2:W.cell? ⟨w.heap.size+1,2,none⟩=some (.int .i64 m.ret):=by rw [←hW];exact fC _ _ _ _ 2
 have l3:W.cell? ⟨w.heap.size+1,3,none⟩=some (.int .i64 m.locals):=by rw [←hW];exact fC _ _ _ _ 3
 have l4:W.cell? ⟨w.heap.size+1,4,none⟩=some (.int .i64 m.stack):=by rw [←hW];exact fC _ _ _ _ 4
 clear hW;have EZ:=aP (Keeps.of_below hbel) (ah HP);have hAW:=dA (Keeps.of_below hbel) (ah um).1
 cases q1:dV m.slot 6
 ·refine (Ac q1 _).mono ?_;rintro e w' ⟨rfl,rfl⟩;go_wp2_with fail
  go_ret;exact⟨aT (EI fun h=>abG q1 (by omega)).symm,hbel⟩
 refine (Ac q1 _).mono ?_;rintro e w' ⟨rfl,rfl⟩
 by_cases q2:3<m.args.length
 ·go_wp2_with fail
  go_ret;exact⟨aT (EI fun h=>by omega).symm,hbel⟩
 go_wp2_with fail
 have jR:=hide EZ
 cases q3:m.args.all (fF p.length)
 ·refine (RQ q3 _ _ _ EZ hpl hAW hwm.2.1 hal).mono ?_;rintro e w1 ⟨rfl,hb1⟩;go_wp2_with fail
  go_ret;exact⟨aT (EI fun h=>by rw [q3] at h;exact Bool.false_ne_true h.2.2.2.1).symm,hbel.trans (hb1.mono hbel.size)⟩
 refine (RQ q3 _ _ _ EZ hpl hAW hwm.2.1 hal).mono ?_;rintro e w1 ⟨rfl,hb1⟩;have hk1:=Keeps.of_below hb1;replace l1:=hk1 _ _ l1;replace l2:=hk1 _ _ l2;replace l3:=hk1 _ _ l3;replace l4:=hk1 _ _ l4;replace hbox:=hk1 _ _ hbox;replace EZ:=aP hk1 (ah jR);have hf1:=hbel.trans (hb1.mono hbel.size);clear hk1 hb1 hbel hAW jR;go_wp2_with fail
 cases q4:fF p.length m.ret
 ·refine (G7 q4 _ _ EZ hwm.2.2.1 hpl).mono ?_;rintro e w2 ⟨rfl,hb2⟩;go_wp2_with fail
  go_ret;exact⟨aT (EI fun h=>by rw [q4] at h;exact Bool.false_ne_true h.2.2.2.2.1).symm,hf1.trans (hb2.mono hf1.size)⟩
 refine (G7 q4 _ _ EZ hwm.2.2.1 hpl).mono ?_;rintro e w2 ⟨rfl,hb2⟩;have hk2:=Keeps.of_below hb2;replace l1:=hk2 _ _ l1;replace l3:=hk2 _ _ l3;replace l4:=hk2 _ _ l4;have hf2:=hf1.trans (hb2.mono hf1.size);clear hk2 hb2 hf1 l2 hbox EZ
 by_cases q5:(m.args.length:Int)<m.locals
 ·by_cases q6:m.locals≤8
  ·go_wp2_with fail
   cases q7:dV m.stack 9
   ·refine (Ac q7 _).mono ?_;rintro e w' ⟨rfl,rfl⟩;go_wp2_with fail
    go_ret;exact⟨aT (EI fun h=>abG q7 (by omega)).symm,hf2⟩
   ·refine (Ac q7 _).mono ?_;rintro e w' ⟨rfl,rfl⟩;go_wp2_with fail
    go_ret;have r1:=oU.1 q1;have r7:=oU.1 q7;exact⟨aT (vO.2 ⟨by omega,by omega,by omega,q3,q4,by omega,by omega,by omega,by omega⟩).symm,hf2⟩
  ·go_wp2_with fail
   go_ret;exact⟨aT (EI fun h=>by omega).symm,hf2⟩
 ·go_wp2_with fail
  go_ret;exact⟨aT (EI fun h=>by omega).symm,hf2⟩
theorem bW (W:World)(a:Addr):W.drew.frozen? a=W.frozen? a:=rfl
attribute [local go_sem] bW
theorem nS {A B:World}{a b c:Addr}{x y z:Value}(h:A.cell? a=some x∧A.cell? b=some y∧A.cell? c=some z)(k:Below A.heap.size A B):B.cell? a=some x∧B.cell? b=some y∧B.cell? c=some z:=
 ⟨Keeps.of_below k _ _ h.1,Keeps.of_below k _ _ h.2.1,Keeps.of_below k _ _ h.2.2⟩
theorem lY {W w1:World}(h:Below W.drew.heap.size W.drew w1):Below W.heap.size W w1:=(Below.refl W.heap.size W).drew.trans h
theorem Nv {W:World}(o:Obj):Below W.heap.size W (W.alloc o).drew:=(aS W o).drew
theorem RF {W:World}(o:Obj):Below W.heap.size W (W.drew.alloc o):=(Below.refl W.heap.size W).drew.alloc (Nat.le_refl _) _
theorem wP {W w1:World}{o:Obj}(h:Below (W.alloc o).drew.heap.size (W.alloc o).drew w1):Below W.heap.size W w1:=(Nv o).trans (h.mono (by simp))
theorem zT {B:Nat}{a w:World}{b:Nat}(h:Below B a w)(hb:B≤b)(v0 v1 v2 v3 v4 v5 v6:Value) :
  Below B a (((((((w.setCell ⟨b,0,none⟩ v0).setCell ⟨b,1,none⟩ v1).setCell ⟨b,2,none⟩ v2).setCell ⟨b,3,none⟩ v3).setCell ⟨b,4,none⟩ v4).setCell ⟨b,5,none⟩ v5).setCell ⟨b,6,none⟩ v6):=
 ((((((h.setCell hb v0).setCell hb v1).setCell hb v2).setCell hb v3).setCell hb v4).setCell hb v5).setCell hb v6

theorem UG {p:List aj}{ck:Nat×Nat}{o:aC}(h:sV p ck=some o)(hz:bn p≤4194304):o.args.length≤4194304:=by
 unfold sV at h
 cases hx:p[ck.1]? with
 | none => rw [hx] at h; cases h
 | some y =>
  rw [hx] at h;have h1:=nR (List.mem_of_getElem? hx);have h2:=Bj (List.mem_of_getElem? h);unfold dN at h2;omega
theorem RH {w:World}{b:Nat}{t:TypeId}{a0 a1 a2 a3 a4 a5 a6:Value}(h:ak w b t [a0,a1,a2,a3,a4,a5,a6]) :
  (w.cell? ⟨b,0,none⟩=some a0∧w.cell? ⟨b,1,none⟩=some a1∧w.cell? ⟨b,2,none⟩=some a2∧w.cell? ⟨b,3,none⟩=some a3∧w.cell? ⟨b,4,none⟩=some a4∧w.cell? ⟨b,5,none⟩=some a5∧w.cell? ⟨b,6,none⟩=some a6)∧
  (w.frozen? ⟨b,0,none⟩=false∧w.frozen? ⟨b,1,none⟩=false∧w.frozen? ⟨b,2,none⟩=false∧w.frozen? ⟨b,3,none⟩=false∧w.frozen? ⟨b,4,none⟩=false∧w.frozen? ⟨b,5,none⟩=false∧w.frozen? ⟨b,6,none⟩=false):=
 ⟨⟨h.cell 0,h.cell 1,h.cell 2,h.cell 3,h.cell 4,h.cell 5,h.cell 6⟩,h.frozen 0,h.frozen 1,h.frozen 2,h.frozen 3,h.frozen 4,h.frozen 5,h.frozen 6⟩
theorem XQ {W w1:World}{cs:Array Value}{t:TypeId}(h:Below (W.alloc (.cells cs t)).drew.heap.size (W.alloc (.cells cs t)).drew w1):ak w1 W.heap.size t cs.toList:=
 ak.below (w:=(W.alloc (.cells cs t)).drew) (ak.new W cs t) h (by simp)

theorem ae1 (p:List aj)(vc:Value)(c:Nat)(x:aj)(m:aC)(va eU dH:Value)(w:World)(hp:aX w vc p)(hs:aU p p.length)(hX:p[c]? =some x)(hm:qg w m va eU dH)(hz:bn p≤4194304)(hml:dN m≤4194304) :
  Calls Tryz.prog 187 #[.agg #[vc],.int .i64 c,bP m va eU dH] w fun e w'=>e= .returned (.bool (oG p x m))∧Below w.heap.size w w':=by
 have hpl:p.length≤4194304:=Nat.le_trans (eG p) hz;have hal:m.args.length≤4194304:=by unfold dN at hml;omega
 obtain⟨hi,hxe⟩:=List.getElem?_eq_some_iff.1 hX;have HP:=hide hp;have um:=hide hm;obtain⟨pa,pb,dB,aA,rfl,_,hpa,hpr⟩:=aZ hp;obtain rfl:=hpa (bJ hi);obtain⟨⟨aa,_,_,aI,rfl,_⟩,⟨ca,_,_,aF,rfl,_⟩,⟨fa,_,_,aG,rfl,_⟩⟩:=hm;obtain⟨vf,vm,c0,c1,c2,hf,hmt⟩:=hpr c hi;rw [hxe] at c0;have hsup:=pV (hs c x hi hX);have hci:(c:Int)<(p.length:Int):=by omega
 have hcz:(0:Int)≤(c:Int):=by omega
 have HX:=hide hX;have Dv:=cell_lt c0;clear hX hxe hpr hf hmt c1 c2 hp;unfold bP;go_enter Tryz.func187,Tryz.ntmps187
 go_wp2_with fail
 generalize hW:(w.alloc _).alloc _=W;have hbel:Below w.heap.size w W:=by rw [←hW];exact dS _ _ _
 have hbox:W.cell? ⟨w.heap.size,0,none⟩=some (.slice (some ⟨pb,dB,none⟩) p.length aA):=by rw [←hW];exact lZ _ _ _ _ 0
 have l0:W.cell? ⟨w.heap.size+1,0,none⟩=some (.int .i64 m.slot):=by rw [←hW];exact fC _ _ _ _ 0
 have l1:W.cell? ⟨w.heap.size+1,1,none⟩=some (.slice aa m.args.length aI):=by rw [←hW];exact fC _ _ _ _ 1
 have l2:W.cell? ⟨w.heap.size+1,2,none⟩=some (.int .i64 m.ret):=by rw [←hW];exact fC _ _ _ _ 2
 clear hW;have d0:=Keeps.of_below hbel _ _ c0;clear c0;have jR:=hide (aP (Keeps.of_below hbel) (ah HP));have jd:=hide (And.intro hbox (And.intro d0 l0))
 go_region_held3 (fun w'=>w'.cell? ⟨w.heap.size,0,none⟩=some (.slice (some ⟨pb,dB,none⟩) p.length aA)∧w'.cell? ⟨pb,dB+c*3,none⟩=some (.int .i64 x.sup)∧w'.cell? ⟨w.heap.size+1,0,none⟩=some (.int .i64 m.slot))
  (first
    | with_reducible exact nS jd.out (zT (wP HB1.out) (Nat.le_refl _) _ _ _ _ _ _ _).drew.drew
    | with_reducible exact nS jd.out (zT (wP HB1.out) (Nat.le_refl _) _ _ _ _ _ _ _).drew
    | with_reducible exact nS jd.out (zT (wP HB1.out) (Nat.le_refl _) _ _ _ _ _ _ _)
    | with_reducible exact nS jd.out (lY hb1)
    | with_reducible exact nS jd.out ((lY hb1).alloc (lY hb1).size _)
    | with_reducible exact nS jd.out (wP HB1.out)
    | with_reducible exact nS jd.out (zT (wP HB1.out) (Nat.le_refl _) _ _ _ _ _ _ _)
    | with_reducible exact nS jd.out (Nv _)
    | with_reducible exact nS jd.out (RF _)
    | (with_reducible exact jd.out)
    | go_keep)
  (first | ((go_at_call 109;refine (RV p _ p.length _ _ W _ (ah jR) ?_ hs (Nat.le_refl _) (by omega) (by omega) hz).mono ?_);(first | with_reducible exact (Below.refl _ _).drew | with_reducible exact Nv _ | with_reducible exact RF _);rintro e w1 ⟨o,oa,oc,of,rP,uQ,uS,rfl,hfm,hb1⟩;(first | (have y1:=XQ hb1;obtain⟨⟨f0,f1,f2,f3,f4,f5,f6⟩,g0,g1,g2,g3,g4,g5,g6⟩:=RH y1;have Y1:=hide y1;have HB1:=hide hb1;have kN:=hide hfm;clear y1 hb1 hfm;skip) | skip)))
 ·have hbz:=(lY hb1).alloc (lY hb1).size (.cells #[.int .i64 o.slot,.slice oa o.args.length rP,.int .i64 o.ret,.int .i64 o.locals,.int .i64 o.stack,.slice oc o.code.length uQ,.slice of o.frames.length uS] 63);have t1:=iK w1 #[.int .i64 o.slot,.slice oa o.args.length rP,.int .i64 o.ret,.int .i64 o.locals,.int .i64 o.stack,.slice oc o.code.length uQ,.slice of o.frames.length uS] 63 1;have t2:=iK w1 #[.int .i64 o.slot,.slice oa o.args.length rP,.int .i64 o.ret,.int .i64 o.locals,.int .i64 o.stack,.slice oc o.code.length uQ,.slice of o.frames.length uS] 63 2;generalize w1.alloc _=Z at hbz t1 t2 ⊢;generalize w1.heap.size=bI at t1 t2 ⊢;have kN:=hide hfm
  replace t1:Z.cell? ⟨bI,1,none⟩=some (.slice oa o.args.length rP):=t1;replace t2:Z.cell? ⟨bI,2,none⟩=some (.int .i64 o.ret):=t2;clear hfm hb1;have hzw:=hbel.trans (hbz.mono hbel.size);have k1:=Keeps.of_below hbz _ _ l1;have k2:=Keeps.of_below hbz _ _ l2;have KU:=hide hbz;clear l0 l1 l2 d0 hbox jd hbel hbz
  cases hmo:fO p x.sup m.slot with
  | none =>
   have HO:=hide (show oG p x m=true by unfold oG;rw [hmo]);clear hmo kN;go_wp2_with fail
   go_ret;exact⟨aT (ah HO).symm,hzw⟩
  | some ck =>
   obtain⟨hma,hmv⟩:=kN.out ck hmo;have HO:=hide (show oG p x m=(o.args == m.args && o.ret == m.ret) by unfold oG;rw [hmo];simp only [hma]);have hol:o.args.length≤4194304:=UG hma hz;have lV:=hide (dA (Keeps.of_below KU.out) hmv.1);have QF:=hide (dA (Keeps.of_below hzw) (ah um).1);clear hmo kN hma hmv;go_wp2_with fail
   refine (Yr _ _ _ _ _ (ah lV) (ah QF) hol hal).mono ?_;rintro e w5 ⟨rfl,n5,rfl⟩
   cases hsa:(o.args == m.args)
   ·go_wp2_with fail
    go_ret;exact⟨aT (by rw [ah HO,hsa];rfl),below_drewN hzw _⟩
   ·go_wp2_with fail
    go_ret;exact⟨aT (by rw [ah HO,hsa];rfl),below_drewN hzw _⟩
 ·have hbz:=zT (wP HB1.out) (Nat.le_refl _) (.int .i64 o.slot) (.slice oa o.args.length rP) (.int .i64 o.ret) (.int .i64 o.locals) (.int .i64 o.stack) (.slice oc o.code.length uQ) (.slice of o.frames.length uS);have hB:=O8 (ah Y1) (.int .i64 o.slot) (.slice oa o.args.length rP) (.int .i64 o.ret) (.int .i64 o.locals) (.int .i64 o.stack) (.slice oc o.code.length uQ) (.slice of o.frames.length uS);unfold IE at hB;have t1:=hB.cell 1;have t2:=hB.cell 2;clear hB f0 f1 f2 f3 f4 f5 f6 g0 g1 g2 g3 g4 g5 g6 HB1 Y1;generalize World.setCell _ _ _=Z at hbz t1 t2 ⊢;replace t1:Z.cell? ⟨W.heap.size,1,none⟩=some (.slice oa o.args.length rP):=t1
  replace t2:Z.cell? ⟨W.heap.size,2,none⟩=some (.int .i64 o.ret):=t2;have hzw:=hbel.trans (hbz.mono hbel.size);have k1:=Keeps.of_below hbz _ _ l1;have k2:=Keeps.of_below hbz _ _ l2;have KU:=hide hbz;clear l0 l1 l2 d0 hbox jd hbel hbz;generalize W.heap.size=bI at t1 t2 ⊢
  cases hmo:fO p x.sup m.slot with
  | none =>
   have HO:=hide (show oG p x m=true by unfold oG;rw [hmo]);clear hmo kN;go_wp2_with fail
   go_ret;exact⟨aT (ah HO).symm,hzw⟩
  | some ck =>
   obtain⟨hma,hmv⟩:=kN.out ck hmo;have HO:=hide (show oG p x m=(o.args == m.args && o.ret == m.ret) by unfold oG;rw [hmo];simp only [hma]);have hol:o.args.length≤4194304:=UG hma hz;have lV:=hide (dA (Keeps.of_below KU.out) hmv.1);have QF:=hide (dA (Keeps.of_below hzw) (ah um).1);clear hmo kN hma hmv;go_wp2_with fail
   refine (Yr _ _ _ _ _ (ah lV) (ah QF) hol hal).mono ?_;rintro e w5 ⟨rfl,n5,rfl⟩
   cases hsa:(o.args == m.args)
   ·go_wp2_with fail
    go_ret;exact⟨aT (by rw [ah HO,hsa];rfl),below_drewN hzw _⟩
   ·go_wp2_with fail
    go_ret;exact⟨aT (by rw [ah HO,hsa];rfl),below_drewN hzw _⟩
theorem dL {P:Program}{ops:Array Oper}{Q:Exit→Act→World→Prop}{md:Region.Mode}{S:World→Prop}{i:Nat}{oi:Oper}{v:Value}(d:Option Tmp){fuel:Nat}{listed:Array Bool}{a:Act}{w:World}(hi:ops[i]? =some oi)(hd:oi.dst=d)
  (hs:Region.noSelect ops=true) (hf:Region.free md ops listed i=true) (hr:(Region.ready md ops listed).contains i=true)
  (hQ:∀c a w,Q (.panic c) (a.put d v) w→Q (.panic c) a w) (hy:YieldsIf P ops S oi v a) (hS:S w)
  (h:wpAnyH P md ops Q S fuel (listed.setIfInBounds i true) (a.put d v) w):wpAnyH P md ops Q S (fuel+1) listed a w:=by
 subst hd;exact wpAnyH_take hi hs hf hr hQ hy hS h

theorem Jb {P:Program}{ops:Array Oper}{Q:Exit→Act→World→Prop}{md:Region.Mode}{S:World→Prop}{oi:Oper}{v:Value}(d:Option Tmp)(i:Nat){fuel:Nat}{listed:Array Bool}{a a':Act}{w:World}(hi:ops[i]? =some oi)(hd:oi.dst=d)
  (h:wpAnyH P md ops Q S fuel (listed.setIfInBounds i true) a' w)
  (hs:Region.noSelect ops=true:=by kernel_rfl) (hf:Region.free md ops listed i=true:=by kernel_rfl) (hr:(Region.ready md ops listed).contains i=true:=by kernel_rfl)
  (hy:YieldsIf P ops S oi v a:=by exact Or.inl ⟨by rfl,by intro w' hSw;(try dsimp only at hSw);go_simp;all_goals with_reducible rfl⟩)
  (ha:a.put d v=a':=by (try simp only [Act.put,List.setIfInBounds_toArray,List.set_cons_zero,List.set_cons_succ]);rfl)
  (hQ:∀c a w,Q (.panic c) (a.put d v) w→Q (.panic c) a w:=by exact fun _ _ _ h=>h) (hS:S w:=by assumption):wpAnyH P md ops Q S (fuel+1) listed a w:=
 dL d hi hd hs hf hr hQ hy hS (ha▸h)

theorem au {P:Program}{ops:Array Oper}{Q:Exit→Act→World→Prop}{md:Region.Mode}{S:World→Prop}{oi:Oper}{v:Value}(t:Tmp)(i:Nat){fuel:Nat}{listed:Array Bool}{a a':Act}{w:World}
  (h:wpAnyH P md ops Q S fuel (listed.setIfInBounds i true) a' w) (hi:ops[i]? =some oi:=by rfl) (hd:oi.dst=some t:=by rfl)
  (hs:Region.noSelect ops=true:=by kernel_rfl) (hf:Region.free md ops listed i=true:=by kernel_rfl) (hr:(Region.ready md ops listed).contains i=true:=by kernel_rfl)
  (hy:YieldsIf P ops S oi v a:=by exact Or.inl ⟨by rfl,by intro w' hSw;(try dsimp only at hSw);go_simp;all_goals with_reducible rfl⟩)
  (ha:a.put (some t) v=a':=by (try simp only [Act.put,List.setIfInBounds_toArray,List.set_cons_zero,List.set_cons_succ]);rfl)
  (hQ:∀c a w,Q (.panic c) (a.put (some t) v) w→Q (.panic c) a w:=by exact fun _ _ _ h=>h) (hS:S w:=by assumption):wpAnyH P md ops Q S (fuel+1) listed a w:=
 dL (some t) hi hd hs hf hr hQ hy hS (ha▸h)
theorem gV {P:Program}{ops:Array Oper}{Q:Exit→Act→World→Prop}{md:Region.Mode}{S:World→Prop}{oi:Oper}(t:Tmp)(i:Nat){fuel:Nat}{listed:Array Bool}{a a':Act}{w:World}
  (h:wpAnyH P md ops Q S fuel (listed.setIfInBounds i true) a' w) (hi:ops[i]? =some oi:=by rfl) (hd:oi.dst=some t:=by rfl)
  (hs:Region.noSelect ops=true:=by kernel_rfl) (hf:Region.free md ops listed i=true:=by kernel_rfl) (hr:(Region.ready md ops listed).contains i=true:=by kernel_rfl)
  (hy:YieldsIf P ops S oi undef a:=by exact Or.inr ⟨by rfl,rfl⟩)
  (ha:a.put (some t) undef=a':=by (try simp only [Act.put,List.setIfInBounds_toArray,List.set_cons_zero,List.set_cons_succ]);rfl)
  (hQ:∀c a w,Q (.panic c) (a.put (some t) undef) w→Q (.panic c) a w:=by exact fun _ _ _ h=>h) (hS:S w:=by assumption):wpAnyH P md ops Q S (fuel+1) listed a w:=
 dL (some t) hi hd hs hf hr hQ hy hS (ha▸h)
theorem aW {P:Program}{ops:Array Oper}{Q:Exit→Act→World→Prop}{md:Region.Mode}{S:World→Prop}(i:Nat){o:Oper}{fuel:Nat}{listed:Array Bool}{a:Act}{w:World}
  (h:∀K':Act→World→Prop,Shut (∀a w,S w→(S w→wpAnyH P md ops Q S fuel (listed.setIfInBounds i true) a w)→K' a w)→if Region.wanted o (yielded ops a.tmps)=true then Oper.wp P o a w K' Q else K' (a.put o.dst undef) w)
  (ho:ops[i]? =some o:=by rfl) (hr:Region.ready md ops listed= [i]:=by kernel_rfl):wpAnyH P md ops Q S (fuel+1) listed a w:=
 wpAnyH_ready hr (by simp) (AllReadyH.cons ho h AllReadyH.nil)
theorem aK {α :Type}(l:List α)(i:Nat)(a: α):l.toArray.setIfInBounds i a=(l.set i a).toArray:=List.setIfInBounds_toArray l i a
theorem aO {α :Type}{x: α}{xs:List α}{a: α} :(x::xs).set 0 a=a::xs:=rfl
theorem aN {α :Type}{x: α}{xs:List α}{i:Nat}{a: α} :(x::xs).set (i+1) a=x::xs.set i a:=rfl
theorem Vz {A B:World}{a b:Addr}{x y:Value}(h:A.cell? a=some x∧A.cell? b=some y)(k:Below A.heap.size A B):B.cell? a=some x∧B.cell? b=some y:=
 ⟨Keeps.of_below k _ _ h.1,Keeps.of_below k _ _ h.2⟩

theorem aeI (p:List aj)(vc:Value)(c:Nat)(x:aj)(w:World)(hp:aX w vc p)(hs:aU p p.length)(hX:p[c]? =some x)(hwf:jq p)(hz:bn p≤4194304) :
  Calls Tryz.prog 129 #[.agg #[vc],.int .i64 c] w fun e w'=>e= .returned (.bool (decide ((fieldsOf p c).length≤8) && x.fields.all (fF p.length)))∧Below w.heap.size w w':=by
 have hpl:p.length≤4194304:=Nat.le_trans (eG p) hz;obtain⟨hi,hxe⟩:=List.getElem?_eq_some_iff.1 hX;have hxm:x∈p:=hxe▸List.getElem_mem hi;have hwx:=(hwf x hxm).2.1;have hfl:x.fields.length≤4194304:=Nat.le_trans (Bh x) (Nat.le_trans (nR hxm) hz);have HP:=hide hp;obtain⟨pa,pb,dB,aA,rfl,_,hpa,hpr⟩:=aZ hp;obtain rfl:=hpa (bJ hi);obtain⟨vf,vm,c0,c1,c2,hf,hmt⟩:=hpr c hi;rw [hxe] at hf;have HF:=hide hf;obtain⟨fa,_,_,aG,rfl,_⟩:=hf;have hci:(c:Int)<(p.length:Int):=by omega
 have hcz:(0:Int)≤(c:Int):=by omega
 have HX:=hide hX;have Dv:=cell_lt c0;clear hX hxe hpr hmt c0 c2 hp;go_enter Tryz.func129,Tryz.ntmps129
 go_wp2_with fail
 generalize hW:w.alloc _=W;have hbel:Below w.heap.size w W:=by rw [←hW];exact aS _ _
 have hbox:W.cell? ⟨w.heap.size,0,none⟩=some (.slice (some ⟨pb,dB,none⟩) p.length aA):=by rw [←hW];exact iK _ _ _ 0
 clear hW;have d1:=Keeps.of_below hbel _ _ c1;clear c1;have jR:=hide (aP (Keeps.of_below hbel) (ah HP));have Qy:=hide (dA (Keeps.of_below hbel) (ah HF));have HS2:=hide (And.intro hbox d1)
 by_cases h8:(fieldsOf p c).length≤8
 ·have h8':((fieldsOf p c).length:Int)≤8:=by omega
  cases hq:x.fields.all (fF p.length)
  all_goals
   go_region_held3 (fun w'=>w'.cell? ⟨w.heap.size,0,none⟩=some (.slice (some ⟨pb,dB,none⟩) p.length aA)∧w'.cell? ⟨pb,dB+c*3+1,none⟩=some (.slice fa x.fields.length aG))
    (first
      | with_reducible exact Vz HS2.out (lY (HB1.out.trans (HB2.out.mono HB1.out.size)))
      | with_reducible exact Vz HS2.out (lY HB1.out)
      | go_keep)
    (first | ((go_at_call 183;refine (RU p _ p.length _ _ (aP (Keeps.of_below ((Below.refl _ _).drew)) (ah jR)) hs (Nat.le_refl _) (by omega) (by omega) hz).mono ?_);rintro e w1 ⟨rfl,hb1⟩;have HB1:=hide hb1;clear hb1)
           | ((go_at_call 184; refine (RQ hq _ _ _ (aP (Keeps.of_below (lY HB1.out)) (ah jR)) hpl (dA (Keeps.of_below (lY HB1.out)) (ah Qy)) hwx hfl).mono ?_); rintro e w2 ⟨rfl, hb2⟩; have HB2 := hide hb2; clear hb2))
   go_wp2_with fail
   go_ret;have hb:=(lY HB1.out).trans (HB2.out.mono (lY HB1.out).size);exact⟨aT (by rw [decide_eq_true h8,hq];rfl),hbel.trans (hb.mono hbel.size)⟩
 ·have h8':decide (((fieldsOf p c).length:Int)≤8)=false:=by simp;omega
  refine wp_region_noPanic ?_;refine wp_region_held_drew (S:=(fun w'=>w'.cell? ⟨w.heap.size,0,none⟩=some (.slice (some ⟨pb,dB,none⟩) p.length aA)∧w'.cell? ⟨pb,dB+c*3+1,none⟩=some (.slice fa x.fields.length aG))) (by kernel_rfl) ?_ (fun hHeld=>?_)
  ·exact HS2.out
  refine Jb (some 5) 0 rfl rfl ?_;refine Jb (some 6) 1 rfl rfl ?_;refine wpAnyH_ready (rs:= [2]) (by kernel_rfl) (by simp) ?_;refine AllReadyH.cons rfl (fun K hK=>?_) AllReadyH.nil;go_simp;refine (RU p _ p.length _ _ (aP (Keeps.of_below ((Below.refl _ _).drew)) (ah jR)) hs (Nat.le_refl _) (by omega) (by omega) hz).mono ?_;rintro e w1 ⟨rfl,hb1⟩;have HB1:=hide hb1;clear hb1;go_wp2_with fail
  refine hK.out _ _ (Vz HS2.out (lY HB1.out)) (fun hHeld=>?_);clear hK K;try simp only [Act.put,List.setIfInBounds_toArray,List.set_cons_zero,List.set_cons_succ]
  refine dL (some 8) (i:=3) (v:=.bool false) rfl rfl (by kernel_rfl) (by kernel_rfl) (by kernel_rfl) (fun _ _ _ h=>h) (Or.inl ⟨by rfl,fun w' hSw=>by (try dsimp only at hSw);go_simp⟩) (by assumption) ?_;try simp only [Act.put,List.setIfInBounds_toArray,List.set_cons_zero,List.set_cons_succ]
  refine dL (some 9) (i:=4) (v:=.bool false) rfl rfl (by kernel_rfl) (by kernel_rfl) (by kernel_rfl) (fun _ _ _ h=>h) (Or.inl ⟨by rfl,fun w' hSw=>by (try dsimp only at hSw);go_simp⟩) (by assumption) ?_;try simp only [Act.put,List.setIfInBounds_toArray,List.set_cons_zero,List.set_cons_succ]
  refine dL (some 10) (i:=5) (v:=undef) rfl rfl (by kernel_rfl) (by kernel_rfl) (by kernel_rfl) (fun _ _ _ h=>h) (Or.inr ⟨by rfl,rfl⟩) (by assumption) ?_;try simp only [Act.put,List.setIfInBounds_toArray,List.set_cons_zero,List.set_cons_succ]
  refine dL (some 11) (i:=6) (v:=undef) rfl rfl (by kernel_rfl) (by kernel_rfl) (by kernel_rfl) (fun _ _ _ h=>h) (Or.inr ⟨by rfl,rfl⟩) (by assumption) ?_;try simp only [Act.put,List.setIfInBounds_toArray,List.set_cons_zero,List.set_cons_succ]
  refine dL (some 12) (i:=7) (v:=undef) rfl rfl (by kernel_rfl) (by kernel_rfl) (by kernel_rfl) (fun _ _ _ h=>h) (Or.inr ⟨by rfl,rfl⟩) (by assumption) ?_;try simp only [Act.put,List.setIfInBounds_toArray,List.set_cons_zero,List.set_cons_succ]
  refine dL (some 13) (i:=8) (v:=undef) rfl rfl (by kernel_rfl) (by kernel_rfl) (by kernel_rfl) (fun _ _ _ h=>h) (Or.inr ⟨by rfl,rfl⟩) (by assumption) ?_;try simp only [Act.put,List.setIfInBounds_toArray,List.set_cons_zero,List.set_cons_succ]
  refine dL (some 14) (i:=9) (v:=undef) rfl rfl (by kernel_rfl) (by kernel_rfl) (by kernel_rfl) (fun _ _ _ h=>h) (Or.inr ⟨by rfl,rfl⟩) (by assumption) ?_;try simp only [Act.put,List.setIfInBounds_toArray,List.set_cons_zero,List.set_cons_succ]
  refine dL (some 15) (i:=10) (v:=undef) rfl rfl (by kernel_rfl) (by kernel_rfl) (by kernel_rfl) (fun _ _ _ h=>h) (Or.inr ⟨by rfl,rfl⟩) (by assumption) ?_;try simp only [Act.put,List.setIfInBounds_toArray,List.set_cons_zero,List.set_cons_succ]
  refine dL (some 16) (i:=11) (v:=undef) rfl rfl (by kernel_rfl) (by kernel_rfl) (by kernel_rfl) (fun _ _ _ h=>h) (Or.inr ⟨by rfl,rfl⟩) (by assumption) ?_;try simp only [Act.put,List.setIfInBounds_toArray,List.set_cons_zero,List.set_cons_succ]
  refine dL (some 17) (i:=12) (v:=undef) rfl rfl (by kernel_rfl) (by kernel_rfl) (by kernel_rfl) (fun _ _ _ h=>h) (Or.inr ⟨by rfl,rfl⟩) (by assumption) ?_;try simp only [Act.put,List.setIfInBounds_toArray,List.set_cons_zero,List.set_cons_succ]
  refine dL (some 18) (i:=13) (v:=.bool false) rfl rfl (by kernel_rfl) (by kernel_rfl) (by kernel_rfl) (fun _ _ _ h=>h) (Or.inl ⟨by rfl,fun w' hSw=>by (try dsimp only at hSw);go_simp⟩) (by assumption) ?_;try simp only [Act.put,List.setIfInBounds_toArray,List.set_cons_zero,List.set_cons_succ]
  refine dL (some 4) (i:=14) (v:=.bool false) rfl rfl (by kernel_rfl) (by kernel_rfl) (by kernel_rfl) (fun _ _ _ h=>h) (Or.inl ⟨by rfl,fun w' hSw=>by (try dsimp only at hSw);go_simp⟩) (by assumption) ?_;try simp only [Act.put,List.setIfInBounds_toArray,List.set_cons_zero,List.set_cons_succ]
  refine wpAnyH_done (by kernel_rfl) ?_ _;refine NoPanic.normal ?_
  all_goals
   go_wp2_with fail
   go_ret;exact⟨aT (by rw [decide_eq_false h8];rfl),hbel.trans ((lY HB1.out).mono hbel.size)⟩
def Au (p:List aj)(x:aj)(k:Nat):Bool:=match x.aB[k]? with
 | none => true
 | some m => headB p x k m
theorem Oq {p:List aj}{x:aj}{k:Nat}{m:aC}(h:x.aB[k]? =some m):Au p x k=headB p x k m:=by unfold Au;rw [h]
theorem acu {α :Type}{sz:Nat}{R: α→Nat→Nat→Prop}{a:Option Addr}{n cap:Nat}{l:List α}(h:aV sz R (.slice a n cap) l){k:Nat}(hk:k≤l.length):aV sz R (.slice a k cap) (l.take k):=by
 obtain⟨a',b,off,cap',h1,h2,h3,h4⟩:=h
 injection h1 with e1 e2 e3
 subst e1 e3;refine⟨a,b,off,cap,by rw [List.length_take];congr 1;omega,by rw [List.length_take];omega,⟨fun hne=>h3.1 (fun e=>hne (by rw [e];simp)),h3.2.imp_right (fun x=>x.imp_right fun y=>⟨by rw [y.1,List.take_nil],y.2⟩)⟩,fun j x hj=>h4 j x ?_⟩;rw [List.getElem?_take] at hj
 split at hj
 ·exact hj
 ·cases hj
theorem RY {p:List aj}{m:aC}{q:Bool}(h:qO p.length m=q)(vc va eU dH:Value)(w:World)(hp:aX w vc p)(hm:qg w m va eU dH)(hz:bn p≤4194304)(hml:dN m≤4194304)(hwm:zk m) :
  Calls Tryz.prog 185 #[.agg #[vc],bP m va eU dH] w fun e w'=>e= .returned (.bool q)∧Below w.heap.size w w':=h▸aeQ p vc m va eU dH w hp hm hz hml hwm
theorem Yy {ms:List aC}{slot:Int}{q:Bool}(h:(ms.all fun o=> !(o.slot == slot))=q)(vm:Value)(w:World)(hp:aV 7 (Ey w) vm ms)(hz:ms.length≤4194304) :
  Calls Tryz.prog 186 #[vm,.int .i64 slot] w fun e w'=>e= .returned (.bool (!q))∧Below w.heap.size w w':=h▸aeP ms vm slot w hp hz
theorem ae2 {p:List aj}{x:aj}{m:aC}{q:Bool}(h:oG p x m=q)(vc:Value)(c:Nat)(va eU dH:Value)(w:World)(hp:aX w vc p)(hs:aU p p.length)(hX:p[c]? =some x)(hm:qg w m va eU dH)(hz:bn p≤4194304)(hml:dN m≤4194304) :
  Calls Tryz.prog 187 #[.agg #[vc],.int .i64 c,bP m va eU dH] w fun e w'=>e= .returned (.bool q)∧Below w.heap.size w w':=h▸ae1 p vc c x m va eU dH w hp hs hX hm hz hml
theorem Ho {A B:World}{a0 a1 a2 a3 a4 a5 a6 a7:Addr}{x0 x1 x2 x3 x4 x5 x6 x7:Value}(h:A.cell? a0=some x0∧A.cell? a1=some x1∧A.cell? a2=some x2∧A.cell? a3=some x3∧A.cell? a4=some x4∧A.cell? a5=some x5∧A.cell? a6=some x6∧A.cell? a7=some x7)(k:Below A.heap.size A B) :
  B.cell? a0=some x0∧B.cell? a1=some x1∧B.cell? a2=some x2∧B.cell? a3=some x3∧B.cell? a4=some x4∧B.cell? a5=some x5∧B.cell? a6=some x6∧B.cell? a7=some x7:=
 have K:=Keeps.of_below k
 ⟨K _ _ h.1,K _ _ h.2.1,K _ _ h.2.2.1,K _ _ h.2.2.2.1,K _ _ h.2.2.2.2.1,K _ _ h.2.2.2.2.2.1,K _ _ h.2.2.2.2.2.2.1,K _ _ h.2.2.2.2.2.2.2⟩

theorem aeY (p:List aj)(vc:Value)(c:Nat)(x:aj)(w:World)(hp:aX w vc p)(hs:aU p p.length)(hX:p[c]? =some x)(hwf:jq p)(hz:bn p≤4194304) :
  Calls Tryz.prog 130 #[.agg #[vc],.int .i64 c] w fun e w'=>e= .returned (.bool (decide (x.aB.length≤6) && (List.range x.aB.length).all (Au p x)))∧Below w.heap.size w w':=by
 have hpl:p.length≤4194304:=Nat.le_trans (eG p) hz;obtain⟨hi,hxe⟩:=List.getElem?_eq_some_iff.1 hX;have hxm:x∈p:=hxe▸List.getElem_mem hi;have hwx:=(hwf x hxm).2.2;have hxl:gJ x≤4194304:=Nat.le_trans (nR hxm) hz;have hms:x.aB.length≤4194304:=Nat.le_trans (tC x) hxl;have HP:=hide hp;obtain⟨pa,pb,dB,aA,rfl,_,hpa,hpr⟩:=aZ hp;obtain rfl:=hpa (bJ hi);obtain⟨vf,vm,c0,c1,c2,hf,hmt⟩:=hpr c hi;rw [hxe] at hmt;have QM:=hide hmt;obtain⟨ma,mb,fH,dW,rfl,yV,hma,hmr⟩:=aZ hmt;have pY:=hide hmr;have hci:(c:Int)<(p.length:Int):=by omega
 have hcz:(0:Int)≤(c:Int):=by omega
 have HX:=hide hX;have Dv:=cell_lt c0;clear hX hxe hpr hmt hmr c0 c1 hf hp;go_enter Tryz.func130,Tryz.ntmps130
 by_cases h6:x.aB.length≤6
 ·have h6':¬(6:Int)<(x.aB.length:Int):=by omega
  have Gj:=hide (decide_eq_true h6);clear h6;go_wp2_with fail
  generalize hW:w.alloc _=W;have hbel:Below w.heap.size w W:=by rw [←hW];exact aS _ _
  have hbox:W.cell? ⟨w.heap.size,0,none⟩=some (.slice (some ⟨pb,dB,none⟩) p.length aA):=by rw [←hW];exact iK _ _ _ 0
  clear hW
  go_loopw [19] (fun s wr=>∃k:Nat,k≤x.aB.length∧s= .int .i64 k∧(List.range k).all (Au p x)=true∧Below W.heap.size W wr) (fun s _=>x.aB.length-(intOf s).toNat)
  case atStart=>exact ⟨0,Nat.zero_le _,rfl,rfl,Below.refl _ _⟩
  case round=>
   obtain⟨k,hk,rfl,hall,hbr⟩:=hrel;have HA:=hide hall;clear hall;have hfin:Below w.heap.size w wr:=hbel.trans (hbr.mono hbel.size)
   by_cases hlt:k<x.aB.length
   ·obtain rfl:=hma (bJ hlt);obtain⟨va,eU,dH,hv,m0,m1,m2,m3,m4,m5,m6⟩:=(ah pY k hlt).keep (Keeps.of_below hfin);have HV:=hide hv;obtain⟨kQ,_,_,jU,rfl,_⟩:=hv.1;obtain⟨ql,_,_,qo,rfl,_⟩:=hv.2.1;obtain⟨fla,_,_,qp,rfl,_⟩:=hv.2.2;have HK:=hide (List.getElem?_eq_getElem hlt);have hmm:=List.getElem_mem hlt;have hwm:=hwx _ hmm;have hml:dN x.aB[k]≤4194304:=Nat.le_trans (Bj hmm) hxl;have hlt2:=cell_lt m0;have e0:=Keeps.of_below hbr _ _ hbox;clear hv hmm;generalize x.aB[k]=m at *;have hkm:(k:Int)≤(dW:Int):=by omega
    have hkz:(0:Int)≤(k:Int):=by omega
    go_wp2_with fail
    obtain⟨wo,rfl⟩:∃wo:World,wo=wr:=⟨_,rfl⟩;generalize hZ:wo.alloc _=Z;have hbz:Below W.heap.size W Z:=by rw [←hZ];exact hbr.trans ((aS _ _).mono hbr.size)
    have q1:Z.cell? ⟨wo.heap.size,0,none⟩=some (.int .i64 m.slot):=by rw [←hZ];exact iK _ _ _ 0
    have q2:Z.cell? ⟨wo.heap.size,1,none⟩=some (.slice kQ m.args.length jU):=by rw [←hZ];exact iK _ _ _ 1
    have q3:Z.cell? ⟨wo.heap.size,2,none⟩=some (.int .i64 m.ret):=by rw [←hZ];exact iK _ _ _ 2
    have q4:Z.cell? ⟨wo.heap.size,3,none⟩=some (.int .i64 m.locals):=by rw [←hZ];exact iK _ _ _ 3
    have q5:Z.cell? ⟨wo.heap.size,4,none⟩=some (.int .i64 m.stack):=by rw [←hZ];exact iK _ _ _ 4
    have q6:Z.cell? ⟨wo.heap.size,5,none⟩=some (.slice ql m.code.length qo):=by rw [←hZ];exact iK _ _ _ 5
    have q7:Z.cell? ⟨wo.heap.size,6,none⟩=some (.slice fla m.frames.length qp):=by rw [←hZ];exact iK _ _ _ 6
    have q0:Z.cell? ⟨w.heap.size,0,none⟩=some (.slice (some ⟨pb,dB,none⟩) p.length aA):=Keeps.of_below hbz _ _ hbox;have aap:Keeps wo Z:=by rw [←hZ];exact zW _ _
    clear hZ m0 m1 m2 m3 m4 m5 m6 e0 c2;have hfz:Below w.heap.size w Z:=hbel.trans (hbz.mono hbel.size);have yC:=hide (aP (Keeps.of_below hfz) (ah HP));have Nb:=hide ((ah HV).keep aap);have Jr:=hide (sW (Keeps.of_below hfz) (ah QM));have vH:=hide (And.intro q0 (And.intro q1 (And.intro q2 (And.intro q3 (And.intro q4 (And.intro q5 (And.intro q6 q7)))))));clear aap HV
    cases hbare:qO p.length m
    ·refine wp_region_noPanic ?_;refine wp_region_held_drew (S:=(fun w'=>w'.cell? ⟨w.heap.size,0,none⟩=some (.slice (some ⟨pb,dB,none⟩) p.length aA)∧w'.cell? ⟨wo.heap.size,0,none⟩=some (.int .i64 m.slot)∧w'.cell? ⟨wo.heap.size,1,none⟩=some (.slice kQ m.args.length jU)∧w'.cell? ⟨wo.heap.size,2,none⟩=some (.int .i64 m.ret)∧w'.cell? ⟨wo.heap.size,3,none⟩=some (.int .i64 m.locals)∧w'.cell? ⟨wo.heap.size,4,none⟩=some (.int .i64 m.stack)∧w'.cell? ⟨wo.heap.size,5,none⟩=some (.slice ql m.code.length qo)∧w'.cell? ⟨wo.heap.size,6,none⟩=some (.slice fla m.frames.length qp))) (by kernel_rfl) ?_ (fun hHeld=>?_)
     ·exact vH.out
     refine dL (some 24) (i:=0) (v:=?_) rfl rfl (by kernel_rfl) (by kernel_rfl) (by kernel_rfl) (fun _ _ _ h=>h) (Or.inl ⟨by rfl,?_⟩) (by assumption) ?_;rotate_left
     ·intro w' hSw;try dsimp only at hSw
      go_simp
      all_goals with_reducible rfl
     try simp only [Act.put,aK,aO,aN]
     refine dL (some 25) (i:=1) (v:=?_) rfl rfl (by kernel_rfl) (by kernel_rfl) (by kernel_rfl) (fun _ _ _ h=>h) (Or.inl ⟨by rfl,?_⟩) (by assumption) ?_;rotate_left
     ·intro w' hSw;try dsimp only at hSw
      go_simp
      all_goals with_reducible rfl
     try simp only [Act.put,aK,aO,aN]
     refine aW 2 (fun K hK=>?_);go_simp;refine (RY hbare _ _ _ _ _ (aP (Keeps.of_below ((Below.refl _ _).drew)) (ah yC)) ((ah Nb).keep (Keeps.of_below ((Below.refl _ _).drew))) hz hml hwm).mono ?_;rintro e w1 ⟨rfl,hb1⟩;have HB1:=hide (lY hb1);clear hb1;go_wp2_with fail
     refine hK.out _ _ (Ho vH.out HB1.out) (fun agl=>?_);clear hK K hHeld;try simp only [Act.put,aK,aO,aN]
     refine dL (some 27) (i:=3) (v:=.bool true) rfl rfl (by kernel_rfl) (by kernel_rfl) (by kernel_rfl) (fun _ _ _ h=>h) (Or.inl ⟨by rfl,fun w' hSw=>by go_simp⟩) (by assumption) ?_;try simp only [Act.put,aK,aO,aN]
     refine dL (some 28) (i:=4) (v:=.bool true) rfl rfl (by kernel_rfl) (by kernel_rfl) (by kernel_rfl) (fun _ _ _ h=>h) (Or.inl ⟨by rfl,fun w' hSw=>by go_simp⟩) (by assumption) ?_;try simp only [Act.put,aK,aO,aN]
     refine gV 29 5 ?_;refine gV 30 6 ?_;refine gV 31 7 ?_;refine gV 32 8 ?_;refine gV 33 9 ?_;refine gV 34 10 ?_;refine dL (some 35) (i:=11) (v:=.bool true) rfl rfl (by kernel_rfl) (by kernel_rfl) (by kernel_rfl) (fun _ _ _ h=>h) (Or.inl ⟨by rfl,fun w' hSw=>by go_simp⟩) (by assumption) ?_;try simp only [Act.put,aK,aO,aN]
     refine dL (some 36) (i:=12) (v:=.bool true) rfl rfl (by kernel_rfl) (by kernel_rfl) (by kernel_rfl) (fun _ _ _ h=>h) (Or.inl ⟨by rfl,fun w' hSw=>by go_simp⟩) (by assumption) ?_;try simp only [Act.put,aK,aO,aN]
     refine gV 37 13 ?_;refine gV 38 14 ?_;refine gV 39 15 ?_;refine gV 40 16 ?_;refine gV 41 17 ?_;refine dL (some 42) (i:=18) (v:=.bool true) rfl rfl (by kernel_rfl) (by kernel_rfl) (by kernel_rfl) (fun _ _ _ h=>h) (Or.inl ⟨by rfl,fun w' hSw=>by go_simp⟩) (by assumption) ?_;try simp only [Act.put,aK,aO,aN]
     refine wpAnyH_done (by kernel_rfl) ?_ _;refine NoPanic.normal ?_;go_wp2_with fail
     go_ret;refine⟨aT ?_,hbel.trans ((hbz.trans (HB1.out.mono hbz.size)).mono hbel.size)⟩;rw [ah Gj,FN hlt (by rw [Oq (ah HK)];unfold headB;rw [hbare];rfl)]
     rfl
    ·cases hsl:((x.aB.take k).all fun o=> !(o.slot == m.slot))
     ·refine wp_region_noPanic ?_;refine wp_region_held_drew (S:=(fun w'=>w'.cell? ⟨w.heap.size,0,none⟩=some (.slice (some ⟨pb,dB,none⟩) p.length aA)∧w'.cell? ⟨wo.heap.size,0,none⟩=some (.int .i64 m.slot)∧w'.cell? ⟨wo.heap.size,1,none⟩=some (.slice kQ m.args.length jU)∧w'.cell? ⟨wo.heap.size,2,none⟩=some (.int .i64 m.ret)∧w'.cell? ⟨wo.heap.size,3,none⟩=some (.int .i64 m.locals)∧w'.cell? ⟨wo.heap.size,4,none⟩=some (.int .i64 m.stack)∧w'.cell? ⟨wo.heap.size,5,none⟩=some (.slice ql m.code.length qo)∧w'.cell? ⟨wo.heap.size,6,none⟩=some (.slice fla m.frames.length qp))) (by kernel_rfl) ?_ (fun hHeld=>?_)
      ·exact vH.out
      refine au 24 0 ?_;refine au 25 1 ?_;refine aW 2 (fun K hK=>?_);go_simp;refine (RY hbare _ _ _ _ _ (aP (Keeps.of_below ((Below.refl _ _).drew)) (ah yC)) ((ah Nb).keep (Keeps.of_below ((Below.refl _ _).drew))) hz hml hwm).mono ?_;rintro e w1 ⟨rfl,hb1⟩;have HB1:=hide (lY hb1);clear hb1;go_wp2_with fail
      refine hK.out _ _ (Ho vH.out HB1.out) (fun hHeld=>?_);clear hK K;try simp only [Act.put,aK,aO,aN]
      refine dL (some 27) (i:=3) (v:=.bool false) rfl rfl (by kernel_rfl) (by kernel_rfl) (by kernel_rfl) (fun _ _ _ h=>h) (Or.inl ⟨by rfl,fun w' hSw=>by (try dsimp only at hSw);go_simp⟩) (by assumption) ?_;try simp only [Act.put,aK,aO,aN]
      refine dL (some 28) (i:=4) (v:=.bool false) rfl rfl (by kernel_rfl) (by kernel_rfl) (by kernel_rfl) (fun _ _ _ h=>h) (Or.inl ⟨by rfl,fun w' hSw=>by (try dsimp only at hSw);go_simp⟩) (by assumption) ?_;try simp only [Act.put,aK,aO,aN]
      refine au 29 5 ?_;refine au 30 6 ?_;refine au 31 7 ?_;refine au 32 8 ?_;refine au 33 9 ?_;refine aW 10 (fun K hK=>?_);go_simp;refine (Yy hsl _ _ (acu (sW (Keeps.of_below HB1.out) (ah Jr)) hk) (by rw [List.length_take];omega)).mono ?_;rintro e w2 ⟨rfl,hb2⟩;have HB2:=hide (HB1.out.trans (hb2.mono HB1.out.size));clear hb2;go_wp2_with fail
      refine hK.out _ _ (Ho vH.out HB2.out) (fun hHeld=>?_);clear hK K;try simp only [Act.put,aK,aO,aN]
      refine dL (some 35) (i:=11) (v:=.bool true) rfl rfl (by kernel_rfl) (by kernel_rfl) (by kernel_rfl) (fun _ _ _ h=>h) (Or.inl ⟨by rfl,fun w' hSw=>by (try dsimp only at hSw);go_simp⟩) (by assumption) ?_;try simp only [Act.put,aK,aO,aN]
      refine dL (some 36) (i:=12) (v:=.bool true) rfl rfl (by kernel_rfl) (by kernel_rfl) (by kernel_rfl) (fun _ _ _ h=>h) (Or.inl ⟨by rfl,fun w' hSw=>by (try dsimp only at hSw);go_simp⟩) (by assumption) ?_;try simp only [Act.put,aK,aO,aN]
      refine gV 37 13 ?_;refine gV 38 14 ?_;refine gV 39 15 ?_;refine gV 40 16 ?_;refine gV 41 17 ?_;refine dL (some 42) (i:=18) (v:=.bool true) rfl rfl (by kernel_rfl) (by kernel_rfl) (by kernel_rfl) (fun _ _ _ h=>h) (Or.inl ⟨by rfl,fun w' hSw=>by (try dsimp only at hSw);go_simp⟩) (by assumption) ?_;try simp only [Act.put,aK,aO,aN]
      refine wpAnyH_done (by kernel_rfl) ?_ _;refine NoPanic.normal ?_
      all_goals
       go_wp2_with fail
       go_ret;refine⟨aT ?_,hbel.trans ((hbz.trans (HB2.out.mono hbz.size)).mono hbel.size)⟩;rw [ah Gj,FN hlt (by rw [Oq (ah HK)];unfold headB;rw [hsl,Bool.and_false,Bool.false_and])]
       rfl
     ·cases hov:oG p x m
      all_goals
       have alg:=hsl
       go_region_held3 (fun w'=>w'.cell? ⟨w.heap.size,0,none⟩=some (.slice (some ⟨pb,dB,none⟩) p.length aA)∧w'.cell? ⟨wo.heap.size,0,none⟩=some (.int .i64 m.slot)∧w'.cell? ⟨wo.heap.size,1,none⟩=some (.slice kQ m.args.length jU)∧w'.cell? ⟨wo.heap.size,2,none⟩=some (.int .i64 m.ret)∧w'.cell? ⟨wo.heap.size,3,none⟩=some (.int .i64 m.locals)∧w'.cell? ⟨wo.heap.size,4,none⟩=some (.int .i64 m.stack)∧w'.cell? ⟨wo.heap.size,5,none⟩=some (.slice ql m.code.length qo)∧w'.cell? ⟨wo.heap.size,6,none⟩=some (.slice fla m.frames.length qp))
        (first
          | with_reducible exact Ho vH.out HB3.out
          | with_reducible exact Ho vH.out HB2.out
          | with_reducible exact Ho vH.out HB1.out
          | go_keep)
        (first | ((go_at_call 185;refine (RY hbare _ _ _ _ _ (aP (Keeps.of_below ((Below.refl _ _).drew)) (ah yC)) ((ah Nb).keep (Keeps.of_below ((Below.refl _ _).drew))) hz hml hwm).mono ?_);rintro e w1 ⟨rfl,hb1⟩;have HB1:=hide (lY hb1);clear hb1)
               | ((go_at_call 186; refine (Yy hsl _ _ (acu (sW (Keeps.of_below HB1.out) (ah Jr)) hk) (by rw [List.length_take]; omega)).mono ?_); rintro e w2 ⟨rfl, hb2⟩; have HB2 := hide (HB1.out.trans (hb2.mono HB1.out.size)); clear hb2)
               | ((go_at_call 187; refine (ae2 hov _ _ _ _ _ _ (aP (Keeps.of_below HB2.out) (ah yC)) hs (ah HX) ((ah Nb).keep (Keeps.of_below HB2.out)) hz hml).mono ?_); rintro e w3 ⟨rfl, hb3⟩; have HB3 := hide (HB2.out.trans (hb3.mono HB2.out.size)); clear hb3))
      ·go_wp2_with fail
       go_ret;refine⟨aT ?_,hbel.trans ((hbz.trans (HB3.out.mono hbz.size)).mono hbel.size)⟩;rw [ah Gj,FN hlt (by rw [Oq (ah HK)];unfold headB;rw [hov,Bool.and_false])]
       rfl
      ·go_wp2_with fail
       exact⟨⟨k+1,by omega,by go_num,by rw [Ph,ah HA,Oq (ah HK)];unfold headB;rw [hbare,hsl,hov];rfl,hbz.trans (HB3.out.mono hbz.size)⟩,by simp [intOf];omega⟩
   ·go_wp2
    go_ret;have:k=x.aB.length:=by omega
    subst this;exact⟨aT (by rw [ah Gj,ah HA];rfl),hfin⟩
 ·have h6':(6:Int)<(x.aB.length:Int):=by omega
  have Gj:=hide (decide_eq_false h6);clear h6;go_wp2_with fail
  go_ret;exact⟨aT (by rw [ah Gj];rfl),aS _ _⟩
def bT (n:Nat)(t:Int):Prop:=0≤t∧t<(n:Int)+3

theorem J9 (t:Int)(w:World) :
  Calls Tryz.prog 223 #[.int .i64 t] w fun e w'=>e= .returned (.bool (decide (3≤t)))∧w'=w:=by
 go_enter Tryz.func223,Tryz.ntmps223
 go_wp2
 all_goals go_ret
 all_goals exact⟨aT (by simp),rfl⟩
theorem RS (t:Int)(h0:0≤t)(h1:t≤8388608)(w:World) :
  Calls Tryz.prog 224 #[.int .i64 t] w fun e w'=>e= .returned (.int .i64 (t-3))∧w'=w:=by
 go_enter Tryz.func224,Tryz.ntmps224
 go_wp2
 all_goals go_ret
 all_goals exact⟨lN (by omega),rfl⟩
theorem CO (c:Int)(h0: -1≤c)(h1:c≤8388608)(w:World) :
  Calls Tryz.prog 144 #[.int .i64 c] w fun e w'=>e= .returned (.int .i64 (c+3))∧w'=w:=by
 go_enter Tryz.func144,Tryz.ntmps144
 go_wp2
 all_goals go_ret
 all_goals exact⟨lN (by omega),rfl⟩
theorem aeW (t:Int)(w:World) :
  Calls Tryz.prog 228 #[.int .i64 t] w fun e w'=>e= .returned (.bool (qC t))∧w'=w:=by
 go_enter Tryz.func228,Tryz.ntmps228
 by_cases h:t=1
 ·subst h;go_wp2_with fail
  go_ret;exact⟨aT (by simp [qC]),rfl⟩
 ·have h':(t == 1)=false:=by simpa using h
  go_wp2_with fail
  refine Calls.mono (J9 t w) ?_;rintro e w' ⟨rfl,rfl⟩;go_wp2_with fail
  go_ret;exact⟨aT (by simp [qC,h']),rfl⟩

theorem YK (p:List aj){c:Int}(o:Int)(h:c<0):gY p c o=false:=by unfold gY;rw [CJ p h];rfl
theorem NI (p:List aj){n:Nat}(hs:aU p n){c:Nat}{x:aj}(o:Int)(hn:c<n)(hx:p[c]? =some x):gY p (c:Int) o=(((c:Int) == o) || gY p x.sup o):=by
 unfold gY;rw [CG p hs hn hx,List.any_cons]

theorem aeG (p:List aj)(vc:Value)(c o:Int)(w:World)(hp:aX w vc p)(hs:aU p p.length)(hc: -1≤c)(hcn:c<p.length)(_hz:p.length≤4194304) :
  Calls Tryz.prog 216 #[.agg #[vc],.int .i64 c,.int .i64 o] w fun e w'=>e= .returned (.bool (gY p c o))∧Below w.heap.size w w':=by
 obtain⟨a,b,off,cap,rfl,hcap,ha,hr⟩:=aZ hp;go_enter Tryz.func216,Tryz.ntmps216
 go_wp2
 generalize hW:w.alloc _=W;have hbel:Below w.heap.size w W:=hW▸aS _ _;have hbox:W.cell? ⟨w.heap.size,0,none⟩=some (.slice a p.length cap):=hW▸iK w #[.slice a p.length cap] 24 0;clear hW
 go_loop [7] (fun s=>∃c':Int,-1≤c'∧c'<p.length∧s= .int .i64 c'∧gY p c o=gY p c' o) (fun s=>(intOf s+1).toNat)
 case atStart=>exact ⟨c,hc,hcn,rfl,rfl⟩
 case round=>
  obtain⟨c',h1,h2,rfl,hm⟩:=hrel;have HM:=hide hm;clear hm
  rcases Int.lt_or_le c' 0 with hneg | hpos
  ·go_wp2
   go_ret;exact⟨aT (by rw [ah HM,YK p o hneg]),hbel⟩
  ·obtain⟨i,rfl⟩:=Int.eq_ofNat_of_zero_le hpos;have hi:i<p.length:=by omega
   obtain rfl:=ha (bJ hi);obtain⟨vf,vm,c0,c1,c2,hf,hmm⟩:=(hr i hi).keep (Keeps.of_below hbel);have HX:=hide (List.getElem?_eq_getElem hi);clear hr hmm hf c1 c2;generalize p[i]=x at *
   by_cases hq:(i:Int)=o
   ·have hq':((i:Int) == o)=true:=by simpa using hq
    go_wp2_with fail
    go_ret;exact⟨aT (by rw [ah HM,NI p hs o hi (ah HX),hq'];rfl),hbel⟩
   ·have hq':((i:Int) == o)=false:=by simpa using hq
    go_wp2_with fail
    have hsup:=pV (hs i x (by omega) (ah HX));exact⟨⟨x.sup,hsup.1,by omega,rfl,by rw [ah HM,NI p hs o hi (ah HX),hq'];rfl⟩,by simp [intOf];omega⟩
end Go.Proofs.YtiiokkllmchohaaGreat
