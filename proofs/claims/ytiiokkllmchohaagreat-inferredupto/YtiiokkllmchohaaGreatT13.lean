/- Walk of the document's answer: may a method's code and frames be? -/
import Derived.Test.YtiiokkllmchohaaGreatT01
import Derived.Test.YtiiokkllmchohaaGreatT03
import Derived.Test.YtiiokkllmchohaaGreatT04
import Derived.Test.YtiiokkllmchohaaGreatT08
import Derived.Test.YtiiokkllmchohaaGreatT09
import Derived.Test.YtiiokkllmchohaaGreatT12
set_option maxHeartbeats 4000000
set_option maxRecDepth 100000
namespace Go.Proofs.YtiiokkllmchohaaGreat
open Go.RowKit
attribute [local go_sem ↓] Go.wp_at_zero Go.wp_at_succ
theorem aeZ {p:List aj}{m:aC}(h:¬(1≤m.code.length∧m.code.length≤40∧m.frames.length≤40)):iL p m=false:=by
 unfold iL;simp only [Bool.and_eq_false_iff,decide_eq_false_iff_not];omega
theorem aeH {p:List aj}{m:aC}(h:1≤m.code.length∧m.code.length≤40∧m.frames.length≤40):iL p m=(m.code.all (bC p m) && iP p.length m (-1) m.frames):=by
 unfold iL;rw [decide_eq_true h.1,decide_eq_true h.2.1,decide_eq_true h.2.2]
 rfl
theorem GI {α :Type}{l:List α}{f: α→Bool}{k:Nat}(hk:k<l.length)(h:f l[k]=false):l.all f=false:=by
 rw [List.all_eq_false];exact⟨_,List.getElem_mem hk,by rw [h];exact Bool.false_ne_true⟩

theorem H6 {n:Nat}{m:aC}{f:bF}{last:Int}{r:List bF}
  (h:¬(last<f.pc∧f.pc<m.code.length∧(f.locals.length:Int)=m.locals∧(f.stack.length:Int)≤m.stack∧f.locals.all (gZ n)=true∧f.stack.all (gZ n)=true)):iP n m last (f::r)=false:=by
 unfold iP uJ;rw [Bool.eq_false_iff];intro e;simp only [Bool.and_eq_true,decide_eq_true_eq] at e;exact h ⟨e.1.1,e.1.2.1.1.1.1,e.1.2.1.1.1.2,e.1.2.1.1.2,e.1.2.1.2,e.1.2.2⟩
theorem aga {n:Nat}{m:aC}{f:bF}{last:Int}{r:List bF}
  (h:last<f.pc∧f.pc<m.code.length∧(f.locals.length:Int)=m.locals∧(f.stack.length:Int)≤m.stack∧f.locals.all (gZ n)=true∧f.stack.all (gZ n)=true):iP n m last (f::r)=iP n m f.pc r:=by
 rw [iP,uJ,decide_eq_true h.1,decide_eq_true h.2.1,decide_eq_true h.2.2.1,decide_eq_true h.2.2.2.1,h.2.2.2.2.1,h.2.2.2.2.2]
 rfl
theorem abW {l:List Int}{v:Value}{n:Int}{q:Bool}(h:l.all (gZ n)=q)(w:World)(hl:aV 1 (jL w) v l)(hw:∀x∈l,I64 x)(hs:l.length≤4194304) :
  Calls Tryz.prog 150 #[v,.int .i64 n] w fun e w'=>e= .returned (.bool q)∧w'=w:=h▸aiY l v n w hl hw hs

theorem aiX (p:List aj)(vc:Value)(m:aC)(va eU dH:Value)(w:World)(hm:qg w m va eU dH)
  (hml:dN m≤4194304) (hno:¬(1≤m.code.length∧m.code.length≤40∧m.frames.length≤40)) :
  Calls Tryz.prog 94 #[.agg #[vc],.agg #[.int .i64 m.slot,va,.int .i64 m.ret,.int .i64 m.locals,.int .i64 m.stack,eU,dH]] w fun e w'=>e= .returned (.bool (iL p m))∧Below w.heap.size w w':=by
 have hcl:m.code.length≤4194304:=by unfold dN at hml;omega
 have hfl:m.frames.length≤4194304:=Nat.le_trans (Vt m) hml;obtain⟨aa,ab,Ns,aI,rfl,_,_,_⟩:=aZ hm.1;obtain⟨ca,cb,nZ,aF,rfl,_,_,_⟩:=aZ hm.2.1;obtain⟨fa,fb,kU,aG,rfl,_,_,_⟩:=aZ hm.2.2;have HN:=hide (aeZ (p:=p) hno);have fK:=hide hno;clear hm hno
 by_cases g1:m.code.length<1
 ·have g1':(m.code.length:Int)<1:=by omega
  go_enter Tryz.func94,Tryz.ntmps94
  go_wp2_with fail
  go_ret;exact⟨aT (ah HN).symm,dS _ _ _⟩
 by_cases g2:40<m.code.length
 ·have g1':¬(m.code.length:Int)<1:=by omega
  have g2':(40:Int)<m.code.length:=by omega
  go_enter Tryz.func94,Tryz.ntmps94
  go_wp2_with fail
  go_ret;exact⟨aT (ah HN).symm,dS _ _ _⟩
 have g3:40<m.frames.length:=by have:=ah fK;omega
 have g1':¬(m.code.length:Int)<1:=by omega
 have g2':¬(40:Int)<m.code.length:=by omega
 have g3':(40:Int)<m.frames.length:=by omega
 go_enter Tryz.func94,Tryz.ntmps94
 go_wp2_with fail
 go_ret;exact⟨aT (ah HN).symm,dS _ _ _⟩

theorem aiW (p:List aj)(vc:Value)(m:aC)(va eU dH:Value)(w:World)(hp:aX w vc p)(hm:qg w m va eU dH)(hs:aU p p.length)(hz:bn p≤4194304)
  (hml:dN m≤4194304) (hwm:zk m) :
  Calls Tryz.prog 94 #[.agg #[vc],.agg #[.int .i64 m.slot,va,.int .i64 m.ret,.int .i64 m.locals,.int .i64 m.stack,eU,dH]] w fun e w'=>e= .returned (.bool (iL p m))∧Below w.heap.size w w':=by
 by_cases hlen:¬(1≤m.code.length∧m.code.length≤40∧m.frames.length≤40)
 ·exact aiX p vc m va eU dH w hm hml hlen
 have hlen:=Classical.not_not.1 hlen;have HE:=hide (aeH (p:=p) hlen);have hpl:p.length≤4194304:=Nat.le_trans (eG p) hz;have g1:¬(m.code.length:Int)<1:=by omega
 have g2:¬(40:Int)<m.code.length:=by omega
 have g3:¬(40:Int)<m.frames.length:=by omega
 have HM:=hide hm;have HP:=hide hp;obtain⟨pa,pb,dB,aA,rfl,_,_,_⟩:=aZ hp;obtain⟨aa,ab,Ns,aI,rfl,_,_,_⟩:=aZ hm.1;obtain⟨ca,cb,nZ,aF,rfl,TL,hca,hcr⟩:=aZ hm.2.1;obtain⟨fa,fb,kU,aG,rfl,akT,hfa,hfr⟩:=aZ hm.2.2;have zC:=hide hcr;have BH:=hide hfr;clear hp hm hcr hfr;go_enter Tryz.func94,Tryz.ntmps94
 go_wp2_with fail
 generalize hW:(w.alloc _).alloc _=W;have hbel:Below w.heap.size w W:=by rw [←hW];exact dS _ _ _
 have p0:W.cell? ⟨w.heap.size,0,none⟩=some (.slice pa p.length aA):=by rw [←hW];exact lZ _ _ _ _ 0
 have l0:W.cell? ⟨w.heap.size+1,0,none⟩=some (.int .i64 m.slot):=by rw [←hW];exact fC _ _ _ _ 0
 have l1:W.cell? ⟨w.heap.size+1,1,none⟩=some (.slice aa m.args.length aI):=by rw [←hW];exact fC _ _ _ _ 1
 have l2:W.cell? ⟨w.heap.size+1,2,none⟩=some (.int .i64 m.ret):=by rw [←hW];exact fC _ _ _ _ 2
 have l3:W.cell? ⟨w.heap.size+1,3,none⟩=some (.int .i64 m.locals):=by rw [←hW];exact fC _ _ _ _ 3
 have l4:W.cell? ⟨w.heap.size+1,4,none⟩=some (.int .i64 m.stack):=by rw [←hW];exact fC _ _ _ _ 4
 have l5:W.cell? ⟨w.heap.size+1,5,none⟩=some (.slice ca m.code.length aF):=by rw [←hW];exact fC _ _ _ _ 5
 have l6:W.cell? ⟨w.heap.size+1,6,none⟩=some (.slice fa m.frames.length aG):=by rw [←hW];exact fC _ _ _ _ 6
 clear hW;have KP:=hide (Keeps.of_below hbel);have hsz:=hbel.size
 go_loopw [5] (fun s wr=>∃k:Nat,k≤m.code.length∧s= .int .i64 k∧(m.code.take k).all (bC p m)=true∧Below W.heap.size W wr) (fun s _=>m.code.length-(intOf s).toNat)
 case atStart=>exact ⟨0,Nat.zero_le _,rfl,rfl,Below.refl _ _⟩
 case round=>
  obtain⟨k,hk,rfl,hall,hbr⟩:=hrel;have HA:=hide hall;have hkr:=Keeps.of_below hbr;have KR:=hide hkr;have rE:=hbr.size;have q0:=hkr _ _ p0;have r0:=hkr _ _ l0;have r1:=hkr _ _ l1;have r2:=hkr _ _ l2;have r3:=hkr _ _ l3;have r4:=hkr _ _ l4;have r5:=hkr _ _ l5;have r6:=hkr _ _ l6;clear hall hkr
  by_cases hlt:k<m.code.length
  ·obtain rfl:=hca (bJ hlt);have hS:=vM (f:=bC p m) hlt;rw [ah HA] at hS;have HS:=hide hS;obtain⟨c0,c1,c2⟩:=(ah zC k hlt).keep ((ah KP).trans (ah KR));have hki:(k:Int)<(m.code.length:Int):=by omega
   have hk0:(0:Int)≤(k:Int):=by omega
   clear hS;have HL:=hide (And.intro l0 (And.intro l1 (And.intro l2 (And.intro l3 (And.intro l4 (And.intro l5 l6))))));clear l0 l1 l2 l3 l4 l5 l6 p0
   cases hin:bC p m m.code[k]
   ·go_wp2_with fail
    go_region_held3 (fun w'=>w'.cell? ⟨w.heap.size,0,none⟩=some (.slice pa p.length aA)∧w'.cell? ⟨w.heap.size+1,0,none⟩=some (.int .i64 m.slot)∧w'.cell? ⟨w.heap.size+1,1,none⟩=some (.slice aa m.args.length aI)∧w'.cell? ⟨w.heap.size+1,2,none⟩=some (.int .i64 m.ret)∧
      w'.cell? ⟨w.heap.size+1,3,none⟩=some (.int .i64 m.locals)∧w'.cell? ⟨w.heap.size+1,4,none⟩=some (.int .i64 m.stack)∧w'.cell? ⟨w.heap.size+1,5,none⟩=some (.slice (some ⟨cb,nZ,none⟩) m.code.length aF)∧w'.cell? ⟨w.heap.size+1,6,none⟩=some (.slice fa m.frames.length aG)∧
      w'.cell? ⟨cb,nZ+k*3,none⟩=some (.int .i64 m.code[k].op)∧w'.cell? ⟨cb,nZ+k*3+1,none⟩=some (.int .i64 m.code[k].a)∧w'.cell? ⟨cb,nZ+k*3+2,none⟩=some (.int .i64 m.code[k].b))
     (first | go_keep | (exact⟨Keeps.of_below hb1 _ _ (by simpa using q0),Keeps.of_below hb1 _ _ (by simpa using r0),Keeps.of_below hb1 _ _ (by simpa using r1),Keeps.of_below hb1 _ _ (by simpa using r2),Keeps.of_below hb1 _ _ (by simpa using r3),Keeps.of_below hb1 _ _ (by simpa using r4),Keeps.of_below hb1 _ _ (by simpa using r5),Keeps.of_below hb1 _ _ (by simpa using r6),Keeps.of_below hb1 _ _ (by simpa using c0),Keeps.of_below hb1 _ _ (by simpa using c1),Keeps.of_below hb1 _ _ (by simpa using c2)⟩))
     (first | ((go_at_call 149;refine (abX p _ m aa (some ⟨cb,nZ,none⟩) fa m.args.length aI aF m.frames.length aG m.code[k] _ (aP (Keeps.of_below ((Below.refl _ _).drew)) (aP ((ah KP).trans (ah KR)) (ah HP))) hs hz (by omega)).mono ?_);rintro e w1 ⟨rfl,hb1⟩))
    have hfin:Below w.heap.size w w1:=(hbel.trans (hbr.mono hsz)).drew.trans (hb1.mono (by simpa using Nat.le_trans hsz rE))
    go_wp2
    go_ret;exact⟨aT (by rw [ah HE,GI hlt hin];rfl),hfin⟩
   ·go_wp2_with fail
    go_region_held3 (fun w'=>w'.cell? ⟨w.heap.size,0,none⟩=some (.slice pa p.length aA)∧w'.cell? ⟨w.heap.size+1,0,none⟩=some (.int .i64 m.slot)∧w'.cell? ⟨w.heap.size+1,1,none⟩=some (.slice aa m.args.length aI)∧w'.cell? ⟨w.heap.size+1,2,none⟩=some (.int .i64 m.ret)∧
      w'.cell? ⟨w.heap.size+1,3,none⟩=some (.int .i64 m.locals)∧w'.cell? ⟨w.heap.size+1,4,none⟩=some (.int .i64 m.stack)∧w'.cell? ⟨w.heap.size+1,5,none⟩=some (.slice (some ⟨cb,nZ,none⟩) m.code.length aF)∧w'.cell? ⟨w.heap.size+1,6,none⟩=some (.slice fa m.frames.length aG)∧
      w'.cell? ⟨cb,nZ+k*3,none⟩=some (.int .i64 m.code[k].op)∧w'.cell? ⟨cb,nZ+k*3+1,none⟩=some (.int .i64 m.code[k].a)∧w'.cell? ⟨cb,nZ+k*3+2,none⟩=some (.int .i64 m.code[k].b))
     (first | go_keep | (exact⟨Keeps.of_below hb1 _ _ (by simpa using q0),Keeps.of_below hb1 _ _ (by simpa using r0),Keeps.of_below hb1 _ _ (by simpa using r1),Keeps.of_below hb1 _ _ (by simpa using r2),Keeps.of_below hb1 _ _ (by simpa using r3),Keeps.of_below hb1 _ _ (by simpa using r4),Keeps.of_below hb1 _ _ (by simpa using r5),Keeps.of_below hb1 _ _ (by simpa using r6),Keeps.of_below hb1 _ _ (by simpa using c0),Keeps.of_below hb1 _ _ (by simpa using c1),Keeps.of_below hb1 _ _ (by simpa using c2)⟩))
     (first | ((go_at_call 149;refine (abX p _ m aa (some ⟨cb,nZ,none⟩) fa m.args.length aI aF m.frames.length aG m.code[k] _ (aP (Keeps.of_below ((Below.refl _ _).drew)) (aP ((ah KP).trans (ah KR)) (ah HP))) hs hz (by omega)).mono ?_);rintro e w1 ⟨rfl,hb1⟩))
    have hnext:Below W.heap.size W w1:=hbr.drew.trans (hb1.mono (by simpa using rE))
    go_wp2
    exact⟨⟨k+1,by omega,by go_num,by rw [ah HS,hin];rfl,hnext⟩,by simp [intOf];omega⟩
  ·have nG:Hid (m.code.all (bC p m)=true):=by
    have:=ah HA
    rwa [List.take_of_length_le (by omega)] at this
   go_wp2_with fail
   clear q0 r0 r1 r2 r3 r4 r5 r6;obtain⟨wo,rfl⟩:∃wo:World,wo=wr:=⟨_,rfl⟩
   go_loopw [7,8] (fun s7 s8 wr'=>∃(k:Nat) (last:Int),k≤m.frames.length∧s8= .int .i64 k∧s7= .int .i64 last∧iP p.length m (-1) m.frames=iP p.length m last (m.frames.drop k)∧Below W.heap.size W wr') (fun _ s8 _=>m.frames.length-(intOf s8).toNat)
   case atStart=>exact ⟨0,-1,Nat.zero_le _,rfl,rfl,rfl,hbr⟩
   case round=>
    clear hlt hk HA KR rE hbr;obtain⟨j,last,hj,rfl,rfl,aak,hbr⟩:=hrel;have BI:=hide aak;have hkr:=Keeps.of_below hbr;have KR:=hide hkr;have rE:=hbr.size;have q0:=hkr _ _ p0;have r3:=hkr _ _ l3;have r4:=hkr _ _ l4;have r5:=hkr _ _ l5;have r6:=hkr _ _ l6;clear aak hkr
    by_cases hlt:j<m.frames.length
    ·obtain rfl:=hfa (bJ hlt);have HD:=hide (List.drop_eq_getElem_cons hlt);obtain⟨vl,vs,c0,c1,c2,hl,hst⟩:=(ah BH j hlt).keep ((ah KP).trans (ah KR));have hwf:=hwm.2.2.2.2.2.2 _ (List.getElem_mem hlt);have hfs:=Nat.le_trans (Vs (List.getElem_mem hlt)) hml;have hll:m.frames[j].locals.length≤4194304:=by unfold iH at hfs;omega
     have hsl:m.frames[j].stack.length≤4194304:=by unfold iH at hfs;omega
     have HL:=hide hl;have HST:=hide hst;obtain⟨la,lb,ahW,fG,rfl,_,_,_⟩:=aZ hl;obtain⟨sa,sb,FQ,scap,rfl,_,_,_⟩:=aZ hst;have hlt1:=cell_lt c0;have hlt2:=cell_lt r5;have hlt3:=cell_lt q0;clear hl hst;generalize m.frames[j]=f at *;go_wp2_with fail
     generalize hW2:wr.alloc _=W2;have hb2:Below wr.heap.size wr W2:=by rw [←hW2];exact aS _ _
     have s0:W2.cell? ⟨wr.heap.size,0,none⟩=some (.int .i64 f.pc):=by rw [←hW2];exact iK _ _ _ 0
     have s1:W2.cell? ⟨wr.heap.size,1,none⟩=some (.slice la f.locals.length fG):=by rw [←hW2];exact iK _ _ _ 1
     have s2:W2.cell? ⟨wr.heap.size,2,none⟩=some (.slice sa f.stack.length scap):=by rw [←hW2];exact iK _ _ _ 2
     clear hW2;have hk2:=Keeps.of_below hb2;have K2:=hide hk2;have t0:=hk2 _ _ q0;have t3:=hk2 _ _ r3;have t4:=hk2 _ _ r4;have t5:=hk2 _ _ r5;have t6:=hk2 _ _ r6;have hnext:Below W.heap.size W W2:=hbr.trans (hb2.mono rE);have hfin:Below w.heap.size w W2:=hbel.trans (hnext.mono hsz);clear hk2 q0 r3 r4 r5 r6 c0 c1 c2 p0 l0 l1 l2 l3 l4 l5 l6;refine (abW rfl _ (dA (ah K2) (ah HL)) hwf.2.1 hll).mono ?_;rintro e w3 ⟨rfl,rfl⟩;go_wp2_with fail
     refine (abW rfl _ (dA (ah K2) (ah HST)) hwf.2.2 hsl).mono ?_;rintro e w4 ⟨rfl,rfl⟩
     by_cases g4:f.pc≤last
     ·go_wp2_with fail
      go_ret;exact⟨aT (by rw [ah HE,ah nG,ah BI,ah HD,H6 (fun h=>by omega)];rfl),hfin⟩
     by_cases g5:(m.code.length:Int)≤f.pc
     ·go_wp2_with fail
      go_ret;exact⟨aT (by rw [ah HE,ah nG,ah BI,ah HD,H6 (fun h=>by omega)];rfl),hfin⟩
     by_cases g6:(f.locals.length:Int)≠m.locals
     ·have g6':((f.locals.length:Int) == m.locals)=false:=by simpa using g6
      have G6:=hide g6;clear g6;go_wp2_with fail
      go_ret;exact⟨aT (by rw [ah HE,ah nG,ah BI,ah HD,H6 (fun h=>ah G6 h.2.2.1)];rfl),hfin⟩
     have g6:=Classical.not_not.1 g6;have g6':((f.locals.length:Int) == m.locals)=true:=by simpa using g6
     have G6:=hide g6;clear g6
     by_cases g7:m.stack<(f.stack.length:Int)
     ·go_wp2_with fail
      go_ret;exact⟨aT (by rw [ah HE,ah nG,ah BI,ah HD,H6 (fun h=>by omega)];rfl),hfin⟩
     cases hA:f.locals.all (gZ p.length)
     ·go_wp2_with fail
      go_ret;exact⟨aT (by rw [ah HE,ah nG,ah BI,ah HD,H6 (fun h=>Bool.false_ne_true (hA.symm.trans h.2.2.2.2.1))];rfl),hfin⟩
     cases hB:f.stack.all (gZ p.length)
     ·go_wp2_with fail
      go_ret;exact⟨aT (by rw [ah HE,ah nG,ah BI,ah HD,H6 (fun h=>Bool.false_ne_true (hB.symm.trans h.2.2.2.2.2))];rfl),hfin⟩
     go_wp2_with fail
     exact⟨⟨j+1,f.pc,by omega,by go_num,rfl,by rw [ah BI,ah HD,aga ⟨by omega,by omega,ah G6,by omega,hA,hB⟩],hnext⟩,by simp [intOf];omega⟩
    ·go_wp2
     go_ret;exact⟨aT (by rw [ah HE,ah nG,ah BI,List.drop_eq_nil_of_le (by omega)];rfl),hbel.trans (hbr.mono hsz)⟩
theorem Ae {p:List aj}(hn:¬(p.length<1∨6<p.length)){c:Nat}(hc:c<p.length)(h:uD p c=false):bD p=2:=by
 unfold bD;rw [if_neg hn,if_neg];intro e;rw [List.all_eq_true] at e;have:=e c (List.mem_range.2 hc);rw [h] at this;cases this
theorem afZ {p:List aj}(hn:¬(p.length<1∨6<p.length))(h:(List.range p.length).all (uD p)=true):bD p=if p.all (fun x=>x.aB.all (iL p)) then 0 else 3:=by
 unfold bD;rw [if_neg hn,if_pos h]
theorem uF {p:List aj}{c:Nat}{x:aj}(hx:p[c]? =some x):uD p c=(nP c x && rU p c x):=by unfold uD;rw [hx]
theorem Vm {p:List aj}{c:Nat}(h:(List.range c).all (uD p)=true):aU p c:=by
 intro d x hd hx;rw [List.all_eq_true] at h;have:=h d (List.mem_range.2 hd);rw [uF hx,Bool.and_eq_true] at this;exact this.1
theorem aj2 {p:List aj}{c:Nat}{x:aj}(h:aU p c)(hx:p[c]? =some x)(hs:nP c x=true):aU p (c+1):=by
 intro d y hd hy
 rcases Nat.lt_or_ge d c with g | g
 ·exact h d y g hy
 ·obtain rfl:d=c:=by omega
  rw [hx] at hy;cases hy;exact hs
theorem abQ {f:Nat→Bool}{c:Nat} :(List.range (c+1)).all f=((List.range c).all f && f c):=by
 rw [List.range_succ,List.all_append,List.all_cons,List.all_nil,Bool.and_true]
theorem IJ {p:List aj}{c:Nat}{x:aj}(h:¬(x.fields.all (fF p.length)=true∧(fieldsOf p c).length≤8∧x.aB.length≤6)):rU p c x=false:=by
 unfold rU;rw [Bool.eq_false_iff];intro e;simp only [Bool.and_eq_true,decide_eq_true_eq] at e;exact h ⟨e.1.1.1,e.1.1.2,e.1.2⟩
theorem abZ {p:List aj}{c:Nat}{x:aj}{k:Nat}{m:aC}(hm:x.aB[k]? =some m)(h:headB p x k m=false):rU p c x=false:=by
 unfold rU;rw [Bool.eq_false_iff];intro e;simp only [Bool.and_eq_true,List.all_eq_true] at e;have:=e.2 k (List.mem_range.2 (List.getElem?_eq_some_iff.1 hm).1);rw [hm] at this;simp only [h] at this
 cases this
theorem ab1 {p:List aj}{c:Nat}{x:aj}(h:x.fields.all (fF p.length)=true∧(fieldsOf p c).length≤8∧x.aB.length≤6)(hh:∀(k:Nat) (m:aC),x.aB[k]? =some m→headB p x k m=true):rU p c x=true:=by
 unfold rU;rw [h.1,decide_eq_true h.2.1,decide_eq_true h.2.2,Bool.and_self,Bool.and_self,Bool.true_and,List.all_eq_true];intro k _
 cases hm:x.aB[k]? with
 | none => rfl
 | some m => exact hh k m hm
theorem Pm {l:List Int}{v:Value}{n:Int}{q:Bool}(h:l.all (fF n)=q)(w:World)(hl:aV 1 (jL w) v l)(hw:∀x∈l,I64 x)(hs:l.length≤4194304) :
  Calls Tryz.prog 91 #[v,.int .i64 n] w fun e w'=>e= .returned (.bool q)∧w'=w:=h▸U0 l v n w hl hw hs

theorem abU {m:aC}{q:Bool}(p:List aj)(h:iL p m=q)(vc:Value)(va eU dH:Value)(w:World)(hp:aX w vc p)(hm:qg w m va eU dH)(hs:aU p p.length)(hz:bn p≤4194304)(hml:dN m≤4194304)(hwm:zk m) :
  Calls Tryz.prog 94 #[.agg #[vc],.agg #[.int .i64 m.slot,va,.int .i64 m.ret,.int .i64 m.locals,.int .i64 m.stack,eU,dH]] w fun e w'=>e= .returned (.bool q)∧Below w.heap.size w w':=h▸aiW p vc m va eU dH w hp hm hs hz hml hwm
theorem Pn {x:aj}{m:aC}{k:Nat}{q:Bool}(p:List aj)(h:headB p x k m=q)(vc:Value)(c:Nat)(w:World)(hp:aX w vc p)(hs:aU p (c+1))(hX:p[c]? =some x)(hM:x.aB[k]? =some m)(hwf:jq p)(hz:bn p≤4194304) :
  Calls Tryz.prog 93 #[.agg #[vc],.int .i64 c,.int .i64 k] w fun e w'=>e= .returned (.bool q)∧Below w.heap.size w w':=h▸aiZ p vc c k x m w hp hs hX hM hwf hz

theorem abV (p:List aj)(vc:Value)(w:World)(hp:aX w vc p)(hwf:jq p)(hz:bn p≤4194304) :
  Calls Tryz.prog 51 #[.agg #[vc]] w fun e w'=>e= .returned (.int .i64 (bD p))∧Below w.heap.size w w':=by
 have hpl:p.length≤4194304:=Nat.le_trans (eG p) hz;have HP:=hide hp;obtain⟨pa,pb,dB,aA,rfl,Dy,hpa,hpr⟩:=aZ hp;have kP:=hide hpr;clear hp hpr
 by_cases g1:p.length<1
 ·have g1':(p.length:Int)<1:=by omega
  go_enter Tryz.func51,Tryz.ntmps51
  go_wp2_with fail
  go_ret;exact⟨lN (by unfold bD;rw [if_pos (.inl g1)]),aS _ _⟩
 by_cases g2:6<p.length
 ·have g1':¬(p.length:Int)<1:=by omega
  have g2':(6:Int)<p.length:=by omega
  go_enter Tryz.func51,Tryz.ntmps51
  go_wp2_with fail
  go_ret;exact⟨lN (by unfold bD;rw [if_pos (.inr g2)]),aS _ _⟩
 have g1':¬(p.length:Int)<1:=by omega
 have g2':¬(6:Int)<p.length:=by omega
 have HN:Hid (¬(p.length<1∨6<p.length)):=fun h=>by omega
 obtain rfl:=hpa (by intro e;subst e;simp at g1);go_enter Tryz.func51,Tryz.ntmps51
 go_wp2_with fail
 generalize hW:w.alloc _=W;have hbel:Below w.heap.size w W:=by rw [←hW];exact aS _ _
 have p0:W.cell? ⟨w.heap.size,0,none⟩=some (.slice (some ⟨pb,dB,none⟩) p.length aA):=by rw [←hW];exact iK _ _ _ 0
 clear hW;have KP:=hide (Keeps.of_below hbel);have hsz:=hbel.size
 go_loopw [4] (fun s wr=>∃c:Nat,c≤p.length∧s= .int .i64 c∧(List.range c).all (uD p)=true∧Below W.heap.size W wr) (fun s _=>p.length-(intOf s).toNat)
 case atStart=>exact ⟨0,Nat.zero_le _,rfl,rfl,Below.refl _ _⟩
 case round=>
  obtain⟨c,hc,rfl,hall,hbr⟩:=hrel;have HA:=hide hall;have hkr:=Keeps.of_below hbr;have KR:=hide hkr;have rE:=hbr.size;have q0:=hkr _ _ p0;clear hall hkr
  by_cases hlt:c<p.length
  ·have hX:=List.getElem?_eq_getElem hlt;obtain⟨vf,vm,c0,c1,c2,hf,hmt⟩:=(ah kP c hlt).keep ((ah KP).trans (ah KR));have hwx:=hwf _ (List.getElem_mem hlt);have hxl:gJ p[c]≤4194304:=Nat.le_trans (nR (List.getElem_mem hlt)) hz;have HX:=hide hX;clear hX;generalize p[c]=x at *;have hfl:x.fields.length≤4194304:=Nat.le_trans (Bh x) hxl;have hms:x.aB.length≤4194304:=Nat.le_trans (tC x) hxl;have HF:=hide hf;have QM:=hide hmt;obtain⟨fa,fb,kU,aG,rfl,_,_,_⟩:=aZ hf;obtain⟨ma,mb,fH,dW,rfl,yV,hma,_⟩:=aZ hmt;have hlt1:=cell_lt c0;have hlt2:=cell_lt q0;clear hf hmt
   have KX:Below w.heap.size w (wr.alloc (.cells #[.int .i64 x.sup,.slice fa x.fields.length aG,.slice ma x.aB.length dW] 66)):=(hbel.trans (hbr.mono hsz)).trans ((aS wr _).mono (Nat.le_trans hsz rE))
   cases hsb:nP c x
   ·have fK:=hide (Ae (ah HN) hlt (by rw [uF (ah HX),hsb];rfl))
    by_cases hc0:c=0
    ·have hne:(x.sup != -1)=true:=by subst hc0;simpa [nP] using hsb
     have hne':¬x.sup= -1:=by simpa using hne
     have hc1:((c:Int) == 0)=true:=by subst hc0;rfl
     have HC:=hide hc0;clear hc0 hsb;go_wp2_with fail
     go_ret;exact⟨lN (ah fK).symm,KX⟩
    ·have hc1:((c:Int) == 0)=false:=by simpa using hc0
     have hc2:(0:Int)<(c:Int):=by omega
     have hbad:x.sup<0∨(c:Int)≤x.sup:=by
      unfold nP at hsb;rw [if_neg hc0] at hsb;simp only [Bool.and_eq_false_iff,decide_eq_false_iff_not] at hsb;omega
     clear hsb
     by_cases hs0:x.sup<0
     ·go_wp2_with fail
      go_ret;exact⟨lN (ah fK).symm,KX⟩
     ·have hs1:(c:Int)≤x.sup:=by omega
      clear hbad;go_wp2_with fail
      go_ret;exact⟨lN (ah fK).symm,KX⟩
   ·have yE:=hide (aj2 (Vm (ah HA)) (ah HX) hsb);have MZ:=hide hsb;clear hsb;have akU:=NR p (ah yE) (Nat.lt_succ_self c)
    by_cases hc0:c=0
    ·have hne:x.sup= -1:=Vl (hc0▸ah MZ);have hne':(x.sup != -1)=false:=by simpa using hne
     have hc1:((c:Int) == 0)=true:=by subst hc0;rfl
     have hc2:¬(0:Int)<(c:Int):=by omega
     have HC:=hide hc0;have HNE:=hide hne;clear hc0 hne;go_wp2_with fail
     obtain⟨wo,rfl⟩:∃wo:World,wo=wr:=⟨_,rfl⟩;generalize hW2:wo.alloc _=W2;have hb2:Below wo.heap.size wo W2:=by rw [←hW2];exact aS _ _
     have s2:W2.cell? ⟨wo.heap.size,2,none⟩=some (.slice ma x.aB.length dW):=by rw [←hW2];exact iK _ _ _ 2
     clear hW2 KX c0 c1 c2;have hk2:=Keeps.of_below hb2;have K2:=hide hk2;have t0:=hk2 _ _ q0;have hnext:Below W.heap.size W W2:=hbr.trans (hb2.mono rE);have hfin:Below w.heap.size w W2:=hbel.trans (hnext.mono hsz);clear hk2 q0 p0
     cases hd:x.fields.all (fF p.length)
     ·refine (Pm hd _ (dA (ah K2) (ah HF)) hwx.2.1 hfl).mono ?_;rintro e w3 ⟨rfl,rfl⟩;go_wp2_with fail
      go_ret;exact⟨lN (Ae (ah HN) hlt (by rw [uF (ah HX),IJ (fun h=>Bool.false_ne_true (hd.symm.trans h.1)),Bool.and_false])).symm,hfin⟩
     refine (Pm hd _ (dA (ah K2) (ah HF)) hwx.2.1 hfl).mono ?_;rintro e w3 ⟨rfl,rfl⟩;go_wp2_with fail
     refine (II p (c+1) (ah yE) (by omega) hz c _ _ (aP (ah K2) (aP ((ah KP).trans (ah KR)) (ah HP))) (by omega)).mono ?_;rintro e w4 ⟨v4,rfl,hown4,hb4⟩;obtain⟨a4,cap4,rfl⟩:=cZ hown4;have s3:=Keeps.of_below hb4 _ _ s2;have t3:=Keeps.of_below hb4 _ _ t0;have OH:=hb4.size;have Fq:Below W.heap.size W w4:=hnext.trans (hb4.mono hnext.size);have xG:Below w.heap.size w w4:=hbel.trans (Fq.mono hsz);have KW:=hide (Keeps.of_below xG);clear hown4 hb4 s2 t0
     by_cases g8:8<(fieldsOf p c).length
     ·have SQ:(8:Int)<(fieldsOf p c).length:=by omega
      go_wp2_with fail
      go_ret;exact⟨lN (Ae (ah HN) hlt (by rw [uF (ah HX),IJ (fun h=>by omega),Bool.and_false])).symm,xG⟩
     have SQ:¬(8:Int)<(fieldsOf p c).length:=by omega
     by_cases g9:6<x.aB.length
     ·have SS:(6:Int)<x.aB.length:=by omega
      go_wp2_with fail
      go_ret;exact⟨lN (Ae (ah HN) hlt (by rw [uF (ah HX),IJ (fun h=>by omega),Bool.and_false])).symm,xG⟩
     have SS:¬(6:Int)<x.aB.length:=by omega
     go_wp2_with fail
     go_loopw [7] (fun s wi=>∃k:Nat,k≤x.aB.length∧s= .int .i64 k∧(∀(j:Nat) (m:aC),j<k→x.aB[j]? =some m→headB p x j m=true)∧Below w4.heap.size w4 wi) (fun s _=>x.aB.length-(intOf s).toNat)
     case atStart=>exact ⟨0,Nat.zero_le _,rfl,fun j _ h=>absurd h (Nat.not_lt_zero j),Below.refl _ _⟩
     case round=>
      obtain⟨k,hk,rfl,hh,hbi⟩:=hrel;have HH:=hide hh;have s5:=Keeps.of_below hbi _ _ s3;have t5:=Keeps.of_below hbi _ _ t3;have KI:=hide (Keeps.of_below hbi);have yY:=hbi.size;clear hh s3 t3
      by_cases hk2:k<x.aB.length
      ·have HM:=hide (List.getElem?_eq_getElem hk2)
       cases hhd:headB p x k x.aB[k]
       ·go_wp2_with fail
        refine (Pn p hhd _ c _ (aP ((ah KW).trans (ah KI)) (ah HP)) (ah yE) (ah HX) (ah HM) hwf hz).mono ?_;rintro e w5 ⟨rfl,hb5⟩;go_wp2_with fail
        go_ret;exact⟨lN (Ae (ah HN) hlt (by rw [uF (ah HX),abZ (ah HM) hhd,Bool.and_false])).symm,xG.trans ((hbi.trans (hb5.mono yY)).mono xG.size)⟩
       ·go_wp2_with fail
        refine (Pn p hhd _ c _ (aP ((ah KW).trans (ah KI)) (ah HP)) (ah yE) (ah HX) (ah HM) hwf hz).mono ?_;rintro e w5 ⟨rfl,hb5⟩;go_wp2_with fail
        exact⟨⟨k+1,by omega,by go_num,fun j m hj hjm=>by
         rcases Nat.lt_or_ge j k with g | g
         ·exact ah HH j m g hjm
         ·obtain rfl:j=k:=by omega
          rw [ah HM] at hjm;cases hjm;exact hhd,hbi.trans (hb5.mono yY)⟩,by simp [intOf];omega⟩
      ·go_wp2_with fail
       exact⟨⟨c+1,by omega,by go_num,by rw [abQ,ah HA,uF (ah HX),ah MZ,ab1 ⟨hd,by omega,by omega⟩ (fun j m hjm=>ah HH j m (by have:=(List.getElem?_eq_some_iff.1 hjm).1;omega) hjm)];rfl,Fq.trans (hbi.mono Fq.size)⟩,by simp [intOf];omega⟩
    ·have hsup:=PO (by omega) (ah MZ);have hc1:((c:Int) == 0)=false:=by simpa using hc0
     have hc2:(0:Int)<(c:Int):=by omega
     have hs0:¬x.sup<0:=by omega
     have hs1:¬(c:Int)≤x.sup:=by omega
     go_wp2_with fail
     obtain⟨wo,rfl⟩:∃wo:World,wo=wr:=⟨_,rfl⟩;generalize hW2:wo.alloc _=W2;have hb2:Below wo.heap.size wo W2:=by rw [←hW2];exact aS _ _
     have s2:W2.cell? ⟨wo.heap.size,2,none⟩=some (.slice ma x.aB.length dW):=by rw [←hW2];exact iK _ _ _ 2
     clear hW2 KX c0 c1 c2;have hk2:=Keeps.of_below hb2;have K2:=hide hk2;have t0:=hk2 _ _ q0;have hnext:Below W.heap.size W W2:=hbr.trans (hb2.mono rE);have hfin:Below w.heap.size w W2:=hbel.trans (hnext.mono hsz);clear hk2 q0 p0
     cases hd:x.fields.all (fF p.length)
     ·refine (Pm hd _ (dA (ah K2) (ah HF)) hwx.2.1 hfl).mono ?_;rintro e w3 ⟨rfl,rfl⟩;go_wp2_with fail
      go_ret;exact⟨lN (Ae (ah HN) hlt (by rw [uF (ah HX),IJ (fun h=>Bool.false_ne_true (hd.symm.trans h.1)),Bool.and_false])).symm,hfin⟩
     refine (Pm hd _ (dA (ah K2) (ah HF)) hwx.2.1 hfl).mono ?_;rintro e w3 ⟨rfl,rfl⟩;go_wp2_with fail
     refine (II p (c+1) (ah yE) (by omega) hz c _ _ (aP (ah K2) (aP ((ah KP).trans (ah KR)) (ah HP))) (by omega)).mono ?_;rintro e w4 ⟨v4,rfl,hown4,hb4⟩;obtain⟨a4,cap4,rfl⟩:=cZ hown4;have s3:=Keeps.of_below hb4 _ _ s2;have t3:=Keeps.of_below hb4 _ _ t0;have OH:=hb4.size;have Fq:Below W.heap.size W w4:=hnext.trans (hb4.mono hnext.size);have xG:Below w.heap.size w w4:=hbel.trans (Fq.mono hsz);have KW:=hide (Keeps.of_below xG);clear hown4 hb4 s2 t0
     by_cases g8:8<(fieldsOf p c).length
     ·have SQ:(8:Int)<(fieldsOf p c).length:=by omega
      go_wp2_with fail
      go_ret;exact⟨lN (Ae (ah HN) hlt (by rw [uF (ah HX),IJ (fun h=>by omega),Bool.and_false])).symm,xG⟩
     have SQ:¬(8:Int)<(fieldsOf p c).length:=by omega
     by_cases g9:6<x.aB.length
     ·have SS:(6:Int)<x.aB.length:=by omega
      go_wp2_with fail
      go_ret;exact⟨lN (Ae (ah HN) hlt (by rw [uF (ah HX),IJ (fun h=>by omega),Bool.and_false])).symm,xG⟩
     have SS:¬(6:Int)<x.aB.length:=by omega
     go_wp2_with fail
     go_loopw [7] (fun s wi=>∃k:Nat,k≤x.aB.length∧s= .int .i64 k∧(∀(j:Nat) (m:aC),j<k→x.aB[j]? =some m→headB p x j m=true)∧Below w4.heap.size w4 wi) (fun s _=>x.aB.length-(intOf s).toNat)
     case atStart=>exact ⟨0,Nat.zero_le _,rfl,fun j _ h=>absurd h (Nat.not_lt_zero j),Below.refl _ _⟩
     case round=>
      obtain⟨k,hk,rfl,hh,hbi⟩:=hrel;have HH:=hide hh;have s5:=Keeps.of_below hbi _ _ s3;have t5:=Keeps.of_below hbi _ _ t3;have KI:=hide (Keeps.of_below hbi);have yY:=hbi.size;clear hh s3 t3
      by_cases hk2:k<x.aB.length
      ·have HM:=hide (List.getElem?_eq_getElem hk2)
       cases hhd:headB p x k x.aB[k]
       ·go_wp2_with fail
        refine (Pn p hhd _ c _ (aP ((ah KW).trans (ah KI)) (ah HP)) (ah yE) (ah HX) (ah HM) hwf hz).mono ?_;rintro e w5 ⟨rfl,hb5⟩;go_wp2_with fail
        go_ret;exact⟨lN (Ae (ah HN) hlt (by rw [uF (ah HX),abZ (ah HM) hhd,Bool.and_false])).symm,xG.trans ((hbi.trans (hb5.mono yY)).mono xG.size)⟩
       ·go_wp2_with fail
        refine (Pn p hhd _ c _ (aP ((ah KW).trans (ah KI)) (ah HP)) (ah yE) (ah HX) (ah HM) hwf hz).mono ?_;rintro e w5 ⟨rfl,hb5⟩;go_wp2_with fail
        exact⟨⟨k+1,by omega,by go_num,fun j m hj hjm=>by
         rcases Nat.lt_or_ge j k with g | g
         ·exact ah HH j m g hjm
         ·obtain rfl:j=k:=by omega
          rw [ah HM] at hjm;cases hjm;exact hhd,hbi.trans (hb5.mono yY)⟩,by simp [intOf];omega⟩
      ·go_wp2_with fail
       exact⟨⟨c+1,by omega,by go_num,by rw [abQ,ah HA,uF (ah HX),ah MZ,ab1 ⟨hd,by omega,by omega⟩ (fun j m hjm=>ah HH j m (by have:=(List.getElem?_eq_some_iff.1 hjm).1;omega) hjm)];rfl,Fq.trans (hbi.mono Fq.size)⟩,by simp [intOf];omega⟩
  ·have nG:Hid ((List.range p.length).all (uD p)=true):=by
    have:=ah HA
    rwa [show c=p.length by omega] at this
   have yE:=hide (Vm (ah nG));have Gm:=hide (afZ (ah HN) (ah nG));go_wp2_with fail
   clear q0 hlt hc HA;obtain⟨wo,rfl⟩:∃wo:World,wo=wr:=⟨_,rfl⟩
   go_loopw [9] (fun s wr=>∃c:Nat,c≤p.length∧s= .int .i64 c∧(p.take c).all (fun x=>x.aB.all (iL p))=true∧Below W.heap.size W wr) (fun s _=>p.length-(intOf s).toNat)
   case atStart=>exact ⟨0,Nat.zero_le _,rfl,rfl,hbr⟩
   case round=>
    clear KR rE hbr;obtain⟨c,hc,rfl,hall,hbr⟩:=hrel;have HA:=hide hall;have hkr:=Keeps.of_below hbr;have KR:=hide hkr;have rE:=hbr.size;have q0:=hkr _ _ p0;clear hall hkr
    by_cases hlt:c<p.length
    ·obtain⟨vf,vm,c0,c1,c2,hf,hmt⟩:=(ah kP c hlt).keep ((ah KP).trans (ah KR));have hwx:=hwf _ (List.getElem_mem hlt);have hxl:gJ p[c]≤4194304:=Nat.le_trans (nR (List.getElem_mem hlt)) hz;have hS:=vM (f:=fun x=>x.aB.all (iL p)) hlt;have adl:=hide (fun h=>GI (f:=fun x:aj=>x.aB.all (iL p)) hlt h);rw [ah HA] at hS;have HS:=hide hS;clear hS;generalize p[c]=x at *;have hms:x.aB.length≤4194304:=Nat.le_trans (tC x) hxl;obtain⟨ma,mb,fH,dW,rfl,yV,hma,hmr⟩:=aZ hmt;have pY:=hide hmr;clear hf hmt hmr;obtain⟨lI,rfl⟩:∃lI:World,lI=wr:=⟨_,rfl⟩;go_wp2_with fail
     go_loopw [10] (fun s wi=>∃k:Nat,k≤x.aB.length∧s= .int .i64 k∧(x.aB.take k).all (iL p)=true∧Below lI.heap.size lI wi) (fun s _=>x.aB.length-(intOf s).toNat)
     case atStart=>exact ⟨0,Nat.zero_le _,rfl,rfl,Below.refl _ _⟩
     case round=>
      obtain⟨k,hk,rfl,hh,hbi⟩:=hrel;have HH:=hide hh;have KI:=hide (Keeps.of_below hbi);have yY:=hbi.size;have t0:=ah KI _ _ q0;have t2:=ah KI _ _ c2;clear hh
      by_cases hk2:k<x.aB.length
      ·obtain rfl:=hma (bJ hk2);obtain⟨va,eU,dH,hmv,m0,m1,m2,m3,m4,m5,m6⟩:=(ah pY k hk2).keep (ah KI);have hwm:=hwx.2.2 _ (List.getElem_mem hk2);have hml:dN x.aB[k]≤4194304:=Nat.le_trans (Bj (List.getElem_mem hk2)) hxl;have Tz:=vM (f:=iL p) hk2;have adk:=hide (fun h=>GI (f:=iL p) hk2 h);rw [ah HH] at Tz;have HSM:=hide Tz;clear Tz;generalize x.aB[k]=m at *;have um:=hide hmv;obtain⟨ha1,hc1,hf1⟩:=hmv;obtain⟨aa,ab,Ns,aI,rfl,_,_,_⟩:=aZ ha1;obtain⟨ca,cb,nZ,aF,rfl,_,_,_⟩:=aZ hc1;obtain⟨fa,fb,kU,aG,rfl,_,_,_⟩:=aZ hf1;have hci:(c:Int)<(p.length:Int):=by omega
       have hcz:(0:Int)≤(c:Int):=by omega
       have hki:(k:Int)<(x.aB.length:Int):=by omega
       have hkz:(0:Int)≤(k:Int):=by omega
       clear ha1 hc1 hf1 q0 c0 c1 c2 p0
       cases hcd:iL p m
       ·go_wp2_with fail
        go_region_held3 (fun w'=>w'.cell? ⟨w.heap.size,0,none⟩=some (.slice (some ⟨pb,dB,none⟩) p.length aA)∧w'.cell? ⟨pb,dB+c*3+2,none⟩=some (.slice (some ⟨mb,fH,none⟩) x.aB.length dW)∧
          w'.cell? ⟨mb,fH+k*7,none⟩=some (.int .i64 m.slot)∧w'.cell? ⟨mb,fH+k*7+1,none⟩=some (.slice aa m.args.length aI)∧w'.cell? ⟨mb,fH+k*7+2,none⟩=some (.int .i64 m.ret)∧w'.cell? ⟨mb,fH+k*7+3,none⟩=some (.int .i64 m.locals)∧
          w'.cell? ⟨mb,fH+k*7+4,none⟩=some (.int .i64 m.stack)∧w'.cell? ⟨mb,fH+k*7+5,none⟩=some (.slice ca m.code.length aF)∧w'.cell? ⟨mb,fH+k*7+6,none⟩=some (.slice fa m.frames.length aG))
         (first | go_keep | (exact⟨Keeps.of_below hb5 _ _ (by simpa using t0),Keeps.of_below hb5 _ _ (by simpa using t2),Keeps.of_below hb5 _ _ (by simpa using m0),Keeps.of_below hb5 _ _ (by simpa using m1),Keeps.of_below hb5 _ _ (by simpa using m2),Keeps.of_below hb5 _ _ (by simpa using m3),Keeps.of_below hb5 _ _ (by simpa using m4),Keeps.of_below hb5 _ _ (by simpa using m5),Keeps.of_below hb5 _ _ (by simpa using m6)⟩))
         (first | ((go_at_call 94;refine (abU p hcd _ _ _ _ _ (aP (Keeps.of_below ((Below.refl _ _).drew)) (aP ((ah KP).trans ((ah KR).trans (ah KI))) (ah HP))) ((ah um).keep (Keeps.of_below ((Below.refl _ _).drew))) (ah yE) hz hml hwm).mono ?_);rintro e w5 ⟨rfl,hb5⟩))
        have hnext:Below lI.heap.size lI w5:=hbi.drew.trans (hb5.mono (by simpa using yY));go_wp2_with fail
        go_ret;refine⟨lN ?_,hbel.trans ((hbr.trans (hnext.mono rE)).mono hsz)⟩;rw [ah Gm,ah adl (ah adk hcd)]
        rfl
       ·go_wp2_with fail
        go_region_held3 (fun w'=>w'.cell? ⟨w.heap.size,0,none⟩=some (.slice (some ⟨pb,dB,none⟩) p.length aA)∧w'.cell? ⟨pb,dB+c*3+2,none⟩=some (.slice (some ⟨mb,fH,none⟩) x.aB.length dW)∧
          w'.cell? ⟨mb,fH+k*7,none⟩=some (.int .i64 m.slot)∧w'.cell? ⟨mb,fH+k*7+1,none⟩=some (.slice aa m.args.length aI)∧w'.cell? ⟨mb,fH+k*7+2,none⟩=some (.int .i64 m.ret)∧w'.cell? ⟨mb,fH+k*7+3,none⟩=some (.int .i64 m.locals)∧
          w'.cell? ⟨mb,fH+k*7+4,none⟩=some (.int .i64 m.stack)∧w'.cell? ⟨mb,fH+k*7+5,none⟩=some (.slice ca m.code.length aF)∧w'.cell? ⟨mb,fH+k*7+6,none⟩=some (.slice fa m.frames.length aG))
         (first | go_keep | (exact⟨Keeps.of_below hb5 _ _ (by simpa using t0),Keeps.of_below hb5 _ _ (by simpa using t2),Keeps.of_below hb5 _ _ (by simpa using m0),Keeps.of_below hb5 _ _ (by simpa using m1),Keeps.of_below hb5 _ _ (by simpa using m2),Keeps.of_below hb5 _ _ (by simpa using m3),Keeps.of_below hb5 _ _ (by simpa using m4),Keeps.of_below hb5 _ _ (by simpa using m5),Keeps.of_below hb5 _ _ (by simpa using m6)⟩))
         (first | ((go_at_call 94;refine (abU p hcd _ _ _ _ _ (aP (Keeps.of_below ((Below.refl _ _).drew)) (aP ((ah KP).trans ((ah KR).trans (ah KI))) (ah HP))) ((ah um).keep (Keeps.of_below ((Below.refl _ _).drew))) (ah yE) hz hml hwm).mono ?_);rintro e w5 ⟨rfl,hb5⟩))
        have hnext:Below lI.heap.size lI w5:=hbi.drew.trans (hb5.mono (by simpa using yY));go_wp2_with fail
        exact⟨⟨k+1,by omega,by go_num,by rw [ah HSM,hcd];rfl,hnext⟩,by simp [intOf];omega⟩
      ·go_wp2_with fail
       exact⟨⟨c+1,by omega,by go_num,by
        have h1:=ah HH;rw [List.take_of_length_le (by omega)] at h1;rw [ah HS,h1];rfl,hbr.trans (hbi.mono rE)⟩,by simp [intOf];omega⟩
    ·go_wp2_with fail
     go_ret;refine⟨lN ?_,hbel.trans (hbr.mono hsz)⟩;have h1:=ah HA;rw [List.take_of_length_le (by omega)] at h1;rw [ah Gm,h1]
     rfl
end Go.Proofs.YtiiokkllmchohaaGreat
namespace Go.Proofs.YtiiokkllmchohaaGreat
open Go.RowKit
section
variable (s : List UInt8)
end

def LU (n:Int)(f:bF):Prop:=(f.locals.length:Int)=n∧f.stack.length≤40
def aco (m:aC):Prop:=m.args.length≤40∧(0≤m.locals∧m.locals≤40)∧m.code.length≤40∧m.frames.length≤40∧∀f∈m.frames,LU m.locals f
def acn (x:aj):Prop:=x.fields.length≤40∧x.aB.length≤40∧∀m∈x.aB,aco m
section
variable {s : List UInt8}
end
theorem Y9 {n:Nat}{m:aC} :∀ {l:List bF} {last:Int},iP n m last l=true→∀f∈l,uJ n m f=true
 | [], _, _ => fun f hf => by cases hf
 | x :: r, last, h => by
  unfold iP at h;simp only [Bool.and_eq_true] at h;intro f hf
  rcases List.mem_cons.1 hf with rfl | hf
  ·exact h.1.2
  ·exact Y9 h.2 f hf
theorem af8 {n:Nat}{m:aC}{f:bF}(h:uJ n m f=true)(hs:m.stack≤8):LU m.locals f:=by
 unfold uJ at h;simp only [Bool.and_eq_true,decide_eq_true_eq] at h;unfold LU;omega
theorem Y5 {p:List aj}(h:bD p=0):p.length≤6∧∀x∈p,acn x:=by
 unfold bD at h
 split at h
 ·cases h
 rename_i hn
 split at h
 ·rename_i hc
  split at h
  ·rename_i hcode;refine⟨by omega,fun x hx=>?_⟩;obtain⟨c,hcl,rfl⟩:=List.getElem_of_mem hx;have hX:=List.getElem?_eq_getElem hcl;have hsup:=Vm hc;rw [List.all_eq_true] at hc hcode;have h1:=hc c (List.mem_range.2 hcl);rw [uF hX,Bool.and_eq_true] at h1;have h2:=h1.2;unfold rU at h2;simp only [Bool.and_eq_true,decide_eq_true_eq] at h2;obtain⟨⟨⟨_,hf⟩,hm⟩,hh⟩:=h2;have hfs:=Kt p hsup hcl hX;rw [hfs,List.length_append] at hf;have hco:=hcode _ hx;rw [List.all_eq_true] at hco hh;refine⟨by omega,by omega,fun m hmm=>?_⟩;obtain⟨k,hk,rfl⟩:=List.getElem_of_mem hmm;have hK:=List.getElem?_eq_getElem hk;have h3:=hh k (List.mem_range.2 hk);rw [hK] at h3;simp only at h3
   unfold headB at h3;simp only [Bool.and_eq_true] at h3;have h4:=vO.1 h3.1.1;have h5:=hco _ hmm;unfold iL at h5;simp only [Bool.and_eq_true,decide_eq_true_eq] at h5;obtain⟨⟨⟨⟨_,agA⟩,hfl⟩,_⟩,hfr⟩:=h5;exact⟨by omega,by omega,agA,hfl,fun f hf'=>af8 (Y9 hfr f hf') (by omega)⟩
  ·cases h
 ·cases h
section
variable (s : List UInt8)
end
section
variable {s : List UInt8} {w W W' : World} {b : Nat} {cs : List Value} {i i' : Nat} {bad bad' : Bool}
end
section
variable {s : List UInt8} {w W W' : World} {b : Nat} {cs : List Value} {i i' : Nat} {bad bad' : Bool} {va : Value} {args : List Int} {vc : Value} {l : List eF} {vf : Value} {fs : List bF} {cells : List Value}
end
end Go.Proofs.YtiiokkllmchohaaGreat
namespace Go.Proofs.YtiiokkllmchohaaGreat
open Go.RowKit
attribute [local go_sem ↓] Go.wp_at_zero Go.wp_at_succ
end Go.Proofs.YtiiokkllmchohaaGreat
namespace Go.Proofs.YtiiokkllmchohaaGreat
open Go.RowKit
section
variable {s : List UInt8}
end
structure DSt (s:List UInt8)(w W:World)(i:Nat)(bad:Bool)(pv:Value)(cl:List aj)(cells:List Value)(G:Addr→Option Value):Prop where
 mods:ay (fun _=>False) w W
 size:w.heap.size+3≤W.heap.size
 b0:ak W w.heap.size 24 [.slice none 0 0]
 rd:ady W (w.heap.size+1) s i bad
 b2:ak W (w.heap.size+2) 24 [pv]
 le:i≤s.length
 row:W.ownsRow (w.heap.size+3) 66 3 pv cl.length cells
 cls:∀(j:Nat) (x:aj),cl[j]? =some x→Ed G cells x j
structure DX (s:List UInt8)(w W:World)(N i:Nat)(bad:Bool)(pv:Value)(cl:List aj)(cells xc:List Value):Prop where
 st:DSt s w W i bad pv cl cells (zY N t4 W)
 bx:ak W N 66 xc
 n3:w.heap.size+3≤N
 old:∀k,pv.ownBlock=some k→k<N
section
variable {s : List UInt8} {w W W' : World} {N i i' : Nat} {bad bad' : Bool} {pv : Value} {cl : List aj} {cells xc : List Value} {G : Addr → Option Value}
variable {sup : Int} {vf vm : Value} {fields : List Int} {ml : List aC} {mc : List Value}
end
end Go.Proofs.YtiiokkllmchohaaGreat
