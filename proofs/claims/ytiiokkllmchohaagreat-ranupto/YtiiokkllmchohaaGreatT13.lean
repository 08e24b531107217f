/- Walk of the document's answer: Form. -/
import Derived.Test.YtiiokkllmchohaaGreatT04
import Derived.Test.YtiiokkllmchohaaGreatT07
import Derived.Test.YtiiokkllmchohaaGreatT12
set_option maxHeartbeats 0
set_option maxRecDepth 99999
namespace Go.Proofs.YtiiokkllmchohaaGreat
open Go.Value renaming int->J,slice->O,pointer->zP,bool->zB
open Go.IntKind renaming i64->I
open Option renaming none->U,some->M
open Bool renaming true->K,false->F
open Go.Ending renaming returned->zR
open Go.Obj renaming cells->zC
open Go.RowKit
section
attribute [local go_sem ↓] Go.wp_at_zero Go.wp_at_succ
theorem qh{p}(e:¬(p.length<1\/6<p.length)){a}(d:a<p.length)(c:nI p a=F):fi p=2:=by
 unfold fi;rw[af e,af];intro b;rw[aJ]at b;have:=b a (bw.2 d);rw[c]at this;cases this
theorem IC{p}(b:¬(p.length<1\/6<p.length))(a:(List.range p.length).all (nI p)=K):fi p=if p.all (λx=>x.ek.all (gY p)) then 0 else 3:=by
 unfold fi;rw[af b,am a]
theorem nJ{p a x}(hx:p[a]? =M x):nI p a=(kC a x && lr p a x):=by unfold nI;rw[hx]
theorem AA{p a}(b:(List.range a).all (nI p)=K):ez p a:=by
 intro c a d hx;rw[aJ]at b;have:=b c (bw.2 d);rw[nJ hx,aD]at this;exact this.1
theorem Nl{p a x}(e:ez p a)(hx:p[a]? =M x)(f:kC a x=K):ez p (a+1):=by
 intro b g h c
 rcases bt b a with d | d
 .exact e b g d c
 .obtain rfl:b=a:=by omega
  rw[hx]at c;cases c;exact f
theorem D4{b a}:(List.range (a+1)).all b=((List.range a).all b && b a):=by
 rw[dl,bR,cX,List.all_nil,dy]
theorem tZ{p}{b:Nat}{x}(c:¬(x.fields.all (gd p.length)=K/\(OE p b).length<=8/\x.ek.length<=6)):lr p b x=F:=by
 unfold lr;rw[cw];intro a;simp only[aD,decide_eq_true_eq]at a;exact c ⟨a.1.1.1,a.1.1.2,a.1.2⟩
theorem Eh{p e x a d}(c:x.ek[a]? =M d)(f:OF p x a d=F):lr p e x=F:=by
 unfold lr;rw[cw];intro b;simp only[aD,aJ]at b;have:=b.2 a (bw.2 (ag.1 c).1);rw[c]at this;simp only[f]at this
 cases this
theorem Ei{p}{d:Nat}{x}(c:x.fields.all (gd p.length)=K/\(OE p d).length<=8/\x.ek.length<=6)(e:∀(a:Nat) (b:eh),x.ek[a]? =M b->OF p x a b=K):lr p d x=K:=by
 unfold lr;rw[c.1,decide_eq_true c.2.1,decide_eq_true c.2.2,Bool.and_self,Bool.and_self,bO,aJ];intro a _
 cases f:x.ek[a]? with
 | none => rfl
 | some b => exact e a b f
theorem xC{a d c e}(g:a.all (gd c)=e)(b)(h:eG 1 (gF b) d a)(j:∀x∈a,I64 x)(i:a.length<=4194304):
  Calls Tryz.prog 91 #[d,J I c] b λf k=>f=zR (zB e)/\k=b:=g▸Ai a d c b h j i
theorem Ec{a g}(p)(i:gY p a=g)(d c e f b)(l:eQ b d p)(j:lR b a c e f)(m:ez p p.length)(o:eM p<=4194304)(k:fI a<=4194304)(n:pQ a):
  Calls Tryz.prog 94 #[.agg #[d],.agg #[J I a.slot,c,J I a.ret,J I a.locals,J I a.stack,e,f]] b λh q=>h=zR (zB g)/\Below b.heap.size b q:=i▸LU p d a c e f b l j m o k n
theorem xD{x d c f}(p)(h:OF p x c d=f)(e b a)(k:eQ a e p)(l:ez p (b+1))(j:p[b]? =M x)(i:x.ek[c]? =M d)(m:je p)(n:eM p<=4194304):
  Calls Tryz.prog 93 #[.agg #[e],J I b,J I c] a λg o=>g=zR (zB f)/\Below a.heap.size a o:=h▸LY p e b c x d a k l j i m n
theorem Ed(p cA m)(cc:eQ m cA p)(an:je p)(w:eM p<=4194304):
  Calls Tryz.prog 51 #[.agg #[cA]] m λq h=>q=zR (J I (fi p))/\Below m.heap.size m h:=by
 have e0:p.length<=4194304:=ap (fQ p) w;have P:=Ou cc;obtain⟨e1,b6,b7,cz,rfl,eS,ei,cu⟩:=eN cc;have cf:=Ou cu;clear cc cu
 by_cases cg:p.length<1
 .have ci:(p.length:Int)<1:=by omega
  go_in
  go_wp2;go_ret;exact⟨iQ (by unfold fi;rw[am (.inl cg)]),ev _ _⟩
 by_cases d3:6<p.length
 .have ci:¬(p.length:Int)<1:=by omega
  have d4:(6:Int)<p.length:=by omega
  go_in
  go_wp2;go_ret;exact⟨iQ (by unfold fi;rw[am (.inr d3)]),ev _ _⟩
 have ci:¬(p.length:Int)<1:=by omega
 have d4:¬(6:Int)<p.length:=by omega
 have x:Hid (¬(p.length<1\/6<p.length)):=λc=>by omega
 obtain rfl:=ei (by intro q;subst q;simp at cg);go_in
 go_wp2_with fail;generalize ca:m.alloc _=W;have B:=qQ ca;have bh:=(bx1 ca).c0;clear ca;have ac:=Ou (Oq B);have S:=B.size
 go_loopw [4] (λd wr=>∃b:Nat,b<=p.length/\d=J I b/\(List.range b).all (nI p)=K/\Below W.heap.size W wr) (λd _=>p.length-(intOf d).toNat)
 case atStart=>exact ⟨0,az _,rfl,rfl,ay _ _⟩
 case round=>
  obtain⟨b,cm,rfl,a4,r⟩:=hrel;have L:=Ou a4;have Z:=Oq r;have Q:=Ou Z;have aa:=r.size;have G:=Z _ _ bh;clear a4 Z
  by_cases i:b<p.length
  .have ck:=ae i;obtain⟨ep,er,a1,bs,a2,a6,ak⟩:=(cf b i).keep (ac.trans Q);have ao:=an _ (av i);have bf:gV p[b]<=4194304:=ap (kE (av i)) w;have n:=Ou ck;clear ck;generalize p[b]=a at *;have bM:a.fields.length<=4194304:=ap (rD a) bf;have ec:a.ek.length<=4194304:=ap (mO a) bf;have bo:=Ou a6;have es:=Ou ak;obtain⟨bz,d1,d2,bI,rfl,_,_,_⟩:=eN a6;obtain⟨b5,k,l,ar,rfl,d9,cs,_⟩:=eN ak;have eP:=Oo a1;have eR:=Oo G;clear a6 ak;have a8:Below m.heap.size m (wr.alloc (zC #[J I a.sup,O bz a.fields.length bI,O b5 a.ek.length ar] 66)):=(B.trans (r.mono S)).trans ((ev wr _).mono (ap S aa))
   cases z:kC b a
   .have c:=Ou (qh x i (by rw[nJ n.out,z];rfl))
    by_cases s:b=0
    .have ba:(a.sup != -1)=K:=(by subst s;simpa[kC]using z);have eg:¬a.sup= -1:=(by simpa using ba);have ad:((b:Int) == 0)=K:=(by subst s;rfl);have dp:=Ou s;clear s z;go_wp2;go_ret;exact⟨iQ c.symm,a8⟩
    .have ad:((b:Int) == 0)=F:=(by simpa using s);have cn:(0:Int)<(b:Int):=(by omega)
     have d:a.sup<0\/(b:Int)<=a.sup:=by
      unfold kC at z;rw[af s]at z;simp only[cQ,decide_eq_false_iff_not]at z;omega
     clear z
     by_cases ba:a.sup<0
     .go_wp2;go_ret;exact⟨iQ c.symm,a8⟩
     .have dp:(b:Int)<=a.sup:=(by omega);clear d;go_wp2;go_ret;exact⟨iQ c.symm,a8⟩
   .have y:=Ou (Nl (AA L) n z);have br:=Ou z;clear z;have eK:=uE p y (Nat.lt_succ_self b)
    by_cases s:b=0
    .have ba:a.sup= -1:=Az (s▸ea br);have eg:(a.sup != -1)=F:=(by simpa using ba);have ad:((b:Int) == 0)=K:=(by subst s;rfl);have cn:¬(0:Int)<(b:Int):=(by omega);have dp:=Ou s;have et:=Ou ba;clear s ba;go_wp2_with fail;obtain⟨o,rfl⟩:∃o:World,o=wr:=⟨_,rfl⟩;generalize Y:o.alloc _=W2;have a5:Below o.heap.size o W2:=(by rw[<-Y];exact ev _ _);have bk:W2.cell? ⟨o.heap.size,2,U⟩=M (O b5 a.ek.length ar):=(by rw[<-Y];exact jM _ _ _ 2);clear Y a8 a1 bs a2;have j:=Oq a5;have X:=Ou j;have V:=j _ _ G;have E:Below W.heap.size W W2:=r.trans (a5.mono aa);have cb:Below m.heap.size m W2:=B.trans (E.mono S);clear j G bh
     cases C:a.fields.all (gd p.length)
     .refine (xC C _ (fu X bo) ao.2.1 bM).mono ?_;rintro q ce ⟨rfl,rfl⟩;go_wp2;go_ret;exact⟨iQ (qh x i (by rw[nJ n.out,tZ (λc=>bZ (C.symm.trans c.1)),bv])).symm,cb⟩
     refine(xC C _ (fu X bo) ao.2.1 bM).mono ?_;rintro q ce ⟨rfl,rfl⟩;go_wp2_with fail;refine(sH p (b+1) y (by omega) w b _ _ (eA X (eA (ac.trans Q) P)) (by omega)).mono ?_;rintro q H ⟨eo,rfl,be,u⟩;obtain⟨ds,d0,rfl⟩:=fd be;have bn:=Oq u _ _ bk;have t3:=Oq u _ _ V;have ej:=u.size;have bc:Below W.heap.size W H:=eu E u;have v:Below m.heap.size m H:=B.trans (bc.mono S);have a0:=Ou (Oq v);clear be u bk V
     by_cases d5:8<(OE p b).length
     .have b8:(8:Int)<(OE p b).length:=(by omega);go_wp2;go_ret;exact⟨iQ (qh x i (by rw[nJ n.out,tZ (λc=>by omega),bv])).symm,v⟩
     have b8:¬(8:Int)<(OE p b).length:=by omega
     by_cases d6:6<a.ek.length
     .have b9:(6:Int)<a.ek.length:=(by omega);go_wp2;go_ret;exact⟨iQ (qh x i (by rw[nJ n.out,tZ (λc=>by omega),bv])).symm,v⟩
     have b9:¬(6:Int)<a.ek.length:=(by omega);go_wp2
     go_loopw [7] (λd g=>∃c:Nat,c<=a.ek.length/\d=J I c/\(∀(b:Nat) (e:eh),b<c->a.ek[b]? =M e->OF p a b e=K)/\Below H.heap.size H g) (λd _=>a.ek.length-(intOf d).toNat)
     case atStart=>exact ⟨0,az _,rfl,λb _ c=>absurd c (cW b),ay _ _⟩
     case round=>
      obtain⟨c,cp,rfl,R,g⟩:=hrel;have N:=Ou R;have en:=Oq g _ _ bn;have t5:=Oq g _ _ t3;have t:=Ou (Oq g);have T:=g.size;clear R bn t3
      by_cases j:c<a.ek.length
      .have A:=Ou (ae j)
       cases D:OF p a c a.ek[c]
       .go_wp2_with fail;refine(xD p D _ b _ (eA (a0.trans t) P) y n A an w).mono ?_;rintro q ab ⟨rfl,d⟩;go_wp2;go_ret;exact⟨iQ (qh x i (by rw[nJ n.out,Eh A.out D,bv])).symm,v.trans ((g.trans (d.mono T)).mono v.size)⟩
       .go_wp2_with fail;refine(xD p D _ b _ (eA (a0.trans t) P) y n A an w).mono ?_;rintro q ab ⟨rfl,d⟩;go_wp2_with fail
        exact⟨⟨c+1,by omega,by go_num,λb e h a=>by
         rcases bt b c with a3 | a3
         .exact N b e a3 a
         .obtain rfl:b=c:=by omega
          rw[ea A]at a;cases a;exact D,g.trans (d.mono T)⟩,by simp[intOf];omega⟩
      .go_wp2_with fail;exact⟨⟨b+1,by omega,by go_num,by rw[D4,ea L,nJ n.out,ea br,Ei ⟨C,by omega,by omega⟩ (λb e a=>ea N b e (by have:=(ag.1 a).1;omega) a)];rfl,eu bc g⟩,by simp[intOf];omega⟩
    .have eg:=vG (by omega) br;have ad:((b:Int) == 0)=F:=(by simpa using s);have cn:(0:Int)<(b:Int):=(by omega);have ba:¬a.sup<0:=(by omega);have dp:¬(b:Int)<=a.sup:=(by omega);go_wp2_with fail;obtain⟨o,rfl⟩:∃o:World,o=wr:=⟨_,rfl⟩;generalize Y:o.alloc _=W2;have a5:Below o.heap.size o W2:=(by rw[<-Y];exact ev _ _);have bk:W2.cell? ⟨o.heap.size,2,U⟩=M (O b5 a.ek.length ar):=(by rw[<-Y];exact jM _ _ _ 2);clear Y a8 a1 bs a2;have j:=Oq a5;have X:=Ou j;have V:=j _ _ G;have E:Below W.heap.size W W2:=r.trans (a5.mono aa);have cb:Below m.heap.size m W2:=B.trans (E.mono S);clear j G bh
     cases C:a.fields.all (gd p.length)
     .refine (xC C _ (fu X bo) ao.2.1 bM).mono ?_;rintro q ce ⟨rfl,rfl⟩;go_wp2;go_ret;exact⟨iQ (qh x i (by rw[nJ n.out,tZ (λc=>bZ (C.symm.trans c.1)),bv])).symm,cb⟩
     refine(xC C _ (fu X bo) ao.2.1 bM).mono ?_;rintro q ce ⟨rfl,rfl⟩;go_wp2_with fail;refine(sH p (b+1) y (by omega) w b _ _ (eA X (eA (ac.trans Q) P)) (by omega)).mono ?_;rintro q H ⟨eo,rfl,be,u⟩;obtain⟨ds,d0,rfl⟩:=fd be;have bn:=Oq u _ _ bk;have t3:=Oq u _ _ V;have ej:=u.size;have bc:Below W.heap.size W H:=eu E u;have v:Below m.heap.size m H:=B.trans (bc.mono S);have a0:=Ou (Oq v);clear be u bk V
     by_cases d5:8<(OE p b).length
     .have b8:(8:Int)<(OE p b).length:=(by omega);go_wp2;go_ret;exact⟨iQ (qh x i (by rw[nJ n.out,tZ (λc=>by omega),bv])).symm,v⟩
     have b8:¬(8:Int)<(OE p b).length:=by omega
     by_cases d6:6<a.ek.length
     .have b9:(6:Int)<a.ek.length:=(by omega);go_wp2;go_ret;exact⟨iQ (qh x i (by rw[nJ n.out,tZ (λc=>by omega),bv])).symm,v⟩
     have b9:¬(6:Int)<a.ek.length:=(by omega);go_wp2
     go_loopw [7] (λd g=>∃c:Nat,c<=a.ek.length/\d=J I c/\(∀(b:Nat) (e:eh),b<c->a.ek[b]? =M e->OF p a b e=K)/\Below H.heap.size H g) (λd _=>a.ek.length-(intOf d).toNat)
     case atStart=>exact ⟨0,az _,rfl,λb _ c=>absurd c (cW b),ay _ _⟩
     case round=>
      obtain⟨c,cp,rfl,R,g⟩:=hrel;have N:=Ou R;have en:=Oq g _ _ bn;have t5:=Oq g _ _ t3;have t:=Ou (Oq g);have T:=g.size;clear R bn t3
      by_cases j:c<a.ek.length
      .have A:=Ou (ae j)
       cases D:OF p a c a.ek[c]
       .go_wp2_with fail;refine(xD p D _ b _ (eA (a0.trans t) P) y n A an w).mono ?_;rintro q ab ⟨rfl,d⟩;go_wp2;go_ret;exact⟨iQ (qh x i (by rw[nJ n.out,Eh A.out D,bv])).symm,v.trans ((g.trans (d.mono T)).mono v.size)⟩
       .go_wp2_with fail;refine(xD p D _ b _ (eA (a0.trans t) P) y n A an w).mono ?_;rintro q ab ⟨rfl,d⟩;go_wp2_with fail
        exact⟨⟨c+1,by omega,by go_num,λb e h a=>by
         rcases bt b c with a3 | a3
         .exact N b e a3 a
         .obtain rfl:b=c:=by omega
          rw[ea A]at a;cases a;exact D,g.trans (d.mono T)⟩,by simp[intOf];omega⟩
      .go_wp2_with fail;exact⟨⟨b+1,by omega,by go_num,by rw[D4,ea L,nJ n.out,ea br,Ei ⟨C,by omega,by omega⟩ (λb e a=>ea N b e (by have:=(ag.1 a).1;omega) a)];rfl,eu bc g⟩,by simp[intOf];omega⟩
  .have z:Hid ((List.range p.length).all (nI p)=K):=by
    have:=ea L
    rwa[show b=p.length by omega]at this
   have y:=Ou (AA z);have A:=Ou (IC x z);go_wp2_with fail;clear G i cm L;obtain⟨o,rfl⟩:∃o:World,o=wr:=⟨_,rfl⟩
   go_loopw [9] (λd wr=>∃b:Nat,b<=p.length/\d=J I b/\(p.take b).all (λa=>a.ek.all (gY p))=K/\Below W.heap.size W wr) (λd _=>p.length-(intOf d).toNat)
   case atStart=>exact ⟨0,az _,rfl,rfl,r⟩
   case round=>
    clear Q aa r;obtain⟨b,cm,rfl,a4,r⟩:=hrel;have L:=Ou a4;have Z:=Oq r;have Q:=Ou Z;have aa:=r.size;have G:=Z _ _ bh;clear a4 Z
    by_cases i:b<p.length
    .obtain⟨ep,er,a1,bs,a2,a6,ak⟩:=(cf b i).keep (ac.trans Q);have ao:=an _ (av i);have bf:gV p[b]<=4194304:=ap (kE (av i)) w;have u:=mH (f:=λa=>a.ek.all (gY p)) i;have ck:=Ou (λc=>rU (f:=λa:eb=>a.ek.all (gY p)) i c);rw[ea L]at u;have HS:=Ou u;clear u;generalize p[b]=a at *;have ec:a.ek.length<=4194304:=ap (mO a) bf;obtain⟨b5,k,l,ar,rfl,d9,cs,a8⟩:=eN ak;have cb:=Ou a8;clear a6 ak a8;obtain⟨n,rfl⟩:∃n:World,n=wr:=⟨_,rfl⟩;go_wp2
     go_loopw [10] (λd g=>∃c:Nat,c<=a.ek.length/\d=J I c/\(a.ek.take c).all (gY p)=K/\Below n.heap.size n g) (λd _=>a.ek.length-(intOf d).toNat)
     case atStart=>exact ⟨0,az _,rfl,rfl,ay _ _⟩
     case round=>
      obtain⟨c,cp,rfl,R,g⟩:=hrel;have N:=Ou R;have t:=Ou (Oq g);have T:=g.size;have V:=ea t _ _ G;have b9:=ea t _ _ a2;clear R
      by_cases j:c<a.ek.length
      .obtain rfl:=cs (eW j);obtain⟨eo,es,et,ba,be,bk,bn,bo,br,bM,b8⟩:=(cb c j).keep t;have bc:=ao.2.2 _ (av j);have a5:fI a.ek[c]<=4194304:=ap (qz (av j)) bf;have v:=mH (f:=gY p) j;have ce:=Ou (λc=>rU (f:=gY p) j c);rw[ea N]at v;have cn:=Ou v;clear v;generalize a.ek[c]=e at *;have C:=Ou ba;obtain⟨a0,ad,a3⟩:=ba;obtain⟨D,dp,ds,H,rfl,_,_,_⟩:=eN a0;obtain⟨X,d0,d5,Y,rfl,_,_,_⟩:=eN ad;obtain⟨bz,d1,d2,bI,rfl,_,_,_⟩:=eN a3;have d6:(b:Int)<(p.length:Int):=(by omega);have eg:=fp b;have ej:(c:Int)<(a.ek.length:Int):=(by omega);have en:=fp c;clear a0 ad a3 G a1 bs a2 bh
       cases s:gY p e
       .go_wp2
        go_region_held3 (λh=>h.cell? ⟨m.heap.size,0,U⟩=M (O (M ⟨b6,b7,U⟩) p.length cz)/\h.cell? ⟨b6,b7+b*3+2,U⟩=M (O (M ⟨k,l,U⟩) a.ek.length ar)/\
          h.cell? ⟨k,l+c*7,U⟩=M (J I e.slot)/\h.cell? ⟨k,l+c*7+1,U⟩=M (O D e.args.length H)/\h.cell? ⟨k,l+c*7+2,U⟩=M (J I e.ret)/\h.cell? ⟨k,l+c*7+3,U⟩=M (J I e.locals)/\
          h.cell? ⟨k,l+c*7+4,U⟩=M (J I e.stack)/\h.cell? ⟨k,l+c*7+5,U⟩=M (O X e.code.length Y)/\h.cell? ⟨k,l+c*7+6,U⟩=M (O bz e.frames.length bI))
         (first | go_keep | (exact⟨Oq d _ _ (by simpa using V),Oq d _ _ (by simpa using b9),Oq d _ _ (by simpa using be),Oq d _ _ (by simpa using bk),Oq d _ _ (by simpa using bn),Oq d _ _ (by simpa using bo),Oq d _ _ (by simpa using br),Oq d _ _ (by simpa using bM),Oq d _ _ (by simpa using b8)⟩))
         (first | ((go_at_call 94;refine(Ec p s _ _ _ _ _ (eA (Oq ((ay _ _).drew)) (eA (ac.trans (Q.trans t)) P)) (C.keep (Oq ((ay _ _).drew))) y w a5 bc).mono ?_);rintro q ab ⟨rfl,d⟩))
        have E:Below n.heap.size n ab:=g.drew.trans (d.mono (by simpa using T));go_wp2;go_ret;refine⟨iQ ?_,B.trans ((r.trans (E.mono aa)).mono S)⟩;rw[ea A,ea ck (ea ce s)]
        rfl
       .go_wp2
        go_region_held3 (λh=>h.cell? ⟨m.heap.size,0,U⟩=M (O (M ⟨b6,b7,U⟩) p.length cz)/\h.cell? ⟨b6,b7+b*3+2,U⟩=M (O (M ⟨k,l,U⟩) a.ek.length ar)/\
          h.cell? ⟨k,l+c*7,U⟩=M (J I e.slot)/\h.cell? ⟨k,l+c*7+1,U⟩=M (O D e.args.length H)/\h.cell? ⟨k,l+c*7+2,U⟩=M (J I e.ret)/\h.cell? ⟨k,l+c*7+3,U⟩=M (J I e.locals)/\
          h.cell? ⟨k,l+c*7+4,U⟩=M (J I e.stack)/\h.cell? ⟨k,l+c*7+5,U⟩=M (O X e.code.length Y)/\h.cell? ⟨k,l+c*7+6,U⟩=M (O bz e.frames.length bI))
         (first | go_keep | (exact⟨Oq d _ _ (by simpa using V),Oq d _ _ (by simpa using b9),Oq d _ _ (by simpa using be),Oq d _ _ (by simpa using bk),Oq d _ _ (by simpa using bn),Oq d _ _ (by simpa using bo),Oq d _ _ (by simpa using br),Oq d _ _ (by simpa using bM),Oq d _ _ (by simpa using b8)⟩))
         (first | ((go_at_call 94;refine(Ec p s _ _ _ _ _ (eA (Oq ((ay _ _).drew)) (eA (ac.trans (Q.trans t)) P)) (C.keep (Oq ((ay _ _).drew))) y w a5 bc).mono ?_);rintro q ab ⟨rfl,d⟩))
        have E:Below n.heap.size n ab:=g.drew.trans (d.mono (by simpa using T));go_wp2_with fail;exact⟨⟨c+1,by omega,by go_num,by rw[ea cn,s];rfl,E⟩,by simp[intOf];omega⟩
      .go_wp2_with fail
       exact⟨⟨b+1,by omega,by go_num,by
        have e:=ea N;rw[aH (by omega)]at e;rw[ea HS,e];rfl,r.trans (g.mono aa)⟩,by simp[intOf];omega⟩
    .go_wp2;go_ret;refine⟨iQ ?_,B.trans (r.mono S)⟩;have e:=ea L;rw[aH (by omega)]at e;rw[ea A,e]
     rfl
end
section
variable (s : List UInt8)
end
def As (n:Int)(f:fT):Prop:=(f.locals.length:Int)=n/\f.stack.length<=40
def M2 (m:eh):Prop:=m.args.length<=40/\(0<=m.locals/\m.locals<=40)/\m.code.length<=40/\m.frames.length<=40/\∀f∈m.frames,As m.locals f
def M0 (x:eb):Prop:=x.fields.length<=40/\x.ek.length<=40/\∀m∈x.ek,M2 m
section
variable {s : List UInt8}
end
theorem CN{f e}:∀ {c:List fT} {d:Int},gK f e d c=K->∀b∈c,m9 f e b=K
 | [], _, _ => λb a => by cases a
 | x :: r, d, h => by
  unfold gK at h;simp only[aD]at h;intro b a
  rcases aE.1 a with rfl | a
  .exact h.1.2
  .exact CN h.2 b a
theorem IN{d a b}(c:m9 d a b=K)(e:a.stack<=8):As a.locals b:=by
 unfold m9 at c;simp only[aD,decide_eq_true_eq]at c;unfold As;omega
theorem IE{p}(a:fi p=0):p.length<=6/\∀x∈p,M0 x:=by
 unfold fi at a
 split at a
 .cases a
 rename_i C
 split at a
 .rename_i e
  split at a
  .rename_i j;refine⟨by omega,λx hx=>?_⟩;obtain⟨n,f,rfl⟩:=bT hx;have h:=ae f;have y:=AA e;rw[aJ]at e j;have g:=e n (bw.2 f);rw[nJ h,aD]at g;have c:=g.2;unfold lr at c;simp only[aD,decide_eq_true_eq]at c;obtain⟨⟨⟨_,s⟩,B⟩,k⟩:=c;have w:=tz p y f h;rw[w,aw]at s;have i:=j _ hx;rw[aJ]at i k;refine⟨by omega,by omega,λD m=>?_⟩;obtain⟨z,l,rfl⟩:=bT m;have q:=ae l;have b:=k z (bw.2 l);rw[q]at b;simp only at b;unfold OF at b;simp only[aD]at b;have A:=jw.1 b.1.1;have d:=i _ m;unfold gY at d;simp only[aD,decide_eq_true_eq]at d;obtain⟨⟨⟨⟨_,r⟩,u⟩,_⟩,v⟩:=d;exact⟨by omega,by omega,r,u,λo t=>IN (CN v o t) (by omega)⟩
  .cases a
 .cases a
section
variable (s : List UInt8)
end
section
variable {s : List UInt8} {w W W' : World} {b : Nat} {cs : List Value} {i i' : Nat} {bad bad' : Bool}
end
section
variable {s : List UInt8} {w W W' : World} {b : Nat} {cs : List Value} {i i' : Nat} {bad bad' : Bool} {va : Value} {args : List Int} {vc : Value} {l : List fG} {vf : Value} {fs : List fT} {cells : List Value}
end
section
attribute [local go_sem ↓] Go.wp_at_zero Go.wp_at_succ
end
section
variable {s : List UInt8}
end
section
variable {s : List UInt8} {w W W' : World} {N i i' : Nat} {bad bad' : Bool} {pv : Value} {cl : List eb} {cells xc : List Value} {G : Addr -> Option Value}
variable {sup : Int} {vf vm : Value} {fields : List Int} {ml : List eh} {mc : List Value}
end
end Go.Proofs.YtiiokkllmchohaaGreat
