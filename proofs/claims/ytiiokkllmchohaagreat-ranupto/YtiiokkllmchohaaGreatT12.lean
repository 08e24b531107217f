/- Walk of the document's answer: a method's head. -/
import Derived.Test.YtiiokkllmchohaaGreatT02
import Derived.Test.YtiiokkllmchohaaGreatT08
import Derived.Test.YtiiokkllmchohaaGreatT11
set_option maxHeartbeats 0
set_option maxRecDepth 99999
namespace Go.Proofs.YtiiokkllmchohaaGreat
open Go.Value renaming int->J,slice->O,pointer->zP,bool->zB
open Go.IntKind renaming i64->I
open Option renaming none->U,some->M
open Bool renaming true->K,false->F
open Go.Ending renaming returned->zR
open Go.Obj renaming cells->zC
open Go.RowKit
section
attribute [local go_sem ↓] Go.wp_at_zero Go.wp_at_succ
theorem LZ(p A)(j i:Nat)(x a d)(Y:eQ d A p)(m:p[j]? =M x)(l:x.ek[i]? =M a)(G:je p)(K:eM p<=4194304)(U:lX p.length a=F):
  Calls Tryz.prog 93 #[.agg #[A],J I j,J I i] d λk H=>k=zR (zB (OF p x i a))/\Below d.heap.size d H:=by
 obtain⟨o,h⟩:=ag.1 m;obtain⟨q,g⟩:=ag.1 l;have H:x∈p:=h▸av o;have A:a∈x.ek:=g▸av q;have Z:=G x H;have E:=Z.2.2 a A;have:p.length<=4194304:=ap (fQ p) K;have G:gV x<=4194304:=ap (kE H) K;have X:fI a<=4194304:=ap (qz A) G;have:x.ek.length<=4194304:=ap (mO x) G;have T:a.args.length<=4194304:=by unfold fI at X;omega
 obtain⟨A,A,A,A,rfl,A,S,D⟩:=eN Y;obtain rfl:=S (eW o);obtain⟨A,A,e,R,t,y,B⟩:=D j o;rw[h]at e y B;obtain⟨j,j,j,j,rfl,j,V,r⟩:=eN B;obtain rfl:=V (eW q);obtain⟨j,j,j,C,s,aa,L,N,O,ab,ac⟩:=r i q;rw[g]at s L N O C;obtain⟨n,w,z⟩:=C;have P:=Ou n;obtain⟨i,i,i,i,rfl,_,_,_⟩:=eN n;obtain⟨i,i,i,i,rfl,_,_,_⟩:=eN w;obtain⟨i,i,i,i,rfl,_,_,_⟩:=eN z;clear n w z;have:=Oo e;have:=Oo s;have:=Ou h;have:=Ou g;have:=Ou m;have:=Ou l;have:=Ou r;clear D y h g m l r;go_in
 go_wp2_with fail;generalize c:(d.alloc _).alloc _=W;have b:=oK c;have:=(lD c).c0;have:=(gI c).c0;have:=(gI c).c1;have:=(gI c).c2;have:=(gI c).c3;have:=(gI c).c4;clear c;have f:=Oq b;have Q:=Ou f;have:=f _ _ e;have:=f _ _ t;clear f e R t s aa L N O ab ac;refine(Ai _ _ _ _ (fu Q P) E.2.1 T).mono ?_;rintro k c ⟨rfl,rfl⟩;go_wp2_with fail;refine(tY _ _ _ E.2.2.1).mono ?_;rintro k c ⟨rfl,rfl⟩
 by_cases c:a.slot<0
 .go_wp2;go_ret;exact⟨eC (qp (λa=>by omega)).symm,b⟩
 by_cases c:5<a.slot
 .go_wp2;go_ret;exact⟨eC (qp (λa=>by omega)).symm,b⟩
 by_cases c:3<a.args.length
 .go_wp2;go_ret;exact⟨eC (qp (λa=>by omega)).symm,b⟩
 cases u:a.args.all (gd p.length)
 .go_wp2;go_ret;exact⟨eC (qp (λa=>by rw[u]at a;exact bZ a.2.2.2.1)).symm,b⟩
 cases v:gd p.length a.ret
 .go_wp2;go_ret;exact⟨eC (qp (λa=>by rw[v]at a;exact bZ a.2.2.2.2.1)).symm,b⟩
 by_cases c:a.locals<1+a.args.length
 .go_wp2;go_ret;exact⟨eC (qp (λa=>by omega)).symm,b⟩
 by_cases c:8<a.locals
 .go_wp2;go_ret;exact⟨eC (qp (λa=>by omega)).symm,b⟩
 by_cases c:a.stack<0
 .go_wp2;go_ret;exact⟨eC (qp (λa=>by omega)).symm,b⟩
 by_cases c:8<a.stack
 .go_wp2;go_ret;exact⟨eC (qp (λa=>by omega)).symm,b⟩
 exact absurd (jw.2 ⟨by omega,by omega,by omega,u,v,by omega,by omega,by omega,by omega⟩) (by rw[U];exact bZ)
theorem L0(p ce)(c e:Nat)(x a b)(X:eQ b ce p)(y:ez p (c+1))(ar:p[c]? =M x)(an:x.ek[e]? =M a)(eK:je p)(z:eM p<=4194304)(a2:lX p.length a=K):
  Calls Tryz.prog 93 #[.agg #[ce],J I c,J I e] b λm r=>m=zR (zB (OF p x e a))/\Below b.heap.size b r:=by
 obtain⟨g5,g6,g7,hf,hg,g8,g9,ha,hc⟩:=jw.1 a2;have cf:=Ou a2;obtain⟨L,Y⟩:=ag.1 ar;obtain⟨Q,T⟩:=ag.1 an;have bs:x∈p:=Y▸av L;have a6:a∈x.ek:=T▸av Q;have eP:=eK x bs;have bo:=eP.2.2 a a6;have:p.length<=4194304:=ap (fQ p) z;have br:gV x<=4194304:=ap (kE bs) z;have ei:fI a<=4194304:=ap (qz a6) br;have:x.ek.length<=4194304:=ap (mO x) br;have a1:a.args.length<=4194304:=by unfold fI at ei;omega
 obtain⟨ft,u,B,E,rfl,hh,cz,es⟩:=eN X;obtain rfl:=cz (eW L);obtain⟨hJ,hN,D,ga,cp,d6,ba⟩:=es c L;rw[Y]at D d6 ba;obtain⟨hr,e7,e9,hw,rfl,hm,ec,a8⟩:=eN ba;obtain rfl:=ec (eW Q);obtain⟨hF,hH,hL,bc,b7,ho,e4,e5,e6,hp,hq⟩:=a8 e Q;rw[T]at b7 e4 e5 e6 bc;obtain⟨a0,j,d9⟩:=bc;have ab:=Ou a0;obtain⟨cm,f1,f4,cn,rfl,_,_,_⟩:=eN a0;obtain⟨gb,gf,gn,gl,rfl,_,_,_⟩:=eN j;obtain⟨gq,gx,g3,g1,rfl,_,_,_⟩:=eN d9;have a5:=Oo D;have:=Oo b7;have:=Ou Y;have:=Ou T;have ad:=Ou ar;have:=Ou an;have cg:=Ou a8;go_in
 go_wp2_with fail;generalize g:(b.alloc _).alloc _=W;have G:=oK g;have H:=(lD g).c0;have e1:=(gI g).c0;have e2:=(gI g).c1;have e3:=(gI g).c2;have:=(gI g).c3;have:=(gI g).c4;have q:=Oq G;have ak:=Ou q;have cu:=q _ _ D;have:=q _ _ cp;refine(Ai _ _ _ _ (fu ak ab) bo.2.1 a1).mono ?_;rintro m hP ⟨rfl,rfl⟩;go_wp2_with fail;refine(tY _ _ _ bo.2.2.1).mono ?_;rintro m C ⟨rfl,rfl⟩
 have:∀(b:Nat) (c:b<x.ek.length),C.cell? ⟨e7,e9+b*7,U⟩=M (J I x.ek[b].slot):=λb c=>by
  obtain⟨_,_,_,_,n,_⟩:=cg b c;exact ak _ _ n
 go_wp2
 go_loopw [11] (λf wr=>∃d:Nat,d<=e/\f=J I d/\(∀(b:Nat) (c:b<x.ek.length),b<d->x.ek[b].slot≠a.slot)/\∃A,wr=C.drewN A) (λf _=>e-(intOf f).toNat)
 case atStart=>exact ⟨0,az _,rfl,λb _ n=>absurd n (cW b),0,rfl⟩
 case round=>
  obtain⟨d,hl,rfl,en,A,rfl⟩:=hrel;have ac:=Ou en
  by_cases a5:d<e
  .have h:d<x.ek.length:=(by omega);have ds:(c:Int)<(p.length:Int):=(by omega);have:(d:Int)<(x.ek.length:Int):=(by omega)
   go_wp2
   go_quiet (fail)
   go_wp2
   .go_ret;have hx:x.ek[d].slot=a.slot:=(by simpa using ‹(x.ek[d].slot == a.slot)=K›);exact⟨eC (Jc h a5 hx).symm,below_drewN (below_drewN G _) _⟩
   .have hx:x.ek[d].slot≠a.slot:=(by simpa using ‹(x.ek[d].slot == a.slot)=F›)
    exact⟨⟨d+1,by omega,by go_num,λb c n=>by
     rcases bt b d with f | f
     .exact ac b c f
     .obtain rfl:b=d:=by omega
      exact hx,_,rfl⟩,by simp[intOf];omega⟩
  .have s:=Ou (head_eq (p:=p) (k:=e) cf λb c n=>ea ac b c (by omega));have w:Below b.heap.size b (C.drewN A):=below_drewN G _
   by_cases j:c=0
   .have dp:((c:Int) == 0)=K:=(by subst j;rfl);have bk:=Az (j▸y c x (by omega) ad);have:=Ou j
    go_wp2
    go_ret;refine⟨eC ?_,w⟩;rw[ea s];unfold ky;rw[sw p _ (by omega)]
   .have dp:((c:Int) == 0)=F:=(by simpa using j);have ds:(c:Int)<(p.length:Int):=(by omega);have:=fp c;have bk:=vG (by omega) (y c x (by omega) ad);have er:=eA (Oq w) X;have ci:=Ou er;have:(C.drewN A).cell? ⟨b.heap.size,0,U⟩=M (O (M ⟨u,B,U⟩) p.length E):=(by simpa using H)
    go_wp2
    go_region_held3 (λr=>r.cell? ⟨b.heap.size,0,U⟩=M (O (M ⟨u,B,U⟩) p.length E)/\r.cell? ⟨u,B+c*3,U⟩=M (J I x.sup)/\r.cell? ⟨b.heap.size+1,0,U⟩=M (J I a.slot))
     (first | go_keep | (exact⟨Oq h _ _ (by simpa using H),Oq h _ _ (by simpa using cu),Oq h _ _ (by simpa using e1)⟩))
     (first | ((go_at_call 116;refine(vj p _ (c+1) _ _ _ (eA (Oq ((ay _ _).drew)) ci) y (by omega) (by omega) (by omega) z).mono ?_);rintro m f ⟨rfl,h⟩))
    have o:Below b.heap.size b f:=w.drew.trans (h.mono (by simpa using w.size));have:f.cell? ⟨b.heap.size,0,U⟩=M (O (M ⟨u,B,U⟩) p.length E):=Oq h _ _ (by simpa using H);have eS:f.cell? ⟨b.heap.size+1,1,U⟩=M (O cm a.args.length cn):=Oq h _ _ (by simpa using e2);have e0:f.cell? ⟨b.heap.size+1,2,U⟩=M (J I a.ret):=Oq h _ _ (by simpa using e3);have q:=Oq o
    cases i:fy p x.sup a.slot with
    | none =>
     have V:ky p x a=K:=(by unfold ky;rw[i]);have R:(jU p x.sup a.slot).1= -1:=(by unfold jU;rw[i]);have S:(jU p x.sup a.slot).2= -1:=(by unfold jU;rw[i]);have t:=Ou V;rw[R,S]
     go_wp2
     go_ret;exact⟨eC (by rw[ea s,ea t]),o⟩
    | some eR =>
     obtain⟨b5,b6⟩:=eR;obtain⟨cs,d0⟩:=ax bk.1;obtain⟨aa,l,bz,be,hk,_⟩:=wX p y a.slot cs (by omega) (by rw[<-d0];exact i);have V:ky p x a=(l.args == a.args && l.ret == a.ret):=(by unfold ky mh;rw[i];simp only[bz,au,be]);have R:(jU p x.sup a.slot).1=b5:=(by unfold jU;rw[i]);have S:(jU p x.sup a.slot).2=b6:=(by unfold jU;rw[i]);have t:=Ou V;rw[R,S];obtain⟨N,bI⟩:=ag.1 bz;obtain⟨P,bf⟩:=ag.1 be;have bM:gV aa<=4194304:=ap (kE (bI▸av N)) z;have ep:fI l<=4194304:=ap (qz (bf▸av P)) bM;have eo:l.args.length<=4194304:=(by unfold fI at ep;omega);have:aa.ek.length<=4194304:=ap (mO aa) bM;obtain⟨_,f9,hC,_,d1,_,cA,et⟩:=eN X;have d2:=cA (eW N)
     injection d1 with a3 hi hj
     rw[d2]at a3
     injection a3 with d3
     injection d3 with d4 d5
     subst d4 d5;obtain⟨hK,hO,hD,hE,fo,fs,ca⟩:=(et b5 N).keep q;rw[bI]at fs ca;obtain⟨hu,hv,hz,hy,rfl,hn,eg,ej⟩:=eN ca;obtain rfl:=eg (eW P);obtain⟨hG,hI,hM,⟨Z,cb,cc⟩,b8,hA,fa,fc,fn,b9,hB⟩:=ej b6 P;rw[bf]at b8 fa fc fn Z cb cc;have ck:=Ou Z;obtain⟨f0,f2,f6,f3,rfl,_,_,_⟩:=eN Z;obtain⟨gc,gk,gp,gm,rfl,_,_,_⟩:=eN cb;obtain⟨gs,g0,g4,g2,rfl,_,_,_⟩:=eN cc;have:=Oo fo;have:=Oo b8;have bn:=o.size;have:=Oo eS;go_wp2_with fail;generalize ao:f.alloc _=w4;have v:Below f.heap.size f w4:=(by rw[<-ao];exact ev _ _);have:w4.cell? ⟨f.heap.size,2,U⟩=M (J I l.ret):=(by rw[<-ao];exact jM _ _ _ 2);have:=Oq v _ _ e0;refine(L9 _ _ _ _ _ (fu (Oq v) ck) (fu (Oq (o.trans (v.mono bn))) ab) eo a1).mono ?_;rintro m hQ ⟨rfl,b9,rfl⟩;have a4:Below b.heap.size b (w4.drewN b9):=below_drewN (o.trans (v.mono bn)) _
     cases bh:(l.args == a.args)
     .go_wp2
      go_ret;exact⟨eC (by rw[ea s,ea t,bh];rfl),a4⟩
     .go_wp2
      go_ret;exact⟨eC (by rw[ea s,ea t,bh];simp),a4⟩
theorem LY(p e)(b c:Nat)(x d a)(i:eQ a e p)(l:ez p (b+1))(g:p[b]? =M x)(f:x.ek[c]? =M d)(j:je p)(k:eM p<=4194304):
  Calls Tryz.prog 93 #[.agg #[e],J I b,J I c] a λh m=>h=zR (zB (OF p x c d))/\Below a.heap.size a m:=by
 cases h:lX p.length d
 .exact LZ p e b c x d a i g f j k h
 .exact L0 p e b c x d a i l g f j k h
def mx (p:On)(c:Nat):Bool:=match p[c]? with
 | none => K
 | some x => kC c x
theorem xV{p a x}(b:p[a]? =M x):mx p a=kC a x:=by unfold mx;rw[b]
theorem qg{b a d}(f:fR b a=d)(c):Calls Tryz.prog 182 #[J I b,J I a] c λe g=>e=zR (zB d)/\g=c:=f▸G9 b a c
theorem xy{b a}:(List.range (a+1)).all b=((List.range a).all b && b a):=by
 rw[dl,bR,cX,List.all_nil,dy]
theorem sG{f a b}(d:a<b)(c:f a=F):(List.range b).all f=F:=by
 rw[cx];exact⟨a,bw.2 d,by simp[c]⟩
theorem G7(p v c)(E:eQ c v p)(G:eM p<=4194304):
  Calls Tryz.prog 128 #[.agg #[v]] c λi k=>i=zR (zB ((List.range p.length).all (mx p)))/\Below c.heap.size c k:=by
 have v:p.length<=4194304:=ap (fQ p) G;obtain⟨v,v,v,v,rfl,v,z,v⟩:=eN E;have w:=Ou v;go_in
 go_wp2
 generalize v:c.alloc _=W;have q:Below c.heap.size c W:=v▸ev _ _
 go_loopw [8] (λb wr=>∃a:Nat,a<=p.length/\b=J I a/\(List.range a).all (mx p)=K/\Below W.heap.size W wr) (λb _=>p.length-(intOf b).toNat)
 case atStart=>exact ⟨0,az _,rfl,rfl,ay _ _⟩
 case round=>
  obtain⟨a,v,rfl,v,j⟩:=hrel;have g:=Ou v;have f:Below c.heap.size c wr:=q.trans (j.mono q.size)
  by_cases d:a<p.length
  .obtain rfl:=z (eW d);obtain⟨c,c,y,c,c,C,D⟩:=(w a d).keep (Oq f);have l:=Ou (ae d);generalize p[a]=x at *;obtain⟨m,_,_,n,rfl,_⟩:=C;obtain⟨t,_,_,u,rfl,_⟩:=D;have c:=Oo y;have s:=f.trans ((ev wr (zC #[J I x.sup,O m x.fields.length n,O t x.ek.length u] 66)).mono f.size);have r:=j.trans ((ev wr (zC #[J I x.sup,O m x.fields.length n,O t x.ek.length u] 66)).mono j.size)
   rcases dc a with e | e
   .have A:((a:Int) == 0)=K:=(by subst e;rfl);have B:¬(0:Int)<(a:Int):=(by omega);have HS:=Ou (show mx p a=(x.sup == -1) by rw[xV l.out];unfold kC;rw[am e]);clear e
    cases b:(x.sup == -1)
    .have o:(x.sup != -1)=K:=(by unfold bne;rw[b];rfl);clear b;have h:=Ou (show (List.range p.length).all (mx p)=F from sG d (by rw[ea HS];simpa using o))
     go_wp2
     go_ret;exact⟨eC h.symm,s⟩
    .have o:(x.sup != -1)=F:=(by unfold bne;rw[b];rfl);go_wp2_with fail;exact⟨⟨a+1,by omega,by go_num,by rw[xy,ea g,ea HS,b];rfl,r⟩,by simp[intOf];omega⟩
   .have A:((a:Int) == 0)=F:=(by simpa using (by omega:a≠0));have B:(0:Int)<(a:Int):=(by omega);have HS:=Ou (show mx p a=fR x.sup a by rw[xV l.out];unfold kC fR;rw[af (by omega)])
    cases b:fR x.sup a
    .have h:=Ou (show (List.range p.length).all (mx p)=F from sG d (by rw[ea HS,b]));go_wp2_with (go_at_call 182;refine(qg b _).mono ?_;rintro i k ⟨rfl,rfl⟩)
     go_ret;exact⟨eC h.symm,s⟩
    .go_wp2_with (go_at_call 182;refine(qg b _).mono ?_;rintro i k ⟨rfl,rfl⟩)
     exact⟨⟨a+1,by omega,by go_num,by rw[xy,ea g,ea HS,b];rfl,r⟩,by simp[intOf];omega⟩
  .go_wp2
   go_ret;have:a=p.length:=by omega
   subst this;exact⟨eC g.symm,f⟩
theorem yR{p b e}(g:b.all (gd p.length)=e)(d c a)(i:eQ a d p)(j:p.length<=4194304)(h:eG 1 (gF a) c b)(l:∀x∈b,I64 x)(k:b.length<=4194304):
  Calls Tryz.prog 184 #[.agg #[d],c] a λf m=>f=zR (zB e)/\Below a.heap.size a m:=g▸GB p d b c a i j h l k
theorem rV {b:Nat}{a:eh}(c:¬(0<=a.slot/\a.slot<=5/\a.args.length<=3/\a.args.all (gd b)=K/\gd b a.ret=K/\1+a.args.length<=a.locals/\a.locals<=8/\0<=a.stack/\a.stack<=8)):lX b a=F:=cw.2 (λa=>c (jw.1 a))
theorem lh{a b}:fR a b=K↔0<=a/\a<b:=by unfold fR;simp
theorem DS{a c}(b:fR a c=F):¬(0<=a/\a<c):=λa=>by rw[lh.2 a]at b;cases b
theorem GN(p D a C E F g)(A:eQ g D p)(e:lR g a C E F)(K:eM p<=4194304)(J:fI a<=4194304)(n:pQ a):
  Calls Tryz.prog 185 #[.agg #[D],fB a C E F] g λb h=>b=zR (zB (lX p.length a))/\Below g.heap.size g h:=by
 have m:p.length<=4194304:=ap (fQ p) K;have y:a.args.length<=4194304:=by unfold fI at J;omega
 have H:=Ou A;have G:=Ou e;obtain⟨C,_,_,C,rfl,_⟩:=A;obtain⟨⟨A,_,_,A,rfl,_⟩,⟨A,_,_,A,rfl,_⟩,⟨A,_,_,A,rfl,_⟩⟩:=e;unfold fB;go_in
 go_wp2_with fail;generalize e:(g.alloc _).alloc _=W;have c:=oK e;have z:=(lD e).c0;have o:=(gI e).c1;have B:=(gI e).c2;have q:=(gI e).c3;have r:=(gI e).c4;have d:=eA (Oq c) H;have x:=fu (Oq c) G.1
 cases s:fR a.slot 6
 .refine (qg s _).mono ?_;rintro b h ⟨rfl,rfl⟩;go_wp2;go_ret;exact⟨eC (rV λa=>DS s (by omega)).symm,c⟩
 refine(qg s _).mono ?_;rintro b h ⟨rfl,rfl⟩
 by_cases e:3<a.args.length
 .go_wp2;go_ret;exact⟨eC (rV λa=>by omega).symm,c⟩
 go_wp2_with fail;have I:=Ou d
 cases t:a.args.all (gd p.length)
 .refine (yR t _ _ _ d m x n.2.1 y).mono ?_;rintro b L ⟨rfl,i⟩;go_wp2;go_ret;exact⟨eC (rV λa=>by rw[t]at a;exact bZ a.2.2.2.1).symm,c.trans (i.mono c.size)⟩
 refine(yR t _ _ _ d m x n.2.1 y).mono ?_;rintro b L ⟨rfl,i⟩;have f:=Oq i;replace o:=f _ _ o;replace B:=f _ _ B;replace q:=f _ _ q;replace r:=f _ _ r;replace z:=f _ _ z;replace d:=eA f I;have k:=c.trans (i.mono c.size);go_wp2_with fail
 cases u:gd p.length a.ret
 .refine (tq u _ _ d n.2.2.1 m).mono ?_;rintro b M ⟨rfl,j⟩;go_wp2;go_ret;exact⟨eC (rV λa=>by rw[u]at a;exact bZ a.2.2.2.2.1).symm,k.trans (j.mono k.size)⟩
 refine(tq u _ _ d n.2.2.1 m).mono ?_;rintro b M ⟨rfl,j⟩;have w:=Oq j;replace o:=w _ _ o;replace q:=w _ _ q;replace r:=w _ _ r;have l:=k.trans (j.mono k.size)
 by_cases c:(a.args.length:Int)<a.locals
 .by_cases c:a.locals<=8
  .go_wp2_with fail
   cases v:fR a.stack 9
   .refine (qg v _).mono ?_;rintro b h ⟨rfl,rfl⟩;go_wp2;go_ret;exact⟨eC (rV λa=>DS v (by omega)).symm,l⟩
   .refine (qg v _).mono ?_;rintro b h ⟨rfl,rfl⟩;go_wp2;go_ret;have:=lh.1 s;have:=lh.1 v;exact⟨eC (jw.2 ⟨by omega,by omega,by omega,t,u,by omega,by omega,by omega,by omega⟩).symm,l⟩
  .go_wp2;go_ret;exact⟨eC (rV λa=>by omega).symm,l⟩
 .go_wp2;go_ret;exact⟨eC (rV λa=>by omega).symm,l⟩
theorem eZ(a:World)(b):a.drew.frozen? b=a.frozen? b:=rfl
attribute [local go_sem] eZ
theorem kF{a b e f g x h i}(c:a.cell? e=M x/\a.cell? f=M h/\a.cell? g=M i)(d:Below a.heap.size a b):b.cell? e=M x/\b.cell? f=M h/\b.cell? g=M i:=
 ⟨Oq d _ _ c.1,Oq d _ _ c.2.1,Oq d _ _ c.2.2⟩
theorem jL{a b}(c:Below a.drew.heap.size a.drew b):Below a.heap.size a b:=(ay a.heap.size a).drew.trans c
theorem wd{a}(b):Below a.heap.size a (a.alloc b).drew:=(ev a b).drew
theorem yK{a}(b):Below a.heap.size a (a.drew.alloc b):=(ay a.heap.size a).drew.alloc (ai _) _
theorem oI{a c b}(d:Below (a.alloc b).drew.heap.size (a.alloc b).drew c):Below a.heap.size a c:=(wd b).trans (d.mono (by simp))
theorem pY{c d l a}(m:Below c d l)(b:c<=a)(e f g h i j k):
  Below c d (((((((l.setCell ⟨a,0,U⟩ e).setCell ⟨a,1,U⟩ f).setCell ⟨a,2,U⟩ g).setCell ⟨a,3,U⟩ h).setCell ⟨a,4,U⟩ i).setCell ⟨a,5,U⟩ j).setCell ⟨a,6,U⟩ k):=
 ((((((m.setCell b e).setCell b f).setCell b g).setCell b h).setCell b i).setCell b j).setCell b k
theorem zO{p b c}(a:mh p b=M c)(e:eM p<=4194304):c.args.length<=4194304:=by
 unfold mh at a
 cases hx:p[b.1]? with
 | none => rw[hx]at a; cases a
 | some b =>
  rw[hx]at a;have:=kE (aB hx);have d:=qz (aB a);unfold fI at d;omega
theorem yO{b a k d e f g h i j}(c:ed b a k [d,e,f,g,h,i,j]):
  (b.cell? ⟨a,0,U⟩=M d/\b.cell? ⟨a,1,U⟩=M e/\b.cell? ⟨a,2,U⟩=M f/\b.cell? ⟨a,3,U⟩=M g/\b.cell? ⟨a,4,U⟩=M h/\b.cell? ⟨a,5,U⟩=M i/\b.cell? ⟨a,6,U⟩=M j)/\
  (b.frozen? ⟨a,0,U⟩=F/\b.frozen? ⟨a,1,U⟩=F/\b.frozen? ⟨a,2,U⟩=F/\b.frozen? ⟨a,3,U⟩=F/\b.frozen? ⟨a,4,U⟩=F/\b.frozen? ⟨a,5,U⟩=F/\b.frozen? ⟨a,6,U⟩=F):=
 ⟨⟨c.cell 0,c.cell 1,c.cell 2,c.cell 3,c.cell 4,c.cell 5,c.cell 6⟩,c.frozen 0,c.frozen 1,c.frozen 2,c.frozen 3,c.frozen 4,c.frozen 5,c.frozen 6⟩
theorem Br{a d:World}{b c}(e:Below (a.alloc (zC b c)).drew.heap.size (a.alloc (zC b c)).drew d):ed d a.heap.size c b.toList:=
 ed.below (w:=(a.alloc (zC b c)).drew) (Oz a b c) e (by simp)
theorem GZ(p a0)(k:Nat)(x b ar a1 a2 j)(ab:eQ j a0 p)(ac:ez p p.length)(N:p[k]? =M x)(aa:lR j b ar a1 a2)(B:eM p<=4194304)(ba:fI b<=4194304):
  Calls Tryz.prog 187 #[.agg #[a0],J I k,fB b ar a1 a2] j λA z=>A=zR (zB (ky p x b))/\Below j.heap.size j z:=by
 have:p.length<=4194304:=ap (fQ p) B;have Y:b.args.length<=4194304:=by unfold fI at ba;omega
 obtain⟨R,bf⟩:=ag.1 N;have a3:=Ou ab;have X:=Ou aa;obtain⟨d0,an,ao,br,rfl,_,bc,be⟩:=eN ab;obtain rfl:=bc (eW R);obtain⟨⟨bz,_,_,bM,rfl,_⟩,⟨b7,_,_,b8,rfl,_⟩,⟨ci,_,_,ck,rfl,_⟩⟩:=aa;obtain⟨d1,d2,G,b5,b6,dp,ds⟩:=be k R;rw[bf]at G;have:=my (ac k x R N);have:(k:Int)<(p.length:Int):=by omega
 have:=fp k;have:=Ou N;have:=Oo G;unfold fB;go_in
 go_wp2_with fail;generalize r:(j.alloc _).alloc _=W;have q:=oK r;have a8:=(lD r).c0;have bn:=(gI r).c0;have ad:=(gI r).c1;have ak:=(gI r).c2;have a6:=Oq q _ _ G;have a4:=Ou (eA (Oq q) a3);have d:=Ou (aq a8 (aq a6 bn))
 go_region_held3 (λz=>z.cell? ⟨j.heap.size,0,U⟩=M (O (M ⟨an,ao,U⟩) p.length br)/\z.cell? ⟨an,ao+k*3,U⟩=M (J I x.sup)/\z.cell? ⟨j.heap.size+1,0,U⟩=M (J I b.slot))
  (first
    | with_reducible exact kF d.out (pY (oI o.out) (ai _) _ _ _ _ _ _ _).drew.drew
    | with_reducible exact kF d.out (pY (oI o.out) (ai _) _ _ _ _ _ _ _).drew
    | with_reducible exact kF d.out (pY (oI o.out) (ai _) _ _ _ _ _ _ _)
    | with_reducible exact kF d.out (jL i)
    | with_reducible exact kF d.out ((jL i).alloc (jL i).size _)
    | with_reducible exact kF d.out (oI o.out)
    | with_reducible exact kF d.out (pY (oI o.out) (ai _) _ _ _ _ _ _ _)
    | with_reducible exact kF d.out (wd _)
    | with_reducible exact kF d.out (yK _)
    | (with_reducible exact d.out)
    | go_keep)
  (first | ((go_at_call 109;refine(tm p _ p.length _ _ W _ a4.out ?_ ac (ai _) (by omega) (by omega) B).mono ?_);(first | with_reducible exact(ay _ _).drew | with_reducible exact wd _ | with_reducible exact yK _);rintro A C ⟨a,m,u,w,n,v,y,rfl,Q,i⟩;(first | (have V:=Br i;obtain⟨⟨b9,ca,cb,cc,ce,cf,cg⟩,cm,cn,cp,cs,cu,cz,cA⟩:=yO V;have a5:=Ou V;have o:=Ou i;have D:=Ou Q;clear V i Q;skip) | skip)))
 .have c:=(jL i).alloc (jL i).size (zC #[J I a.slot,O m a.args.length n,J I a.ret,J I a.locals,J I a.stack,O u a.code.length v,O w a.frames.length y] 63);have g:=jM C #[J I a.slot,O m a.args.length n,J I a.ret,J I a.locals,J I a.stack,O u a.code.length v,O w a.frames.length y] 63 1;have h:=jM C #[J I a.slot,O m a.args.length n,J I a.ret,J I a.locals,J I a.stack,O u a.code.length v,O w a.frames.length y] 63 2;generalize C.alloc _=Z at c g h ⊢;generalize C.heap.size=bI at g h ⊢;have D:=Ou Q;replace g:Z.cell? ⟨bI,1,U⟩=M (O m a.args.length n):=g;replace h:Z.cell? ⟨bI,2,U⟩=M (J I a.ret):=h;have f:=q.trans (c.mono q.size);have bh:=Oq c _ _ ad;have bk:=Oq c _ _ ak;have P:=Ou c
  cases l:fy p x.sup b.slot with
  | none =>
   have e:=Ou (show ky p x b=K by unfold ky;rw[l]);go_wp2;go_ret;exact⟨eC e.symm,f⟩
  | some H =>
   obtain⟨s,S⟩:=D.out H l;have e:=Ou (show ky p x b=(a.args == b.args && a.ret == b.ret) by unfold ky;rw[l];simp only[s]);have T:a.args.length<=4194304:=zO s B;have E:=Ou (fu (Oq P.out) S.1);have F:=Ou (fu (Oq f) X.1);go_wp2_with fail;refine(BP _ _ _ _ _ E F T Y).mono ?_;rintro A bs ⟨rfl,bo,rfl⟩
   cases t:(a.args == b.args)
   .go_wp2;go_ret;exact⟨eC (by rw[ea e,t];rfl),below_drewN f _⟩
   .go_wp2;go_ret;exact⟨eC (by rw[ea e,t];rfl),below_drewN f _⟩
 .have c:=pY (oI o.out) (ai _) (J I a.slot) (O m a.args.length n) (J I a.ret) (J I a.locals) (J I a.stack) (O u a.code.length v) (O w a.frames.length y);have L:=xu a5 (J I a.slot) (O m a.args.length n) (J I a.ret) (J I a.locals) (J I a.stack) (O u a.code.length v) (O w a.frames.length y);unfold tU at L;have g:=L.cell 1;have h:=L.cell 2;generalize World.setCell _ _ _=Z at c g h ⊢;replace g:Z.cell? ⟨W.heap.size,1,U⟩=M (O m a.args.length n):=g;replace h:Z.cell? ⟨W.heap.size,2,U⟩=M (J I a.ret):=h;have f:=q.trans (c.mono q.size);have bh:=Oq c _ _ ad;have bk:=Oq c _ _ ak;have P:=Ou c;generalize W.heap.size=bI at g h ⊢
  cases l:fy p x.sup b.slot with
  | none =>
   have e:=Ou (show ky p x b=K by unfold ky;rw[l]);go_wp2;go_ret;exact⟨eC e.symm,f⟩
  | some H =>
   obtain⟨s,S⟩:=D.out H l;have e:=Ou (show ky p x b=(a.args == b.args && a.ret == b.ret) by unfold ky;rw[l];simp only[s]);have T:a.args.length<=4194304:=zO s B;have E:=Ou (fu (Oq P.out) S.1);have F:=Ou (fu (Oq f) X.1);go_wp2_with fail;refine(BP _ _ _ _ _ E F T Y).mono ?_;rintro A bs ⟨rfl,bo,rfl⟩
   cases t:(a.args == b.args)
   .go_wp2;go_ret;exact⟨eC (by rw[ea e,t];rfl),below_drewN f _⟩
   .go_wp2;go_ret;exact⟨eC (by rw[ea e,t];rfl),below_drewN f _⟩
theorem jm{h a d g e i k v}(j){m f b c}(s:a[i]? =M k)(q:k.dst=j)(u:Region.noSelect a=K)(r:Region.free g a f i=K)(t:(Region.ready g a f).contains i=K)(o:∀l b c,d (.panic l) (b.put j v) c->d (.panic l) b c)(w:YieldsIf h a e k v b)(p:e c)(n:wpAnyH h g a d e m (f.setIfInBounds i K) (b.put j v) c):wpAnyH h g a d e (m+1) f b c:=by
 subst q;exact wpAnyH_take s u r t o w p n
theorem Fb {j:Program}{a:Array Oper}{d:Exit->Act->World->Prop}{i:Region.Mode}{e:World->Prop}{l:Oper}{m:Value}(f:Option Tmp)(g:Nat){p:Nat}{h:Array Bool}{b n:Act}{c:World}(w:a[g]? =M l)(u:l.dst=f)
  (k:wpAnyH j i a d e p (h.setIfInBounds g K) n c)
  (y:Region.noSelect a=K:=by kernel_rfl) (v:Region.free i a h g=K:=by kernel_rfl) (x:(Region.ready i a h).contains g=K:=by kernel_rfl)
  (z:YieldsIf j a e l m b:=by exact dd ⟨by rfl,by intro A s;(try dsimp only at s);go_simp;all_goals with_reducible rfl⟩)
  (t:b.put f m=n:=by (try simp only[Act.put,aG,bi,bq]);rfl)
  (q:∀o b c,d (.panic o) (b.put f m) c->d (.panic o) b c:=by exact λ_ _ _ k=>k) (r:e c:=by assumption):wpAnyH j i a d e (p+1) h b c:=
 jm f w u y v x q z r (t▸k)
theorem dZ {j:Program}{a:Array Oper}{d:Exit->Act->World->Prop}{h:Region.Mode}{e:World->Prop}{l:Oper}{m:Value}(i:Tmp)(f:Nat){p:Nat}{g:Array Bool}{b n:Act}{c:World}
  (k:wpAnyH j h a d e p (g.setIfInBounds f K) n c) (w:a[f]? =M l:=by rfl) (u:l.dst=M i:=by rfl)
  (y:Region.noSelect a=K:=by kernel_rfl) (v:Region.free h a g f=K:=by kernel_rfl) (x:(Region.ready h a g).contains f=K:=by kernel_rfl)
  (z:YieldsIf j a e l m b:=by exact dd ⟨by rfl,by intro A s;(try dsimp only at s);go_simp;all_goals with_reducible rfl⟩)
  (t:b.put (M i) m=n:=by (try simp only[Act.put,aG,bi,bq]);rfl)
  (q:∀o b c,d (.panic o) (b.put (M i) m) c->d (.panic o) b c:=by exact λ_ _ _ k=>k) (r:e c:=by assumption):wpAnyH j h a d e (p+1) g b c:=
 jm (M i) w u y v x q z r (t▸k)
theorem eL {j:Program}{a:Array Oper}{d:Exit->Act->World->Prop}{h:Region.Mode}{e:World->Prop}{l:Oper}(i:Tmp)(f:Nat){o:Nat}{g:Array Bool}{b m:Act}{c:World}
  (k:wpAnyH j h a d e o (g.setIfInBounds f K) m c) (u:a[f]? =M l:=by rfl) (s:l.dst=M i:=by rfl)
  (w:Region.noSelect a=K:=by kernel_rfl) (t:Region.free h a g f=K:=by kernel_rfl) (v:(Region.ready h a g).contains f=K:=by kernel_rfl)
  (x:YieldsIf j a e l undef b:=by exact Or.inr ⟨by rfl,rfl⟩)
  (r:b.put (M i) undef=m:=by (try simp only[Act.put,aG,bi,bq]);rfl)
  (p:∀n b c,d (.panic n) (b.put (M i) undef) c->d (.panic n) b c:=by exact λ_ _ _ k=>k) (q:e c:=by assumption):wpAnyH j h a d e (o+1) g b c:=
 jm (M i) u s w t v p x q (r▸k)
theorem el {g:Program}{c:Array Oper}{h:Exit->Act->World->Prop}{k:Region.Mode}{d:World->Prop}(i:Nat){e:Oper}{l:Nat}{j:Array Bool}{b:Act}{a:World}
  (m:∀f:Act->World->Prop,Shut (∀b a,d a->(d a->wpAnyH g k c h d l (j.setIfInBounds i K) b a)->f b a)->if Region.wanted e (yielded c b.tmps)=K then Oper.wp g e b a f h else f (b.put e.dst undef) a)
  (n:c[i]? =M e:=by rfl) (o:Region.ready k c j= [i]:=by kernel_rfl):wpAnyH g k c h d (l+1) j b a:=
 wpAnyH_ready o (by simp) (AllReadyH.cons n m AllReadyH.nil)
theorem iY {c:Program}{id:Nat}{a:Array Oper}{e:Exit->Act->World->Prop}{f:Act}{b:World}(d:World->Prop)(h:d b.drew)(g:d b.drew->wpAnyH c .any a e d a.size (Array.replicate a.size F) f b.drew)(i:c.follows .mixedOrders=K:=by kernel_rfl):(Code.region id a K).wp c e f b:=wp_region_held_drew i h g
theorem fk {c:Program}{id:Nat}{a:Array Oper}{e:Exit->Act->World->Prop}{f:Act}{b:World}(d:World->Prop)(h:d b.drew)(g:d b.drew->wpAnyH c .any a (NoPanic e) d a.size (Array.replicate a.size F) f b.drew)(i:c.follows .mixedOrders=K:=by kernel_rfl):(Code.region id a K).wp c e f b:=wp_region_noPanic (wp_region_held_drew i h g)
theorem ig {h:Program}{f:Array Oper}{a:Exit->Act->World->Prop}{e:Region.Mode}{i:World->Prop}{c:Nat}{d:Array Bool}{b:Act}{g:World}(j:a .normal b g)(k:Region.ready e f d= []:=by kernel_rfl):wpAnyH h e f a i c d b g:=wpAnyH_done k j c
theorem eV {h:Program}{f:Array Oper}{a:Exit->Act->World->Prop}{e:Region.Mode}{i:World->Prop}{c:Nat}{d:Array Bool}{b:Act}{g:World}(j:a .normal b g)(k:Region.ready e f d= []:=by kernel_rfl):wpAnyH h e f (NoPanic a) i c d b g:=wpAnyH_done k (NoPanic.normal j) c
theorem iu {f:Program}{c:Array Oper}{g:Exit->Act->World->Prop}{i:Region.Mode}{e:World->Prop}(m n:Nat){j k:Oper}{l:Nat}{h:Array Bool}{b:Act}{a:World}
  (o:∀d:Act->World->Prop,Shut (∀b a,e a->(e a->wpAnyH f i c g e l (h.setIfInBounds m K) b a)->d b a)->if Region.wanted j (yielded c b.tmps)=K then Oper.wp f j b a d g else d (b.put j.dst undef) a)
  (p:∀d:Act->World->Prop,Shut (∀b a,e a->(e a->wpAnyH f i c g e l (h.setIfInBounds n K) b a)->d b a)->if Region.wanted k (yielded c b.tmps)=K then Oper.wp f k b a d g else d (b.put k.dst undef) a)
  (q:c[m]? =M j:=by rfl) (r:c[n]? =M k:=by rfl) (s:Region.ready i c h= [m,n]:=by kernel_rfl):wpAnyH f i c g e (l+1) h b a:=
 wpAnyH_ready s (by simp) (AllReadyH.cons q o (AllReadyH.cons r p AllReadyH.nil))
theorem iz {j:Program}{a:Array Oper}{d:Exit->Act->World->Prop}{h:Region.Mode}{e:World->Prop}{l:Oper}(i:Tmp)(f:Nat)(m:Value){p:Nat}{g:Array Bool}{b n:Act}{c:World}
  (k:wpAnyH j h a d e p (g.setIfInBounds f K) n c) (w:a[f]? =M l:=by rfl) (u:l.dst=M i:=by rfl)
  (y:Region.noSelect a=K:=by kernel_rfl) (v:Region.free h a g f=K:=by kernel_rfl) (x:(Region.ready h a g).contains f=K:=by kernel_rfl)
  (z:YieldsIf j a e l m b:=by exact dd ⟨by rfl,λA s=>by (try dsimp only at s);go_simp⟩)
  (t:b.put (M i) m=n:=by (try simp only[Act.put,aG,bi,bq]);rfl)
  (q:∀o b c,d (.panic o) (b.put (M i) m) c->d (.panic o) b c:=by exact λ_ _ _ k=>k) (r:e c:=by assumption):wpAnyH j h a d e (p+1) g b c:=
 jm (M i) w u y v x q z r (t▸k)
theorem Ap{α :Type}(c:List α)(b a):c.toArray.setIfInBounds b a=(c.set b a).toArray:=aG c b a
theorem Ar{α :Type}{x b}{a: α}:(x::b).set 0 a=a::b:=rfl
theorem Aq{α :Type}{x c b}{a: α}:(x::c).set (b+1) a=x::c.set b a:=rfl
theorem AF{a b c d x g}(e:a.cell? c=M x/\a.cell? d=M g)(f:Below a.heap.size a b):b.cell? c=M x/\b.cell? d=M g:=
 ⟨Oq f _ _ e.1,Oq f _ _ e.2⟩
theorem GG(p N)(a:Nat)(x f)(t:eQ f N p)(H:ez p p.length)(q:p[a]? =M x)(ak:je p)(k:eM p<=4194304):
  Calls Tryz.prog 129 #[.agg #[N],J I a] f λj b=>j=zR (zB (decide ((OE p a).length<=8) && x.fields.all (gd p.length)))/\Below f.heap.size f b:=by
 have ad:p.length<=4194304:=ap (fQ p) k;obtain⟨s,u⟩:=ag.1 q;have K:x∈p:=u▸av s;have an:=(ak x K).2.1;have aa:x.fields.length<=4194304:=ap (rD x) (ap (kE K) k);have R:=Ou t;obtain⟨ar,l,m,L,rfl,_,ac,G⟩:=eN t;obtain rfl:=ac (eW s);obtain⟨a0,a1,y,z,V,r,ab⟩:=G a s;rw[u]at r;have P:=Ou r;obtain⟨A,_,_,B,rfl,_⟩:=r;have:(a:Int)<(p.length:Int):=by omega
 have:=fp a;have:=Ou q;have:=Oo y;clear q u G ab y V t;go_in
 go_wp2_with fail;generalize o:f.alloc _=W;have e:=qQ o;have Z:=(bx1 o).c0;clear o;have X:=Oq e _ _ z;clear z;have n:=Ou (eA (Oq e) R);have Q:=Ou (fu (Oq e) P);have h:=Ou (aq Z X)
 by_cases C:(OE p a).length<=8
 .have Y:((OE p a).length:Int)<=8:=by omega
  cases d:x.fields.all (gd p.length)
  all_goals
   go_region_held3 (λb=>b.cell? ⟨f.heap.size,0,U⟩=M (O (M ⟨l,m,U⟩) p.length L)/\b.cell? ⟨l,m+a*3+1,U⟩=M (O A x.fields.length B))
    (first
      | with_reducible exact AF h.out (jL (c.out.trans (w.out.mono c.out.size)))
      | with_reducible exact AF h.out (jL c.out)
      | go_keep)
    (first | ((go_at_call 183;refine(yS p _ p.length _ _ (eA (Oq ((ay _ _).drew)) n) H (ai _) (by omega) (by omega) k).mono ?_);rintro j ao ⟨rfl,g⟩;have c:=Ou g;clear g)
           | ((go_at_call 184; refine(yR d _ _ _ (eA (Oq (jL c.out)) n) ad (fu (Oq (jL c.out)) Q) an aa).mono ?_); rintro j a2 ⟨rfl, E⟩; have w := Ou E; clear E))
   go_wp2;go_ret;have D:=(jL c.out).trans (w.out.mono (jL c.out).size);exact⟨eC (by rw[decide_eq_true C,d];rfl),e.trans (D.mono e.size)⟩
 .have Y:decide (((OE p a).length:Int)<=8)=F:=by simp;omega
  refine wp_region_noPanic ?_;refine wp_region_held_drew (S:=(λb=>b.cell? ⟨f.heap.size,0,U⟩=M (O (M ⟨l,m,U⟩) p.length L)/\b.cell? ⟨l,m+a*3+1,U⟩=M (O A x.fields.length B))) (by kernel_rfl) ?_ (λhHeld=>?_)
  .exact h.out
  refine Fb (M 5) 0 rfl rfl ?_;refine Fb (M 6) 1 rfl rfl ?_;refine wpAnyH_ready (rs:= [2]) (by kernel_rfl) (by simp) ?_;refine AllReadyH.cons rfl (λT D=>?_) AllReadyH.nil;go_simp;refine(yS p _ p.length _ _ (eA (Oq ((ay _ _).drew)) n) H (ai _) (by omega) (by omega) k).mono ?_;rintro j ao ⟨rfl,g⟩;have c:=Ou g;clear g;go_wp2_with fail;refine D.out _ _ (AF h.out (jL c.out)) (λhHeld=>?_);clear D T;try simp only[Act.put,aG,bi,bq]
  refine jm (M 8) (i:=3) (v:=zB F) rfl rfl (by kernel_rfl) (by kernel_rfl) (by kernel_rfl) (λ_ _ _ a=>a) (dd ⟨by rfl,λb d=>by (try dsimp only at d);go_simp⟩) (by assumption) ?_;try simp only[Act.put,aG,bi,bq]
  refine jm (M 9) (i:=4) (v:=zB F) rfl rfl (by kernel_rfl) (by kernel_rfl) (by kernel_rfl) (λ_ _ _ a=>a) (dd ⟨by rfl,λb d=>by (try dsimp only at d);go_simp⟩) (by assumption) ?_;try simp only[Act.put,aG,bi,bq]
  refine jm (M 10) (i:=5) (v:=undef) rfl rfl (by kernel_rfl) (by kernel_rfl) (by kernel_rfl) (λ_ _ _ a=>a) (Or.inr ⟨by rfl,rfl⟩) (by assumption) ?_;try simp only[Act.put,aG,bi,bq]
  refine jm (M 11) (i:=6) (v:=undef) rfl rfl (by kernel_rfl) (by kernel_rfl) (by kernel_rfl) (λ_ _ _ a=>a) (Or.inr ⟨by rfl,rfl⟩) (by assumption) ?_;try simp only[Act.put,aG,bi,bq]
  refine jm (M 12) (i:=7) (v:=undef) rfl rfl (by kernel_rfl) (by kernel_rfl) (by kernel_rfl) (λ_ _ _ a=>a) (Or.inr ⟨by rfl,rfl⟩) (by assumption) ?_;try simp only[Act.put,aG,bi,bq]
  refine jm (M 13) (i:=8) (v:=undef) rfl rfl (by kernel_rfl) (by kernel_rfl) (by kernel_rfl) (λ_ _ _ a=>a) (Or.inr ⟨by rfl,rfl⟩) (by assumption) ?_;try simp only[Act.put,aG,bi,bq]
  refine jm (M 14) (i:=9) (v:=undef) rfl rfl (by kernel_rfl) (by kernel_rfl) (by kernel_rfl) (λ_ _ _ a=>a) (Or.inr ⟨by rfl,rfl⟩) (by assumption) ?_;try simp only[Act.put,aG,bi,bq]
  refine jm (M 15) (i:=10) (v:=undef) rfl rfl (by kernel_rfl) (by kernel_rfl) (by kernel_rfl) (λ_ _ _ a=>a) (Or.inr ⟨by rfl,rfl⟩) (by assumption) ?_;try simp only[Act.put,aG,bi,bq]
  refine jm (M 16) (i:=11) (v:=undef) rfl rfl (by kernel_rfl) (by kernel_rfl) (by kernel_rfl) (λ_ _ _ a=>a) (Or.inr ⟨by rfl,rfl⟩) (by assumption) ?_;try simp only[Act.put,aG,bi,bq]
  refine jm (M 17) (i:=12) (v:=undef) rfl rfl (by kernel_rfl) (by kernel_rfl) (by kernel_rfl) (λ_ _ _ a=>a) (Or.inr ⟨by rfl,rfl⟩) (by assumption) ?_;try simp only[Act.put,aG,bi,bq]
  refine jm (M 18) (i:=13) (v:=zB F) rfl rfl (by kernel_rfl) (by kernel_rfl) (by kernel_rfl) (λ_ _ _ a=>a) (dd ⟨by rfl,λb d=>by (try dsimp only at d);go_simp⟩) (by assumption) ?_;try simp only[Act.put,aG,bi,bq]
  refine jm (M 4) (i:=14) (v:=zB F) rfl rfl (by kernel_rfl) (by kernel_rfl) (by kernel_rfl) (λ_ _ _ a=>a) (dd ⟨by rfl,λb d=>by (try dsimp only at d);go_simp⟩) (by assumption) ?_;try simp only[Act.put,aG,bi,bq]
  refine wpAnyH_done (by kernel_rfl) ?_ _;refine NoPanic.normal ?_
  all_goals
   go_wp2;go_ret;exact⟨eC (by rw[decide_eq_false C];rfl),e.trans ((jL c.out).mono e.size)⟩
def ql (p:On)(x:eb)(k:Nat):Bool:=match x.ek[k]? with
 | none => K
 | some m => OF p x k m
theorem wR{p x a b}(c:x.ek[a]? =M b):ql p x a=OF p x a b:=by unfold ql;rw[c]
theorem EC{α h f b o c}{e:List α}(l:eG h f (O b o c) e){d}(q:d<=e.length):eG h f (O b d c) (e.take d):=by
 obtain⟨d,i,p,d,m,d,g,n⟩:=l
 injection m with j d k
 subst j k;refine⟨b,i,p,c,by rw[aR];congr 1;omega,by rw[aR];omega,⟨λb=>g.1 (λa=>b (by rw[a];simp)),g.2.imp_right (λb=>b.imp_right λa=>⟨by rw[a.1,List.take_nil],a.2⟩)⟩,λc b a=>n c b ?_⟩;rw[bj]at a
 split at a
 .exact a
 .cases a
theorem yV{p a g}(i:lX p.length a=g)(d c e f b)(l:eQ b d p)(j:lR b a c e f)(n:eM p<=4194304)(k:fI a<=4194304)(m:pQ a):
  Calls Tryz.prog 185 #[.agg #[d],fB a c e f] b λh o=>h=zR (zB g)/\Below b.heap.size b o:=i▸GN p d a c e f b l j n k m
theorem BT{b c e}(g:(b.all λj=> !(j.slot == c))=e)(d a)(h:eG 7 (sV a) d b)(i:b.length<=4194304):
  Calls Tryz.prog 186 #[d,J I c] a λf k=>f=zR (zB (!e))/\Below a.heap.size a k:=g▸GM b d c a h i
theorem G0{p x b h}(j:ky p x b=h)(e)(c:Nat)(d f g a)(n:eQ a e p)(o:ez p p.length)(k:p[c]? =M x)(l:lR a b d f g)(q:eM p<=4194304)(m:fI b<=4194304):
  Calls Tryz.prog 187 #[.agg #[e],J I c,fB b d f g] a λi r=>i=zR (zB h)/\Below a.heap.size a r:=j▸GZ p e c x b d f g a n o k l q m
theorem tu{a b d e f g h i j k l m n o p q r s}(c:a.cell? d=M l/\a.cell? e=M m/\a.cell? f=M n/\a.cell? g=M o/\a.cell? h=M p/\a.cell? i=M q/\a.cell? j=M r/\a.cell? k=M s)(t:Below a.heap.size a b):
  b.cell? d=M l/\b.cell? e=M m/\b.cell? f=M n/\b.cell? g=M o/\b.cell? h=M p/\b.cell? i=M q/\b.cell? j=M r/\b.cell? k=M s:=
 have a:=Oq t
 ⟨a _ _ c.1,a _ _ c.2.1,a _ _ c.2.2.1,a _ _ c.2.2.2.1,a _ _ c.2.2.2.2.1,a _ _ c.2.2.2.2.2.1,a _ _ c.2.2.2.2.2.2.1,a _ _ c.2.2.2.2.2.2.2⟩
theorem GW(p bo)(t:Nat)(x d)(ak:eQ d bo p)(cc:ez p p.length)(ab:p[t]? =M x)(ce:je p)(s:eM p<=4194304):
  Calls Tryz.prog 130 #[.agg #[bo],J I t] d λn a=>n=zR (zB (decide (x.ek.length<=6) && (List.range x.ek.length).all (ql p x)))/\Below d.heap.size d a:=by
 have en:p.length<=4194304:=ap (fQ p) s;obtain⟨ac,ao⟩:=ag.1 ab;have bk:x∈p:=ao▸av ac;have cf:=(ce x bk).2.2;have bh:gV x<=4194304:=ap (kE bk) s;have ej:x.ek.length<=4194304:=ap (mO x) bh;have bI:=Ou ak;obtain⟨et,L,P,N,rfl,_,cb,bf⟩:=eN ak;obtain rfl:=cb (eW ac);obtain⟨eR,e0,a2,b5,b6,b9,H⟩:=bf t ac;rw[ao]at H;have bz:=Ou H;obtain⟨ep,er,es,cs,rfl,ei,ca,be⟩:=eN H;have bs:=Ou be;have d4:(t:Int)<(p.length:Int):=by omega
 have d5:=fp t;have bM:=Ou ab;have eg:=Oo a2;clear ab ao bf H be a2 b5 b9 ak;go_in
 by_cases D:x.ek.length<=6
 .have b8:¬(6:Int)<(x.ek.length:Int):=by omega
  have q:=Ou (decide_eq_true D);clear D;go_wp2_with fail;generalize aa:d.alloc _=W;have l:=qQ aa;have a5:=(bx1 aa).c0;clear aa
  go_loopw [19] (λa wr=>∃c:Nat,c<=x.ek.length/\a=J I c/\(List.range c).all (ql p x)=K/\Below W.heap.size W wr) (λa _=>x.ek.length-(intOf a).toNat)
  case atStart=>exact ⟨0,az _,rfl,rfl,ay _ _⟩
  case round=>
   obtain⟨c,ba,rfl,a3,E⟩:=hrel;have ar:=Ou a3;clear a3;have a6:Below d.heap.size d wr:=eu l E
   by_cases o:c<x.ek.length
   .obtain rfl:=ca (eW o);obtain⟨eK,eP,eS,z,bn,cg,ci,ck,cm,cn,cp⟩:=(bs c o).keep (Oq a6);have a1:=Ou z;obtain⟨R,_,_,S,rfl,_⟩:=z.1;obtain⟨T,_,_,V,rfl,_⟩:=z.2.1;obtain⟨X,_,_,Y,rfl,_⟩:=z.2.2;have A:=Ou (ae o);have ad:=av o;have an:=cf _ ad;have G:fI x.ek[c]<=4194304:=ap (qz ad) bh;have ec:=Oo bn;have b7:=Oq E _ _ a5;clear z ad;generalize x.ek[c]=m at *;have d6:(c:Int)<=(cs:Int):=(by omega);have d9:=fp c;go_wp2_with fail;obtain⟨b,rfl⟩:∃b:World,b=wr:=⟨_,rfl⟩;generalize f:b.alloc _=Z;have g:Below W.heap.size W Z:=(by rw[<-f];exact E.trans ((ev _ _).mono E.size));have cz:=(bx1 f).c0;have cA:=(bx1 f).c1;have dp:=(bx1 f).c2;have ds:=(bx1 f).c3;have d0:=(bx1 f).c4;have d1:=(bx1 f).c5;have d2:=(bx1 f).c6;have cu:Z.cell? ⟨d.heap.size,0,U⟩=M (O (M ⟨L,P,U⟩) p.length N):=Oq g _ _ a5;have bc:Keeps b Z:=(by rw[<-f];exact kK _ _);clear f bn cg ci ck cm cn cp b7 b6;have a8:Below d.heap.size d Z:=eu l g;have B:=Ou (eA (Oq a8) bI);have C:=Ou (a1.keep bc);have a0:=Ou (pC (Oq a8) bz);have j:=Ou (aq cu (aq cz (aq cA (aq dp (aq ds (aq d0 (aq d1 d2)))))));clear bc a1
    cases w:lX p.length m
    .refine fk (λa=>a.cell? ⟨d.heap.size,0,U⟩=M (O (M ⟨L,P,U⟩) p.length N)/\a.cell? ⟨b.heap.size,0,U⟩=M (J I m.slot)/\a.cell? ⟨b.heap.size,1,U⟩=M (O R m.args.length S)/\a.cell? ⟨b.heap.size,2,U⟩=M (J I m.ret)/\a.cell? ⟨b.heap.size,3,U⟩=M (J I m.locals)/\a.cell? ⟨b.heap.size,4,U⟩=M (J I m.stack)/\a.cell? ⟨b.heap.size,5,U⟩=M (O T m.code.length V)/\a.cell? ⟨b.heap.size,6,U⟩=M (O X m.frames.length Y)) j.out λhHeld=>?_;refine jm (M 24) (i:=0) (v:=?_) rfl rfl (by kernel_rfl) (by kernel_rfl) (by kernel_rfl) (λ_ _ _ a=>a) (dd ⟨by rfl,?_⟩) (by assumption) ?_;rotate_left
     .intro a h;try dsimp only at h
      go_simp
      all_goals with_reducible rfl
     refine jm (M 25) (i:=1) (v:=?_) rfl rfl (by kernel_rfl) (by kernel_rfl) (by kernel_rfl) (λ_ _ _ a=>a) (dd ⟨by rfl,?_⟩) (by assumption) ?_;rotate_left
     .intro a h;try dsimp only at h
      go_simp
      all_goals with_reducible rfl
     refine el 2 (λQ r=>?_);go_simp;refine(yV w _ _ _ _ _ (eA (Oq ((ay _ _).drew)) B) (C.keep (Oq ((ay _ _).drew))) s G an).mono ?_;rintro n br ⟨rfl,k⟩;have e:=Ou (jL k);clear k;go_wp2_with fail;refine r.out _ _ (tu j.out e.out) (λu=>?_);clear r Q hHeld;refine jm (M 27) (i:=3) (v:=zB K) rfl rfl (by kernel_rfl) (by kernel_rfl) (by kernel_rfl) (λ_ _ _ a=>a) (dd ⟨by rfl,λa h=>by go_simp⟩) (by assumption) ?_;refine jm (M 28) (i:=4) (v:=zB K) rfl rfl (by kernel_rfl) (by kernel_rfl) (by kernel_rfl) (λ_ _ _ a=>a) (dd ⟨by rfl,λa h=>by go_simp⟩) (by assumption) ?_;refine eL 29 5 ?_;refine eL 30 6 ?_;refine eL 31 7 ?_;refine eL 32 8 ?_;refine eL 33 9 ?_;refine eL 34 10 ?_;refine jm (M 35) (i:=11) (v:=zB K) rfl rfl (by kernel_rfl) (by kernel_rfl) (by kernel_rfl) (λ_ _ _ a=>a) (dd ⟨by rfl,λa h=>by go_simp⟩) (by assumption) ?_;refine jm (M 36) (i:=12) (v:=zB K) rfl rfl (by kernel_rfl) (by kernel_rfl) (by kernel_rfl) (λ_ _ _ a=>a) (dd ⟨by rfl,λa h=>by go_simp⟩) (by assumption) ?_;refine eL 37 13 ?_;refine eL 38 14 ?_;refine eL 39 15 ?_;refine eL 40 16 ?_;refine eL 41 17 ?_;refine jm (M 42) (i:=18) (v:=zB K) rfl rfl (by kernel_rfl) (by kernel_rfl) (by kernel_rfl) (λ_ _ _ a=>a) (dd ⟨by rfl,λa h=>by go_simp⟩) (by assumption) ?_;refine eV ?_;go_wp2;go_ret;refine⟨eC ?_,l.trans ((g.trans (e.out.mono g.size)).mono l.size)⟩;rw[ea q,sG o (by rw[wR A.out];unfold OF;rw[w];rfl)]
     rfl
    .cases y:((x.ek.take c).all λa=> !(a.slot == m.slot))
     .refine fk (λa=>a.cell? ⟨d.heap.size,0,U⟩=M (O (M ⟨L,P,U⟩) p.length N)/\a.cell? ⟨b.heap.size,0,U⟩=M (J I m.slot)/\a.cell? ⟨b.heap.size,1,U⟩=M (O R m.args.length S)/\a.cell? ⟨b.heap.size,2,U⟩=M (J I m.ret)/\a.cell? ⟨b.heap.size,3,U⟩=M (J I m.locals)/\a.cell? ⟨b.heap.size,4,U⟩=M (J I m.stack)/\a.cell? ⟨b.heap.size,5,U⟩=M (O T m.code.length V)/\a.cell? ⟨b.heap.size,6,U⟩=M (O X m.frames.length Y)) j.out λhHeld=>?_;refine dZ 24 0 ?_;refine dZ 25 1 ?_;refine el 2 (λQ r=>?_);go_simp;refine(yV w _ _ _ _ _ (eA (Oq ((ay _ _).drew)) B) (C.keep (Oq ((ay _ _).drew))) s G an).mono ?_;rintro n br ⟨rfl,k⟩;have e:=Ou (jL k);clear k;go_wp2_with fail;refine r.out _ _ (tu j.out e.out) λhHeld=>?_;refine iz 27 3 (zB F) ?_;refine iz 28 4 (zB F) ?_;refine dZ 29 5 ?_;refine dZ 30 6 ?_;refine dZ 31 7 ?_;refine dZ 32 8 ?_;refine dZ 33 9 ?_;refine el 10 (λQ r=>?_);go_simp;refine(BT y _ _ (EC (pC (Oq e.out) a0) ba) (by rw[aR];omega)).mono ?_;rintro n d3 ⟨rfl,u⟩;have h:=Ou (e.out.trans (u.mono e.out.size));clear u;go_wp2_with fail;refine r.out _ _ (tu j.out h.out) λhHeld=>?_;refine iz 35 11 (zB K) ?_;refine iz 36 12 (zB K) ?_;refine eL 37 13 ?_;refine eL 38 14 ?_;refine eL 39 15 ?_;refine eL 40 16 ?_;refine eL 41 17 ?_;refine iz 42 18 (zB K) ?_;refine eV ?_
      all_goals
       go_wp2;go_ret;refine⟨eC ?_,l.trans ((g.trans (h.out.mono g.size)).mono l.size)⟩;rw[ea q,sG o (by rw[wR A.out];unfold OF;rw[y,bv,cD])]
       rfl
     .cases Q:ky p x m
      all_goals
       have eo:=y
       go_region_held3 (λa=>a.cell? ⟨d.heap.size,0,U⟩=M (O (M ⟨L,P,U⟩) p.length N)/\a.cell? ⟨b.heap.size,0,U⟩=M (J I m.slot)/\a.cell? ⟨b.heap.size,1,U⟩=M (O R m.args.length S)/\a.cell? ⟨b.heap.size,2,U⟩=M (J I m.ret)/\a.cell? ⟨b.heap.size,3,U⟩=M (J I m.locals)/\a.cell? ⟨b.heap.size,4,U⟩=M (J I m.stack)/\a.cell? ⟨b.heap.size,5,U⟩=M (O T m.code.length V)/\a.cell? ⟨b.heap.size,6,U⟩=M (O X m.frames.length Y))
        (first
          | with_reducible exact tu j.out r.out
          | with_reducible exact tu j.out h.out
          | with_reducible exact tu j.out e.out
          | go_keep)
        (first | ((go_at_call 185;refine(yV w _ _ _ _ _ (eA (Oq ((ay _ _).drew)) B) (C.keep (Oq ((ay _ _).drew))) s G an).mono ?_);rintro n br ⟨rfl,k⟩;have e:=Ou (jL k);clear k)
               | ((go_at_call 186; refine(BT y _ _ (EC (pC (Oq e.out) a0) ba) (by rw[aR]; omega)).mono ?_); rintro n d3 ⟨rfl, u⟩; have h := Ou (e.out.trans (u.mono e.out.size)); clear u)
               | ((go_at_call 187; refine(G0 Q _ _ _ _ _ _ (eA (Oq h.out) B) cc bM (C.keep (Oq h.out)) s G).mono ?_); rintro n e1 ⟨rfl, a4⟩; have r := Ou (h.out.trans (a4.mono h.out.size)); clear a4))
      .go_wp2;go_ret;refine⟨eC ?_,l.trans ((g.trans (r.out.mono g.size)).mono l.size)⟩;rw[ea q,sG o (by rw[wR A.out];unfold OF;rw[Q,bv])]
       rfl
      .go_wp2_with fail;exact⟨⟨c+1,by omega,by go_num,by rw[xy,ea ar,wR A.out];unfold OF;rw[w,y,Q];rfl,g.trans (r.out.mono g.size)⟩,by simp[intOf];omega⟩
   .go_wp2
    go_ret;have:c=x.ek.length:=by omega
    subst this;exact⟨eC (by rw[ea q,ea ar];rfl),a6⟩
 .have b8:(6:Int)<(x.ek.length:Int):=by omega
  have q:=Ou (decide_eq_false D);clear D;go_wp2;go_ret;exact⟨eC (by rw[ea q];rfl),ev _ _⟩
def oJ (p:On)(c:Nat):Bool:=match p[c]? with
 | none => K
 | some x => (decide ((OE p c).length <= 8) && x.fields.all (gd p.length)) && (decide (x.ek.length <= 6) && (List.range x.ek.length).all (ql p x))
theorem wg{p a x}(b:p[a]? =M x):oJ p a=((decide ((OE p a).length<=8) && x.fields.all (gd p.length)) && (decide (x.ek.length<=6) && (List.range x.ek.length).all (ql p x))):=by unfold oJ;rw[b]
def nK (p:On):Bool:= !(decide (p.length<1) || decide (6<p.length)) && ((List.range p.length).all (mx p) && (List.range p.length).all (oJ p))
theorem Gx(p a):nI p a=(mx p a && oJ p a):=by
 cases c:p[a]? with
 | none => unfold nI mx oJ; rw[c]; rfl
 | some b =>
  have d:lr p a b=oJ p a:=by
   rw[wg c]
   show (b.fields.all (gd p.length) && decide ((OE p a).length<=8) && decide (b.ek.length<=6) && (List.range b.ek.length).all (ql p b))=_
   cases b.fields.all (gd p.length) <;> cases decide ((OE p a).length<=8) <;> cases decide (b.ek.length<=6) <;> rfl
  show (match p[a]? with | none=>K | some b=>kC a b && lr p a b)=_
  rw[c,xV c,<-d]
theorem FR{α :Type}(c:List α)(b d):c.all (λa=>b a && d a)=(c.all b && c.all d):=by
 induction c with
 | nil => rfl
 | cons a e c => rw[cX, cX, cX, c]; cases b a <;> cases d a <;> cases e.all b <;> rfl
theorem IB(p):fi p=if nK p=K then (if p.all (λx=>x.ek.all (gY p))=K then 0 else 3) else 2:=by
 have b:(List.range p.length).all (nI p)=((List.range p.length).all (mx p) && (List.range p.length).all (oJ p)):=by
  rw[<-FR];congr 1;funext c;exact Gx p c
 unfold fi nK;rw[b]
 by_cases a:p.length<1\/6<p.length
 .rw [am a];have:(decide (p.length<1) || decide (6<p.length))=K:=by simpa using a
  rw[this];rfl
 .rw [af a];have:(decide (p.length<1) || decide (6<p.length))=F:=by simpa using a
  rw[this];rfl
theorem E9{p}(a:(List.range p.length).all (mx p)=K):ez p p.length:=by
 intro b d c hx;rw[aJ]at a;have:=a b (bw.2 c)
 rwa[xV hx]at this
theorem BZ{p c}(e:(List.range p.length).all (mx p)=c)(b a)(f:eQ a b p)(g:eM p<=4194304):
  Calls Tryz.prog 128 #[.agg #[b]] a λd h=>d=zR (zB c)/\Below a.heap.size a h:=e▸G7 p b a f g
theorem BQ{p}{b:Nat}{x d}(f:(decide ((OE p b).length<=8) && x.fields.all (gd p.length))=d)(c a)(h:eQ a c p)(i:ez p p.length)(g:p[b]? =M x)(j:je p)(k:eM p<=4194304):
  Calls Tryz.prog 129 #[.agg #[c],J I b] a λe l=>e=zR (zB d)/\Below a.heap.size a l:=f▸GG p c b x a h i g j k
theorem BV{p x d}(f:(decide (x.ek.length<=6) && (List.range x.ek.length).all (ql p x))=d)(c)(b:Nat)(a)(h:eQ a c p)(i:ez p p.length)(g:p[b]? =M x)(j:je p)(k:eM p<=4194304):
  Calls Tryz.prog 130 #[.agg #[c],J I b] a λe l=>e=zR (zB d)/\Below a.heap.size a l:=f▸GW p c b x a h i g j k
theorem GC(p G e)(E:eQ e G p)(r:je p)(d:eM p<=4194304):
  Calls Tryz.prog 68 #[.agg #[G]] e λc R=>c=zR (zB (nK p))/\Below e.heap.size e R:=by
 have G:p.length<=4194304:=ap (fQ p) d;have j:=Ou E;obtain⟨G,G,G,G,rfl,_⟩:=E
 by_cases A:p.length<1
 .have B:(p.length:Int)<1:=by omega
  have a:=Ou (show nK p=F by unfold nK;rw[decide_eq_true A];rfl);go_in
  go_wp2;go_ret;exact⟨eC a.symm,ev _ _⟩
 by_cases C:6<p.length
 .have B:¬(p.length:Int)<1:=by omega
  have N:(6:Int)<p.length:=by omega
  have a:=Ou (show nK p=F by unfold nK;rw[decide_eq_true C,Bool.or_true];rfl);go_in
  go_wp2;go_ret;exact⟨eC a.symm,ev _ _⟩
 have B:¬(p.length:Int)<1:=by omega
 have N:¬(6:Int)<p.length:=by omega
 have i:=Ou (show nK p=((List.range p.length).all (mx p) && (List.range p.length).all (oJ p)) by unfold nK;rw[decide_eq_false A,decide_eq_false C];rfl);go_in
 go_wp2_with fail;generalize A:e.alloc _=W;have m:=qQ A;have P:=(bx1 A).c0
 cases h:(List.range p.length).all (mx p)
 .refine (BZ h _ _ (eA (Oq m) j) d).mono ?_;rintro c v ⟨rfl,l⟩;go_wp2;go_ret;exact⟨eC (by rw[ea i,h];rfl),eu m l⟩
 refine(BZ h _ _ (eA (Oq m) j) d).mono ?_;rintro c v ⟨rfl,l⟩;have k:=E9 h;have H:=Ou h;have L:=Oq l _ _ P;have Q:=eu m l;go_wp2
 go_loopw [20] (λb wr=>∃a:Nat,a<=p.length/\b=J I a/\(List.range a).all (oJ p)=K/\Below v.heap.size v wr) (λb _=>p.length-(intOf b).toNat)
 case atStart=>exact ⟨0,az _,rfl,rfl,ay _ _⟩
 case round=>
  obtain⟨a,h,rfl,h,t⟩:=hrel;have w:=Ou h;have n:Below e.heap.size e wr:=eu Q t
  by_cases u:a<p.length
  .have b:=Ou (ae u);generalize p[a]=x at *;have M:=Oq t _ _ L;have y:=Ou (eA (Oq n) j);go_wp2_with fail
   cases o:(decide ((OE p a).length<=8) && x.fields.all (gd p.length))
   .refine (BQ o _ _ y k b r d).mono ?_;rintro c S ⟨rfl,g⟩;go_wp2;go_ret;exact⟨eC (by rw[ea i,sG (f:=oJ p) u (by rw[wg b.out,o];rfl),bv]),eu n g⟩
   refine(BQ o _ _ y k b r d).mono ?_;rintro c S ⟨rfl,g⟩;have e:=Oq g _ _ M;have O:=eu t g;have D:=eu n g;have z:=Ou (eA (Oq D) j);go_wp2_with fail
   cases q:(decide (x.ek.length<=6) && (List.range x.ek.length).all (ql p x))
   .refine (BV q _ _ _ z k b r d).mono ?_;rintro c T ⟨rfl,s⟩;go_wp2;go_ret;exact⟨eC (by rw[ea i,sG (f:=oJ p) u (by rw[wg b.out,q,bv]),bv]),eu D s⟩
   .refine (BV q _ _ _ z k b r d).mono ?_;rintro c T ⟨rfl,s⟩;go_wp2_with fail;exact⟨⟨a+1,by omega,by go_num,by rw[xy,ea w,wg b.out,o,q];rfl,eu O s⟩,by simp[intOf];omega⟩
  .go_wp2
   go_ret;have:a=p.length:=by omega
   subst this;exact⟨eC (by rw[ea i,ea H,ea w];rfl),n⟩
theorem GK(p h b g a)(f:eQ a h p)(k:ez p p.length)(n:b<p.length)(l:eM p<=4194304):
  Calls Tryz.prog 221 #[.agg #[h],J I b,J I g] a λc m=>c=zR (zB (fy p b g).isSome)/\Below a.heap.size a m:=by
 have i:=Ou f;obtain⟨b,b,b,b,rfl,_⟩:=f;go_in
 go_wp2_with fail;generalize b:a.alloc _=W;have e:=qQ b;refine(GH p _ p.length _ _ _ (eA (Oq e) i) k (ai _) (by omega) (by omega) l).mono ?_;rintro c a ⟨a,a,a,a,a,a,a,rfl,a,j⟩;go_wp2;go_ret;have d:=eu e j;exact⟨rfl,d.alloc d.size _⟩
theorem uB{p b d}(f:fR b p.length=d)(c a)(h:eQ a c p)(g:p.length<=4194304):
  Calls Tryz.prog 108 #[.agg #[c],J I b] a λe i=>e=zR (zB d)/\Below a.heap.size a i:=f▸yU p c b a h g
theorem GR(p t d v y A x w z C B a b c h)(n:eQ h t p)(J:eM p<=4194304)(_hcl:d.code.length<=4194304)(D:a≠10)(E:a≠11)(q:a≠12):
  Calls Tryz.prog 188 (mJ t d v y A x w z C B a b c) h λg o=>g=zR (zB (eU p d ⟨a,b,c⟩))/\Below h.heap.size h o:=by
 have H:p.length<=4194304:=ap (fQ p) J;have u:=Ou n;obtain⟨t,t,t,t,rfl,t,G,I⟩:=eN n;clear I G n;unfold mJ
 by_cases l:a=0
 .subst l;go_in
  go_wp2
  go_ret;exact⟨eC (by simp[eU]),jg _ _ _ _⟩
 by_cases i:a=1\/a=2
 .have e:=Ou (show eU p d ⟨a,b,c⟩=(fR b d.locals && c == 0) by unfold eU;rcases i with rfl | rfl <;> simp)
  cases f:fR b d.locals <;> rcases i with rfl | rfl <;>
  .go_in
   go_wp2_with (go_at_call 182;refine(qg f _).mono ?_;rintro g o ⟨rfl,rfl⟩)
   go_ret;exact⟨eC (by rw[ea e,f];rfl),jg _ _ _ _⟩
 by_cases j:a=7\/a=8\/a=18
 .have e:=Ou (show eU p d ⟨a,b,c⟩=(fR b d.code.length && c == 0) by unfold eU;rcases j with rfl | rfl | rfl <;> simp)
  cases f:fR b d.code.length <;> rcases j with rfl | rfl | rfl <;>
  .go_in
   go_wp2_with (go_at_call 182;refine(qg f _).mono ?_;rintro g o ⟨rfl,rfl⟩)
   go_ret;exact⟨eC (by rw[ea e,f];rfl),jg _ _ _ _⟩
 by_cases k:a=9\/a=17
 .have e:=Ou (show eU p d ⟨a,b,c⟩=(fR b p.length && c == 0) by unfold eU;rcases k with rfl | rfl <;> simp)
  cases f:fR b p.length <;> rcases k with rfl | rfl <;>
  .go_in
   go_wp2_with fail;generalize m:((h.alloc _).alloc _).alloc _=W;have s:=qR m;have K:=(nH m).c2;clear m;refine(uB f _ _ (eA (Oq s) u) H).mono ?_;rintro g h ⟨rfl,r⟩;have:=Oq r _ _ K;go_wp2;go_ret;exact⟨eC (by rw[ea e,f];rfl),eu s r⟩
 have m:eU p d ⟨a,b,c⟩=(fR a 21 && b == 0 && c == 0):=by
  unfold eU;have e:¬(a=1\/a=2):=i;have f:¬(a=7\/a=8\/a=18):=j;have h:¬(a=9\/a=17):=k;have n:¬(a=10\/a=11):=by omega
  simp only[l,e,f,h,n,q,if_false]
 have e:=Ou m;clear m;have K:a≠1:=by omega
 have N:a≠2:=by omega
 have O:a≠7:=by omega
 have P:a≠8:=by omega
 have M:a≠18:=by omega
 have Q:a≠9:=by omega
 have L:a≠17:=by omega
 clear i j k
 by_cases r:a=3\/a=4\/a=5\/a=6\/a=13\/a=14\/a=15\/a=16\/a=19\/a=20
 .have f:=Ou (show eU p d ⟨a,b,c⟩=(b == 0 && c == 0) by rw[ea e,lh.2 (by omega:0<=a/\a<21),bO]);clear e
  cases s:(b == 0) <;> rcases r with rfl | rfl | rfl | rfl | rfl | rfl | rfl | rfl | rfl | rfl <;>
  .go_in
   go_wp2;go_ret;exact⟨eC (by rw[ea f,s];rfl),jg _ _ _ _⟩
 .have f:=Ou (show eU p d ⟨a,b,c⟩=F by rw[ea e,show fR a 21=F from cw.2 (λg=>by have:=lh.1 g;omega)];rfl);clear e;have:(a == 3)=F:=by simp;omega
  have:(a == 4)=F:=by simp;omega
  have:(a == 5)=F:=by simp;omega
  have:(a == 6)=F:=by simp;omega
  have:(a == 13)=F:=by simp;omega
  have:(a == 14)=F:=by simp;omega
  have:(a == 15)=F:=by simp;omega
  have:(a == 16)=F:=by simp;omega
  have:(a == 19)=F:=by simp;omega
  have:(a == 20)=F:=by simp;omega
  have:(a == 0)=F:=by simp;omega
  have:(a == 1)=F:=by simp;omega
  have:(a == 2)=F:=by simp;omega
  have:(a == 7)=F:=by simp;omega
  have:(a == 8)=F:=by simp;omega
  have:(a == 9)=F:=by simp;omega
  have:(a == 10)=F:=by simp;omega
  have:(a == 11)=F:=by simp;omega
  have:(a == 12)=F:=by simp;omega
  have:(a == 17)=F:=by simp;omega
  have:(a == 18)=F:=by simp;omega
  clear r K N O P Q L M l D E q;go_in
  go_wp2;go_ret;exact⟨eC f.symm,jg _ _ _ _⟩
theorem GL{p}{b:Nat}{c e}(g:(fy p b c).isSome=e)(d a)(i:eQ a d p)(j:ez p p.length)(h:b<p.length)(k:eM p<=4194304):
  Calls Tryz.prog 221 #[.agg #[d],J I b,J I c] a λf l=>f=zR (zB e)/\Below a.heap.size a l:=g▸GK p d b c a i j h k
theorem GQ(p G t H N Q L K P S R l d f a)(o:eQ a G p)(X:ez p p.length)(D:eM p<=4194304)(n:l=10\/l=11):
  Calls Tryz.prog 188 (mJ G t H N Q L K P S R l d f) a λi c=>i=zR (zB (eU p t ⟨l,d,f⟩))/\Below a.heap.size a c:=by
 have C:p.length<=4194304:=ap (fQ p) D
 have A:eU p t ⟨l,d,f⟩=(fR d p.length && fR f (OE p d).length):=by
  unfold eU
  rcases n with rfl | rfl <;> simp
 have x:=Ou A;clear A;have y:=Ou o;obtain⟨u,ab,ac,v,rfl,aa,T,V⟩:=eN o;clear V T o;unfold mJ
 cases k:fR d p.length
 .rcases n with rfl | rfl
  all_goals
   go_in
   go_wp2_with fail;generalize b:((a.alloc _).alloc _).alloc _=W;have g:=qR b;have q:=(p8 b).c0;have r:=(nH b).c1;have s:=(nH b).c2;clear b;have m:=Ou (eA (Oq g) y);have h:=Ou (aq q (aq r s));refine fk (λc=>c.cell? ⟨a.heap.size,0,U⟩=M (O u p.length v)/\c.cell? ⟨a.heap.size+1+1,1,U⟩=M (J I d)/\c.cell? ⟨a.heap.size+1+1,2,U⟩=M (J I f)) h.out λhHeld=>?_;refine iz 57 0 (.agg #[O u p.length v]) ?_;refine iz 58 1 (zP (M ⟨a.heap.size+1+1,1,U⟩)) ?_;refine iz 59 2 (J I d) ?_;refine el 3 (λz w=>?_);go_simp;refine(uB k _ _ (eA (Oq ((ay _ _).drew)) m) C).mono ?_;rintro i Y ⟨rfl,j⟩;have e:=Ou (jL j);clear j;go_wp2_with fail;refine w.out _ _ (kF h.out e.out) (λB=>?_);clear w z hHeld;refine iz 61 4 (zB F) ?_;refine eL 62 5 ?_;refine eL 63 6 ?_;refine eL 64 7 ?_;refine eL 65 8 ?_;refine eL 66 9 ?_;refine eL 67 10 ?_;refine eL 68 11 ?_;refine iz 69 12 (zB F) ?_;refine iz 6 13 (zB F) ?_;refine eV ?_;go_wp2;go_ret;exact⟨eC (by rw[ea x,k];rfl),g.trans (e.out.mono g.size)⟩
 .obtain⟨E,rfl,Z⟩:=xr k
  cases B:fR f (OE p E).length <;> rcases n with rfl | rfl
  all_goals
   go_in
   go_wp2_with fail;generalize b:((a.alloc _).alloc _).alloc _=W;have g:=qR b;have q:=(p8 b).c0;have r:=(nH b).c1;have s:=(nH b).c2;clear b;have m:=Ou (eA (Oq g) y);have h:=Ou (aq q (aq r s))
   go_region_held3 (λc=>c.cell? ⟨a.heap.size,0,U⟩=M (O u p.length v)/\c.cell? ⟨a.heap.size+1+1,1,U⟩=M (J I (E:Int))/\c.cell? ⟨a.heap.size+1+1,2,U⟩=M (J I f))
    (first
      | with_reducible exact kF h.out w.out
      | with_reducible exact kF h.out e.out
      | go_keep)
    (first | ((go_at_call 108;refine(uB k _ _ (eA (Oq ((ay _ _).drew)) m) C).mono ?_);rintro i Y ⟨rfl,j⟩;have e:=Ou (jL j);clear j)
           | ((go_at_call 183; refine(yS p _ p.length _ _ (eA (Oq e.out) m) X (ai _) (by omega) (by omega) D).mono ?_); rintro i ad ⟨rfl, z⟩; have w := Ou (e.out.trans (z.mono e.out.size)); clear z)
           | ((go_at_call 182; refine(qg B _).mono ?_); rintro i ak ⟨rfl, rfl⟩))
   go_wp2;go_ret;exact⟨eC (by rw[ea x,k,B];rfl),g.trans (w.out.mono g.size)⟩
theorem GP(p v l w z B y x A D C a g f)(k:eQ f v p)(H:ez p p.length)(r:eM p<=4194304):
  Calls Tryz.prog 188 (mJ v l w z B y x A D C 12 a g) f λh I=>h=zR (zB (eU p l ⟨12,a,g⟩))/\Below f.heap.size f I:=by
 have q:p.length<=4194304:=ap (fQ p) r;have n:eU p l ⟨12,a,g⟩=(fR a p.length && (fy p a g).isSome):=by unfold eU;simp
 have m:=Ou n;clear n;have j:=Ou k;obtain⟨g,g,g,g,rfl,g,F,G⟩:=eN k;clear G F k;unfold mJ;go_in
 go_wp2_with fail;generalize b:((f.alloc _).alloc _).alloc _=W;have d:=qR b;have s:=(p8 b).c0;have t:=(nH b).c1;have u:=(nH b).c2;clear b
 cases e:fR a p.length
 .refine (uB e _ _ (eA (Oq d) j) q).mono ?_;rintro h J ⟨rfl,c⟩;go_wp2;go_ret;exact⟨eC (by rw[ea m,e];rfl),eu d c⟩
 .refine (uB e _ _ (eA (Oq d) j) q).mono ?_;rintro h J ⟨rfl,c⟩;obtain⟨a,rfl,a⟩:=xr e;have i:=Oq c;replace s:=i _ _ s;replace t:=i _ _ t;replace u:=i _ _ u;have o:=eu d c;clear i c d;go_wp2_with fail;refine(GL rfl _ _ (eA (Oq o) j) H (by omega) r).mono ?_;rintro h a ⟨rfl,E⟩;go_wp2;go_ret;exact⟨eC (by rw[ea m,e];rfl),eu o E⟩
theorem GO(p g e h k m j i l o n c d)(r:eQ d g p)(u:ez p p.length)(s:eM p<=4194304)(v:e.code.length<=4194304):
  Calls Tryz.prog 188 (mJ g e h k m j i l o n c.op c.a c.b) d λf w=>f=zR (zB (eU p e c))/\Below d.heap.size d w:=by
 by_cases q:c.op=10\/c.op=11
 .exact GQ p g e h k m j i l o n c.op c.a c.b d r u s q
 by_cases t:c.op=12
 .have:=GP p g e h k m j i l o n c.a c.b d r u s;rw[<-t]at this;exact this
 .exact GR p g e h k m j i l o n c.op c.a c.b d r s v (λf=>q (.inl f)) (λf=>q (.inr f)) t
def fz (n:Nat)(t:Int):Prop:=0<=t/\t<(n:Int)+3
theorem wz(a b):
  Calls Tryz.prog 223 #[J I a] b λc d=>c=zR (zB (decide (3<=a)))/\d=b:=by
 go_in
 go_wp2
 all_goals go_ret
 all_goals exact⟨eC (by simp),rfl⟩
theorem BL(a)(e:0<=a)(f:a<=8388608)(b):
  Calls Tryz.prog 224 #[J I a] b λc d=>c=zR (J I (a-3))/\d=b:=by
 go_in
 go_wp2
 all_goals go_ret
 all_goals exact⟨iQ (by omega),rfl⟩
theorem og(a)(e: -1<=a)(f:a<=8388608)(b):
  Calls Tryz.prog 144 #[J I a] b λc d=>c=zR (J I (a+3))/\d=b:=by
 go_in
 go_wp2
 all_goals go_ret
 all_goals exact⟨iQ (by omega),rfl⟩
theorem GU(a b):
  Calls Tryz.prog 228 #[J I a] b λc e=>c=zR (zB (iy a))/\e=b:=by
 go_in
 by_cases d:a=1
 .subst d;go_wp2;go_ret;exact⟨eC (by simp[iy]),rfl⟩
 .have f:(a == 1)=F:=by simpa using d
  go_wp2_with fail;refine Calls.mono (wz a b) ?_;rintro c e ⟨rfl,rfl⟩;go_wp2;go_ret;exact⟨eC (by simp[iy,f]),rfl⟩
theorem Cf(p){a}(c)(b:a<0):fD p a c=F:=by unfold fD;rw[ti p b];rfl
theorem wD(p){c}(e:ez p c){a x}(b)(d:a<c)(hx:p[a]? =M x):fD p (a:Int) b=(((a:Int) == b) || fD p x.sup b):=by
 unfold fD;rw[sd p e d hx,List.any_cons]
theorem BO(p n)(d a:Int)(b)(w:eQ b n p)(k:ez p p.length)(t: -1<=d)(u:d<p.length)(_hz:p.length<=4194304):
  Calls Tryz.prog 216 #[.agg #[n],J I d,J I a] b λr A=>r=zR (zB (fD p d a))/\Below b.heap.size b A:=by
 obtain⟨l,n,n,m,rfl,n,s,z⟩:=eN w;go_in
 go_wp2
 generalize n:b.alloc _=W;have i:Below b.heap.size b W:=n▸ev _ _;have:W.cell? ⟨b.heap.size,0,U⟩=M (O l p.length m):=n▸jM b #[O l p.length m] 24 0
 go_loop [7] (λb=>∃e:Int,-1<=e/\e<p.length/\b=J I e/\fD p d a=fD p e a) (λb=>(intOf b+1).toNat)
 case atStart=>exact ⟨d,t,u,rfl,rfl⟩
 case round=>
  obtain⟨e,b,b,rfl,o⟩:=hrel;have g:=Ou o;clear o
  rcases bV e 0 with v | y
  .go_wp2
   go_ret;exact⟨eC (by rw[ea g,Cf p a v]),i⟩
  .obtain⟨c,rfl⟩:=ax y;have f:c<p.length:=(by omega);obtain rfl:=s (eW f);obtain⟨b,b,b,b,b,b,b⟩:=(z c f).keep (Oq i);have h:=Ou (ae f);generalize p[c]=x at *
   by_cases q:(c:Int)=a
   .have j:((c:Int) == a)=K:=(by simpa using q);go_wp2;go_ret;exact⟨eC (by rw[ea g,wD p k a f h.out,j];rfl),i⟩
   .have j:((c:Int) == a)=F:=(by simpa using q);go_wp2_with fail;have b:=my (k c x (by omega) h);exact⟨⟨x.sup,b.1,by omega,rfl,by rw[ea g,wD p k a f h.out,j];rfl⟩,by simp[intOf];omega⟩
end
end Go.Proofs.YtiiokkllmchohaaGreat
