/- Walks of the law's own helpers: lists that are the same, where both hold the same. -/
import Derived.Test.YtiiokkllmchohaaGreatT01
set_option maxHeartbeats 0
set_option maxRecDepth 99999
namespace Go.Proofs.YtiiokkllmchohaaGreat
open Go.Value renaming int->J,slice->O,pointer->zP,bool->zB
open Go.IntKind renaming i64->I
open Option renaming none->U,some->M
open Bool renaming true->K,false->F
open Go.Ending renaming returned->zR
open Go.Obj renaming cells->zC
open Go.RowKit
section
attribute [local go_sem ↓] Go.wp_at_zero Go.wp_at_succ
theorem xJ(a g f c)(k:eG 1 (gF c) g a)(l:eG 1 (gF c) f a)(o:a.length<=8388608):
  Calls Tryz.prog 86 #[g,f] c λh n=>h=zR (zB K)/\∃e,n=c.drewN e:=by
 obtain⟨f,f,f,f,rfl,f,i,f⟩:=it k;obtain⟨f,f,f,f,rfl,f,j,f⟩:=it l;have:((a.length:Int) == (a.length:Int))=K:=by simp
 go_in
 go_wp2
 go_loopw [5] (λd wr=>∃b:Nat,b<=a.length/\d=J I b/\∃e,wr=c.drewN e) (λd _=>a.length-(intOf d).toNat)
 case atStart=>exact ⟨0,az _,rfl,0,rfl⟩
 case round=>
  obtain⟨b,c,rfl,m,rfl⟩:=hrel
  by_cases d:b<a.length
  .obtain rfl:=i (eW d);obtain rfl:=j (eW d)
   go_wp2
   go_quiet (fail)
   go_wp2
   exact⟨⟨b+1,by omega,by go_num,m+nq,by first | rfl | rw[World.drewN_drewN]⟩,by simp[intOf];omega⟩
  .go_wp2
   go_ret;exact⟨rfl,_,rfl⟩
def nB (w w':World):Prop:=∃n,w'=w.drewN n
theorem nB.refl(a):nB a a:=⟨0,rfl⟩
theorem nB.step{b c}(d:nB b c)(a):nB b (c.drewN a):=by
 obtain⟨e,rfl⟩:=d;exact⟨e+a,by rw[World.drewN_drewN]⟩
theorem nB.below{w a}(c:nB w a)(b):Below b w a:=by
 obtain⟨a,rfl⟩:=c;exact below_drewN (ay _ _) _
theorem lG(a b):Keeps a (a.drewN b):=Oq (below_drewN (ay _ _) _)
theorem MN(a p o e)(G:eG 3 (ur e) p a)(L:eG 3 (ur e) o a)(n:(a.map iB).sum<=4194304):
  Calls Tryz.prog 45 #[p,o] e λC O=>C=zR (zB K)/\∃N,O=e.drewN N:=by
 have:a.length<=4194304:=ap (uQ iB (λc=>by unfold iB;omega) a) n;obtain⟨o,o,o,o,rfl,o,D,F⟩:=eN G;obtain⟨o,o,o,o,rfl,o,E,o⟩:=eN L;have w:=Ou F;have x:=Ou o;have:((a.length:Int) == (a.length:Int))=K:=by simp
 go_in
 go_wp2
 go_loopw [5] (λc wr=>∃b:Nat,b<=a.length/\c=J I b/\nB e wr) (λc _=>a.length-(intOf c).toNat)
 case atStart=>exact ⟨0,az _,rfl,nB.refl _⟩
 case round=>
  obtain⟨b,e,rfl,f⟩:=hrel;have m:=Oq (f.below _)
  by_cases d:b<a.length
  .obtain rfl:=D (eW d);obtain rfl:=E (eW d);obtain⟨e,e,y,e,A,g,i⟩:=(w b d).keep m;obtain⟨e,e,z,e,B,h,j⟩:=(x b d).keep m;have l:=ap (uP iB a _ (av d)) n;generalize a[b]=c at *;have H:c.locals.length<=8388608:=(by unfold iB at l;omega);have M:c.stack.length<=8388608:=(by unfold iB at l;omega);have q:=Ou g;have s:=Ou i;have r:=Ou h;have t:=Ou j;obtain⟨_,_,_,_,rfl,_⟩:=eN g;obtain⟨_,_,_,_,rfl,_⟩:=eN i;obtain⟨_,_,_,_,rfl,_⟩:=eN h;obtain⟨_,_,_,_,rfl,_⟩:=eN j
   go_wp2
   go_quiet ((go_at_call 86;exact Calls.quiet_of (xJ c.locals _ _ _ (fu (lG _ _) q) (fu (lG _ _) r) H)))
   have:=lG wr nq _ _ y;have:=lG wr nq _ _ A;have:=lG wr nq _ _ z;have:=lG wr nq _ _ B;have u:=Ou (fu (lG wr nq) s);have v:=Ou (fu (lG wr nq) t);have k:=f.step nq;generalize wr.drewN nq=w2 at *
   go_wp2
   go_quiet ((go_at_call 86;exact Calls.quiet_of (xJ c.stack _ _ _ (fu (lG _ _) u) (fu (lG _ _) v) M)))
   go_wp2
   go_quiet (fail)
   go_wp2
   exact⟨⟨b+1,by omega,by go_num,by first | exact(k.step _).step _ | exact k.step _⟩,by simp[intOf];omega⟩
  .go_wp2
   go_ret;exact⟨rfl,f⟩
abbrev zQ (m:eh)(va vc vf:Value):Value:=.agg #[J I m.slot,va,J I m.ret,J I m.locals,J I m.stack,vc,vf]
theorem MO(a t v x u w y e)(P:lR e a t v x)(Q:lR e a u w y)(b:fI a<=4194304):
  Calls Tryz.prog 89 #[zQ a t v x,zQ a u w y] e λi ad=>i=zR (zB K)/\Below e.heap.size e ad:=by
 have H:a.args.length<=8388608:=by unfold fI at b;omega
 have:a.code.length<=4194304:=by unfold fI at b;omega
 have O:(a.frames.map iB).sum<=4194304:=by unfold fI at b;omega
 obtain⟨n,F,p⟩:=P;obtain⟨o,G,q⟩:=Q;have z:=Ou n;have B:=Ou p;have A:=Ou o;have C:=Ou q;obtain⟨b,_,_,b,rfl,_⟩:=eN n;obtain⟨b,b,b,b,rfl,_,L,N⟩:=eN F;obtain⟨b,_,_,b,rfl,_⟩:=eN p;obtain⟨b,_,_,b,rfl,_⟩:=eN o;obtain⟨b,b,b,b,rfl,_,M,b⟩:=eN G;have D:=Ou N;have E:=Ou b;obtain⟨b,_,_,b,rfl,_⟩:=eN q;unfold zQ;go_in
 go_wp2_with fail;generalize b:(e.alloc _).alloc _=W;have r:=oK b;have R:=(lD b).c0;have S:=(lD b).c2;have T:=(lD b).c3;have U:=(lD b).c4;have V:=(lD b).c5;have:=(lD b).c6;have X:=(gI b).c0;have Y:=(gI b).c2;have Z:=(gI b).c3;have aa:=(gI b).c4;have ab:=(gI b).c5;have:=(gI b).c6;have d:=Ou (Oq r);refine(xJ a.args _ _ _ (fu d z) (fu d A) H).mono ?_;rintro i b ⟨rfl,k,rfl⟩;go_wp2_with fail;refine(MN a.frames _ _ _ (wO (d.trans (lG _ _)) B) (wO (d.trans (lG _ _)) C) O).mono ?_;rintro i b ⟨rfl,l,rfl⟩;have s:nB W ((W.drewN k).drewN l):=((nB.refl W).step k).step l;generalize (W.drewN k).drewN l=W2 at *;have b:=Oq (s.below _);have:=b _ _ R;have:=b _ _ S;have:=b _ _ T;have:=b _ _ U;have ac:=b _ _ V;have:=b _ _ X;have:=b _ _ Y;have:=b _ _ Z;have:=b _ _ aa;have t5:=b _ _ ab;have m:=Ou b;go_wp2
 go_loopw [7] (λh wr=>∃c:Nat,c<=a.code.length/\h=J I c/\nB W2 wr) (λh _=>a.code.length-(intOf h).toNat)
 case atStart=>exact ⟨0,az _,rfl,nB.refl _⟩
 case round=>
  obtain⟨c,b,rfl,j⟩:=hrel;have f:=Oq (j.below _);have:=f _ _ ac;have:=f _ _ t5
  by_cases g:c<a.code.length
  .obtain rfl:=L (eW g);obtain rfl:=M (eW g);obtain⟨b,b,b⟩:=(D c g).keep ((d.trans m).trans f);obtain⟨b,b,b⟩:=(E c g).keep ((d.trans m).trans f);generalize a.code[c]=h at *
   go_wp2
   go_quiet (fail)
   go_wp2
   exact⟨⟨c+1,by omega,by go_num,j.step _⟩,by simp[intOf];omega⟩
  .go_wp2
   go_ret;exact⟨rfl,r.trans ((s.below _).trans (j.below _))⟩
theorem MP(p R S k)(b8:eQ k R p)(b9:eQ k S p)(N:eM p<=4194304):
  Calls Tryz.prog 49 #[.agg #[R],.agg #[S]] k λv b=>v=zR (zB K)/\Below k.heap.size k b:=by
 have:p.length<=4194304:=ap (fQ p) N;obtain⟨e9,fc,ft,fo,rfl,e6,ca,cc⟩:=eN b8;obtain⟨fa,fn,f0,fs,rfl,e7,cb,ce⟩:=eN b9;have ab:=Ou cc;have ac:=Ou ce;go_in
 go_wp2_with fail;generalize w:(k.alloc _).alloc _=W;have y:=oK w;have ck:=(lD w).c0;have ec:=(gI w).c0;have A:=Ou (Oq y);have cf:=y.size
 go_loopw [5] (λb wr=>∃e:Nat,e<=p.length/\b=J I e/\Below W.heap.size W wr) (λb _=>p.length-(intOf b).toNat)
 case atStart=>exact ⟨0,az _,rfl,ay _ _⟩
 case round=>
  obtain⟨e,e4,rfl,t⟩:=hrel;have r:=Ou (Oq t);have ci:=t.size;have:=ea r _ _ ck;have d9:=ea r _ _ ec
  by_cases o:e<p.length
  .obtain rfl:=ca (eW o);obtain rfl:=cb (eW o);obtain⟨f6,gc,ar,eK,eR,C,E⟩:=(ab e o).keep (A.trans r);obtain⟨f9,gf,a0,eP,eS,D,F⟩:=(ac e o).keep (A.trans r);have L:gV p[e]<=4194304:=ap (kE (av o)) N;generalize p[e]=x at *;have bo:x.fields.length<=8388608:=(by have:=rD x;omega);have:x.ek.length<=4194304:=ap (mO x) L;have T:=Ou C;have V:=Ou D;have:=Ou E;have:=Ou F;obtain⟨e0,_,_,e2,rfl,_⟩:=eN C;obtain⟨e1,_,_,e3,rfl,_⟩:=eN D;obtain⟨d5,f,h,P,rfl,_,br,bI⟩:=eN E;obtain⟨d6,g,i,Q,rfl,_,bs,bM⟩:=eN F;have X:=Ou bI;have Y:=Ou bM;have:=Oo ar;have:=Oo d9;have:=Oo a0;obtain⟨d,rfl⟩:∃d:World,d=wr:=⟨_,rfl⟩;go_wp2_with fail;generalize l:(d.alloc _).alloc _=W2;have B:Below d.heap.size d W2:=(by rw[<-l];exact gS _ _ _);have eg:W2.cell? ⟨d.heap.size,0,U⟩=M (J I x.sup):=(by rw[<-l];exact wj _ _ _ _ 0);have ej:W2.cell? ⟨d.heap.size,2,U⟩=M (O d5 x.ek.length P):=(by rw[<-l];exact wj _ _ _ _ 2);have ei:W2.cell? ⟨d.heap.size+1,0,U⟩=M (J I x.sup):=(by rw[<-l];exact wl _ _ _ _ 0);have en:W2.cell? ⟨d.heap.size+1,2,U⟩=M (O d6 x.ek.length Q):=(by rw[<-l];exact wl _ _ _ _ 2);have b6:Below W.heap.size W W2:=t.trans (B.mono ci);have u:=Ou (Oq B);refine(xJ x.fields _ _ _ (fu u T) (fu u V) bo).mono ?_;rintro v gk ⟨rfl,j,rfl⟩;have:=lG W2 j _ _ eg;have eo:=lG W2 j _ _ ej;have:=lG W2 j _ _ ei;have ep:=lG W2 j _ _ en;have b5:Below W.heap.size W (W2.drewN j):=below_drewN b6 _;have z:=Ou (u.trans (lG W2 j));generalize W2.drewN j=W3 at *;go_wp2
   go_loopw [9] (λb c=>∃a:Nat,a<=x.ek.length/\b=J I a/\Below W3.heap.size W3 c) (λb _=>x.ek.length-(intOf b).toNat)
   case atStart=>exact ⟨0,az _,rfl,ay _ _⟩
   case round=>
    obtain⟨a,e5,rfl,s⟩:=hrel;have q:=Ou (Oq s);have cg:=s.size;have er:=ea q _ _ eo;have es:=ea q _ _ ep
    by_cases n:a<x.ek.length
    .obtain rfl:=br (eW n);obtain rfl:=bs (eW n);obtain⟨f1,f3,ga,G,cm,cp,cu,cA,ds,d1,d3⟩:=(X a n).keep (z.trans q);obtain⟨f2,f4,gb,H,cn,cs,cz,dp,d0,d2,d4⟩:=(Y a n).keep (z.trans q);have bz:fI x.ek[a]<=4194304:=ap (qz (av n)) L;generalize x.ek[a]=m at *;have Z:=Ou G;have aa:=Ou H;obtain⟨bc,bf,bk⟩:=G;obtain⟨be,bh,bn⟩:=H;obtain⟨ad,_,_,an,rfl,_⟩:=eN bc;obtain⟨a1,_,_,a3,rfl,_⟩:=eN bf;obtain⟨a5,_,_,a8,rfl,_⟩:=eN bk;obtain⟨ak,_,_,ao,rfl,_⟩:=eN be;obtain⟨a2,_,_,a4,rfl,_⟩:=eN bh;obtain⟨a6,_,_,ba,rfl,_⟩:=eN bn;have:(a:Int)<(x.ek.length:Int):=(by omega);have:=fp a;go_wp2
     go_region_held3 (λb=>b.cell? ⟨d.heap.size,2,U⟩=M (O (M ⟨f,h,U⟩) x.ek.length P)/\b.cell? ⟨d.heap.size+1,2,U⟩=M (O (M ⟨g,i,U⟩) x.ek.length Q)/\
       b.cell? ⟨f,h+a*7,U⟩=M (J I m.slot)/\b.cell? ⟨f,h+a*7+1,U⟩=M (O ad m.args.length an)/\b.cell? ⟨f,h+a*7+2,U⟩=M (J I m.ret)/\b.cell? ⟨f,h+a*7+3,U⟩=M (J I m.locals)/\
       b.cell? ⟨f,h+a*7+4,U⟩=M (J I m.stack)/\b.cell? ⟨f,h+a*7+5,U⟩=M (O a1 m.code.length a3)/\b.cell? ⟨f,h+a*7+6,U⟩=M (O a5 m.frames.length a8)/\
       b.cell? ⟨g,i+a*7,U⟩=M (J I m.slot)/\b.cell? ⟨g,i+a*7+1,U⟩=M (O ak m.args.length ao)/\b.cell? ⟨g,i+a*7+2,U⟩=M (J I m.ret)/\b.cell? ⟨g,i+a*7+3,U⟩=M (J I m.locals)/\
       b.cell? ⟨g,i+a*7+4,U⟩=M (J I m.stack)/\b.cell? ⟨g,i+a*7+5,U⟩=M (O a2 m.code.length a4)/\b.cell? ⟨g,i+a*7+6,U⟩=M (O a6 m.frames.length ba))
      (first | go_keep | (exact⟨Oq c _ _ (by simpa using er),Oq c _ _ (by simpa using es),Oq c _ _ (by simpa using cm),Oq c _ _ (by simpa using cp),Oq c _ _ (by simpa using cu),Oq c _ _ (by simpa using cA),Oq c _ _ (by simpa using ds),Oq c _ _ (by simpa using d1),Oq c _ _ (by simpa using d3),
         Oq c _ _ (by simpa using cn),Oq c _ _ (by simpa using cs),Oq c _ _ (by simpa using cz),Oq c _ _ (by simpa using dp),Oq c _ _ (by simpa using d0),Oq c _ _ (by simpa using d2),Oq c _ _ (by simpa using d4)⟩))
      (first | ((go_at_call 89;refine(MO m _ _ _ _ _ _ _ (Z.keep (Oq ((ay _ _).drew))) (aa.keep (Oq ((ay _ _).drew))) bz).mono ?_);rintro v et ⟨rfl,c⟩))
     have b7:Below W3.heap.size W3 et:=s.drew.trans (c.mono (by simpa using cg));go_wp2_with fail;exact⟨⟨a+1,by omega,by go_num,b7⟩,by simp[intOf];omega⟩
    .go_wp2_with fail;exact⟨⟨e+1,by omega,by go_num,eu b5 s⟩,by simp[intOf];omega⟩
  .go_wp2;go_ret;exact⟨rfl,y.trans (t.mono cf)⟩
end
end Go.Proofs.YtiiokkllmchohaaGreat
