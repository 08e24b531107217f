/- The code's Fields: new memory. -/
import Derived.Deep.DeepCutAuto
import Derived.Test.YtiiokkllmchohaaGreatT18
set_option maxHeartbeats 0
set_option maxRecDepth 99999
namespace Go.Proofs.YtiiokkllmchohaaGreat
open Go.Value renaming int->J,slice->O,pointer->zP,bool->zB
open Go.IntKind renaming i64->I
open Option renaming none->U,some->M
open Bool renaming true->K,false->F
open Go.Ending renaming returned->zR
open Go.Obj renaming cells->zC
open Go.RowKit Go.Shelf
section
attribute [local go_sem ↓] Go.wp_at_zero Go.wp_at_succ
theorem wy(p)(y:ez p p.length)(a5:eM p<=4194304):∀(n:Nat) (c:Int) (r:Value) (b:World),eQ b r p->-1<=c->c<(p.length:Int)->(c+1).toNat<=n->
  Calls Tryz.prog 167 #[.agg #[r],J I c] b λd h=>∃q,d=zR q/\
   h.ownsRow b.heap.size 43 1 q (OE p c).length ((OE p c).map (J .i64))/\Below b.heap.size b h:=by
 intro n
 induction n with
 | zero =>
  intro c r b j Y Z aa;obtain⟨a,_,_,e,rfl,_⟩:=j;have i:c<0:=by omega
  have f:=Ou (tx p i);go_in
  go_wp2;go_ret;refine⟨_,rfl,?_,ev _ _⟩;rw[ea f];exact World.ownsRow_nil _ _ _ _
 | succ n a2 =>
  intro c r b j Y Z aa
  rcases bV c 0 with i | i
  .obtain⟨a,_,_,e,rfl,_⟩:=j;have f:=Ou (tx p i);go_in
   go_wp2;go_ret;refine⟨_,rfl,?_,ev _ _⟩;rw[ea f];exact World.ownsRow_nil _ _ _ _
  .obtain⟨a,rfl⟩:=ax i;have S:=Ou a2;obtain⟨a1,ad,ao,ar,a0⟩:=info_parts infoType;have Q:=Ou j;obtain⟨c,k,o,A,rfl,c,ab,ak⟩:=eN j;have e:a<p.length:=(by omega);obtain rfl:=ab (eW e);have c:=ae e;have an:=my (y a _ e c);have n:=uE p y e;have f:=Ou (tz p y e c);obtain⟨c,c,V,X,c,E,c⟩:=ak a e
   have c:p[a].fields.length<=4194304:=by
    have:=rD p[a];have:=kE (av e);omega
   have L:=Ou E;obtain⟨B,C,rfl,w,K⟩:=mg E;generalize p[a]=x at *;have c:(a:Int)<(p.length:Int):=(by omega);have c:=fp a;go_in
   go_wp2_with fail;generalize c:b.alloc _=W;have g:Below b.heap.size b W:=(by rw[<-c];exact ev _ _);have v:W.cell? ⟨b.heap.size,0,U⟩=M (O (M ⟨k,o,U⟩) p.length A):=(by rw[<-c];exact jM _ _ _ 0);have s:=Oq g _ _ V;have t:=Oq g _ _ X;have R:=Ou (eA (Oq g) Q);have N:=Ou (fu (Oq g) L);refine fk (λh=>h.cell? ⟨b.heap.size,0,U⟩=M (O (M ⟨k,o,U⟩) p.length A)/\h.cell? ⟨k,o+a*3,U⟩=M (J I x.sup)/\h.cell? ⟨k,o+a*3+1,U⟩=M (O B x.fields.length C)) (aq v (aq s t)) λhHeld=>?_;refine dZ 7 0 ?_;refine dZ 8 1 ?_;refine dZ 9 2 ?_;refine dZ 10 3 ?_;refine dZ 11 4 ?_;refine dZ 12 5 ?_;refine dZ 13 6 ?_;refine dZ 15 8 ?_;refine dZ 16 9 ?_;refine dZ 17 10 ?_;refine dZ 18 11 ?_;refine dZ 19 12 ?_;refine dZ 20 13 ?_;refine el 7 (λT u=>?_);go_simp;refine(S x.sup _ _ (eA (Oq ((ay _ _).drew)) R) an.1 (by omega) (by omega)).mono ?_;rintro d a3 ⟨q,rfl,F,b⟩;have l:Below W.heap.size W a3:=⟨b.os,b.tape,b.output,b.size,b.block⟩;have m:=Oq l;go_wp2_with fail;refine u.out _ _ (aq (m _ _ v) (aq (m _ _ s) (m _ _ t))) λhHeld=>?_;refine el 14 (λT u=>?_);obtain⟨b,b,H,w,K⟩:=mg (fu m N);simp only[Value.slice.injEq,true_and]at H;obtain⟨rfl,rfl⟩:=H
   have b:(OE p x.sup).length+x.fields.length<=4194304:=by
    have z:=cP List.length f;rw[aw]at z;omega
   refine ye (.tmp 14) (.tmp 20) 40 rfl W.heap.size 43 a1 (J I 0) 1 8 Tryz.underlying40 ad ao ar a0 rfl (by decide) q (OE p x.sup).length ((OE p x.sup).map (J .i64)) rfl F B x.fields.length C (x.fields.map (J .i64)) rfl (by simp) (λd=>⟨by rw[(w d).1];rfl,(w d).2⟩) K (oy _) (by unfold maxLen;omega) (by omega) l.size ?_;intro b a4 G ac b;obtain⟨b,b,rfl⟩:=fd G;have D:Below W.heap.size W a4:=l.grown ac l.size (λa d=>by have:=F.lt a d;exact this.1);have z:=Oq D;go_simp;refine u.out _ _ (aq (z _ _ v) (aq (z _ _ s) (z _ _ t))) λhHeld=>?_;have P:=Ou G;refine dZ 4 15 ?_;refine eV ?_;go_wp2;go_ret;refine⟨_,rfl,?_,eu g D⟩;have:=Ov P g.size;rw[ea f,aw,aM];exact this
end
section
attribute [local go_sem ↓] Go.wp_at_zero Go.wp_at_succ
attribute [local go_sem] eZ
def oe (p:On)(m:eh)(a b:Int)(s:ef):Option ef:=(gC p (ew p a b).args.reverse s).bind λs=>(fC p (a+3) s).bind (fj m (ew p a b).ret)
theorem qX{p a b c d}(e:fy p a b=M c)(f:mh p c=M d):ew p a b=d:=by
 unfold ew;rw[e,au,f];rfl
theorem Fs(p):∀(c:Ok) (a:ef) (b:Nat),gC p (c.take b) a=U->gC p c a=U
 | [], a, b, h => by simp[gC]at h
 | t :: r, a, 0, h => by simp[gC]at h
 | t :: r, a, b + 1, h => by
  rw[dz]at h;unfold gC at h ⊢
  cases d:fC p t a with
  | none => rfl
  | some e =>
   rw[d]at h;exact Fs p r e b h
theorem AH(p b):∀(c:Ok) (a:ef),gC p (c++ [b]) a=(gC p c a).bind (fC p b)
 | [], a => by
  simp only[bN,gC,au]
  cases fC p b a <;> rfl
 | x :: r, a => by
  rw[cB];unfold gC
  cases fC p x a with
  | none => rfl
  | some a => exact AH p b r a
theorem FZ{a b c}(d:Below a b c)(f:a<=b.heap.size)(e):Below a b (c.alloc e).drew:=(d.alloc (ap f d.size) e).drew
theorem F5{a b c}(d:Below a b c)(f:a<=b.heap.size)(e):Below a b (c.drew.alloc e):=d.drew.alloc (ap f d.size) e
theorem J7(H a b p cu h j v f g L)(A:gQ v f g p cu h L j)(a8:ez p p.length)(ba:eM p<=4194304)(ec:h.stack<=8)(f4:0<=a)(f6:a<(p.length:Int))(eo:(fy p a b).isSome=K)(et:∀x∈(ew p a b).args,fz p.length x)(ep:fz p.length (ew p a b).ret):
  Calls Tryz.prog 208 #[zP (M ⟨g,0,U⟩),.agg #[J I H,J I a,J I b]] f λc P=>(∀N,oe p h a b j=M N->c=zR (.tuple #[])/\gQ v P g p cu h L N)/\(oe p h a b j=U->c= .panicked (lJ 5))/\ee (λe=>e=g) f P:=by
 have cg:p.length<=4194304:=ap (fQ p) ba;obtain⟨a2,ce⟩:=bQ.1 eo;have bh:=Ou A;have ej:=A.lk.lt;have e2:=A.cell (by omega) A.p0;obtain⟨bc,_,_,be,rfl,_⟩:=A.pr;have X:=Ou ce;clear A ce;go_in
 go_wp2_with fail;have y:=Ou (bh.below (ev f (zC #[J I H,J I a,J I b] 60)));have cc:Below f.heap.size f (f.alloc (zC #[J I H,J I a,J I b] 60)):=ev _ _;have ac:=Oz f #[J I H,J I a,J I b] 60;have ak:(f.alloc (zC #[J I H,J I a,J I b] 60)).heap.size=f.heap.size+1:=by simp
 have d4:=Ou ak;clear ak;generalize f.alloc _=W at *;have cA:W.cell? ⟨g,0,U⟩=M (O bc p.length be):=y.cell (by omega) y.p0;have dp:=ac.c1;have ds:=ac.c2;have o:=Ou (aq cA (aq dp ds))
 go_cut [4,5] (λd e c=>∃(aa a0 a3:Option Addr) (ab a1 a4 z:Nat),d=zP (M ⟨z,0,U⟩)/\e=zB K/\W.heap.size<=z/\ed c z 63 [J I (ew p a b).slot,O aa (ew p a b).args.length ab,J I (ew p a b).ret,J I (ew p a b).locals,J I (ew p a b).stack,O a0 (ew p a b).code.length a1,O a3 (ew p a b).frames.length a4]/\eG 1 (gF v) (O aa (ew p a b).args.length ab) (ew p a b).args/\Below W.heap.size W c/\mh p a2=M (ew p a b))
 case first=>
  have n:=y.b0;have s:=y.pr;have i:=Ou n;have u:=Ou s;clear n s
  go_region_held3 (λP=>P.cell? ⟨g,0,U⟩=M (O bc p.length be)/\P.cell? ⟨f.heap.size,1,U⟩=M (J I a)/\P.cell? ⟨f.heap.size,2,U⟩=M (J I b))
   (first
     | with_reducible exact kF o.out (pY (oI Q.out) (ai _) _ _ _ _ _ _ _).drew.drew
     | with_reducible exact kF o.out (pY (oI Q.out) (ai _) _ _ _ _ _ _ _).drew
     | with_reducible exact kF o.out (pY (oI Q.out) (ai _) _ _ _ _ _ _ _)
     | with_reducible exact kF o.out (jL w)
     | with_reducible exact kF o.out ((jL w).alloc (jL w).size _)
     | with_reducible exact kF o.out (oI Q.out)
     | with_reducible exact kF o.out (wd _)
     | with_reducible exact kF o.out (yK _)
     | (with_reducible exact o.out)
     | go_keep)
   (first | ((go_at_call 109;refine(tm p _ p.length _ _ v _ u.out ?_ a8 (ai _) (by omega) (by omega) ba).mono ?_);(first | with_reducible exact i.out.drew | with_reducible exact FZ i.out (ai _) _ | with_reducible exact F5 i.out (ai _) _);rintro c cz ⟨d,B,D,F,C,E,G,rfl,a6,w⟩;(first | (have bf:=Br w;obtain⟨⟨e5,e6,e7,e9,fa,fc,fn⟩,fo,fs,ft,f0,f1,f2,f3⟩:=yO bf;have d5:=Ou bf;have Q:=Ou w;have d1:=Ou a6;clear bf w a6;skip) | skip)))
  .obtain⟨r,m⟩:=a6 a2 X;obtain rfl:=qX X r;have k:=jL w;have q:=Oz cz #[J I (ew p a b).slot,O B (ew p a b).args.length C,J I (ew p a b).ret,J I (ew p a b).locals,J I (ew p a b).stack,O D (ew p a b).code.length E,O F (ew p a b).frames.length G] 63;have l:=k.alloc k.size (zC #[J I (ew p a b).slot,O B (ew p a b).args.length C,J I (ew p a b).ret,J I (ew p a b).locals,J I (ew p a b).stack,O D (ew p a b).code.length E,O F (ew p a b).frames.length G] 63);have R:=k.size;go_wp2
   go_meet
   case rel=>exact ⟨B,D,F,C,E,G,cz.heap.size,rfl,rfl,R,q,m.1,l,r⟩
  .obtain⟨r,m⟩:=d1.out a2 X;obtain rfl:=qX X r;have l:=pY (oI Q.out) (ai _) (J I (ew p a b).slot) (O B (ew p a b).args.length C) (J I (ew p a b).ret) (J I (ew p a b).locals) (J I (ew p a b).stack) (O D (ew p a b).code.length E) (O F (ew p a b).frames.length G);have q:=xu d5 (J I (ew p a b).slot) (O B (ew p a b).args.length C) (J I (ew p a b).ret) (J I (ew p a b).locals) (J I (ew p a b).stack) (O D (ew p a b).code.length E) (O F (ew p a b).frames.length G);unfold tU at q;go_wp2
   go_meet
   case rel=>exact ⟨B,D,F,C,E,G,W.heap.size,rfl,rfl,ai _,q,m.1,l,r⟩
 case rest=>
  obtain⟨aa,a0,a3,ab,a1,a4,z,rfl,rfl,ga,q,cm,an,r⟩:=hcut;have ak:=ea d4;have b5:=y.below an;have b7:=ac.bl an;have b6:ee (λe=>e=g) f wc:=(fX cc).trans (fX (S:=λe=>e=g) an) (λ_ _ c=>c);clear cA dp ds o ac y bh cc;have cs:=q.c1;have gc:g<f.heap.size:=ej;have b8:z≠g:=by omega
  have eg:f.heap.size≠g:=by omega
  have f9:(ew p a b).args.length<=4194304:=zO r ba;clear r;obtain⟨gl,d6,d9,gm,ck,_,er,cn⟩:=it cm;simp only[Value.slice.injEq,true_and]at ck;obtain⟨rfl,rfl⟩:=ck;have bz:=Ou b5;have bn:=Ou q;have bo:=Ou b7;have bI:=Ou b6;have d3:=Ou cn;clear b5 q b7 b6 cn ak cm an;generalize ca:ew p a b=d at *;have ar:=Ou ca;clear ca;go_wp2
  go_loopw [6,22] (λi c wr=>∃(e:Nat) (s:ef),e<=d.args.length/\c=J I e/\gC p (d.args.reverse.take e) j=M s/\gQ v wr g p (O bc p.length be) h L s/\ee (λe=>e=g) f wr/\ed wr z 63 [J I d.slot,O aa d.args.length ab,J I d.ret,J I d.locals,J I d.stack,O a0 d.code.length a1,O a3 d.frames.length a4]/\ed wr f.heap.size 60 [J I H,J I a,J I b]) (λ_ c _=>d.args.length-(intOf c).toNat)
  case atStart=>exact ⟨0,j,az _,rfl,rfl,ea bz,ea bI,ea bn,ea bo⟩
  case round=>
   obtain⟨e,s,gb,rfl,cp,b9,cb,ad,a5⟩:=hrel;have cs:=ad.c1;have eP:=ad.c2;have eR:=a5.c1;have Z:=Ou cp;have ao:=Ou b9;have Y:=Ou cb;have br:=Ou ad;have d0:=Ou a5;clear cp b9 cb ad a5 bz bI bn bo
   by_cases cf:e<d.args.length
   .obtain rfl:=er (eW cf);obtain⟨k,bs⟩:∃k,k+e+1=d.args.length:=⟨d.args.length-1-e,by omega⟩;have bM:k<d.args.length:=(by omega);have e3:wr.cell? ⟨d6,d9+k,U⟩=M (J I d.args[k]):=Oq ao.b0 _ _ (d3 k bM);have d2:fz p.length d.args[k]:=et _ (av bM)
    have ci:d.args.reverse.take (e+1)=d.args.reverse.take e++ [d.args[k]]:=by
     rw[bd,List.getElem?_reverse (by omega),ae (by omega),dq]
     congr 3
     omega
    have bk:=Ou ci;clear ci;generalize d.args[k]=t at *;have en:(e:Int)<(d.args.length:Int):=(by omega);have e4:(d.args.length:Int)-1-(e:Int)=(k:Int):=(by omega);have gf:=fp k;have gk:(k:Int)<(d.args.length:Int):=(by omega);have e1:=Ou bs;clear bs;go_wp2_with fail;refine Calls.mono (qs t p _ h s v wr g L ao a8 cg d2) ?_;rintro c eS ⟨l,m,V⟩
    cases i:fC p t s with
    | none =>
     obtain rfl:=m i
     have n:Hid (oe p h a b j=U):=by
      show _=_
      unfold oe;rw[ea ar,Fs p d.args.reverse j (e+1) (by rw[ea bk,AH,ea Z];exact i)]
      rfl
     have R:=Ou (Y.trans V (λ_ _ c=>c));clear i l m;go_wp2_with fail;exact⟨rfl,λN c=>(by rw[ea n]at c;cases c),λ_=>rfl,ea R⟩
    | some u =>
     obtain⟨rfl,T⟩:=l u i;have n:Hid (gC p (d.args.reverse.take (e+1)) j=M u):=(by show _=_;rw[ea bk,AH,ea Z];exact i);have R:=Ou (aq T (aq (Y.trans V (λ_ _ c=>c)) (aq (br.mods V b8) (d0.mods V eg))));clear i l m T V;go_wp2_with fail;obtain⟨ei,es,eK,e0⟩:=R;exact⟨⟨e+1,u,by omega,by go_num,ea n,ei,es,eK,e0⟩,by simp[intOf];omega⟩
   .have en:¬(e:Int)<(d.args.length:Int):=(by omega)
    have bk:Hid (gC p d.args.reverse j=M s):=by
     show _=_
     have:=ea Z
     rwa[aH (by simp;omega)]at this
    have es:fz p.length (a+3):=⟨by omega,by omega⟩;clear cf Z cs;go_wp2_with fail;refine(og a (by omega) (by omega) _).mono ?_;rintro c eS ⟨rfl,rfl⟩;go_wp2_with fail;refine(qs (a+3) p _ h s v _ g L ao a8 cg es).mono ?_;rintro c e0 ⟨l,m,V⟩
    cases i:fC p (a+3) s with
    | none =>
     obtain rfl:=m i
     have n:Hid (oe p h a b j=U):=by
      show _=_
      unfold oe;rw[ea ar,ea bk,au,i]
      rfl
     have R:=Ou (Y.trans V (λ_ _ c=>c));clear i l m;go_wp2_with fail;exact⟨rfl,λN c=>(by rw[ea n]at c;cases c),λ_=>rfl,ea R⟩
    | some u =>
     obtain⟨rfl,T⟩:=l u i
     have bs:Hid (oe p h a b j=fj h d.ret u):=by
      show _=_
      unfold oe;rw[ea ar,ea bk,au,i]
      rfl
     have R:=Ou (Y.trans V (λ_ _ c=>c));have e1:=(br.out.mods V b8).c2;have d2:=Ou T;clear i l m T V eP eR;go_wp2_with fail;refine(ov d.ret p _ h u v e0 g L d2 ep ec).mono ?_;rintro c e3 ⟨l,m,eK⟩;have bM:=Ou (R.trans eK (λ_ _ c=>c))
     cases k:fj h d.ret u with
     | none =>
      obtain rfl:=m k;have n:Hid (oe p h a b j=U):=(by show _=_;rw[ea bs,k]);clear k l m;go_wp2_with fail;exact⟨rfl,λN c=>(by rw[ea n]at c;cases c),λ_=>rfl,ea bM⟩
     | some ci =>
      obtain⟨rfl,ei⟩:=l ci k;have n:Hid (oe p h a b j=M ci):=(by show _=_;rw[ea bs,k]);clear k l m;go_wp2;go_end0;refine⟨λN c=>?_,λc=>(by rw[ea n]at c;cases c),ea bM⟩;rw[ea n]at c;simp only[aX]at c;subst c;exact⟨rfl,ei⟩
end
section
attribute [local go_sem ↓] Go.wp_at_zero Go.wp_at_succ
def gE (p:On)(m:eh)(i:fG)(s:ef)(w0 w w':World)(bl:Nat)(vc:Value)(pre:Oj)(e:Ending):Prop:=
 (∀s',fe p m i s=M s'->e=zR (.tuple #[])/\gQ w0 w' bl p vc m pre s')/\(fe p m i s=U->e= .panicked (lJ 5))/\ee (λk=>k=bl) w w'
theorem ue(c){a}(b:0<=a)(d:a<=2):fz c a:=⟨b,by omega⟩
theorem xY{b:Nat}{a}(c:0<=a)(d:a<(b:Int)):fz b (a+3):=⟨by omega,by omega⟩
theorem Hj(c d p m b e n f g l)(r:gQ n f g p m b l e)(A:ez p p.length)(B:eM p<=4194304)(s:b.stack<=8):
  Calls Tryz.prog 156 #[zP (M ⟨g,0,U⟩),.agg #[J I 0,J I c,J I d]] f λa D=>gE p b ⟨0,c,d⟩ e n f D g m l a:=by
 have:p.length<=4194304:=(λ(_:ez p p.length) (_:b.stack<=8)=>ap (fQ p) B) A s;have:=r.lk.lt;have w:=Ou (r.below (ev f (zC #[J I 0,J I c,J I d] 60)));have i:=Oz f #[J I 0,J I c,J I d] 60;have o:=Ou (fX (S:=λa=>a=g) (ev f (zC #[J I 0,J I c,J I d] 60)));have q:Hid (fe p b ⟨0,c,d⟩ e=fj b 0 e):=rfl;unfold gE;go_in
 go_wp2_with fail;generalize f.alloc _=W at *;have:=Ou i;have:=i.c0;have:=i.c1;have:=i.c2;have:f.heap.size≠g:=by omega
 refine(ov 0 p m b e n _ g l w (ue _ (by omega) (by omega)) s).mono ?_;rintro a f ⟨x,y,t⟩
 cases j:fj b 0 e with
 | none =>
  obtain rfl:=y j;have h:Hid (fe p b ⟨0,c,d⟩ e=U):=by show _=_;rw[ea q,j] <;> rfl
  have k:=Ou (o.trans t (λ_ _ a=>a));go_wp2_with fail;exact⟨rfl,λC a=>(by rw[ea h]at a;cases a),λ_=>rfl,ea k⟩
 | some u =>
  obtain⟨rfl,z⟩:=x u j;have h:Hid (fe p b ⟨0,c,d⟩ e=M u):=by show _=_;rw[ea q,j] <;> rfl
  have v:=Ou z;have k:=Ou (o.trans t (λ_ _ a=>a));go_wp2;go_end0;refine⟨λC a=>?_,λa=>(by rw[ea h]at a;cases a),ea k⟩;rw[ea h]at a;simp only[aX]at a;subst a;exact⟨rfl,ea v⟩
theorem wG(e n o)(N:e=3\/e=4\/e=5\/e=6)(p v c j w k i u)(H:gQ w k i p v c u j)(C:ez p p.length)(T:eM p<=4194304)(K:c.stack<=8):
  Calls Tryz.prog 156 #[zP (M ⟨i,0,U⟩),.agg #[J I e,J I n,J I o]] k λa V=>gE p c ⟨e,n,o⟩ j w k V i v u a:=by
 have _hpl:p.length<=4194304:=(λ(_:ez p p.length) (_:c.stack<=8)=>ap (fQ p) T) C K;have:=H.lk.lt;have q:=Ou (H.below (ev k (zC #[J I e,J I n,J I o] 60)));have y:=Oz k #[J I e,J I n,J I o] 60;have g:=Ou (fX (S:=λa=>a=i) (ev k (zC #[J I e,J I n,J I o] 60)));unfold gE;obtain⟨f,B⟩:∃f,f=fe p c ⟨e,n,o⟩ j:=⟨_,rfl⟩;rw[<-B];have E:Hid (f=(fC p 0 j).bind λj=>(fC p 0 j).bind (fj c 0)):=by show _=_;rw[B];rcases N with rfl | rfl | rfl | rfl <;> rfl
 clear B
 rcases N with rfl | rfl | rfl | rfl
 all_goals
  go_in
  go_wp2_with fail;generalize k.alloc _=W at *;have x:=Ou y;have:=y.c0;have O:=y.c1;have P:=y.c2;have L:k.heap.size≠i:=by omega
  refine(qs 0 p v c j w _ i u q C _hpl (ue _ (by omega) (by omega))).mono ?_;rintro a e ⟨r,s,d⟩
  cases b:fC p 0 j with
  | none =>
   obtain rfl:=s b;have h:Hid (f=U):=by show _=_;rw[ea E,b] <;> rfl
   have m:=Ou (g.trans d (λ_ _ a=>a));go_wp2_with fail;exact⟨rfl,λD a=>(by rw[ea h]at a;cases a),λ_=>rfl,ea m⟩
  | some z =>
   obtain⟨rfl,t⟩:=r z b;have F:Hid (f=(fC p 0 z).bind (fj c 0)):=by show _=_;rw[ea E,b] <;> rfl
   have l:=Ou (x.mods d L);replace O:=l.out.c1;replace P:=l.out.c2;replace x:=l;replace q:=Ou t;replace g:=Ou (g.trans d (λ_ _ a=>a));go_wp2_with fail;refine(qs 0 p v c z w _ i u q C _hpl (ue _ (by omega) (by omega))).mono ?_;rintro a e ⟨r,s,d⟩
   cases b:fC p 0 z with
   | none =>
    obtain rfl:=s b;have h:Hid (f=U):=by show _=_;rw[ea F,b] <;> rfl
    have m:=Ou (g.trans d (λ_ _ a=>a));go_wp2_with fail;exact⟨rfl,λD a=>(by rw[ea h]at a;cases a),λ_=>rfl,ea m⟩
   | some A =>
    obtain⟨rfl,t⟩:=r A b;have G:Hid (f=fj c 0 A):=by show _=_;rw[ea F,b] <;> rfl
    have l:=Ou (x.mods d L);replace O:=l.out.c1;replace P:=l.out.c2;replace x:=l;replace q:=Ou t;replace g:=Ou (g.trans d (λ_ _ a=>a));go_wp2_with fail;refine(ov 0 p v c A w _ i u q (ue _ (by omega) (by omega)) K).mono ?_;rintro a e ⟨r,s,d⟩
    cases b:fj c 0 A with
    | none =>
     obtain rfl:=s b;have h:Hid (f=U):=by show _=_;rw[ea G,b] <;> rfl
     have m:=Ou (g.trans d (λ_ _ a=>a));go_wp2_with fail;exact⟨rfl,λD a=>(by rw[ea h]at a;cases a),λ_=>rfl,ea m⟩
    | some Q =>
     obtain⟨rfl,t⟩:=r Q b;have h:Hid (f=M Q):=by show _=_;rw[ea G,b] <;> rfl
     have R:=Ou t;have m:=Ou (g.trans d (λ_ _ a=>a));go_wp2;go_end0;refine⟨λD a=>?_,λa=>(by rw[ea h]at a;cases a),ea m⟩;rw[ea h]at a;simp only[aX]at a;subst a;exact⟨rfl,ea R⟩
theorem Cl(b d e)(v:b=8\/b=19)(p q g h r c f o)(u:gQ r c f p q g o h)(w:ez p p.length)(F:eM p<=4194304)(D:g.stack<=8):
  Calls Tryz.prog 156 #[zP (M ⟨f,0,U⟩),.agg #[J I b,J I d,J I e]] c λa H=>gE p g ⟨b,d,e⟩ h r c H f q o a:=by
 have _hpl:p.length<=4194304:=(λ(_:ez p p.length) (_:g.stack<=8)=>ap (fQ p) F) w D;have:=u.lk.lt;have A:=Ou (u.below (ev c (zC #[J I b,J I d,J I e] 60)));have k:=Oz c #[J I b,J I d,J I e] 60;have s:=Ou (fX (S:=λa=>a=f) (ev c (zC #[J I b,J I d,J I e] 60)));unfold gE;obtain⟨i,n⟩:∃i,i=fe p g ⟨b,d,e⟩ h:=⟨_,rfl⟩;rw[<-n];have t:Hid (i=fC p 0 h):=by show _=_;rw[n];rcases v with rfl | rfl <;> rfl
 clear n
 rcases v with rfl | rfl
 all_goals
  go_in
  go_wp2_with fail;generalize c.alloc _=W at *;have:=Ou k;have:=k.c0;have:=k.c1;have:=k.c2;have:c.heap.size≠f:=by omega
  refine(qs 0 p q g h r _ f o A w _hpl (ue _ (by omega) (by omega))).mono ?_;rintro a b ⟨B,C,x⟩
  cases l:fC p 0 h with
  | none =>
   obtain rfl:=C l;have j:Hid (i=U):=by show _=_;rw[ea t,l] <;> rfl
   have m:=Ou (s.trans x (λ_ _ a=>a));go_wp2_with fail;exact⟨rfl,λG a=>(by rw[ea j]at a;cases a),λ_=>rfl,ea m⟩
  | some y =>
   obtain⟨rfl,E⟩:=B y l;have j:Hid (i=M y):=by show _=_;rw[ea t,l] <;> rfl
   have z:=Ou E;have m:=Ou (s.trans x (λ_ _ a=>a));go_wp2;go_end0;refine⟨λG a=>?_,λa=>(by rw[ea j]at a;cases a),ea m⟩;rw[ea j]at a;simp only[aX]at a;subst a;exact⟨rfl,ea z⟩
theorem Hx(b d p m c e n f g l)(r:gQ n f g p m c l e)(D:ez p p.length)(E:eM p<=4194304)(s:c.stack<=8)(B:0<=b)(C:b<(p.length:Int)):
  Calls Tryz.prog 156 #[zP (M ⟨g,0,U⟩),.agg #[J I 9,J I b,J I d]] f λa v=>gE p c ⟨9,b,d⟩ e n f v g m l a:=by
 have:p.length<=4194304:=(λ(_:ez p p.length) (_:c.stack<=8)=>ap (fQ p) E) D s;have:=r.lk.lt;have x:=Ou (r.below (ev f (zC #[J I 9,J I b,J I d] 60)));have i:=Oz f #[J I 9,J I b,J I d] 60;have o:=Ou (fX (S:=λa=>a=g) (ev f (zC #[J I 9,J I b,J I d] 60)));have q:Hid (fe p c ⟨9,b,d⟩ e=fj c (b+3) e):=rfl;unfold gE;go_in
 go_wp2_with fail;generalize f.alloc _=W at *;have:=Ou i;have:=i.c0;have:=i.c1;have:=i.c2;have:f.heap.size≠g:=by omega
 refine(og b (by omega) (by omega) _).mono ?_;rintro a v ⟨rfl,rfl⟩;go_wp2_with fail;refine(ov (b+3) p m c e n _ g l x (xY B C) s).mono ?_;rintro a f ⟨y,z,t⟩
 cases j:fj c (b+3) e with
 | none =>
  obtain rfl:=z j;have h:Hid (fe p c ⟨9,b,d⟩ e=U):=by show _=_;rw[ea q,j] <;> rfl
  have k:=Ou (o.trans t (λ_ _ a=>a));go_wp2_with fail;exact⟨rfl,λF a=>(by rw[ea h]at a;cases a),λ_=>rfl,ea k⟩
 | some u =>
  obtain⟨rfl,A⟩:=y u j;have h:Hid (fe p c ⟨9,b,d⟩ e=M u):=by show _=_;rw[ea q,j] <;> rfl
  have w:=Ou A;have k:=Ou (o.trans t (λ_ _ a=>a));go_wp2;go_end0;refine⟨λF a=>?_,λa=>(by rw[ea h]at a;cases a),ea k⟩;rw[ea h]at a;simp only[aX]at a;subst a;exact⟨rfl,ea w⟩
theorem Hn(a c p m d e n f g l)(r:gQ n f g p m d l e)(t:ez p p.length)(u:eM p<=4194304)(s:d.stack<=8)(D:0<=a)(E:a<(p.length:Int))(F:(fy p a c).isSome=K)(H:∀x∈(ew p a c).args,fz p.length x)(G:fz p.length (ew p a c).ret):
  Calls Tryz.prog 156 #[zP (M ⟨g,0,U⟩),.agg #[J I 12,J I a,J I c]] f λb N=>gE p d ⟨12,a,c⟩ e n f N g m l b:=by
 have:p.length<=4194304:=(λ(_:ez p p.length) (_:d.stack<=8)=>ap (fQ p) u) t s;have:=r.lk.lt;have z:=Ou (r.below (ev f (zC #[J I 12,J I a,J I c] 60)));have i:=Oz f #[J I 12,J I a,J I c] 60;have o:=Ou (fX (S:=λb=>b=g) (ev f (zC #[J I 12,J I a,J I c] 60)));have q:Hid (fe p d ⟨12,a,c⟩ e=oe p d a c e):=rfl;unfold gE;go_in
 go_wp2_with fail;generalize f.alloc _=W at *;have:=Ou i;have:=i.c0;have:=i.c1;have:=i.c2;have:f.heap.size≠g:=by omega
 refine(J7 12 a c p m d e n _ g l z t u s D E F H G).mono ?_;rintro b f ⟨A,B,v⟩
 cases j:oe p d a c e with
 | none =>
  obtain rfl:=B j;have h:Hid (fe p d ⟨12,a,c⟩ e=U):=by show _=_;rw[ea q,j] <;> rfl
  have k:=Ou (o.trans v (λ_ _ b=>b));go_wp2_with fail;exact⟨rfl,λL b=>(by rw[ea h]at b;cases b),λ_=>rfl,ea k⟩
 | some w =>
  obtain⟨rfl,C⟩:=A w j;have h:Hid (fe p d ⟨12,a,c⟩ e=M w):=by show _=_;rw[ea q,j] <;> rfl
  have y:=Ou C;have k:=Ou (o.trans v (λ_ _ b=>b));go_wp2;go_end0;refine⟨λL b=>?_,λb=>(by rw[ea h]at b;cases b),ea k⟩;rw[ea h]at b;simp only[aX]at b;subst b;exact⟨rfl,ea y⟩
theorem Ho(c d p n b e o f g m)(s:gQ o f g p n b m e)(t:ez p p.length)(C:eM p<=4194304)(z:b.stack<=8)(B:fz p.length b.ret):
  Calls Tryz.prog 156 #[zP (M ⟨g,0,U⟩),.agg #[J I 13,J I c,J I d]] f λa E=>gE p b ⟨13,c,d⟩ e o f E g n m a:=by
 have _hpl:p.length<=4194304:=(λ(_:ez p p.length) (_:b.stack<=8)=>ap (fQ p) C) t z;have:=s.lk.lt;have l:=Ou (s.below (ev f (zC #[J I 13,J I c,J I d] 60)));have i:=Oz f #[J I 13,J I c,J I d] 60;have q:=Ou (fX (S:=λa=>a=g) (ev f (zC #[J I 13,J I c,J I d] 60)));have r:Hid (fe p b ⟨13,c,d⟩ e=fC p b.ret e):=rfl;have:=l.cell (by omega) l.p3;unfold gE;go_in
 go_wp2_with fail;generalize f.alloc _=W at *;have:=Ou i;have:=i.c0;have:=i.c1;have:=i.c2;have:f.heap.size≠g:=by omega
 refine(qs b.ret p n b e o _ g m l t _hpl B).mono ?_;rintro a f ⟨x,y,u⟩
 cases j:fC p b.ret e with
 | none =>
  obtain rfl:=y j;have h:Hid (fe p b ⟨13,c,d⟩ e=U):=by show _=_;rw[ea r,j] <;> rfl
  have k:=Ou (q.trans u (λ_ _ a=>a));go_wp2_with fail;exact⟨rfl,λD a=>(by rw[ea h]at a;cases a),λ_=>rfl,ea k⟩
 | some v =>
  obtain⟨rfl,A⟩:=x v j;have h:Hid (fe p b ⟨13,c,d⟩ e=M v):=by show _=_;rw[ea r,j] <;> rfl
  have w:=Ou A;have k:=Ou (q.trans u (λ_ _ a=>a));go_wp2;go_end0;refine⟨λD a=>?_,λa=>(by rw[ea h]at a;cases a),ea k⟩;rw[ea h]at a;simp only[aX]at a;subst a;exact⟨rfl,ea w⟩
theorem Hp(b c p t f d u e g n)(r:gQ u e g p t f n d)(A:ez p p.length)(B:eM p<=4194304)(y:f.stack<=8):
  Calls Tryz.prog 156 #[zP (M ⟨g,0,U⟩),.agg #[J I 14,J I b,J I c]] e λa D=>gE p f ⟨14,b,c⟩ d u e D g t n a:=by
 have:p.length<=4194304:=(λ(_:ez p p.length) (_:f.stack<=8)=>ap (fQ p) B) A y;have:=r.lk.lt;have l:=Ou (r.below (ev e (zC #[J I 14,J I b,J I c] 60)));have j:=Oz e #[J I 14,J I b,J I c] 60;have o:=Ou (fX (S:=λa=>a=g) (ev e (zC #[J I 14,J I b,J I c] 60)));have q : Hid (fe p f ⟨14, b, c⟩ d = (fS d).map (·.2)) := rfl;unfold gE;go_in
 go_wp2_with fail;generalize e.alloc _=W at *;have:=Ou j;have:=j.c0;have:=j.c1;have:=j.c2;have:e.heap.size≠g:=by omega
 refine(su d _ g n l.lk).mono ?_;rintro a e ⟨w,x,m⟩
 cases h:fS d with
 | none =>
  obtain rfl:=x h;have i:Hid (fe p f ⟨14,b,c⟩ d=U):=by show _=_;rw[ea q,h] <;> rfl
  have k:=Ou (o.trans m (λ_ _ a=>a));go_wp2_with fail;exact⟨rfl,λC a=>(by rw[ea i]at a;cases a),λ_=>rfl,ea k⟩
 | some G =>
  obtain⟨E,s⟩:=G;obtain⟨rfl,g⟩:=w E s h;have e:=sJ h l.ty;have z:=l.next g m e.2;have:=e.1;have i:Hid (fe p f ⟨14,b,c⟩ d=M s):=by show _=_;rw[ea q,h] <;> rfl
  have v:=Ou z;have k:=Ou (o.trans m (λ_ _ a=>a));go_wp2;go_end0;refine⟨λC a=>?_,λa=>(by rw[ea i]at a;cases a),ea k⟩;rw[ea i]at a;simp only[aX]at a;subst a;exact⟨rfl,ea v⟩
theorem Hq(d e p y b f z l k t)(G:gQ z l k p y b t f)(P:ez p p.length)(Q:eM p<=4194304)(A:b.stack<=8):
  Calls Tryz.prog 156 #[zP (M ⟨k,0,U⟩),.agg #[J I 15,J I d,J I e]] l λa R=>gE p b ⟨15,d,e⟩ f z l R k y t a:=by
 have:p.length<=4194304:=(λ(_:ez p p.length) (_:b.stack<=8)=>ap (fQ p) Q) P A;have:=G.lk.lt;have o:=Ou (G.below (ev l (zC #[J I 15,J I d,J I e] 60)));have v:=Oz l #[J I 15,J I d,J I e] 60;have i:=Ou (fX (S:=λa=>a=k) (ev l (zC #[J I 15,J I d,J I e] 60)));have C:Hid (fe p b ⟨15,d,e⟩ f=(fS f).bind λg=>(fj b g.1 g.2).bind (fj b g.1)):=rfl;unfold gE;go_in
 go_wp2_with fail;generalize l.alloc _=W at *;have u:=Ou v;have:=v.c0;have K:=v.c1;have L:=v.c2;have H:l.heap.size≠k:=by omega
 refine(su f _ k t o.lk).mono ?_;rintro a l ⟨q,r,h⟩
 cases c:fS f with
 | none =>
  obtain rfl:=r c;have j:Hid (fe p b ⟨15,d,e⟩ f=U):=by show _=_;rw[ea C,c] <;> rfl
  have n:=Ou (i.trans h (λ_ _ a=>a));go_wp2_with fail;exact⟨rfl,λB a=>(by rw[ea j]at a;cases a),λ_=>rfl,ea n⟩
 | some T =>
  obtain⟨g,w⟩:=T;obtain⟨rfl,v⟩:=q g w c;have l:=sJ c o.ty;have s:=o.next v h l.2;have F:=l.1;have D:Hid (fe p b ⟨15,d,e⟩ f=(fj b g w).bind (fj b g)):=by show _=_;rw[ea C,c] <;> rfl
  have m:=Ou (u.mods h H);replace K:=m.out.c1;replace L:=m.out.c2;replace u:=m;replace o:=Ou s;replace i:=Ou (i.trans h (λ_ _ a=>a));go_wp2_with fail;refine(ov g p y b w z _ k t o F A).mono ?_;rintro a l ⟨q,r,h⟩
  cases c:fj b g w with
  | none =>
   obtain rfl:=r c;have j:Hid (fe p b ⟨15,d,e⟩ f=U):=by show _=_;rw[ea D,c] <;> rfl
   have n:=Ou (i.trans h (λ_ _ a=>a));go_wp2_with fail;exact⟨rfl,λB a=>(by rw[ea j]at a;cases a),λ_=>rfl,ea n⟩
  | some x =>
   obtain⟨rfl,s⟩:=q x c;have E:Hid (fe p b ⟨15,d,e⟩ f=fj b g x):=by show _=_;rw[ea D,c] <;> rfl
   have m:=Ou (u.mods h H);replace K:=m.out.c1;replace L:=m.out.c2;replace u:=m;replace o:=Ou s;replace i:=Ou (i.trans h (λ_ _ a=>a));go_wp2_with fail;refine(ov g p y b x z _ k t o F A).mono ?_;rintro a k ⟨q,r,h⟩
   cases c:fj b g x with
   | none =>
    obtain rfl:=r c;have j:Hid (fe p b ⟨15,d,e⟩ f=U):=by show _=_;rw[ea E,c] <;> rfl
    have n:=Ou (i.trans h (λ_ _ a=>a));go_wp2_with fail;exact⟨rfl,λB a=>(by rw[ea j]at a;cases a),λ_=>rfl,ea n⟩
   | some N =>
    obtain⟨rfl,s⟩:=q N c;have j:Hid (fe p b ⟨15,d,e⟩ f=M N):=by show _=_;rw[ea E,c] <;> rfl
    have O:=Ou s;have n:=Ou (i.trans h (λ_ _ a=>a));go_wp2;go_end0;refine⟨λB a=>?_,λa=>(by rw[ea j]at a;cases a),ea n⟩;rw[ea j]at a;simp only[aX]at a;subst a;exact⟨rfl,ea O⟩
theorem Hr(c d p m b e n f g l)(r:gQ n f g p m b l e)(A:ez p p.length)(B:eM p<=4194304)(s:b.stack<=8):
  Calls Tryz.prog 156 #[zP (M ⟨g,0,U⟩),.agg #[J I 16,J I c,J I d]] f λa D=>gE p b ⟨16,c,d⟩ e n f D g m l a:=by
 have:p.length<=4194304:=(λ(_:ez p p.length) (_:b.stack<=8)=>ap (fQ p) B) A s;have:=r.lk.lt;have w:=Ou (r.below (ev f (zC #[J I 16,J I c,J I d] 60)));have i:=Oz f #[J I 16,J I c,J I d] 60;have o:=Ou (fX (S:=λa=>a=g) (ev f (zC #[J I 16,J I c,J I d] 60)));have q:Hid (fe p b ⟨16,c,d⟩ e=fj b 1 e):=rfl;unfold gE;go_in
 go_wp2_with fail;generalize f.alloc _=W at *;have:=Ou i;have:=i.c0;have:=i.c1;have:=i.c2;have:f.heap.size≠g:=by omega
 refine(ov 1 p m b e n _ g l w (ue _ (by omega) (by omega)) s).mono ?_;rintro a f ⟨x,y,t⟩
 cases j:fj b 1 e with
 | none =>
  obtain rfl:=y j;have h:Hid (fe p b ⟨16,c,d⟩ e=U):=by show _=_;rw[ea q,j] <;> rfl
  have k:=Ou (o.trans t (λ_ _ a=>a));go_wp2_with fail;exact⟨rfl,λC a=>(by rw[ea h]at a;cases a),λ_=>rfl,ea k⟩
 | some u =>
  obtain⟨rfl,z⟩:=x u j;have h:Hid (fe p b ⟨16,c,d⟩ e=M u):=by show _=_;rw[ea q,j] <;> rfl
  have v:=Ou z;have k:=Ou (o.trans t (λ_ _ a=>a));go_wp2;go_end0;refine⟨λC a=>?_,λa=>(by rw[ea h]at a;cases a),ea k⟩;rw[ea h]at a;simp only[aX]at a;subst a;exact⟨rfl,ea v⟩
theorem Hs(b d p q c e r g h n)(A:gQ r g h p q c n e)(L:ez p p.length)(N:eM p<=4194304)(B:c.stack<=8)(G:0<=b)(H:b<(p.length:Int)):
  Calls Tryz.prog 156 #[zP (M ⟨h,0,U⟩),.agg #[J I 17,J I b,J I d]] g λa E=>gE p c ⟨17,b,d⟩ e r g E h q n a:=by
 have:p.length<=4194304:=(λ(_:ez p p.length) (_:c.stack<=8)=>ap (fQ p) N) L B;have:=A.lk.lt;have t:=Ou (A.below (ev g (zC #[J I 17,J I b,J I d] 60)));have m:=Oz g #[J I 17,J I b,J I d] 60;have k:=Ou (fX (S:=λa=>a=h) (ev g (zC #[J I 17,J I b,J I d] 60)));have y:Hid (fe p c ⟨17,b,d⟩ e=(iU e).bind (fj c (b+3))):=rfl;unfold gE;go_in
 go_wp2_with fail;generalize g.alloc _=W at *;have x:=Ou m;have:=m.c0;have O:=m.c1;have P:=m.c2;have K:g.heap.size≠h:=by omega
 refine(Do p q c e r _ h n t).mono ?_;rintro a g ⟨u,v,j⟩
 cases f:iU e with
 | none =>
  obtain rfl:=v f;have i:Hid (fe p c ⟨17,b,d⟩ e=U):=by show _=_;rw[ea y,f] <;> rfl
  have l:=Ou (k.trans j (λ_ _ a=>a));go_wp2_with fail;exact⟨rfl,λC a=>(by rw[ea i]at a;cases a),λ_=>rfl,ea l⟩
 | some o =>
  obtain⟨rfl,w⟩:=u o f;have z:Hid (fe p c ⟨17,b,d⟩ e=fj c (b+3) o):=by show _=_;rw[ea y,f] <;> rfl
  have s:=Ou (x.mods j K);replace O:=s.out.c1;replace P:=s.out.c2;replace x:=s;replace t:=Ou w;replace k:=Ou (k.trans j (λ_ _ a=>a));go_wp2_with fail;refine(og b (by omega) (by omega) _).mono ?_;rintro a E ⟨rfl,rfl⟩;go_wp2_with fail;refine(ov (b+3) p q c o r _ h n t (xY G H) B).mono ?_;rintro a g ⟨u,v,j⟩
  cases f:fj c (b+3) o with
  | none =>
   obtain rfl:=v f;have i:Hid (fe p c ⟨17,b,d⟩ e=U):=by show _=_;rw[ea z,f] <;> rfl
   have l:=Ou (k.trans j (λ_ _ a=>a));go_wp2_with fail;exact⟨rfl,λC a=>(by rw[ea i]at a;cases a),λ_=>rfl,ea l⟩
  | some D =>
   obtain⟨rfl,w⟩:=u D f;have i:Hid (fe p c ⟨17,b,d⟩ e=M D):=by show _=_;rw[ea z,f] <;> rfl
   have F:=Ou w;have l:=Ou (k.trans j (λ_ _ a=>a));go_wp2;go_end0;refine⟨λC a=>?_,λa=>(by rw[ea i]at a;cases a),ea l⟩;rw[ea i]at a;simp only[aX]at a;subst a;exact⟨rfl,ea F⟩
theorem Ht(b c p m d e n f g l)(r:gQ n f g p m d l e)(A:ez p p.length)(B:eM p<=4194304)(y:d.stack<=8):
  Calls Tryz.prog 156 #[zP (M ⟨g,0,U⟩),.agg #[J I 18,J I b,J I c]] f λa D=>gE p d ⟨18,b,c⟩ e n f D g m l a:=by
 have:p.length<=4194304:=(λ(_:ez p p.length) (_:d.stack<=8)=>ap (fQ p) B) A y;have:=r.lk.lt;have v:=Ou (r.below (ev f (zC #[J I 18,J I b,J I c] 60)));have i:=Oz f #[J I 18,J I b,J I c] 60;have o:=Ou (fX (S:=λa=>a=g) (ev f (zC #[J I 18,J I b,J I c] 60)));have q:Hid (fe p d ⟨18,b,c⟩ e=iU e):=rfl;unfold gE;go_in
 go_wp2_with fail;generalize f.alloc _=W at *;have:=Ou i;have:=i.c0;have:=i.c1;have:=i.c2;have:f.heap.size≠g:=by omega
 refine(Do p m d e n _ g l v).mono ?_;rintro a f ⟨w,x,s⟩
 cases j:iU e with
 | none =>
  obtain rfl:=x j;have h:Hid (fe p d ⟨18,b,c⟩ e=U):=by show _=_;rw[ea q,j] <;> rfl
  have k:=Ou (o.trans s (λ_ _ a=>a));go_wp2_with fail;exact⟨rfl,λC a=>(by rw[ea h]at a;cases a),λ_=>rfl,ea k⟩
 | some t =>
  obtain⟨rfl,z⟩:=w t j;have h:Hid (fe p d ⟨18,b,c⟩ e=M t):=by show _=_;rw[ea q,j] <;> rfl
  have u:=Ou z;have k:=Ou (o.trans s (λ_ _ a=>a));go_wp2;go_end0;refine⟨λC a=>?_,λa=>(by rw[ea h]at a;cases a),ea k⟩;rw[ea h]at a;simp only[aX]at a;subst a;exact⟨rfl,ea u⟩
theorem Hv(e f p C b g D q o v)(Q:gQ D q o p C b v g)(Y:ez p p.length)(Z:eM p<=4194304)(E:b.stack<=8):
  Calls Tryz.prog 156 #[zP (M ⟨o,0,U⟩),.agg #[J I 20,J I e,J I f]] q λa aa=>gE p b ⟨20,e,f⟩ g D q aa o C v a:=by
 have:p.length<=4194304:=(λ(_:ez p p.length) (_:b.stack<=8)=>ap (fQ p) Z) Y E;have:=Q.lk.lt;have k:=Ou (Q.below (ev q (zC #[J I 20,J I e,J I f] 60)));have x:=Oz q #[J I 20,J I e,J I f] 60;have j:=Ou (fX (S:=λa=>a=o) (ev q (zC #[J I 20,J I e,J I f] 60)));have L:Hid (fe p b ⟨20,e,f⟩ g=(fS g).bind λh=>(fS h.2).bind λl=>(fj b h.1 l.2).bind (fj b l.1)):=rfl;unfold gE;go_in
 go_wp2_with fail;generalize q.alloc _=W at *;have u:=Ou x;have:=x.c0;have H:=x.c1;have K:=x.c2;have G:q.heap.size≠o:=by omega
 refine(su g _ o v k.lk).mono ?_;rintro a q ⟨r,s,d⟩
 cases c:fS g with
 | none =>
  obtain rfl:=s c;have m:Hid (fe p b ⟨20,e,f⟩ g=U):=by show _=_;rw[ea L,c] <;> rfl
  have n:=Ou (j.trans d (λ_ _ a=>a));go_wp2_with fail;exact⟨rfl,λy a=>(by rw[ea m]at a;cases a),λ_=>rfl,ea n⟩
 | some h =>
  obtain⟨h,z⟩:=h;obtain⟨rfl,F⟩:=r h z c;have w:=sJ c k.ty;have t:=k.next F d w.2;have X:=w.1;have N:Hid (fe p b ⟨20,e,f⟩ g=(fS z).bind λl=>(fj b h l.2).bind (fj b l.1)):=by show _=_;rw[ea L,c] <;> rfl
  have i:=Ou (u.mods d G);replace H:=i.out.c1;replace K:=i.out.c2;replace u:=i;replace k:=Ou t;replace j:=Ou (j.trans d (λ_ _ a=>a));go_wp2_with fail;refine(su z _ o v k.lk).mono ?_;rintro a q ⟨r,s,d⟩
  cases c:fS z with
  | none =>
   obtain rfl:=s c;have m:Hid (fe p b ⟨20,e,f⟩ g=U):=by show _=_;rw[ea N,c] <;> rfl
   have n:=Ou (j.trans d (λ_ _ a=>a));go_wp2_with fail;exact⟨rfl,λy a=>(by rw[ea m]at a;cases a),λ_=>rfl,ea n⟩
  | some h =>
   obtain⟨l,A⟩:=h;obtain⟨rfl,F⟩:=r l A c;have w:=sJ c k.ty;have t:=k.next F d w.2;have V:=w.1;have O:Hid (fe p b ⟨20,e,f⟩ g=(fj b h A).bind (fj b l)):=by show _=_;rw[ea N,c] <;> rfl
   have i:=Ou (u.mods d G);replace H:=i.out.c1;replace K:=i.out.c2;replace u:=i;replace k:=Ou t;replace j:=Ou (j.trans d (λ_ _ a=>a));go_wp2_with fail;refine(ov h p C b A D _ o v k X E).mono ?_;rintro a q ⟨r,s,d⟩
   cases c:fj b h A with
   | none =>
    obtain rfl:=s c;have m:Hid (fe p b ⟨20,e,f⟩ g=U):=by show _=_;rw[ea O,c] <;> rfl
    have n:=Ou (j.trans d (λ_ _ a=>a));go_wp2_with fail;exact⟨rfl,λy a=>(by rw[ea m]at a;cases a),λ_=>rfl,ea n⟩
   | some B =>
    obtain⟨rfl,t⟩:=r B c;have P:Hid (fe p b ⟨20,e,f⟩ g=fj b l B):=by show _=_;rw[ea O,c] <;> rfl
    have i:=Ou (u.mods d G);replace H:=i.out.c1;replace K:=i.out.c2;replace u:=i;replace k:=Ou t;replace j:=Ou (j.trans d (λ_ _ a=>a));go_wp2_with fail;refine(ov l p C b B D _ o v k V E).mono ?_;rintro a h ⟨r,s,d⟩
    cases c:fj b l B with
    | none =>
     obtain rfl:=s c;have m:Hid (fe p b ⟨20,e,f⟩ g=U):=by show _=_;rw[ea P,c] <;> rfl
     have n:=Ou (j.trans d (λ_ _ a=>a));go_wp2_with fail;exact⟨rfl,λy a=>(by rw[ea m]at a;cases a),λ_=>rfl,ea n⟩
    | some R =>
     obtain⟨rfl,t⟩:=r R c;have m:Hid (fe p b ⟨20,e,f⟩ g=M R):=by show _=_;rw[ea P,c] <;> rfl
     have T:=Ou t;have n:=Ou (j.trans d (λ_ _ a=>a));go_wp2;go_end0;refine⟨λy a=>?_,λa=>(by rw[ea m]at a;cases a),ea n⟩;rw[ea m]at a;simp only[aX]at a;subst a;exact⟨rfl,ea T⟩
end
section
attribute [local go_sem ↓] Go.wp_at_zero Go.wp_at_succ
attribute [local go_sem] eZ
theorem Of{f k j}(n:jJ f k j){e h t g}(o:ed e h t g)(d)(a:Oj)(q:a.length=j)(s:∀i l,a[i]? =M l->g[d+i]? =M l){c:Oper}{b K m}(x)(r:c.op= .load k x)(hx:b.eval x=zP (M ⟨h,d,U⟩))(p:K (b.put c.dst (.agg a.toArray)) e):c.wp f b e K m:=by
 unfold Oper.wp;rw[wI n o d a q s r hx];exact p
theorem gE.ok{p b e g h k j c a i f}(d:fe p b e g=M h)(l:gQ k c a p i b f h)(m:ee (λn=>n=a) j c):gE p b e g k j c a i f (zR (.tuple #[])):=
 ⟨λb a=>by rw[d]at a;obtain rfl:=aT a;exact⟨rfl,l⟩,λa=>(by rw[d]at a;cases a),m⟩
theorem gE.no{p c b d l e f a k j}(g:fe p c b d=U)(h:ee (λi=>i=a) e f):gE p c b d l e f a k j (.panicked (lJ 5)):=
 ⟨λb a=>(by rw[g]at a;cases a),λ_=>rfl,h⟩
theorem ir.zJ{a b}(c:ir a b):a.loc.length=8:=c.ok.1
theorem kI.zJ{e b d a}(c:kI e b d a):a.loc.length=8:=by
 obtain⟨_,_,a,_⟩:=c;exact a.zJ
theorem Dh{b x}(a:jj b=M x):x=b:=by
 unfold jj at a
 split at a
 .cases a
 .exact (aT a).symm
theorem Hk(a:Nat)(d p u c b w f h t)(k:gQ w f h p u c t b)(O:c.stack<=8)(R:a<8):
  Calls Tryz.prog 156 #[zP (M ⟨h,0,U⟩),.agg #[J I 1,J I (a:Int),J I d]] f λg v=>gE p c ⟨1,a,d⟩ b w f v h u t g:=by
 have:=k.lk.lt;have:=k.lk.zJ;have x:Hid (fe p c ⟨1,a,d⟩ b=(jj (b.loc.getD a 0)).bind λl=>fj c l b):=rfl
 have X:fz p.length (b.loc.getD a 0):=by
  rw[aj,ae (by omega)];exact k.ty.1 _ (av _)
 generalize T:b.loc.getD a 0=l at *;have L:=Ou T;have y:=Ou (k.below (ev f (zC #[J I 1,J I (a:Int),J I d] 60)));have B:=Oz f #[J I 1,J I (a:Int),J I d] 60;have K:=Ou (fX (S:=λb=>b=h) (ev f (zC #[J I 1,J I (a:Int),J I d] 60)));go_in
 go_wp2_with fail;generalize f.alloc _=W at *;have E:=B.c1;have F:=Ou B;have V:f.heap.size≠h:=by omega
 obtain⟨A,Q,T,k,B⟩:=y.lk.state;refine iY (λv=>v.cell? ⟨f.heap.size,1,U⟩=M (J I (a:Int))) E λhHeld=>?_;refine dZ 15 0 ?_;refine dZ 16 1 ?_;refine dZ 17 2 ?_;refine dZ 18 3 ?_;refine dZ 20 5 ?_;refine dZ 21 6 ?_;refine el 4 (λo i=>?_);refine Of gR (k.below ((ay _ _).drew) k.lt) 8 A T B (.tmp 18) rfl rfl ?_;go_simp;refine i.out _ _ E λhHeld=>?_;refine el 7 (λo i=>?_);go_simp;refine(Nf b A a _ Q R).mono ?_;rintro g Y ⟨rfl,v⟩;have k:=mA v;have N:=Ou (y.below k);have C:ee (λb=>b=h) f Y:=K.trans (fX k) (λ_ _ g=>g);have s:=F.bl k;rw[ea L];go_wp2_with fail;refine i.out _ _ (s.cell 1) λhHeld=>?_;refine el 8 (λo i=>?_);go_simp;refine(CA l _).mono ?_;rintro g f ⟨q,r,rfl⟩
 cases e:jj l with
 | none =>
  obtain rfl:=r e;have j:Hid (fe p c ⟨1,a,d⟩ b=U):=by show _=_;rw[ea x,e];rfl
  go_wp2_with fail;exact⟨rfl,gE.no j C⟩
 | some m =>
  obtain rfl:=q m e;obtain rfl:=Dh e;have j:Hid (fe p c ⟨1,a,d⟩ b=fj c m b):=by show _=_;rw[ea x,e];rfl
  go_wp2_with fail;refine i.out _ _ (s.cell 1) λhHeld=>?_;refine el 9 (λo i=>?_);go_simp;refine(ov m p u c b w _ h t N X O).mono ?_;rintro g f ⟨q,r,D⟩;have z:=Ou (C.trans D (λ_ _ g=>g))
  cases e:fj c m b with
  | none =>
   obtain rfl:=r e;have n:Hid (fe p c ⟨1,a,d⟩ b=U):=(by show _=_;rw[ea j,e]);go_wp2_with fail;exact⟨rfl,gE.no n z⟩
  | some G =>
   obtain⟨rfl,f⟩:=q G e;have n:Hid (fe p c ⟨1,a,d⟩ b=M G):=(by show _=_;rw[ea j,e]);have H:=Ou f;have P:=s.mods D V;go_wp2_with fail;refine i.out _ _ (P.cell 1) λhHeld=>?_;refine ig ?_;go_wp2;go_end0;exact gE.ok n H z
theorem MY{b c d e}(h)(a:kT b c d)(g:fz b e):kT b c (pK d h e):=by
 refine⟨λi hx=>?_,a.2.1,a.2.2⟩
 rcases bE hx with f | rfl
 .exact a.1 i f
 .exact g
theorem Hu(a:Nat)(c p G i d H e f q)(B:gQ H e f p G i q d)(R:a<8):
  Calls Tryz.prog 156 #[zP (M ⟨f,0,U⟩),.agg #[J I 2,J I (a:Int),J I c]] e λg y=>gE p i ⟨2,a,c⟩ d H e y f G q g:=by
 have:=B.lk.lt;have z:Hid (fe p i ⟨2,a,c⟩ d=(fS d).bind λj=>(jj j.1).map λh=>pK j.2 a h):=rfl;have u:=Ou (B.below (ev e (zC #[J I 2,J I (a:Int),J I c] 60)));have C:=Oz e #[J I 2,J I (a:Int),J I c] 60;have N:=Ou (fX (S:=λb=>b=f) (ev e (zC #[J I 2,J I (a:Int),J I c] 60)));go_in
 go_wp2_with fail;generalize e.alloc _=W at *;have B:=C.c1;have K:=Ou C;have E:e.heap.size≠f:=by omega
 refine iY (λy=>y.cell? ⟨e.heap.size,1,U⟩=M (J I (a:Int))) B λhHeld=>?_;refine dZ 27 0 ?_;refine dZ 28 1 ?_;refine dZ 29 2 ?_;refine dZ 30 3 ?_;refine dZ 31 4 ?_;refine dZ 32 5 ?_;refine el 6 (λA m=>?_);go_simp;refine(su d _ f q (u.below ((ay _ _).drew)).lk).mono ?_;rintro g e ⟨k,l,F⟩;have o:ee (λb=>b=f) W e:=F.Fi;have v:=Ou (N.trans o (λ_ _ g=>g))
 cases b:fS d with
 | none =>
  obtain rfl:=l b;have n:Hid (fe p i ⟨2,a,c⟩ d=U):=by show _=_;rw[ea z,b];rfl
  go_wp2_with fail;exact⟨rfl,gE.no n v⟩
 | some T =>
  obtain⟨h,r⟩:=T;obtain⟨rfl,D⟩:=k h r b;have x:=sJ b u.ty;have s:=Ou (u.next D o x.2);have P:=x.1;have n:Hid (fe p i ⟨2,a,c⟩ d=(jj h).map λh=>pK r a h):=by show _=_;rw[ea z,b];rfl
  have w:=K.mods o E;clear b k l D x F o;go_wp2_with fail;refine m.out _ _ (w.cell 1) λhHeld=>?_;refine el 7 (λA m=>?_);go_simp;refine(CA h _).mono ?_;rintro g e ⟨k,l,rfl⟩
  cases b:jj h with
  | none =>
   obtain rfl:=l b;have t:Hid (fe p i ⟨2,a,c⟩ d=U):=(by show _=_;rw[ea n,b];rfl);clear b k l;go_wp2_with fail;exact⟨rfl,gE.no t v⟩
  | some j =>
   obtain rfl:=k j b;obtain rfl:=Dh b;have t:Hid (fe p i ⟨2,a,c⟩ d=M (pK r a j)):=(by show _=_;rw[ea n,b];rfl);go_wp2_with fail;refine m.out _ _ (w.cell 1) λhHeld=>?_;refine el 8 (λA m=>?_);go_simp;refine(Nh r a j _ f q s.lk R).mono ?_;rintro g b ⟨rfl,c,b⟩;have O:=Ou (v.trans b (λ_ _ g=>g));have L:=Ou (s.next c b (MY a s.ty P));have Q:=w.mods b E;go_wp2_with fail;refine m.out _ _ (Q.cell 1) λhHeld=>?_;refine ig ?_;go_wp2;go_end0;exact gE.ok t L O
theorem DO{d:World}{i e g c h}(k:d.ownsRow i e 1 g c h){b}(o:b<c):∃a j,g=O (M ⟨a,0,U⟩) c j/\d.cell? ⟨a,b,U⟩=h[b]? :=by
 rcases k.2 with ⟨f,b⟩ | ⟨a,b,c,f,_,m,_,_,_,n⟩
 .omega
 .refine⟨a,b,f,?_⟩;have l:ed d a e c.toList:=by unfold ed;simpa using m
  rw[l.cell,<-n,bj,am (by omega)]
theorem Cu{p a b}(c:b<(OE p a).length):((OE p a).map (J .i64))[b]? =M (J I (gi p a b)):=by
 rw[aU,ae c];unfold gi;rw[aK,aj,ae c];rfl
theorem Hl(a b p Y d f n g e l)(r:gQ n g e p Y d l f)(L:ez p p.length)(N:eM p<=4194304)(ar:d.stack<=8)(a1:0<=a)(F:a<(p.length:Int))(H:b<(OE p a).length)(a3:fz p.length (gi p a b)):
  Calls Tryz.prog 156 #[zP (M ⟨e,0,U⟩),.agg #[J I 10,J I a,J I (b:Int)]] g λc i=>gE p d ⟨10,a,b⟩ f n g i e Y l c:=by
 have a5:p.length<=4194304:=ap (fQ p) N;have:=r.lk.lt;have:(b:Int)<((OE p a).length:Int):=by omega
 have:=fp b;have ab:=Ou (Cu H);have z:Hid (fe p d ⟨10,a,b⟩ f=(fC p (a+3) f).bind (fj d (gi p a b))):=rfl;have ao:=Ou (r.below (ev g (zC #[J I 10,J I a,J I (b:Int)] 60)));have D:=Oz g #[J I 10,J I a,J I (b:Int)] 60;have y:=Ou (fX (S:=λc=>c=e) (ev g (zC #[J I 10,J I a,J I (b:Int)] 60)));obtain⟨X,_,_,Z,rfl,_⟩:=r.pr;generalize r:gi p a b=ft at *;go_in
 go_wp2_with fail;generalize g.alloc _=W at *;have aa:=Ou D;have:=D.c1;have K:g.heap.size≠e:=by omega
 refine(og a (by omega) (by omega) _).mono ?_;rintro c i ⟨rfl,rfl⟩;go_wp2_with fail;refine(qs (a+3) p _ d f n _ e l ao L a5 (xY a1 F)).mono ?_;rintro c w ⟨s,t,v⟩
 cases h:fC p (a+3) f with
 | none =>
  obtain rfl:=t h;have k:Hid (fe p d ⟨10,a,b⟩ f=U):=by show _=_;rw[ea z,h] <;> rfl
  have j:=Ou (y.trans v (λ_ _ c=>c));go_wp2_with fail;exact⟨rfl,gE.no k j⟩
 | some m =>
  obtain⟨rfl,u⟩:=s m h;have A:Hid (fe p d ⟨10,a,b⟩ f=fj d ft m):=by show _=_;rw[ea z,h] <;> rfl
  have o:=Ou (aa.mods v K);have R:=o.out.c1;have T:=o.out.c2;have Q:w.cell? ⟨e,0,U⟩=M (O X p.length Z):=u.cell (by omega) u.p0;have x:=Ou u;have ak:=Ou (y.trans v (λ_ _ c=>c));go_wp2;refine iY (λi=>i.cell? ⟨e,0,U⟩=M (O X p.length Z)/\i.cell? ⟨g.heap.size,1,U⟩=M (J I a)/\i.cell? ⟨g.heap.size,2,U⟩=M (J I (b:Int))) (aq Q (aq R T)) λhHeld=>?_;refine dZ 66 0 ?_;refine dZ 67 1 ?_;refine dZ 68 2 ?_;refine dZ 69 3 ?_;refine dZ 70 4 ?_;refine dZ 71 5 ?_;refine dZ 72 6 ?_;refine dZ 74 8 ?_;refine dZ 75 9 ?_;refine el 7 (λB j=>?_);go_simp;refine(wy p L N (a+1).toNat a _ _ (eA (Oq ((ay _ _).drew)) x.rp) (by omega) F (ai _)).mono ?_;rintro c a6 ⟨g,rfl,a4,g⟩;have k:Below w.heap.size w a6:=⟨g.os,g.tape,g.output,g.size,g.block⟩;obtain⟨g,g,rfl,a2⟩:=DO a4 H;rw[ea ab]at a2;have g:=Oq k;have ac:=Ou (x.below k);have an:=Ou (ak.trans (fX (S:=λc=>c=e) k) (λ_ _ c=>c));have a0:=o.bl k;have G:=aq (g _ _ Q) (aq (g _ _ R) (g _ _ T));go_wp2_with fail;refine j.out _ _ G λhHeld=>?_;refine dZ 76 10 ?_;refine el 11 (λB j=>?_);go_simp;refine j.out _ _ G λhHeld=>?_;refine el 12 (λB j=>?_);go_simp;refine(ov ft p _ d m n _ e l ac a3 ar).mono ?_;rintro c e ⟨s,t,P⟩;have C:=Ou (an.trans P (λ_ _ c=>c))
  cases h:fj d ft m with
  | none =>
   obtain rfl:=t h;have q:Hid (fe p d ⟨10,a,b⟩ f=U):=(by show _=_;rw[ea A,h]);go_wp2_with fail;exact⟨rfl,gE.no q C⟩
  | some V =>
   obtain⟨rfl,c⟩:=s V h;have q:Hid (fe p d ⟨10,a,b⟩ f=M V):=(by show _=_;rw[ea A,h]);have ad:=Ou c;have E:=a0.mods P K;have a8:=c.cell (by omega) c.p0;go_wp2_with fail;refine j.out _ _ (aq a8 (aq (E.cell 1) (E.cell 2))) λhHeld=>?_;refine ig ?_;go_wp2;go_end0;exact gE.ok q ad C
theorem Hm(a b p T h e q f d n)(r:gQ q f d p T h n e)(w:ez p p.length)(H:eM p<=4194304)(an:0<=a)(D:a<(p.length:Int))(F:b<(OE p a).length)(ar:fz p.length (gi p a b)):
  Calls Tryz.prog 156 #[zP (M ⟨d,0,U⟩),.agg #[J I 11,J I a,J I (b:Int)]] f λc i=>gE p h ⟨11,a,b⟩ e q f i d T n c:=by
 have G:p.length<=4194304:=ap (fQ p) H;have:=r.lk.lt;have:(b:Int)<((OE p a).length:Int):=by omega
 have:=fp b;have Y:=Ou (Cu F);have x:Hid (fe p h ⟨11,a,b⟩ e=(fC p (gi p a b) e).bind (fC p (a+3))):=rfl;have l:=Ou (r.below (ev f (zC #[J I 11,J I a,J I (b:Int)] 60)));have u:=Oz f #[J I 11,J I a,J I (b:Int)] 60;have ac:=Ou (fX (S:=λc=>c=d) (ev f (zC #[J I 11,J I a,J I (b:Int)] 60)));obtain⟨R,_,_,V,rfl,_⟩:=r.pr;generalize r:gi p a b=ft at *;go_in
 go_wp2_with fail;generalize f.alloc _=W at *;have X:=Ou u;have a0:f.heap.size≠d:=by omega
 have N:=u.c1;have P:=u.c2;have L:W.cell? ⟨d,0,U⟩=M (O R p.length V):=l.cell (by omega) l.p0;refine iY (λi=>i.cell? ⟨d,0,U⟩=M (O R p.length V)/\i.cell? ⟨f.heap.size,1,U⟩=M (J I a)/\i.cell? ⟨f.heap.size,2,U⟩=M (J I (b:Int))) (aq L (aq N P)) λhHeld=>?_;refine dZ 81 0 ?_;refine dZ 82 1 ?_;refine dZ 83 2 ?_;refine dZ 84 3 ?_;refine dZ 85 4 ?_;refine dZ 86 5 ?_;refine dZ 87 6 ?_;refine dZ 89 8 ?_;refine dZ 90 9 ?_;refine el 7 (λz k=>?_);go_simp;refine(wy p w H (a+1).toNat a _ _ (eA (Oq ((ay _ _).drew)) l.rp) (by omega) D (ai _)).mono ?_;rintro c a2 ⟨f,rfl,a1,f⟩;have m:Below W.heap.size W a2:=⟨f.os,f.tape,f.output,f.size,f.block⟩;obtain⟨f,f,rfl,ao⟩:=DO a1 F;rw[ea Y]at ao;have f:=Oq m;have Z:=Ou (l.below m);have ad:=Ou (ac.trans (fX (S:=λc=>c=d) m) (λ_ _ c=>c));have ak:=X.bl m;have E:=aq (f _ _ L) (aq (f _ _ N) (f _ _ P));go_wp2_with fail;refine k.out _ _ E λhHeld=>?_;refine dZ 91 10 ?_;refine el 11 (λz k=>?_);go_simp;refine k.out _ _ E λhHeld=>?_;refine el 12 (λz k=>?_);go_simp;refine(qs ft p _ h e q _ d n Z w G ar).mono ?_;rintro c f ⟨s,t,K⟩;have A:=Ou (ad.trans K (λ_ _ c=>c))
 cases g:fC p ft e with
 | none =>
  obtain rfl:=t g;have j:Hid (fe p h ⟨11,a,b⟩ e=U):=by show _=_;rw[ea x,g] <;> rfl
  go_wp2_with fail;exact⟨rfl,gE.no j A⟩
 | some o =>
  obtain⟨rfl,v⟩:=s o g;have y:Hid (fe p h ⟨11,a,b⟩ e=fC p (a+3) o):=by show _=_;rw[ea x,g] <;> rfl
  have aa:=Ou v;have C:=ak.mods K a0;have a3:=v.cell (by omega) v.p0;have a4:=C.c1;go_wp2_with fail;refine k.out _ _ (aq a3 (aq a4 (C.cell 2))) λhHeld=>?_;refine ig ?_;go_wp2_with fail;refine(og a (by omega) (by omega) _).mono ?_;rintro c i ⟨rfl,rfl⟩;go_wp2_with fail;refine(qs (a+3) p _ h o q _ d n aa w G (xY an D)).mono ?_;rintro c d ⟨s,t,d⟩;have B:=Ou (A.trans d (λ_ _ c=>c))
  cases g:fC p (a+3) o with
  | none =>
   obtain rfl:=t g;have j:Hid (fe p h ⟨11,a,b⟩ e=U):=(by show _=_;rw[ea y,g]);go_wp2_with fail;exact⟨rfl,gE.no j B⟩
  | some Q =>
   obtain⟨rfl,c⟩:=s Q g;have j:Hid (fe p h ⟨11,a,b⟩ e=M Q):=(by show _=_;rw[ea y,g]);have ab:=Ou c;go_wp2;go_end0;exact gE.ok j ab B
theorem Hw(a b p i f e j c d h)(g:gQ j c d p i f h e):
  Calls Tryz.prog 156 #[zP (M ⟨d,0,U⟩),.agg #[J I 7,J I a,J I b]] c λn o=>gE p f ⟨7,a,b⟩ e j c o d i h n:=by
 have l:Hid (fe p f ⟨7,a,b⟩ e=M e):=rfl;have m:=Ou (g.below (ev c (zC #[J I 7,J I a,J I b] 60)));have k:=Ou (fX (S:=λe=>e=d) (ev c (zC #[J I 7,J I a,J I b] 60)));clear g;go_in
 go_wp2;go_end0;exact gE.ok l m k
structure Good (p:On):Prop where
 sup:ez p p.length
 sz:eM p<=4194304
 im:∀(a:Int) (j:Nat),0<=a->a<(p.length:Int)->j<(OE p a).length->fz p.length (gi p a j)
 arg:∀(a b:Int),0<=a->a<(p.length:Int)->(fy p a b).isSome=K->(∀x∈(ew p a b).args,fz p.length x)/\fz p.length (ew p a b).ret
structure mU (p:On)(m:eh):Prop where
 stk:m.stack<=8
 loc:m.locals<=8
 ret:fz p.length m.ret
theorem J8(y p k e j l h g i)(m:gQ l h g p k e i j)(x:Good p)(z:mU p e)(n:eU p e y=K):
  Calls Tryz.prog 156 #[zP (M ⟨g,0,U⟩),.agg #[J I y.op,J I y.a,J I y.b]] h λE F=>gE p e y j l h F g k i E:=by
 obtain⟨c,d,f⟩:=y;have q:=x.sup;have r:=x.sz;have o:=z.stk;have:=z.loc
 have:0<=c/\c<=20:=by
  unfold eU at n;dsimp only at n
  repeat' split at n
  all_goals first | omega | (simp only[aD,lh]at n;omega)
 have w:(c=9\/c=17\/c=10\/c=11\/c=12)->0<=d/\d<(p.length:Int):=by
  intro s;unfold eU at n;dsimp only at n
  rcases s with rfl | rfl | rfl | rfl | rfl <;> simp[lh]at n <;> exact n.1
 have D:(c=1\/c=2)->0<=d/\d<e.locals:=by
  intro s;unfold eU at n;dsimp only at n
  rcases s with rfl | rfl <;> simp[lh]at n <;> exact n.1
 have C:(c=10\/c=11)->0<=f/\f<((OE p d).length:Int):=by
  intro s;unfold eU at n;dsimp only at n
  rcases s with rfl | rfl <;> simp[lh]at n <;> exact n.2
 have B:c=12->(fy p d f).isSome=K:=by
  rintro rfl;unfold eU at n;dsimp only at n;simp[lh]at n;exact n.2
 clear n;obtain rfl | rfl | rfl | rfl | rfl | rfl | rfl | rfl | rfl | rfl | rfl | rfl | rfl | rfl | rfl | rfl | rfl | rfl | rfl | rfl | rfl:c=0\/c=1\/c=2\/c=3\/c=4\/c=5\/c=6\/c=7\/c=8\/c=9\/c=10\/c=11\/c=12\/c=13\/c=14\/c=15\/c=16\/c=17\/c=18\/c=19\/c=20:=by omega
 .exact Hj d f p k e j l h g i m q r o
 .obtain⟨v,A⟩:=D (by omega);obtain⟨u,rfl⟩:=ax v;exact Hk u f p k e j l h g i m o (by omega)
 .obtain⟨v,A⟩:=D (by omega);obtain⟨u,rfl⟩:=ax v;exact Hu u f p k e j l h g i m (by omega)
 .exact wG 3 d f (by omega) p k e j l h g i m q r o
 .exact wG 4 d f (by omega) p k e j l h g i m q r o
 .exact wG 5 d f (by omega) p k e j l h g i m q r o
 .exact wG 6 d f (by omega) p k e j l h g i m q r o
 .exact Hw d f p k e j l h g i m
 .exact Cl 8 d f (by omega) p k e j l h g i m q r o
 .exact Hx d f p k e j l h g i m q r o (w (by omega)).1 (w (by omega)).2
 .obtain⟨v,A⟩:=C (by omega);obtain⟨u,rfl⟩:=ax v;obtain⟨s,t⟩:=w (by omega);exact Hl d u p k e j l h g i m q r o s t (by omega) (x.im d u s t (by omega))
 .obtain⟨v,A⟩:=C (by omega);obtain⟨u,rfl⟩:=ax v;obtain⟨s,t⟩:=w (by omega);exact Hm d u p k e j l h g i m q r s t (by omega) (x.im d u s t (by omega))
 .obtain⟨s,t⟩:=w (by omega);exact Hn d f p k e j l h g i m q r o s t (B rfl) (x.arg d f s t (B rfl)).1 (x.arg d f s t (B rfl)).2
 .exact Ho d f p k e j l h g i m q r o z.ret
 .exact Hp d f p k e j l h g i m q r o
 .exact Hq d f p k e j l h g i m q r o
 .exact Hr d f p k e j l h g i m q r o
 .exact Hs d f p k e j l h g i m q r o (w (by omega)).1 (w (by omega)).2
 .exact Ht d f p k e j l h g i m q r o
 .exact Cl 19 d f (by omega) p k e j l h g i m q r o
 .exact Hv d f p k e j l h g i m q r o
end
section
attribute [local go_sem ↓] Go.wp_at_zero Go.wp_at_succ
attribute [local go_sem] eZ
attribute [local go_sem] Oper.semAt_some
theorem FQ:jJ Tryz.prog 222 25:=⟨by kernel_rfl,by kernel_rfl⟩
theorem j9{f g c i n h b e a d}(j:g.results= #[.cell c i])(k:jJ f i h)(l:ed e b n a)(m:a.length=h)(hx:d.getD c undef=zP (M ⟨b,0,U⟩)):
  (results g d).run f e= .ok (.agg a.toArray) e:=by
 have:=Am k l 0 a m (λb c a=>by simpa using a);have a:d[c]?.getD undef=zP (M ⟨b,0,U⟩):=by rw[<-hx];simp
 simp[results,j,a,asAddr,this]
theorem CG (a:Array Value)(b:Int×Bool)(c d:Tmp):((#[c,d]).zip (qV b)).foldl (λa (p,e)=>a.setIfInBounds p e) a=(a.setIfInBounds c (J I b.1)).setIfInBounds d (zB b.2):=by simp[qV]
theorem Kp{d e a b g c}(f:a (.panicked b) c):tL d e a (.panic b) { tmps:=g,defers:= [] } c:=f
theorem Kq{e f c d i b a}(h:b.heap[a]? =M (.deferred (M [])))(g:c (.panicked d) (b.putObj a (.deferred U))):
  tL e f c (.panic d) { tmps:=i,defers:= [{ target:=.collected a,args:= #[] }] } b:=⟨by simp,.inl ⟨a,_,rfl,run_takeDeferred h,g⟩⟩
theorem Kr{d f e g b a c}(i:b.heap[a]? =M (.deferred (M [])))(j:(results f g).run d (b.putObj a (.deferred U))= .ok c (b.putObj a (.deferred U)))(h:e (zR c) (b.putObj a (.deferred U))):
  tL d f e .ret { tmps:=g,defers:= [{ target:=.collected a,args:= #[] }] } b:=⟨by simp,.inl ⟨a,_,rfl,run_takeDeferred i,c,j,h⟩⟩
theorem yL{b d e}(a:Below b d e){c}(g:b<=c)(f):Below b d (e.putObj c f):=⟨a.os,a.tape,a.output,by have:=a.size;simpa using this,λc b=>(World.putObj_heap_other (by omega)).trans (a.block c b)⟩
theorem ed.putObj{e a d c}(f:ed e a d c){b}(g:a≠b)(h):ed (e.putObj b h) a d c:=(World.putObj_heap_other g).trans f
theorem CF(f):∀(e:Oj) (d:Nat) (a b:Oj),a.length=f+d->b.length=e.length->
  List.foldl (λ(g:Array Value) (x:Value×Nat)=>g.setIfInBounds (f+x.2) x.1) (a++b).toArray (e.zipIdx d)=(a++e).toArray
 | [], d, a, b, _, h => by
  rw[aV (by simpa using h:b.length=0)];rfl
 | c :: e, d, a, [], _, h => by simp at h
 | c :: e, d, a, t :: b, hp, h => by
  have g:=CF f e (d+1) (a++ [c]) b (by simp[hp];omega) (by simpa using h);rw[List.zipIdx_cons,List.foldl_cons]
  have e:(a++t::b).toArray.setIfInBounds (f+d) c=((a++ [c])++b).toArray:=by
   rw[aG,bS _ _ (by omega),hp,co];simp
  rw[e,g];simp
theorem IA{a}(k:a.length=17)(b c d e f g h i):
  List.foldl (λ(j:Array Value) (x:Value×Nat)=>j.setIfInBounds (8+x.2) x.1) ([b,c,d,e,f,g,h,i]++List.replicate 17 (J .i64 0)).toArray a.zipIdx=([b,c,d,e,f,g,h,i]++a).toArray:=
 CF 8 a 0 _ _ rfl (by simp[k])
def FI (p:On)(m:eh)(pc:Nat)(s:ef)(w w':World)(e:Ending):Prop:=
 (∀s',iq p m pc s=M s'->∃cs',e=zR (.agg cs'.toArray)/\ir s' cs'/\kT p.length m.stack s')/\(iq p m pc s=U->e= .panicked (lJ 5))/\Below w.heap.size w w'
theorem Iu(p bM a bI b5 b6 d k n b)(bs:eQ b bM p)(a2:fK b.cell? a bI b5 b6)(C:d<a.code.length)(eR:a.code.length<=40)(ak:ir k n)(d4:kT p.length a.stack k)(ci:Good p)(cz:mU p a)(br:∀ep∈a.code,eU p a ep=K):
  Calls Tryz.prog 102 #[.agg #[bM],fB a bI b5 b6,J I (d:Int),.agg n.toArray] b λc b7=>FI p a d k b b7 c:=by
 unfold fB;have cs:=Ou bs;have R:=ak.len;obtain⟨ej,en,eo⟩:=a2;obtain⟨l,_,_,m,rfl,_⟩:=ej;obtain⟨q,_,_,r,rfl,_⟩:=eo;obtain⟨s,_,_,t,rfl,_⟩:=bs;obtain⟨bs,h,j,i,rfl,bs,d9,ec⟩:=eN en;obtain rfl:=d9 (eW C);have d5:=ec d C;have eg:=br _ (av C);have P:ey a d=a.code[d]:=by unfold ey;rw[ae C];rfl
 generalize a.code[d]=x at *;obtain⟨b8,b9,ca⟩:=d5;have cn:=Ou cz;have bs:=Ou br;refine Bv Tryz.func102 rfl ?_;simp only[Tryz.ntmps102,dt,bA,cT,Nat.reduceAdd,Nat.reduceSub,dP,dQ,List.push_toArray,dU,bN,cB];refine lO ?_;go_wp2_with fail;generalize A:(((b.alloc _).alloc _).alloc _).alloc _=W;have bo:Below b.heap.size b W:=by rw[<-A];exact(((ev b _).alloc (by simp) _).alloc (by simp;omega) _).alloc (by simp;omega) _
 have Z:Hid (W.heap.size=b.heap.size+1+1+1+1):=by show _=_;rw[<-A];simp
 have cb:ed W b.heap.size 24 [O s p.length t]:=by rw[<-A];exact(((Oz b _ _).alloc _).alloc _).alloc _
 have v:ed W (b.heap.size+1) 63 [J I a.slot,O l a.args.length m,J I a.ret,J I a.locals,J I a.stack,O (M ⟨h,j,U⟩) a.code.length i,O q a.frames.length r]:=by
  rw[<-A];have:=(((Oz (b.alloc (zC #[O s p.length t] 24)) #[J I a.slot,O l a.args.length m,J I a.ret,J I a.locals,J I a.stack,O (M ⟨h,j,U⟩) a.code.length i,O q a.frames.length r] 63))).alloc (zC n.toArray 130);rw[World.size_alloc]at this;exact this.alloc _
 have cc:ed W (b.heap.size+1+1) 130 n:=by
  rw[<-A];have:=Oz ((b.alloc (zC #[O s p.length t] 24)).alloc (zC #[J I a.slot,O l a.args.length m,J I a.ret,J I a.locals,J I a.stack,O (M ⟨h,j,U⟩) a.code.length i,O q a.frames.length r] 63)) n.toArray 130;rw[World.size_alloc,World.size_alloc]at this;exact this.alloc _
 have ce:ed W (b.heap.size+1+1+1) 130 (List.replicate 17 (J I 0)):=by
  rw[<-A];have:=Oz (((b.alloc (zC #[O s p.length t] 24)).alloc (zC #[J I a.slot,O l a.args.length m,J I a.ret,J I a.locals,J I a.stack,O (M ⟨h,j,U⟩) a.code.length i,O q a.frames.length r] 63)).alloc (zC n.toArray 130)) (List.replicate 17 (J I 0)).toArray 130;rw[World.size_alloc,World.size_alloc,World.size_alloc]at this;exact this
 have A:=cb.c0;have A:=v.c0;have A:=v.c1;have A:=v.c2;have A:=v.c3;have A:=v.c4;have A:=v.c5;have A:=v.c6;have ck:=Ou (IA R (O s p.length t) (J I a.slot) (O l a.args.length m) (J I a.ret) (J I a.locals) (J I a.stack) (O (M ⟨h,j,U⟩) a.code.length i) (O q a.frames.length r))
 have ei:∀D∈[O s p.length t,J I a.slot,O l a.args.length m,J I a.ret,J I a.locals,J I a.stack,O (M ⟨h,j,U⟩) a.code.length i,O q a.frames.length r]++n,D.oneCell'=K:=by
  intro D a2
  rcases aN.1 a2 with e | e
  .simp only [aE,aF,or_false]at e
   rcases e with rfl | rfl | rfl | rfl | rfl | rfl | rfl | rfl <;> rfl
  .exact ak.one D e
 have cp:=Ou ei;refine lO ?_
 go_wp2_with (first
  | refine jv gR cc 0 n R (λa D c => by simpa using c) (.tmp 7) rfl rfl rfl ?_
  | (refine fJ FQ (Oz W _ _) 0 _ (by simp[R]) (by simp) cp (.tmp 9) (.tmp 14) rfl rfl rfl (cP Value.agg ck) ?_; intro E ad d3 A))
 rw[fw (by simp[R])]at ad;have ao:Below W.heap.size W E:=(ev W _).trans (d3.below (by simp) (λb a c=>by omega));have B:Below b.heap.size b E:=eu bo ao
 have cm:Hid (gQ b E W.heap.size p (O s p.length t) a [O s p.length t,J I a.slot,O l a.args.length m,J I a.ret,J I a.locals,J I a.stack,O (M ⟨h,j,U⟩) a.code.length i,O q a.frames.length r] k):=
  ⟨⟨rfl,n,ak,ad⟩,ea cs,B,bo.size,rfl,rfl,rfl,d4⟩
 have a5:=v.bl ao;have cf:=ce.bl ao;have n:=a5.c5;have n:=Oq B _ _ b8;have n:=Oq B _ _ b9;have n:=Oq B _ _ ca;have n:W.heap.size<E.heap.size:=ad.lt;have cA:b.heap.size+1≠W.heap.size:=by have:=ea Z;omega
 have dp:b.heap.size+1+1+1≠W.heap.size:=by have:=ea Z;omega
 have n:=fp d;have n:(d:Int)<(a.code.length:Int):=by omega
 refine lO ?_;go_wp2_with fail;refine(J8 x p _ a k b _ _ _ cm ci cn eg).mono ?_;rintro c u ⟨ds,d0,a3⟩;have n:Below b.heap.size E u:=a3.below B.size (λb a c=>by have:=ea Z;omega);have ar:=B.trans n
 cases T:fe p a x k with
 | none =>
  obtain rfl:=d0 T;have H:Hid (iq p a d k=U):=by show _=_;unfold iq;rw[P,T];rfl
  go_wp2_with fail;exact Kp ⟨λbz c=>(by rw[ea H]at c;cases c),λ_=>rfl,ar⟩
 | some a4 =>
  obtain⟨rfl,d2⟩:=ds a4 T;have H:Hid (iq p a d k=if kX a d then U else M a4):=by show _=_;unfold iq;rw[P,T];rfl
  have be:=Ou d2;have a8:=a5.mods a3 cA;have cg:=cf.mods a3 dp;have eK:=a8.c5;go_wp2_with fail;refine AL ?_;refine lO ?_;go_wp2_with fail;refine(CE _ _ _ _ _).mono ?_;rintro c G ⟨rfl,V⟩;have Q:Below u.heap.size u G:=by rw[V];exact gS _ _ _
  have es:G.cell? ⟨u.heap.size,0,U⟩=M (O (M ⟨h,j,U⟩) a.code.length i):=by rw[V];exact wj _ _ _ _ 0
  have et:G.cell? ⟨u.heap.size+1,0,U⟩=M (J I (d:Int)):=by rw[V];exact wl _ _ _ _ 0
  clear V;have ba:=a8.bl Q;have Y:=cg.bl Q;have y:=ar.trans (Q.mono (ar.size));have n:=Oq y _ _ b8;have v:=Oq y _ _ b9;have A:=Oq y _ _ ca;have cu:=Ou (DN x d a.code.length i h j u.heap.size (u.heap.size+1) (λ_=>False) G C (by omega) es et ⟨n,v,A⟩ (λe=>e) (λ_ e=>e.elim));obtain⟨N,bf,L,n,_⟩:=be.lk.state;have bc:=n.bl Q;go_wp2_with fail;refine yd ?_
  refine Fw Tryz.func102 (gf:=158) (lb:= #[zP (M ⟨u.heap.size,0,U⟩),zP (M ⟨u.heap.size+1,0,U⟩)]) rfl (enters_of Tryz.func158 (by kernel_rfl) rfl) cu rfl (λ_ e=>e.elim)
   (λX g=>(∃o,gU x d=o++X/\∀f∈o,f.1≠(a.code.length:Int))/\Below b.heap.size b g/\G.heap.size<=g.heap.size/\ed g (b.heap.size+1) 63 [J I a.slot,O l a.args.length m,J I a.ret,J I a.locals,J I a.stack,O (M ⟨h,j,U⟩) a.code.length i,O q a.frames.length r]/\ed g (b.heap.size+1+1+1) 130 (List.replicate 17 (J I 0))/\ed g W.heap.size 222 ([O s p.length t,J I a.slot,O l a.args.length m,J I a.ret,J I a.locals,J I a.stack,O (M ⟨h,j,U⟩) a.code.length i,O q a.frames.length r]++N))
   (λS g=>S=lJ 5/\(gU x d).any (λf=>f.1 == (a.code.length:Int))=K/\Below b.heap.size b g) ?own ⟨⟨[],rfl,λ_ e=>(by cases e)⟩,y,ai _,ba,Y,bc⟩ ?a1 ?assign ?body ?done ?panic
  case assign=>
   intro a6 f g h z;rw[CG];simp only[aG,bi,bq]
   gi_wp2
   exact z
  case own=>
   rintro X g f ⟨i,h,j,l,m,n⟩ f;have o:=ba.lt;have er:=Y.lt;have o:=bc.lt;exact⟨i,h.trans (f.below h.size (λb a c=>by have:=y.size;omega)),ap j f.size,l.mods f (by omega),m.mods f (by omega),n.mods f (by omega)⟩
  case body=>
   rintro a6 f X g ⟨⟨o,S,a0⟩,w,bn,aa,ab,ac⟩;have eK:=aa.c5
   by_cases z:f.1=(a.code.length:Int)
   .have bk:(f.1 == (a.code.length:Int))=K:=(by simpa using z);have an:(gU x d).any (λf=>f.1 == (a.code.length:Int))=K:=(by rw[S];simp[z]);have bh:=Ou an
    gi_wp2_with fail
    refine⟨trivial,rfl,?_⟩;refine(CallsIn.inRound a6 (callsIn_wide.2 (tC _))).mono ?_;rintro c b7 ⟨rfl,rfl⟩
    gi_wp2_with fail
    exact⟨rfl,Ow _ _,rfl,ea bh,w⟩
   .have bk:(f.1 == (a.code.length:Int))=F:=(by simpa using z)
    have an:Hid (∃o,gU x d=o++X/\∀f∈o,f.1≠(a.code.length:Int)):=⟨o++ [f],by rw[S];simp,λb a=>by
     rcases aN.1 a with e | e
     .exact a0 b e
     .obtain rfl:=aC.1 e;exact z⟩
    gi_wp2_with fail
    exact⟨Ow _ _,ea an,w,bn,aa,ab,ac⟩
  case done=>
   rintro a6 g d1 ⟨⟨o,S,a0⟩,w,bn,aa,ab,ac⟩ z
   have X:kX a d=F:=by
    unfold kX;rw[P,S,bL]
    cases e:o.any (λf=>f.1 == (a.code.length:Int)) with
    | false => rfl
    | true =>
     obtain⟨f,h,i⟩:=dI.1 e;exact absurd (by simpa using i) (a0 f h)
   have f:Hid (iq p a d k=M a4):=(by show _=_;rw[ea H,X];rfl);have er:=Y.lt;simp only[Exit.inBlock,Exit.then];refine lO ?_
   go_wp2_with (first
    | refine jv gR ac 8 N L (λa D c => by rw[qi rfl]; exact c) (.tmp 33) rfl rfl rfl ?_
    | (refine fJ gR ab 0 N L (by simp) bf.one (.tmp 8) (.tmp 34) rfl rfl rfl rfl ?_; intro eP bh bk h))
   rw[fw (by simp[L])]at bh;have an:=(bk.block a6 (aY.1 z).1 (by omega)).trans z;have d6:Below b.heap.size b eP:=w.trans (bk.below w.size (λb a c=>by omega));refine ph ?_;go_wp2_with fail;refine Kr an (j9 rfl gR (bh.putObj (by omega) _) L rfl) ?_;refine⟨λbz c=>?_,λc=>(by rw[ea f]at c;cases c),yL d6 (by have:=y.size;omega) _⟩;rw[ea f]at c;obtain rfl:=aT c;exact⟨N,rfl,bf,be.ty⟩
  case panic=>
   rintro a6 S g d1 ⟨rfl,an,w⟩ z
   have X:kX a d=K:=by
    unfold kX;rw[P];exact an
   have f:Hid (iq p a d k=U):=(by show _=_;rw[ea H,X];rfl);simp only[Exit.inBlock,Exit.then];refine Kq z ?_;exact⟨λbz c=>(by rw[ea f]at c;cases c),λ_=>rfl,yL w (by have:=y.size;omega) _⟩
end
end Go.Proofs.YtiiokkllmchohaaGreat
