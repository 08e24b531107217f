/- The document's answer: what NEW, GET, PUT, CALL and CAST take and leave. -/
import Derived.Test.YtiiokkllmchohaaGreatT35
import Derived.Test.YtiiokkllmchohaaGreatT36
set_option maxHeartbeats 0
set_option maxRecDepth 99999
namespace Go.Proofs.YtiiokkllmchohaaGreat
open Go.Value renaming int->J,slice->O,pointer->zP,bool->zB
open Go.IntKind renaming i64->I
open Option renaming none->U,some->M
open Bool renaming true->K,false->F
open Go.Ending renaming returned->zR
open Go.Obj renaming cells->zC
open Go.RowKit Go.Shelf
section
attribute [local go_sem ↓] Go.wp_at_zero Go.wp_at_succ
attribute [local go_sem] eZ
theorem lV.drew{e d c a b}(f:lV e d c a b):lV e d c a.drew b:=by
 obtain⟨j,i,h,d,e,g⟩:=f;have b:fN (sel (λa=>c.heap.size<=a) a) (sel (λa=>c.heap.size<=a) a.drew):=fW (Ow (λ_=>False) a).drew λa _ b=>⟨λc=>c,b⟩;exact⟨j,i,h,fu b d,fu b e,g.drew⟩
theorem ik{a}:Below a.heap.size a a.drew:=(ay _ _).drew
theorem MF(p r a q s t c d b)(y:eQ b r p)(n:fK b.cell? a q s t)(A:0<=c)(B:c<=4194304):
  Calls Tryz.prog 151 #[.agg #[r],fB a q s t,.agg #[J I 9,J I c,J I d]] b λv o=>lV [] [c+3] b o v:=by
 unfold fB;obtain⟨k,_,_,l,rfl,_⟩:=y;obtain⟨e,_,_,f,rfl,_⟩:=n.1;obtain⟨g,_,_,h,rfl,_⟩:=n.2.1;obtain⟨i,_,_,j,rfl,_⟩:=n.2.2;have x:Below b.heap.size b (((b.alloc (zC #[O k p.length l] 24)).alloc (zC #[J I a.slot,O e a.args.length f,J I a.ret,J I a.locals,J I a.stack,O g a.code.length h,O i a.frames.length j] 63)).alloc (zC #[J I 9,J I c,J I d] 60)):=(gS _ _ _).alloc (by simp;omega) _;have z:(((b.alloc (zC #[O k p.length l] 24)).alloc (zC #[J I a.slot,O e a.args.length f,J I a.ret,J I a.locals,J I a.stack,O g a.code.length h,O i a.frames.length j] 63)).alloc (zC #[J I 9,J I c,J I d] 60)).heap.size=b.heap.size+1+1+1:=by simp
 have:=((Oz b #[O k p.length l] 24).alloc (zC #[J I a.slot,O e a.args.length f,J I a.ret,J I a.locals,J I a.stack,O g a.code.length h,O i a.frames.length j] 63)).alloc (zC #[J I 9,J I c,J I d] 60);have m:=Oz ((b.alloc (zC #[O k p.length l] 24)).alloc (zC #[J I a.slot,O e a.args.length f,J I a.ret,J I a.locals,J I a.stack,O g a.code.length h,O i a.frames.length j] 63)) #[J I 9,J I c,J I d] 60;rw[World.size_alloc,World.size_alloc]at m;go_in
 go_wp2_with fail;generalize ((b.alloc _).alloc _).alloc _=W at *;have a:=m.c1;have:IntKind.i64.wrap (3+c)=3+c:=by rw[IntKind.wrap_i64];omega
 have u:=Ou (λa (b:Below W.heap.size W a)=>(m.bl b).cell 1);refine fk (λo=>o.cell? ⟨b.heap.size+1+1,1,U⟩=M (J I c)) a λhHeld=>?_;refine dZ 6 4 ?_;refine dZ 32 0 ?_;refine dZ 33 1 ?_;refine dZ 34 2 ?_;refine el 3 (λa w=>?_);go_simp;refine w.out _ _ (u _ (ev W _).drew) λhHeld=>?_;refine dZ 7 5 ?_;refine eV ?_;go_wp2
 go_ret2
 rw[da c 3];exact(Fp x [3+c] 1 _ z rfl).drew
theorem ME(p y a x z A b e c)(C:eQ c y p)(t:fK c.cell? a x z A)(D:0<=b)(E:b<=4194304):
  Calls Tryz.prog 151 #[.agg #[y],fB a x z A,.agg #[J I 17,J I b,J I e]] c λB u=>lV [-1] [b+3] c u B:=by
 unfold fB;obtain⟨m,_,_,n,rfl,_⟩:=C;obtain⟨g,_,_,h,rfl,_⟩:=t.1;obtain⟨i,_,_,j,rfl,_⟩:=t.2.1;obtain⟨k,_,_,l,rfl,_⟩:=t.2.2;have v:Below c.heap.size c (((c.alloc (zC #[O m p.length n] 24)).alloc (zC #[J I a.slot,O g a.args.length h,J I a.ret,J I a.locals,J I a.stack,O i a.code.length j,O k a.frames.length l] 63)).alloc (zC #[J I 17,J I b,J I e] 60)):=(gS _ _ _).alloc (by simp;omega) _;have w:(((c.alloc (zC #[O m p.length n] 24)).alloc (zC #[J I a.slot,O g a.args.length h,J I a.ret,J I a.locals,J I a.stack,O i a.code.length j,O k a.frames.length l] 63)).alloc (zC #[J I 17,J I b,J I e] 60)).heap.size=c.heap.size+1+1+1:=by simp
 have:=((Oz c #[O m p.length n] 24).alloc (zC #[J I a.slot,O g a.args.length h,J I a.ret,J I a.locals,J I a.stack,O i a.code.length j,O k a.frames.length l] 63)).alloc (zC #[J I 17,J I b,J I e] 60);have o:=Oz ((c.alloc (zC #[O m p.length n] 24)).alloc (zC #[J I a.slot,O g a.args.length h,J I a.ret,J I a.locals,J I a.stack,O i a.code.length j,O k a.frames.length l] 63)) #[J I 17,J I b,J I e] 60;rw[World.size_alloc,World.size_alloc]at o;go_in
 go_wp2_with fail;generalize ((c.alloc _).alloc _).alloc _=W at *;have a:=o.c1;have:IntKind.i64.wrap (3+b)=3+b:=by rw[IntKind.wrap_i64];omega
 have f:=Ou (λa (b:Below W.heap.size W a)=>(o.bl b).cell 1);have r:=(ev W (zC #[J I (-1)] 43));have s:=(ev W (zC #[J I (3+b)] 43));refine fk (λu=>u.cell? ⟨c.heap.size+1+1,1,U⟩=M (J I b)) a λhHeld=>?_;refine dZ 122 1 ?_;refine dZ 123 2 ?_;refine dZ 124 3 ?_;refine iu 0 4 (λq d=>?_) λq d=>?_
 .go_simp;refine d.out _ _ (f _ r.drew) λhHeld=>?_;refine dZ 6 5 ?_;refine el 4 (λq d=>?_);go_simp;refine d.out _ _ (f _ (r.alloc r.size _).drew) λhHeld=>?_;refine dZ 7 6 ?_;refine eV ?_;go_wp2
  go_ret2
  rw[da b 3];exact(vO v [-1] [3+b] 1 1 _ w rfl rfl).drew
 .go_simp;refine d.out _ _ (f _ s.drew) λhHeld=>?_;refine el 0 (λq d=>?_);go_simp;refine d.out _ _ (f _ (s.alloc s.size _).drew) λhHeld=>?_;refine dZ 6 5 ?_;refine dZ 7 6 ?_;refine eV ?_;go_wp2
  go_ret2
  rw[da b 3];exact(Fq v [-1] [3+b] 1 1 _ w rfl rfl).drew
theorem NE{b c e f d a n o tk lv}(i:Below b.heap.size b c)(g:ed c e n (tk.map (J .i64)))(h:ed c f o (lv.map (J .i64)))(l:b.heap.size<=e)(m:b.heap.size<=f)(k:d=tk.length)(j:a=lv.length):
  lV tk lv b c (zR (.tuple #[O (M ⟨e,0,U⟩) d d,O (M ⟨f,0,U⟩) a a])):=
 ⟨_,_,rfl,qP (S:=λa=>b.heap.size<=a) g l d k,qP (S:=λa=>b.heap.size<=a) h m a j,i⟩
theorem zh{p}{a c:Nat}{f:World}{g e}(h:f.ownsRow g 43 1 e (OE p a).length ((OE p a).map (J .i64)))(i:(c:Int)<((OE p a).length:Int)):
  ∃b d,e=O (M ⟨b,0,U⟩) (OE p a).length d/\f.cell? ⟨b,c,U⟩=M (J I (gi p a c)):=by
 obtain⟨b,d,a,_,_,e⟩:=jH h (by omega);refine⟨b,d,a,?_⟩;rw[e c (by omega),aU,ae (by omega)];unfold gi;rw[aK,aj,ae (by omega)]
 rfl
theorem MC(p E a D F G c e b)(B:eQ b E p)(u:fK b.cell? a D F G)(S:ez p p.length)(C:eM p<=4194304)(P:0<=c)(V:c<(p.length:Int))(Q:0<=e)(R:e<((OE p c).length:Int)):
  Calls Tryz.prog 151 #[.agg #[E],fB a D F G,.agg #[J I 11,J I c,J I e]] b λy k=>lV [c+3,gi p c e] [] b k y:=by
 unfold fB;have K:=Ou B;obtain⟨i,_,_,j,rfl,_⟩:=B;obtain⟨l,_,_,m,rfl,_⟩:=u.1;obtain⟨n,_,_,o,rfl,_⟩:=u.2.1;obtain⟨q,_,_,r,rfl,_⟩:=u.2.2;have z:Below b.heap.size b (((b.alloc (zC #[O i p.length j] 24)).alloc (zC #[J I a.slot,O l a.args.length m,J I a.ret,J I a.locals,J I a.stack,O n a.code.length o,O q a.frames.length r] 63)).alloc (zC #[J I 11,J I c,J I e] 60)):=(gS _ _ _).alloc (by simp;omega) _;have:(((b.alloc (zC #[O i p.length j] 24)).alloc (zC #[J I a.slot,O l a.args.length m,J I a.ret,J I a.locals,J I a.stack,O n a.code.length o,O q a.frames.length r] 63)).alloc (zC #[J I 11,J I c,J I e] 60)).heap.size=b.heap.size+1+1+1:=by simp
 have w:=((Oz b #[O i p.length j] 24).alloc (zC #[J I a.slot,O l a.args.length m,J I a.ret,J I a.locals,J I a.stack,O n a.code.length o,O q a.frames.length r] 63)).alloc (zC #[J I 11,J I c,J I e] 60);have f:=Oz ((b.alloc (zC #[O i p.length j] 24)).alloc (zC #[J I a.slot,O l a.args.length m,J I a.ret,J I a.locals,J I a.stack,O n a.code.length o,O q a.frames.length r] 63)) #[J I 11,J I c,J I e] 60;rw[World.size_alloc,World.size_alloc]at f;go_in
 go_wp2_with fail;generalize ((b.alloc _).alloc _).alloc _=W at *;have:p.length<=4194304:=ap (fQ p) C;obtain⟨d,rfl⟩:=ax P;obtain⟨v,rfl⟩:=ax Q;have a:=w.c0;have c:=f.c1;have e:=f.c2;have:IntKind.i64.wrap (3+(d:Int))=3+(d:Int):=by rw[IntKind.wrap_i64];omega
 have s:=Ou (λb (a:Below W.heap.size W b)=>aq ((w.bl a).cell 0) (aq ((f.bl a).cell 1) ((f.bl a).cell 2)));refine fk (λk=>k.cell? ⟨b.heap.size,0,U⟩=M (O i p.length j)/\k.cell? ⟨b.heap.size+1+1,1,U⟩=M (J I (d:Int))/\k.cell? ⟨b.heap.size+1+1,2,U⟩=M (J I (v:Int))) ⟨a,c,e⟩ λhHeld=>?_;refine dZ 53 0 ?_;refine dZ 54 1 ?_;refine dZ 55 2 ?_;refine dZ 56 3 ?_;refine dZ 57 4 ?_;refine dZ 58 5 ?_;refine dZ 60 7 ?_;refine dZ 61 8 ?_;refine el 6 (λx g=>?_);go_simp;refine(sH p p.length S (ai _) C d _ _ (eA (Oq ik) (eA (Oq z) K)) (by omega)).mono ?_;rintro y a ⟨a,rfl,N,a⟩;have h:=mA a;obtain⟨a,a,rfl,T⟩:=zh N R;have:=fp v;have L:=Ou (eu z h);obtain⟨t,A⟩:∃t,t=gi p (d:Int) (v:Int):=⟨_,rfl⟩;rw[<-A]at T;have H:=Ou A;generalize (OE p (d:Int)).length=fl at *;go_wp2_with fail;refine g.out _ _ (s _ h) λhHeld=>?_;refine dZ 62 9 ?_;refine el 10 (λx g=>?_);go_simp;refine g.out _ _ (s _ h) λhHeld=>?_;refine el 11 (λx g=>?_);go_simp;refine g.out _ _ (s _ (h.alloc h.size _)) λhHeld=>?_;refine dZ 6 12 ?_;refine dZ 7 13 ?_;refine eV ?_;go_wp2
 go_ret2
 rw[da (d:Int) 3,<-ea H];exact Fr L [3+(d:Int),t] 2 _ rfl rfl
theorem MB(p Y a X Z aa i j e)(T:eQ e Y p)(G:fK e.cell? a X Z aa)(V:ez p p.length)(H:eM p<=4194304)(ad:0<=i)(a1:i<(p.length:Int))(ak:0<=j)(S:j<((OE p i).length:Int)):
  Calls Tryz.prog 151 #[.agg #[Y],fB a X Z aa,.agg #[J I 10,J I i,J I j]] e λE w=>lV [i+3] [gi p i j] e w E:=by
 unfold fB;have N:=Ou T;obtain⟨u,_,_,v,rfl,_⟩:=T;obtain⟨x,_,_,y,rfl,_⟩:=G.1;obtain⟨z,_,_,A,rfl,_⟩:=G.2.1;obtain⟨B,_,_,C,rfl,_⟩:=G.2.2;have s:Below e.heap.size e (((e.alloc (zC #[O u p.length v] 24)).alloc (zC #[J I a.slot,O x a.args.length y,J I a.ret,J I a.locals,J I a.stack,O z a.code.length A,O B a.frames.length C] 63)).alloc (zC #[J I 10,J I i,J I j] 60)):=(gS _ _ _).alloc (by simp;omega) _;have ao:(((e.alloc (zC #[O u p.length v] 24)).alloc (zC #[J I a.slot,O x a.args.length y,J I a.ret,J I a.locals,J I a.stack,O z a.code.length A,O B a.frames.length C] 63)).alloc (zC #[J I 10,J I i,J I j] 60)).heap.size=e.heap.size+1+1+1:=by simp
 have L:=((Oz e #[O u p.length v] 24).alloc (zC #[J I a.slot,O x a.args.length y,J I a.ret,J I a.locals,J I a.stack,O z a.code.length A,O B a.frames.length C] 63)).alloc (zC #[J I 10,J I i,J I j] 60);have o:=Oz ((e.alloc (zC #[O u p.length v] 24)).alloc (zC #[J I a.slot,O x a.args.length y,J I a.ret,J I a.locals,J I a.stack,O z a.code.length A,O B a.frames.length C] 63)) #[J I 10,J I i,J I j] 60;rw[World.size_alloc,World.size_alloc]at o;go_in
 go_wp2_with fail;generalize ((e.alloc _).alloc _).alloc _=W at *;have:p.length<=4194304:=ap (fQ p) H;obtain⟨d,rfl⟩:=ax ad;obtain⟨m,rfl⟩:=ax ak;have a:=L.c0;have i:=o.c1;have j:=o.c2;have:IntKind.i64.wrap (3+(d:Int))=3+(d:Int):=by rw[IntKind.wrap_i64];omega
 have f:=Ou (λP (a:Below W.heap.size W P)=>aq ((L.bl a).cell 0) (aq ((o.bl a).cell 1) ((o.bl a).cell 2)));refine fk (λw=>w.cell? ⟨e.heap.size,0,U⟩=M (O u p.length v)/\w.cell? ⟨e.heap.size+1+1,1,U⟩=M (J I (d:Int))/\w.cell? ⟨e.heap.size+1+1,2,U⟩=M (J I (m:Int))) ⟨a,i,j⟩ λhHeld=>?_;refine dZ 38 0 ?_;refine dZ 39 1 ?_;refine dZ 40 2 ?_;refine dZ 42 4 ?_;refine dZ 43 5 ?_;refine dZ 44 6 ?_;refine dZ 46 8 ?_;refine dZ 47 9 ?_;have:=s.size;refine iu 3 7 (λg b=>?_) λg b=>?_
 .go_simp;have l:Below W.heap.size W (W.alloc (zC #[J I (3+(d:Int))] 43)).drew:=(ev W _).drew;have ab:ed (W.alloc (zC #[J I (3+(d:Int))] 43)).drew W.heap.size 43 [J I (3+(d:Int))]:=(Oz W _ _).drew;refine b.out _ _ (f _ l) λhHeld=>?_;generalize (W.alloc _).drew=P at *;refine el 7 (λg b=>?_);go_simp;refine(sH p p.length V (ai _) H d _ _ (eA (Oq l) (eA (Oq s) N)) (by omega)).mono ?_;rintro E n ⟨a0,rfl,F,r⟩;have c:Below W.heap.size W n:=eu l r;have R:=r;obtain⟨Q,ac,rfl,D⟩:=zh F S;have ar:=fp m;have k:=Ou (eu s c);obtain⟨h,t⟩:∃h,h=gi p (d:Int) (m:Int):=⟨_,rfl⟩;rw[<-t]at D;have q:=Ou t;generalize (OE p (d:Int)).length=fl at *;have K:=ab.bl R;go_wp2_with fail;refine b.out _ _ (f _ c) λhHeld=>?_;refine dZ 6 13 ?_;refine dZ 48 10 ?_;refine el 11 (λg b=>?_);go_simp;refine b.out _ _ (f _ c) λhHeld=>?_;refine el 12 (λg b=>?_);go_simp;refine b.out _ _ (f _ (c.alloc c.size _)) λhHeld=>?_;refine dZ 7 14 ?_;refine eV ?_;go_wp2
  go_ret2
  rw[da (d:Int) 3,<-ea q];have an:=c.size;rw[ao]at K;exact NE (k.alloc k.size _) (K.alloc (zC #[J I h] 43)) (Oz n #[J I h] 43) (tk:= [3+(d:Int)]) (lv:= [h]) (by omega) (by omega) rfl rfl
 .go_simp;have l:Below W.heap.size W W.drew:=ik;refine(sH p p.length V (ai _) H d _ _ (eA (Oq l) (eA (Oq s) N)) (by omega)).mono ?_;rintro E n ⟨a0,rfl,F,r⟩;have c:Below W.heap.size W n:=eu l r;have R:=r;obtain⟨Q,ac,rfl,D⟩:=zh F S;have ar:=fp m;have k:=Ou (eu s c);obtain⟨h,t⟩:∃h,h=gi p (d:Int) (m:Int):=⟨_,rfl⟩;rw[<-t]at D;have q:=Ou t;generalize (OE p (d:Int)).length=fl at *;have an:=c.size;go_wp2_with fail;refine b.out _ _ (f _ c) λhHeld=>?_;refine dZ 48 10 ?_;refine iu 3 11 (λg b=>?_) λg b=>?_
  .go_simp;have:(n.alloc (zC #[J I (3+(d:Int))] 43)).cell? ⟨Q,m,U⟩=M (J I h):=Oq (ev n _) _ _ D;refine b.out _ _ (f _ (c.alloc c.size _)) λhHeld=>?_;refine dZ 6 13 ?_;refine el 11 (λg b=>?_);go_simp;refine b.out _ _ (f _ (c.alloc c.size _)) λhHeld=>?_;refine el 12 (λg b=>?_);go_simp;refine b.out _ _ (f _ ((c.alloc c.size _).alloc (by simp;omega) _)) λhHeld=>?_;refine dZ 7 14 ?_;refine eV ?_;go_wp2
   go_ret2
   rw[da (d:Int) 3,<-ea q];exact vO k [3+(d:Int)] [h] 1 1 _ rfl rfl rfl
  .go_simp;refine b.out _ _ (f _ c) λhHeld=>?_;refine iu 3 12 (λg b=>?_) λg b=>?_
   .go_simp;refine b.out _ _ (f _ (c.alloc c.size _)) λhHeld=>?_;refine dZ 6 13 ?_;refine el 12 (λg b=>?_);go_simp;refine b.out _ _ (f _ ((c.alloc c.size _).alloc (by simp;omega) _)) λhHeld=>?_;refine dZ 7 14 ?_;refine eV ?_;go_wp2
    go_ret2
    rw[da (d:Int) 3,<-ea q];exact vO k [3+(d:Int)] [h] 1 1 _ rfl rfl rfl
   .go_simp;refine b.out _ _ (f _ (c.alloc c.size _)) λhHeld=>?_;refine el 3 (λg b=>?_);go_simp;refine b.out _ _ (f _ ((c.alloc c.size _).alloc (by simp;omega) _)) λhHeld=>?_;refine dZ 6 13 ?_;refine dZ 7 14 ?_;refine eV ?_;go_wp2
    go_ret2
    rw[da (d:Int) 3,<-ea q];exact Fq k [3+(d:Int)] [h] 1 1 _ rfl rfl rfl
theorem Lj{b a B x}(c:ed b a 43 [x])(d:B<=a):b.ownsRow B 43 1 (O (M ⟨a,0,U⟩) 1 1) 1 [x]:=
 ⟨rfl,.inr ⟨a,1,#[x],rfl,d,c,ai _,by unfold maxLen;omega,rfl,rfl⟩⟩
theorem MD(p a2 a a1 a3 a4 h d b)(ad:eQ b a2 p)(H:fK b.cell? a a1 a3 a4)(an:ez p p.length)(P:eM p<=4194304)(bo:0<=h)(br:h<(p.length:Int))(bI:(fy p h d).isSome=K)(X:(ew p h d).args.length<=4194304):
  Calls Tryz.prog 151 #[.agg #[a2],fB a a1 a3 a4,.agg #[J I 12,J I h,J I d]] b λi q=>lV ((h+3)::(ew p h d).args) [(ew p h d).ret] b q i:=by
 unfold fB;have a8:=Ou ad;obtain⟨a0,n,o,k,rfl,_,b8,ak⟩:=eN ad;obtain⟨t,_,_,u,rfl,_⟩:=H.1;obtain⟨v,_,_,w,rfl,_⟩:=H.2.1;obtain⟨x,_,_,y,rfl,_⟩:=H.2.2;have Y:Below b.heap.size b (((b.alloc (zC #[O a0 p.length k] 24)).alloc (zC #[J I a.slot,O t a.args.length u,J I a.ret,J I a.locals,J I a.stack,O v a.code.length w,O x a.frames.length y] 63)).alloc (zC #[J I 12,J I h,J I d] 60)):=(gS _ _ _).alloc (by simp;omega) _;have:(((b.alloc (zC #[O a0 p.length k] 24)).alloc (zC #[J I a.slot,O t a.args.length u,J I a.ret,J I a.locals,J I a.stack,O v a.code.length w,O x a.frames.length y] 63)).alloc (zC #[J I 12,J I h,J I d] 60)).heap.size=b.heap.size+1+1+1:=by simp
 have:p.length<=4194304:=ap (fQ p) P;obtain⟨e,rfl⟩:=ax bo;obtain⟨bf,F⟩:=bQ.1 bI;obtain⟨g,j⟩:=bf;obtain⟨cf,c,N,G,_,_⟩:=wX p an d e (by omega) F;have b5:jU p (e:Int) d=((g:Int),(j:Int)):=by unfold jU;rw[F]
 have bz:ew p (e:Int) d=c:=by
  unfold ew mh;rw[F,au,N,au,G];rfl
 rw[bz]at X ⊢;have E:=(ag.1 N).1;obtain rfl:p[g]=cf:=(ag.1 N).2;have aa:=(ag.1 G).1;obtain rfl:=b8 (eW E);obtain⟨h,h,h,h,bc,h,Z⟩:=ak g E;obtain⟨h,ao,ar,cb,rfl,_,bM,ab⟩:=eN Z;obtain rfl:=bM (eW aa);obtain⟨h,h,h,b7,h,b9,ca,h,h,h,h⟩:=ab j aa;obtain rfl:p[g].ek[j]=c:=(ag.1 G).2;have:p[g].ek.length<=4194304:=ap (mO _) (ap (kE (av E)) P);clear ak ab Z;generalize p[g].ek[j]=c at *;generalize p[g].ek.length=ml at *;obtain⟨cc,ce,rfl,ac,b6⟩:=mg b7.1;have s:=Ou (aq bc (aq b9 ca));have Q:=((Oz b #[O (M ⟨n,o,U⟩) p.length k] 24).alloc (zC #[J I a.slot,O t a.args.length u,J I a.ret,J I a.locals,J I a.stack,O v a.code.length w,O x a.frames.length y] 63)).alloc (zC #[J I 12,J I (e:Int),J I d] 60);have r:=Oz ((b.alloc (zC #[O (M ⟨n,o,U⟩) p.length k] 24)).alloc (zC #[J I a.slot,O t a.args.length u,J I a.ret,J I a.locals,J I a.stack,O v a.code.length w,O x a.frames.length y] 63)) #[J I 12,J I (e:Int),J I d] 60;rw[World.size_alloc,World.size_alloc]at r;go_in
 go_wp2_with fail;generalize ((b.alloc _).alloc _).alloc _=W at *;have:W.cell? ⟨b.heap.size,0,U⟩=M (O (M ⟨n,o,U⟩) p.length k):=Q.cell 0;have:W.cell? ⟨b.heap.size+1+1,1,U⟩=M (J I (e:Int)):=r.cell 1;have:W.cell? ⟨b.heap.size+1+1,2,U⟩=M (J I d):=r.cell 2;go_wp2_with fail;refine(vj p _ p.length (e:Int) d W (eA (Oq Y) a8.out) an (ai _) (by omega) br P).mono ?_;rintro i f ⟨rfl,a⟩;rw[b5];dsimp only;have C:=eu Y a;have a5:=r.bl a;have z:=Q.bl a;have L:=ev f (zC #[J I (3+(e:Int))] 43);have D:=eu C L;have a:=Oz f #[J I (3+(e:Int))] 43;have:=C.size;have bn:=Lj (B:=f.heap.size) a (ai _);obtain⟨a,m,bs,V,bk,a⟩:=Bi f.heap.size _ _ _ bn cc c.args.length ce (c.args.map (J .i64)) (by simp) (λi=>⟨by rw[(ac i).1];rfl,(ac i).2⟩) (λb i a d c=>Oq D _ _ (b6 b i a d c)) (oy _) (by omega) X (by simp);obtain⟨ba,be,rfl⟩:=fd V
 have a:∀a,a<f.heap.size->¬(O (M ⟨f.heap.size,0,U⟩) 1 1).ownBlock=M a:=λa b i=>by
  have:f.heap.size=a:=aT i;omega
 have d:Below f.heap.size f m:=L.trans (bk.below L.size a);have h:=eu C d;have:f.cell? ⟨b.heap.size+1+1,1,U⟩=M (J I (e:Int)):=a5.cell 1;have:=Oq D _ _ s.out.1;have:=Oq D _ _ s.out.2.1;have:(f.alloc (zC #[J I (3+(e:Int))] 43)).cell? ⟨b.heap.size,0,U⟩=M (O (M ⟨n,o,U⟩) p.length k):=(z.alloc _).cell 0;have R:=Ou (λb (a:Below m.heap.size m b)=>aq (((z.bl d).below a (by have:=d.size;have:=z.lt;omega)).cell 0) (aq (Oq (eu h a) _ _ s.out.1) (Oq (eu h a) _ _ s.out.2.2)));have a6:=Ou (aq V h);have:(0:Int)<=(g:Int):=by omega
 have:(g:Int)<(p.length:Int):=by omega
 have:(0:Int)<=(j:Int):=by omega
 have:(j:Int)<(ml:Int):=by omega
 go_wp2_with (at_builtin;refine OA rfl (.tmp 80) (.tmp 90) 40 rfl _ _ rfl rfl bs ?_)
 refine fk (λq=>q.cell? ⟨b.heap.size,0,U⟩=M (O (M ⟨n,o,U⟩) p.length k)/\q.cell? ⟨n,o+g*3+2,U⟩=M (O (M ⟨ao,ar,U⟩) ml cb)/\q.cell? ⟨ao,ar+j*7+2,U⟩=M (J I c.ret)) (R.out _ ik) λhHeld=>?_;refine dZ 92 0 ?_;refine dZ 6 12 ?_;refine dZ 93 1 ?_;refine dZ 94 2 ?_;refine dZ 95 3 ?_;refine dZ 96 4 ?_;refine dZ 97 5 ?_;refine dZ 98 6 ?_;refine dZ 99 7 ?_;refine dZ 100 8 ?_;refine dZ 101 9 ?_;refine dZ 102 10 ?_;refine el 11 (λa bh=>?_);go_simp;refine bh.out _ _ (R.out _ (ev m _).drew) λhHeld=>?_;refine dZ 7 13 ?_;refine eV ?_;go_wp2
 go_ret2
 obtain⟨T,A⟩:=ea a6;have:=A.size;rw[da (e:Int) 3];refine lV.drew ⟨_,_,rfl,?_,?_,(A.alloc A.size _)⟩
 .have a:=eX T ((Ow (λ_=>False) m).alloc (zC #[J I c.ret] 43)) (λ_ _ a=>a)
  have d:(m.alloc (zC #[J I c.ret] 43)).ownsRow f.heap.size 43 1 (O ba (1+c.args.length) be) ((3+(e:Int))::c.args).length (((3+(e:Int))::c.args).map (J .i64)):=by
   rw[bA,show c.args.length+1=1+c.args.length by omega];exact a
  exact rt d (λa b=>by have:=(T.lt a b).1;omega)
 .exact qP (S:=λa=>b.heap.size<=a) (l:= [c.ret]) (Oz m #[J I c.ret] 43) (by omega) 1 rfl
theorem MG(p s a r t u b d e c)(x:eQ c s p)(h:fK c.cell? a r t u)(w:b=0\/b=1\/b=2\/b=3\/b=4\/b=5\/b=6\/b=7\/b=8\/b=13\/b=14\/b=15\/b=16\/b=18\/b=19\/b=20):
  Calls Tryz.prog 151 #[.agg #[s],fB a r t u,.agg #[J I b,J I d,J I e]] c λv y=>lV (eB p a ⟨b,d,e⟩).1 (eB p a ⟨b,d,e⟩).2 c y v:=by
 unfold fB;obtain⟨o,_,_,q,rfl,_⟩:=x;obtain⟨i,_,_,j,rfl,_⟩:=h.1;obtain⟨k,_,_,l,rfl,_⟩:=h.2.1;obtain⟨m,_,_,n,rfl,_⟩:=h.2.2;have f:Below c.heap.size c (((c.alloc (zC #[O o p.length q] 24)).alloc (zC #[J I a.slot,O i a.args.length j,J I a.ret,J I a.locals,J I a.stack,O k a.code.length l,O m a.frames.length n] 63)).alloc (zC #[J I b,J I d,J I e] 60)):=(gS _ _ _).alloc (by simp;omega) _;have g:(((c.alloc (zC #[O o p.length q] 24)).alloc (zC #[J I a.slot,O i a.args.length j,J I a.ret,J I a.locals,J I a.stack,O k a.code.length l,O m a.frames.length n] 63)).alloc (zC #[J I b,J I d,J I e] 60)).heap.size=c.heap.size+1+1+1:=by simp
 rcases w with rfl | rfl | rfl | rfl | rfl | rfl | rfl | rfl | rfl | rfl | rfl | rfl | rfl | rfl | rfl | rfl
 all_goals
  go_in
  go_wp2
  go_ret2
  first
   | exact ⟨_, _, rfl, ow, ow, f⟩
   | exact Fr f (eB p a ⟨_, d, e⟩).1 1 _ g rfl
   | exact Fp f (eB p a ⟨_, d, e⟩).2 1 _ g rfl
   | exact vO f (eB p a ⟨_, d, e⟩).1 (eB p a ⟨_, d, e⟩).2 _ _ _ g rfl rfl
theorem xH(p h d g i j x e)(k:eQ e h p)(l:fK e.cell? d g i j)(r:ez p p.length)(q:eM p<=4194304)(c:lP p d x.op x.a x.b)(s:x.op=12->(ew p x.a x.b).args.length<=4194304):
  Calls Tryz.prog 151 #[.agg #[h],fB d g i j,.agg #[J I x.op,J I x.a,J I x.b]] e λt u=>lV (eB p d x).1 (eB p d x).2 e u t:=by
 obtain⟨m,n,o⟩:=x;dsimp only at c s ⊢;have:p.length<=4194304:=ap (fQ p) q;have:=c.rq;have:=c.op1
 by_cases f:m=9
 .subst f;exact MF p h d g i j n o e k l (c.cls (by omega)).1 (by have:=(c.cls (by omega)).2;omega)
 by_cases f:m=10
 .subst f;exact MB p h d g i j n o e k l r q (c.cls (by omega)).1 (c.cls (by omega)).2 (c.im (by omega)).1 (c.im (by omega)).2
 by_cases f:m=11
 .subst f;exact MC p h d g i j n o e k l r q (c.cls (by omega)).1 (c.cls (by omega)).2 (c.im (by omega)).1 (c.im (by omega)).2
 by_cases f:m=12
 .subst f;exact MD p h d g i j n o e k l r q (c.cls (by omega)).1 (c.cls (by omega)).2 (c.call rfl) (s rfl)
 by_cases f:m=17
 .subst f;exact ME p h d g i j n o e k l (c.cls (by omega)).1 (by have:=(c.cls (by omega)).2;omega)
 exact MG p h d g i j m n o e k l (by omega)
def vZ (p:On)(m:eh)(x:fG)(s:ef)(w w':World)(e:Ending):Prop:=
 (∀s',gB p m x s=M s'->∃vl vs,e=zR (.tuple #[.agg #[zB K,vl,vs],zB K])/\rN w.heap.size w' s' vl vs)/\(gB p m x s=U->∃q a n c a' n' c',e=zR (.tuple #[.agg #[zB q,O a n c,O a' n' c'],zB F]))/\Below w.heap.size w w'
structure nY (w V:World)(p:On)(m:eh)(s:ef)(op xa xb:Int)(vp vm1 vm5 vm6 vl vs:Value)(ib:Bool):Prop where
 bel:Below w.heap.size w V
 b0:ed V w.heap.size 24 [vp]
 b1:ed V (w.heap.size+1) 63 [J I m.slot,vm1,J I m.ret,J I m.locals,J I m.stack,vm5,vm6]
 b2:ed V (w.heap.size+1+1) 60 [J I op,J I xa,J I xb]
 b3:ed V (w.heap.size+1+1+1) 149 [zB ib,vl,vs]
 b4:ed V (w.heap.size+1+1+1+1) 149 [zB F,O U 0 0,O U 0 0]
theorem nY.mods{e g h p j l k t u r n o q m s i f}(a:nY e g p j l k t u r n o q m s i)(b:ee f g h)(c:∀d,d<e.heap.size+1+1+1+1+1->¬f d):nY e h p j l k t u r n o q m s i:=
 ⟨a.bel.trans (b.below a.bel.size (λd a=>c d (by omega))),a.b0.mods b (c _ (by omega)),a.b1.mods b (c _ (by omega)),a.b2.mods b (c _ (by omega)),a.b3.mods b (c _ (by omega)),a.b4.mods b (c _ (by omega))⟩
theorem nY.below{w a b p e g f n o l i j k h m d}(c:nY w a p e g f n o l i j k h m d)(q:Below a.heap.size a b):nY w b p e g f n o l i j k h m d:=
 c.mods (Ox q) (λd b a=>by have:=c.b4.lt;omega)
theorem nY.new(a p m r f g h e b c d j k i):
  nY a (((((a.alloc (zC #[e] 24)).alloc (zC #[J I m.slot,b,J I m.ret,J I m.locals,J I m.stack,c,d] 63)).alloc (zC #[J I f,J I g,J I h] 60)).alloc (zC #[zB i,j,k] 149)).alloc (zC #[zB F,O U 0 0,O U 0 0] 149)) p m r f g h e b c d j k i:=by
 have l:=Oz (a.alloc (zC #[e] 24)) #[J I m.slot,b,J I m.ret,J I m.locals,J I m.stack,c,d] 63;have n:=Oz ((a.alloc (zC #[e] 24)).alloc (zC #[J I m.slot,b,J I m.ret,J I m.locals,J I m.stack,c,d] 63)) #[J I f,J I g,J I h] 60;have o:=Oz (((a.alloc (zC #[e] 24)).alloc (zC #[J I m.slot,b,J I m.ret,J I m.locals,J I m.stack,c,d] 63)).alloc (zC #[J I f,J I g,J I h] 60)) #[zB i,j,k] 149;have q:=Oz ((((a.alloc (zC #[e] 24)).alloc (zC #[J I m.slot,b,J I m.ret,J I m.locals,J I m.stack,c,d] 63)).alloc (zC #[J I f,J I g,J I h] 60)).alloc (zC #[zB i,j,k] 149)) #[zB F,O U 0 0,O U 0 0] 149;simp only[World.size_alloc]at l n o q;exact⟨((((ev a _).alloc (by simp) _).alloc (by simp;omega) _).alloc (by simp;omega) _).alloc (by simp;omega) _,((((Oz a _ _).alloc _).alloc _).alloc _).alloc _,((l.alloc _).alloc _).alloc _,(n.alloc _).alloc _,o.alloc _,q⟩
theorem Iv{p}{b c:Ok}{a}(d:a<b.length)(e:a<c.length):((b.take (a+1)).zip (c.take (a+1))).all (λx=>jd p x.1 x.2)=(((b.take a).zip (c.take a)).all (λx=>jd p x.1 x.2) && jd p b[a] c[a]):=AP (λx=>jd p x.1 x.2) d e
def uc (m:eh)(p:On)(op xa:Int)(s:ef)(tk lv:Ok):Option ef:=
 if s.stk.length<tk.length then U
 else if ((s.stk.drop (s.stk.length-tk.length)).zip tk).all λx=>jd p x.1 x.2 then
  (if (((s.stk.take (s.stk.length-tk.length)++lv.map (js (s.stk.drop (s.stk.length-tk.length)))).length:Nat):Int)<=m.stack then
    M ⟨if op=2 then s.loc.set xa.toNat (s.stk.getD (s.stk.length-tk.length) 0) else s.loc,s.stk.take (s.stk.length-tk.length)++lv.map (js (s.stk.drop (s.stk.length-tk.length)))⟩ else U)
 else U
theorem LD{p m op xa xb s}(a:¬(op=1/\s.loc.getD xa.toNat 0=2)):gB p m ⟨op,xa,xb⟩ s=uc m p op xa s (eB p m ⟨op,xa,xb⟩).1 (if op=1 then [s.loc.getD xa.toNat 0] else (eB p m ⟨op,xa,xb⟩).2):=by
 unfold gB uc;rw[af a]
theorem uj:∀a∈[Value.bool F,O U 0 0,O U 0 0],a.oneCell'=K:=λa a=>by
 simp only[aE,aF,or_false]at a
 rcases a with rfl | rfl | rfl <;> rfl
theorem Mt(p et e es eK eP f i k a bh gx g0 q)(gb:eQ q et p)(ck:fK q.cell? e es eK eP)(gc:ez p p.length)(gn:eM p<=4194304)(cz:lP p e f i k)(hl:f=12->(ew p i k).args.length<=4194304)(a6:eY q.cell? a gx g0)(gs:gO p a)(hQ:a.loc.length<=8)(hP:a.stk.length<=8)(hA:∀j∈(eB p e ⟨f,i,k⟩).1,j= -1\/j= -2\/fz p.length j)(ci:∀j∈(eB p e ⟨f,i,k⟩).2,j<0->(-1-j).toNat<(eB p e ⟨f,i,k⟩).1.length)(hR:(eB p e ⟨f,i,k⟩).1.length<=100)(d6:(eB p e ⟨f,i,k⟩).2.length<=2)(f2:f=1\/f=2->i<(a.loc.length:Int)):
  Calls Tryz.prog 96 #[.agg #[et],fB e es eK eP,.agg #[J I f,J I i,J I k],.agg #[zB bh,gx,g0]] q λd r=>vZ p e ⟨f,i,k⟩ a q r d:=by
 have e0:=Ou gb;have g9:=Ou ck;have e2:=Ou a6;have e3:=Ou (xH p et e es eK eP ⟨f,i,k⟩);unfold fB at e3 ⊢;obtain⟨bo,_,_,br,rfl,_⟩:=gb;obtain⟨b6,_,_,b7,rfl,_⟩:=ck.1;obtain⟨b8,_,_,b9,rfl,_⟩:=ck.2.1;obtain⟨ca,_,_,cb,rfl,_⟩:=ck.2.2;obtain⟨bk,ck,ck,bn,rfl,_,hn,f3⟩:=it a6.1;obtain⟨ab,cm,cn,D,rfl,ck,ej,gf⟩:=it a6.2;have g5:=Ou f3;have bM:=Ou gf;clear f3 gf;have hr:p.length<=4194304:=ap (fQ p) gn;have b5:=nY.new q p e a f i k (O bo p.length br) (O b6 e.args.length b7) (O b8 e.code.length b9) (O ca e.frames.length cb) (O bk a.loc.length bn) (O ab a.stk.length D) bh;go_in
 go_wp2_with fail;generalize ((((q.alloc _).alloc _).alloc _).alloc _).alloc _=W at *;refine(e3 W (eA (Oq b5.bel) e0) (Ot (Oq b5.bel) g9) gc gn cz hl).mono ?_;rintro d a5 ⟨hJ,hI,rfl,an,be,T⟩;have w:=b5.below T;have cf:=T.size;have ck:=b5.b4.lt;have bI:=Ou (λb=>LD (p:=p) (m:=e) (op:=f) (xa:=i) (xb:=k) (s:=a) b);have g7:Hid (f=2->(eB p e ⟨f,i,k⟩).1.length=1):=λb=>by subst b;rfl
 generalize (eB p e ⟨f,i,k⟩).1=tk at *;generalize (eB p e ⟨f,i,k⟩).2=lv0 at *;have hF:=w.b2.c0;obtain⟨b5,b5,b5,rfl⟩:∃n b C,hI=O n b C:=by obtain⟨n,_,_,C,rfl,_⟩:=be;exact⟨n,_,C,rfl⟩
 obtain⟨hK,hM,hL,rfl⟩:∃n b C,hJ=O n b C:=by obtain⟨n,_,_,C,rfl,_⟩:=an;exact⟨n,_,C,rfl⟩
 go_upto_if 27 with fail
 go_cut [11] (λg d=>∃(o:List Int) (n:Option Addr) (b C:Nat),g=O n b C/\Hid (gB p e ⟨f,i,k⟩ a=uc e p f i a tk o)/\Hid (∀j∈o,j<0->(-1-j).toNat<tk.length)/\o.length<=2/\nY q d p e a f i k (O bo p.length br) (O b6 e.args.length b7) (O b8 e.code.length b9) (O ca e.frames.length cb) (O bk a.loc.length bn) (O ab a.stk.length D) bh/\eG 1 (gy (sel (λc=>W.heap.size<=c) d)) (O hK hM hL) tk/\eG 1 (gy (sel (λc=>W.heap.size<=c) d)) (O n b C) o/\W.heap.size<=d.heap.size)
 case first=>
  by_cases t:f=1
  .subst t;have C:=f2 (.inl rfl);obtain⟨P,_⟩:=cz.loc (.inl rfl);obtain⟨h,rfl⟩:=ax P;have x:h<a.loc.length:=(by omega);obtain rfl:=hn (eW x);have C:=Oq w.bel _ _ (g5 h x);have L:=gs.1 _ (av x);have E:a.loc.getD h 0=a.loc[h]:=(by rw[aj,ae x];rfl);rw[am rfl,aK,E]at bI;have A:=Ou (show a.loc[h]=2->gB p e ⟨1,(h:Int),k⟩ a=U from λb=>by unfold gB;rw[am ⟨rfl,by rw[aK,E];exact b⟩]);generalize a.loc[h]=t1 at *;have x:=w.b2.c1;have x:=w.b3.c1;have x:=fp h;clear E
   by_cases u:t1=2
   .subst u;have G:=Ou (A rfl);have g:=w;go_wp2_with (refine fJ ip g.b4 0 [zB F,O U 0 0,O U 0 0] rfl (by simp) uj (.tmp 8) (.tmp 35) rfl rfl rfl rfl ?_;intro N y z Z;rw[fw (by rfl)]at y)
    refine bodyPost_ret (jk rfl ip y rfl rfl) rfl ?_;exact⟨λH d=>(by rw[ea G]at d;cases d),λ_=>⟨_,_,_,_,_,_,_,rfl⟩,g.bel.trans (z.below g.bel.size (λc v d=>by omega))⟩
   have x:(t1 == 2)=F:=(by simpa using u);have y:=ev a5 (zC #[J I t1] 43);have g:=Ou (aq (w.below y) (aq (fu (fW (S':=λc=>W.heap.size<=c) (Ox y) λc v a6=>⟨λd=>by omega,a6⟩) an) (qP (S:=λc=>W.heap.size<=c) (l:= [t1]) (Oz a5 #[J I t1] 43) (by omega) 1 rfl)));go_wp2
   go_meet
   case rel=>exact ⟨[t1],_,_,_,rfl,bI (λb=>u b.2),λj t a=>by
    simp only[aC]at t;subst t;have:=L.1;omega,by simp,g.1,g.2.1,g.2.2,ap cf y.size⟩
  .have aa:(f == 1)=F:=(by simpa using t);have Q:=bI (λb=>t b.1);rw[af t]at Q;have Q:=Ou Q;go_wp2
   go_meet
   case rel=>exact ⟨lv0,_,_,_,rfl,Q,ci,d6,w,an,be,cf⟩
 case rest=>
 clear ci d6 bI an be w cf hF T;obtain⟨o,C,C,C,rfl,Q,g6,d6,w,an,be,cf⟩:=hcut
 rename World=>a5
 have ci:=ea g6;have C:=w.b3.c2;obtain⟨C,hG,hH,C,hz,_,hy,gl⟩:=it (fu iR an)
 cases hz
 have g8:=Ou gl;clear gl
 by_cases d5:a.stk.length<tk.length
 .have G:Hid (gB p e ⟨f,i,k⟩ a=U):=by show _=_;rw[ea Q];unfold uc;rw[am d5]
  have f9:((a.stk.length:Int)-(tk.length:Int))<0:=by omega
  have g:=w;go_wp2_with (refine fJ ip g.b4 0 [zB F,O U 0 0,O U 0 0] rfl (by simp) uj (.tmp 8) (.tmp 51) rfl rfl rfl rfl ?_;intro N y z Z;rw[fw (by rfl)]at y)
  refine bodyPost_ret (jk rfl ip y rfl rfl) rfl ?_;exact⟨λH d=>(by rw[ea G]at d;cases d),λ_=>⟨_,_,_,_,_,_,_,rfl⟩,g.bel.trans (z.below g.bel.size (λc v d=>by omega))⟩
 obtain⟨b,f6⟩:∃b:Nat,a.stk.length=b+tk.length:=⟨a.stk.length-tk.length,by omega⟩;have f9:¬((a.stk.length:Int)-(tk.length:Int))<0:=by omega
 have C:((a.stk.length:Int)-(tk.length:Int))=(b:Int):=by omega
 have fo:(a.stk.drop b).length=tk.length:=by rw[cv];omega
 have eS:=Ou (show a.stk.length-tk.length=b by omega);rw[C]at f9;have ad:=Ou (aq f6 fo);clear f6 fo;go_wp2
 go_loopw [13] (λd wr=>∃c:Nat,c<=tk.length/\d=J I c/\((((a.stk.drop b).take c).zip (tk.take c)).all λa=>jd p a.1 a.2)=K/\Below a5.heap.size a5 wr) (λd _=>tk.length-(intOf d).toNat)
 case atStart=>exact ⟨0,az _,rfl,rfl,ay _ _⟩
 case round=>
  obtain⟨c,v,rfl,a8,cg⟩:=hrel;have t:=w.below cg
  by_cases A:c<tk.length
  .have P:b+c<a.stk.length:=(by have:=ad.1;omega);obtain rfl:=ej (eW P);obtain rfl:=hy (eW A);have bz:=Oq t.bel _ _ (bM (b+c) P);have g2:=Oq cg _ _ (g8 c A);have hx:=gs.2 _ (av P);have ao:=hA _ (av A);have w:c<(a.stk.drop b).length:=(by rw[ad.out.2];exact A);have L:=Iv (p:=p) w A;have E:=AO (λa=>jd p a.1 a.2) w A;rw[List.getElem_drop]at L E;have aa:=Ou L;have X:=Ou E;generalize a.stk[b+c]=n at *;generalize tk[c]=j at *;clear L E;have w:IntKind.i64.wrap ((b:Int)+(c:Int))=(b:Int)+(c:Int):=(by rw[IntKind.wrap_i64];omega);have w:((b:Int)+(c:Int)).toNat=b+c:=(by omega);have hD:=fp c;have hE:(c:Int)<(tk.length:Int):=(by omega);have w:(0:Int)<=(b:Int)+(c:Int):=(by omega);have w:(b:Int)+(c:Int)<(a.stk.length:Int):=(by omega);go_wp2_with fail;have u:=Ou (λb (a:Below wr.heap.size wr b)=>aq ((t.below a).b0.cell 0) (aq ((t.below a).b3.cell 2) (aq (Oq a _ _ bz) (Oq a _ _ g2))));refine fk (λr=>r.cell? ⟨q.heap.size,0,U⟩=M (O bo p.length br)/\r.cell? ⟨q.heap.size+1+1+1,2,U⟩=M (O (M ⟨cm,cn,U⟩) a.stk.length D)/\r.cell? ⟨cm,cn+(b+c),U⟩=M (J I n)/\r.cell? ⟨hG,hH+c,U⟩=M (J I j)) (u _ ik) λhHeld=>?_;refine dZ 58 0 ?_;refine dZ 59 1 ?_;refine dZ 60 2 ?_;refine dZ 61 3 ?_;refine dZ 62 4 ?_;refine dZ 63 5 ?_;refine dZ 64 6 ?_;refine dZ 65 7 ?_;refine dZ 66 8 ?_;refine dZ 67 9 ?_;refine dZ 68 10 ?_;refine dZ 69 11 ?_;refine el 12 (λa4 x=>?_);go_simp;refine(Mf p _ n j wr.drew (eA (Oq ik) (eA (Oq t.bel) e0)) gc hr hx ao).mono ?_;rintro d a1 ⟨rfl,R⟩;have T:=mA R;have ak:=eu cg T;have ac:=t.below T;have Y:=Ou a8;clear R a8
   cases h:jd p n j with
   | false =>
    have G:Hid (gB p e ⟨f,i,k⟩ a=U):=by
     show _=_
     rw[ea Q];unfold uc;rw[af d5,ea eS,ea X h]
     rfl
    have g:=ac;clear h;go_wp2_with fail;refine x.out _ _ (u _ T) λhHeld=>?_;refine dZ 14 13 ?_;refine eV ?_;go_wp2_with (refine fJ ip g.b4 0 [zB F,O U 0 0,O U 0 0] rfl (by simp) uj (.tmp 8) (.tmp 73) rfl rfl rfl rfl ?_;intro N y z Z;rw[fw (by rfl)]at y)
    refine bodyPost_ret (jk rfl ip y rfl rfl) rfl ?_;exact⟨λH d=>(by rw[ea G]at d;cases d),λ_=>⟨_,_,_,_,_,_,_,rfl⟩,g.bel.trans (z.below g.bel.size (λc v d=>by omega))⟩
   | true =>
    have g:Hid (((((a.stk.drop b).take (c+1)).zip (tk.take (c+1))).all λa=>jd p a.1 a.2)=K):=by
     show _=_
     rw[ea aa,ea Y,h]
     rfl
    clear h;go_wp2_with fail;refine x.out _ _ (u _ T) λhHeld=>?_;refine dZ 14 13 ?_;refine eV ?_;go_wp2_with fail;exact⟨⟨c+1,by omega,by go_num,ea g,ak⟩,by simp[intOf];omega⟩
  .obtain rfl:c=tk.length:=by omega
   have fs:(((a.stk.drop b).zip tk).all λa=>jd p a.1 a.2)=K:=by
    rw[bG,aH (by rw[ad.out.2];exact ai _)]at a8;exact a8
   have e1:Hid (gB p e ⟨f,i,k⟩ a=if (((a.stk.take b++o.map (js (a.stk.drop b))).length:Nat):Int)<=e.stack then M ⟨if f=2 then a.loc.set i.toNat (a.stk.getD b 0) else a.loc,a.stk.take b++o.map (js (a.stk.drop b))⟩ else U):=by
    show _=_
    rw[ea Q];unfold uc;rw[af d5,ea eS,fs]
    rfl
   have w:¬(tk.length:Int)<(tk.length:Int):=(by omega);clear a8 fs;have ft:=t.bel;have w:=t.b4.lt;have e4:=ix.start (V:=wr) (B:=wr.heap.size+1) ft;have bc:=ev wr (zC #[zB K,O U 0 0,O U 0 0] 149);obtain⟨w,w,ho,d9,f4⟩:=mg e2.1
   cases ho
   obtain⟨ak,ar,X,a1,fa,hc,hi,ba,e5⟩:=e4.locals (by omega) (by simp) (by omega) (by omega) a.loc (by omega) bk a.loc.length bn rfl (λd=>⟨by rw[(d9 d).1];rfl,(d9 d).2⟩) (λa d g a0 b=>Oq bc _ _ (Oq ft _ _ (f4 a d g a0 b)));have ce:ee (λg=>g=wr.heap.size) a1 (a1.setCell ⟨wr.heap.size,1,U⟩ (O ak ar X)):=(Ow (λg=>g=wr.heap.size) a1).setCell (p:=⟨wr.heap.size,1,U⟩) (λ_=>rfl) _;have L:Below wr.heap.size wr (a1.setCell ⟨wr.heap.size,1,U⟩ (O ak ar X)):=(eu bc ba).trans (ce.below (ap bc.size ba.size) (λc v d=>by omega));have cA:=t.below L;have lD:=(t.below bc).b3.c1;have hu:=ap bc.size (ap ba.size ce.size);have bf:=ap ba.size ce.size;rw[World.size_alloc]at bf;have P:=Ou (aq e5 cA);have hh:=cA.b2.c0;clear e4 e5 ba ce cA d9 f4;go_upto_if 83 with (at_builtin;refine OA rfl (.tmp 76) (.tmp 78) 40 rfl _ _ rfl rfl fa ?_)
   generalize a1.setCell _ _=W1 at *;clear fa hc hi lD hh
   go_cut [] (λd=>∃ao,Hid (ao=if f=2 then a.loc.set i.toNat (a.stk.getD b 0) else a.loc)/\ao.length=a.loc.length/\Hid (ix q d (wr.heap.size+1) wr.heap.size (O ak ar X) ao (O U 0 0) []/\nY q d p e a f i k (O bo p.length br) (O b6 e.args.length b7) (O b8 e.code.length b9) (O ca e.frames.length cb) (O bk a.loc.length bn) (O ab a.stk.length D) bh)/\Below wr.heap.size wr d/\wr.heap.size+1<=d.heap.size)
   case first=>
    by_cases u:f=2
    .subst u;have cu:=(cz.loc (.inr rfl)).1;have w:=f2 (.inr rfl);have R:=P.1.rl;obtain⟨y,w,cp,_,N,cc⟩:=jH R (by omega)
     injection cp with aa ac bs
     subst aa ac bs;obtain⟨h,rfl⟩:=ax cu;have z:b<a.stk.length:=(by have:=ad.1;have:=g7 rfl;omega);obtain rfl:=ej (eW z);have bz:=Oq P.2.bel _ _ (bM b z);have E:a.stk.getD b 0=a.stk[b]:=(by rw[aj,ae z];rfl);have a3:=Ou E;clear E;generalize a.stk[b]=n at *;obtain⟨Y,H⟩:=P.1.set (by omega) N h n;have w:=(R.lt y N).1;have a2:Below wr.heap.size wr (W1.setCell ⟨y,h,U⟩ (J I n)):=L.trans (H.below L.size (λc v d=>by omega));have G:=t.below a2;have dp:=P.out.1.box.c1;have ds:=P.out.2.b2.c1;have d0:=P.out.2.b3.c2;have d1:=Y.box.c1;have d2:=G.b2.c1;have d3:=G.b3.c2;have cs:=Oo (bM b z);have d4:=H.cell bz (by dsimp only;dsimp only at cs;omega);have w:W1.frozen? ⟨y,h,U⟩=F:=(by obtain⟨w,w⟩:=j8 R N;exact w.frozen h);have Z:∃a0,W1.cell? ⟨y,h,U⟩=M a0:=⟨_,(cc h (by omega)).trans (ae (by simp;omega))⟩;obtain⟨w,Z⟩:=Z;have w:=fp b;have w:(b:Int)<(a.stk.length:Int):=(by omega);have w:(h:Int)<(a.loc.length:Int):=(by omega);have w:=fp h;go_wp2;refine fk (λr=>r.cell? ⟨wr.heap.size,1,U⟩=M (O (M ⟨y,0,U⟩) a.loc.length X)/\r.cell? ⟨q.heap.size+1+1,1,U⟩=M (J I (h:Int))/\r.cell? ⟨q.heap.size+1+1+1,2,U⟩=M (O (M ⟨cm,cn,U⟩) a.stk.length D)/\r.cell? ⟨cm,cn+b,U⟩=M (J I n)) ⟨dp,ds,d0,bz⟩ λhHeld=>?_;refine dZ 84 0 ?_;refine dZ 85 1 ?_;refine dZ 86 2 ?_;refine dZ 87 3 ?_;refine dZ 88 4 ?_;refine dZ 89 5 ?_;refine dZ 90 6 ?_;refine dZ 91 7 ?_;refine dZ 92 8 ?_;refine dZ 93 9 ?_;refine el 10 (λa4 x=>?_);go_simp;refine x.out _ _ ⟨d1,d2,d3,d4⟩ λhHeld=>?_;try simp only[Act.put]
     refine eV ?_;go_wp2
     go_meet
     case rel=>exact ⟨a.loc.set h n,by
      show _=_
      simp only[if_true,aK,ea a3],by simp,⟨Y.below ik,G.below ik⟩,a2.drew,ap bf H.size⟩
    .have ac:(f == 2)=F:=(by simpa using u);go_wp2
     go_meet
     case rel=>exact ⟨a.loc,by show _=_;rw[af u],rfl,P,L,bf⟩
   case rest=>
   clear P L bf hu;obtain⟨ao,hp,w,a2,L,bf⟩:=hcut
   rename World=>ds
   have eR:=a2.2.b3.c2;have hN:=a2.1.box.c2;obtain⟨w,w,hw,eo,gk⟩:=mg e2.2
   cases hw
   have ga:b<=a.stk.length:=(by have:=ad.1;omega);have w:=fp b;have w:(b:Int)<=(a.stk.length:Int):=(by omega);have w:(b:Int)<=(D:Int):=(by omega);go_wp2;refine fk (λr=>r.cell? ⟨q.heap.size+1+1+1,2,U⟩=M (O ab a.stk.length D)) eR λhHeld=>?_;refine dZ 94 0 ?_;refine dZ 96 2 ?_;refine dZ 97 3 ?_;refine dZ 98 4 ?_;refine iz 99 5 (O ab b D) ?_;have e6:=a2.1.below ik;have e9:=a2.2.below ik;have w:ds.drew.heap.size=ds.heap.size:=rfl
   obtain⟨d0,er,d1,ac,fc,hf,hj,cc,e7⟩:=e6.more (by omega) (by omega) (by omega) (by omega) (by simp) (a.stk.take b) (by rw[aR];omega) ab b D (by rw[aR];omega) (λd=>⟨by have:=(eo d).1;rw[this]at ga;simpa using ga,(eo d).2⟩) (λa d g a0 b=>Oq e9.bel _ _ (gk a d g a0 (by
    rw[List.map_take,bj]at b
    split at b
    .exact b
    .cases b)))
   have d3:ee (λg=>g=wr.heap.size) ac (ac.setCell ⟨wr.heap.size,2,U⟩ (O d0 er d1)):=(Ow (λg=>g=wr.heap.size) ac).setCell (p:=⟨wr.heap.size,2,U⟩) (λ_=>rfl) _;have d2:Below wr.heap.size ds ac:=(ik.mono (by omega)).trans (cc.below (by omega) (λc v d=>by cases d));have fn:Below wr.heap.size wr (ac.setCell ⟨wr.heap.size,2,U⟩ (O d0 er d1)):=L.trans (d2.trans (d3.below (by have:=cc.size;omega) (λc v d=>by omega)));have dp:=t.below fn;have g3:=(t.below (L.trans d2)).b3.c2;have g4:=dp.b3.c2;have hv:wr.heap.size+1<=(ac.setCell ⟨wr.heap.size,2,U⟩ (O d0 er d1)).heap.size:=(by have:=cc.size;have:=d3.size;omega);have cp:=Ou (aq e7 dp);clear e6 e9 e7 dp cc d2 d3 eo gk;refine el 1 (λa4 x=>?_);go_simp;refine x.out _ _ eR λhHeld=>?_;refine el 6 (λa4 x=>?_);refine ON (.tmp 95) (.tmp 99) 40 rfl _ _ rfl rfl fc ?_;go_simp;refine x.out _ _ g3 λhHeld=>?_;refine dZ 101 7 ?_;refine el 8 (λa4 x=>?_);go_simp;refine x.out _ _ g4 λhHeld=>?_;refine eV ?_;generalize ac.setCell _ _=W3 at *;clear fc hf hj eR hN g3 g4 a2 L;rw[bN]at cp;obtain⟨w,w,w,w,hB,_,hC,gm⟩:=it (fu iR be)
   cases hB
   have ha:=Ou gm;clear gm;have hm:=cg;have w:=t;go_wp2_with fail;obtain⟨h,rfl⟩:∃h:World,h=wr:=⟨_,rfl⟩
   go_loopw [16] (λd g=>∃(c:Nat) (g1:Value),c<=o.length/\d=J I c/\ix q g (h.heap.size+1) h.heap.size (O ak ar X) ao g1 (a.stk.take b++(o.take c).map (js (a.stk.drop b)))/\nY q g p e a f i k (O bo p.length br) (O b6 e.args.length b7) (O b8 e.code.length b9) (O ca e.frames.length cb) (O bk a.loc.length bn) (O ab a.stk.length D) bh/\Below h.heap.size h g/\h.heap.size+1<=g.heap.size) (λd _=>o.length-(intOf d).toNat)
   case atStart=>exact ⟨0,_,az _,rfl,by simpa using cp.1,cp.2,fn,hv⟩
   case round=>
    obtain⟨c,g1,v,rfl,u,R,aa,w⟩:=hrel;obtain⟨gp,gq,rfl⟩:=fd u.rs;obtain⟨bs,en⟩:∃bs,bs=(a.stk.take b++(o.take c).map (js (a.stk.drop b))).length:=⟨_,rfl⟩;rw[<-en]at u;have cu:=Ou en;clear en;have hO:=u.box.c2;have w:=R.b3.c2
    by_cases A:c<o.length
    .obtain rfl:=hC (eW A);have g2:=Oq (eu hm aa) _ _ (ha c A);have f1:=ae A;have hq:=ci _ (av A);generalize o[c]=j at *;have hD:=fp c;have hE:(c:Int)<(o.length:Int):=(by omega)
     by_cases ep:j<0
     .obtain⟨g,f0⟩:∃g:Nat,j= -1-(g:Int):=⟨(-1-j).toNat,by omega⟩;have w:g<tk.length:=(by have:=hq ep;omega);have ec:b+g<a.stk.length:=(by have:=ad.1;omega);obtain rfl:=ej (eW ec);have bz:=Oq R.bel _ _ (bM (b+g) ec)
      have eg:js (a.stk.drop b) j=a.stk[b+g]:=by
       unfold js;rw[am ep,show (-1-j).toNat=g by omega,aj,cS,ae ec]
       rfl
      generalize a.stk[b+g]=n at *;have w:(b:Int)-1-j=(b:Int)+(g:Int):=(by omega);have w:((b:Int)+(g:Int)).toNat=b+g:=(by omega);have w:(0:Int)<=(b:Int)+(g:Int):=(by omega);have w:(b:Int)+(g:Int)<(a.stk.length:Int):=(by omega);have w: -200<=j:=(by omega);have w:=Ou f0;clear f0;obtain⟨E,N,G,y,d4,hg,hk,H,a3⟩:=u.one (by omega) (by omega) (by omega) (by omega) (by rw[aw,aR,aZ,aR];omega) n;have Y:ee (λg=>g=h.heap.size) y (y.setCell ⟨h.heap.size,2,U⟩ (O E N G)):=(Ow (λg=>g=h.heap.size) y).setCell (p:=⟨h.heap.size,2,U⟩) (λ_=>rfl) _;have Z:Below h.heap.size h (y.setCell ⟨h.heap.size,2,U⟩ (O E N G)):=aa.trans ((H.below aa.size (λc v d=>by have:=(u.rs.lt c d).1;omega)).trans (Y.below (ap aa.size H.size) (λc v d=>by omega)));have ei:h.heap.size+1<=(y.setCell ⟨h.heap.size,2,U⟩ (O E N G)).heap.size:=(by have:=H.size;have:=Y.size;omega);have z:=Ou (aq a3 (aq (t.below Z) (aq Z ei)));have cs:=Ou (show a.stk.take b++(o.take (c+1)).map (js (a.stk.drop b))=a.stk.take b++(o.take c).map (js (a.stk.drop b))++ [n] by rw[bd,f1,aM,a9];simp only[dq,bC,cy];rw[eg]);clear a3 H Y Z;go_wp2_with (at_builtin;refine OA rfl (.tmp 123) (.tmp 125) 40 rfl _ _ rfl rfl d4 ?_)
      refine⟨⟨c+1,O E N G,by omega,by go_num,?_,z.2.1,z.2.2.1,z.2.2.2⟩,by simp[intOf];omega⟩;rw[ea cs];exact z.1
     .have eg:js (a.stk.drop b) j=j:=(by unfold js;rw[af ep]);obtain⟨E,N,G,y,d4,hg,hk,H,a3⟩:=u.one (by omega) (by omega) (by omega) (by omega) (by rw[aw,aR,aZ,aR];omega) j;have Y:ee (λg=>g=h.heap.size) y (y.setCell ⟨h.heap.size,2,U⟩ (O E N G)):=(Ow (λg=>g=h.heap.size) y).setCell (p:=⟨h.heap.size,2,U⟩) (λ_=>rfl) _;have Z:Below h.heap.size h (y.setCell ⟨h.heap.size,2,U⟩ (O E N G)):=aa.trans ((H.below aa.size (λc v d=>by have:=(u.rs.lt c d).1;omega)).trans (Y.below (ap aa.size H.size) (λc v d=>by omega)));have ei:h.heap.size+1<=(y.setCell ⟨h.heap.size,2,U⟩ (O E N G)).heap.size:=(by have:=H.size;have:=Y.size;omega);have z:=Ou (aq a3 (aq (t.below Z) (aq Z ei)));have cs:=Ou (show a.stk.take b++(o.take (c+1)).map (js (a.stk.drop b))=a.stk.take b++(o.take c).map (js (a.stk.drop b))++ [j] by rw[bd,f1,aM,a9];simp only[dq,bC,cy];rw[eg]);clear a3 H Y Z;go_wp2_with (at_builtin;refine OA rfl (.tmp 123) (.tmp 125) 40 rfl _ _ rfl rfl d4 ?_)
      refine⟨⟨c+1,O E N G,by omega,by go_num,?_,z.2.1,z.2.2.1,z.2.2.2⟩,by simp[intOf];omega⟩;rw[ea cs];exact z.1
    .obtain rfl:c=o.length:=by omega
     have g:¬(o.length:Int)<(o.length:Int):=(by omega);rw[bG]at u cu;have a3:=R.bel;go_wp2_with fail;have eg:=u.box.c0;have ei:=u.box.c1;have ep:=R.b1.c4;have cs:=Ou (aq u R);have ec:=R.b4;have g:=t.b4.lt;have d4:=Ou (λb (a:ee (λc=>c=q.heap.size+1+1+1+1) wr b)=>aq ((u.box.mods a (by omega)).cell 0) (aq ((u.box.mods a (by omega)).cell 1) (aq ((u.box.mods a (by omega)).cell 2) ((R.b1.mods a (by omega)).cell 4))));clear u R;refine fk (λr=>r.cell? ⟨h.heap.size,0,U⟩=M (zB K)/\r.cell? ⟨h.heap.size,1,U⟩=M (O ak ar X)/\r.cell? ⟨h.heap.size,2,U⟩=M (O gp bs gq)/\r.cell? ⟨q.heap.size+1,4,U⟩=M (J I e.stack)) ⟨eg,ei,hO,ep⟩ λhHeld=>?_;refine dZ 128 0 ?_;refine dZ 129 1 ?_;refine dZ 130 2 ?_;refine dZ 131 3 ?_;refine dZ 132 4 ?_;refine dZ 133 5 ?_;refine dZ 134 6 ?_;refine el 7 (λa4 x=>?_);refine kS ip ec.drew 0 [zB K,O ak ar X,O gp bs gq] rfl (by simp) (λa0 a=>by simp only[aE,aF,or_false]at a;rcases a with rfl | rfl | rfl <;> rfl) (.tmp 8) (.tmp 128) rfl rfl rfl ?_;intro N y z Z;rw[fw (by rfl)]at y;have Y:ee (λc=>c=q.heap.size+1+1+1+1) wr N:=⟨z.os,z.tape,z.output,z.size,z.block⟩;refine x.out _ _ (d4 _ Y) λhHeld=>?_;try simp only[Act.put]
     refine dZ 9 8 ?_;refine eV ?_;go_wp2;refine bodyPost_ret (jk rfl ip y rfl rfl) rfl ?_;have f0:=cs.1.read;have bz:=a3.trans (Y.below a3.size (λc v d=>by omega))
     by_cases G:(bs:Int)<=e.stack
     .have E:gB p e ⟨f,i,k⟩ a=M ⟨ao,a.stk.take b++o.map (js (a.stk.drop b))⟩:=by
       rw[ea e1,am (by rw[<-ea cu];exact G),<-ea hp]
      refine⟨λH d=>?_,λd=>(by rw[E]at d;cases d),bz⟩;rw[E]at d
      cases d
      refine⟨_,_,(by show Ending.returned (.tuple #[_,zB (decide _)])=_;rw[decide_eq_true G]),OU (fW Y λc _ v=>⟨λd=>by omega,by omega⟩) f0⟩
     .have E:gB p e ⟨f,i,k⟩ a=U:=by
       rw[ea e1,af (by rw[<-ea cu];exact G)]
      refine⟨λH d=>(by rw[E]at d;cases d),λ_=>⟨_,_,_,_,_,_,_,(by show Ending.returned (.tuple #[_,zB (decide _)])=_;rw[decide_eq_false G])⟩,bz⟩
theorem Et(p t g s u v x i C w y j)(H:eQ j t p)(M:fK j.cell? g s u v)(z:fi p=0)(B:eM p<=4194304)(n:mU p g)(F:eU p g x=K)(E:eY j.cell? i w y)(O:gO p i)(R:(i.loc.length:Int)=g.locals)(Q:(i.stk.length:Int)<=g.stack):
  Calls Tryz.prog 96 #[.agg #[t],fB g s u v,.agg #[J I x.op,J I x.a,J I x.b],.agg #[zB C,w,y]] j λD P=>vZ p g x i j P D:=by
 have k:=oj z B;obtain⟨l,f,h⟩:=x;have d:=kM F;have:=n.loc;have:=n.stk
 have A:l=12->(ew p f h).args.length<=3:=λc=>by
  have e:=d.cls (by omega);have:=(jw.1 (nL z (d.call c))).2.2.1;omega
 have L:=LH (p:=p) (m:=g) (x:=⟨l,f,h⟩) (λc=>d.cls (by dsimp only at c;omega)) (λc=>by
  have e:=d.cls (by dsimp only at c;omega);have o:=d.im (by dsimp only at c;omega);obtain⟨r,q⟩:=ax o.1
  show fz p.length (gi p f h)
  rw[q];exact k.im f r e.1 e.2 (by omega)) (λc=>by
  have e:=d.cls (by dsimp only at c;omega)
  exact(k.arg f h e.1 e.2 (d.call c)).1) n.ret
 have G:=LG (p:=p) (m:=g) (x:=⟨l,f,h⟩) (λc=>(d.cls (by dsimp only at c;omega)).1) (λc=>by
  have e:=d.cls (by dsimp only at c;omega);have o:=d.im (by dsimp only at c;omega);obtain⟨r,q⟩:=ax o.1
  show 0<=gi p f h
  rw[q];exact(k.im f r e.1 e.2 (by omega)).1) (λc=>by
  have e:=d.cls (by dsimp only at c;omega)
  exact(k.arg f h e.1 e.2 (d.call c)).2.1)
 obtain⟨e,n⟩:=LF (p:=p) (m:=g) (x:=⟨l,f,h⟩) (N:=100) (by omega) (λc=>by have:=A c;show 1+(ew p f h).args.length<=100;omega);exact Mt p t g s u v l f h i C w y j H M k.sup B d (λc=>by have:=A c;omega) E O (by omega) (by omega) L G e n (λc=>by have:=d.loc c;omega)
def ji (m:eh)(i:Int):Option fT:=m.frames.find? λf=>f.pc == i
def ym (m:eh)(i:Int)(w0 w w':World)(e:Ending):Prop:=
 (∀f,ji m i=M f->∃vl vs,e=zR (.agg #[zB K,vl,vs])/\eY w0.cell? ⟨f.locals,f.stack⟩ vl vs)/\(ji m i=U->e=zR (.agg #[zB F,O U 0 0,O U 0 0]))/\Below w.heap.size w w'
theorem Is{a:List fT}{d c}(g:c<a.length)(f:∀(b:Nat) (e:b<a.length),b<c->d a[b]=F)(h:d a[c]=K):a.find? d=M a[c]:=by
 rw[List.find?_eq_some_iff_getElem];exact⟨h,c,g,rfl,λb e=>by rw[f b (by omega) e];rfl⟩
theorem Mg(a Y Z aa f o e)(B:fK o.cell? a Y Z aa)(m:Below o.heap.size o e)(a4:a.frames.length<=4194304):
  Calls Tryz.prog 161 #[fB a Y Z aa,J I f] e λc n=>ym a f o e n c:=by
 unfold fB;obtain⟨r,_,_,s,rfl,_⟩:=B.1;obtain⟨t,_,_,u,rfl,_⟩:=B.2.1;obtain⟨v,w,x,p,rfl,_,a0,Y⟩:=eN B.2.2;have ac:=Ou Y;have g:=gS e (zC #[J I a.slot,O r a.args.length s,J I a.ret,J I a.locals,J I a.stack,O t a.code.length u,O v a.frames.length p] 63) (zC #[zB F,O U 0 0,O U 0 0] 149);have C:=(Oz e #[J I a.slot,O r a.args.length s,J I a.ret,J I a.locals,J I a.stack,O t a.code.length u,O v a.frames.length p] 63).alloc (zC #[zB F,O U 0 0,O U 0 0] 149);have q:=Oz (e.alloc (zC #[J I a.slot,O r a.args.length s,J I a.ret,J I a.locals,J I a.stack,O t a.code.length u,O v a.frames.length p] 63)) #[zB F,O U 0 0,O U 0 0] 149;rw[World.size_alloc]at q;go_in
 go_wp2_with fail;generalize (e.alloc _).alloc _=W at *;have an:=C.c6;have:=g.size
 go_loopw [5] (λc wr=>∃b:Nat,b<=a.frames.length/\c=J I b/\wr=W/\∀(d:Nat) (l:d<a.frames.length),d<b->(a.frames[d].pc == f)=F) (λc _=>a.frames.length-(intOf c).toNat)
 case atStart=>exact ⟨0,az _,rfl,rfl,λd _ f=>(by omega)⟩
 case round=>
  obtain⟨b,P,rfl,rfl,z⟩:=hrel
  by_cases y:b<a.frames.length
  .obtain rfl:=a0 (eW y);obtain⟨a2,a3,r,E,G,Q,R⟩:=ac b y;have:=Oq (eu m g) _ _ r;have H:=Oq (eu m g) _ _ E;have L:=Oq (eu m g) _ _ G
   have D:Hid (∀e,(a.frames[b].pc == f)=e->(e=K->ji a f=M a.frames[b])/\(e=F->∀(d:Nat) (l:d<a.frames.length),d<b+1->(a.frames[d].pc == f)=F)):=λe a=>⟨λc=>Is y z (by rw[a];exact c),λc d l f=>by
    by_cases h:d=b
    .subst h;rw[a];exact c
    .exact z d l (by omega)⟩
   have ak:=Ou (show eY o.cell? ⟨a.frames[b].locals,a.frames[b].stack⟩ a2 a3 from ⟨Q,R⟩);generalize a.frames[b]=h at *;obtain⟨S,_,_,T,rfl,_⟩:=Q;obtain⟨V,_,_,X,rfl,_⟩:=R;have:=fp b;have:(b:Int)<(a.frames.length:Int):=(by omega)
   cases A:(h.pc == f) with
   | false =>
    have j:=Ou ((D F A).2 rfl);go_wp2_with fail;exact⟨⟨b+1,by omega,by go_num,by first | rfl | trivial,ea j⟩,by simp[intOf];omega⟩
   | true =>
    have j:=Ou ((D K A).1 rfl);have:h.pc=f:=(by simpa using A);have ad:=Ou (λc (a:ee (λb=>b=e.heap.size+1) wr c)=>aq ((C.mods a (by omega)).cell 6) (aq (a.cell H (by have:=Oo E;have:=m.size;dsimp only at *;omega)) (a.cell L (by have:=Oo G;have:=m.size;dsimp only at *;omega))));go_wp2;refine fk (λn=>n.cell? ⟨e.heap.size,6,U⟩=M (O (M ⟨w,x,U⟩) a.frames.length p)/\n.cell? ⟨w,x+b*3+1,U⟩=M (O S h.locals.length T)/\n.cell? ⟨w,x+b*3+2,U⟩=M (O V h.stack.length X)) ⟨an,H,L⟩ λhHeld=>?_;refine dZ 21 0 ?_;refine dZ 22 1 ?_;refine dZ 23 2 ?_;refine dZ 24 3 ?_;refine dZ 25 4 ?_;refine dZ 26 5 ?_;refine dZ 27 6 ?_;refine dZ 28 7 ?_;refine dZ 29 8 ?_;refine dZ 30 9 ?_;refine dZ 31 10 ?_;refine dZ 32 11 ?_;refine dZ 33 12 ?_;refine el 13 (λm ar=>?_);refine kS ip q.drew 0 [zB K,O S h.locals.length T,O V h.stack.length X] rfl (by simp) (λb a=>by simp only[aE,aF,or_false]at a;rcases a with rfl | rfl | rfl <;> rfl) (.tmp 4) (.tmp 33) rfl rfl rfl ?_;intro ab k i a1;rw[fw (by rfl)]at k;have N:ee (λb=>b=e.heap.size+1) wr ab:=⟨i.os,i.tape,i.output,i.size,i.block⟩;refine ar.out _ _ (ad _ N) λhHeld=>?_;try simp only[Act.put]
    refine eV ?_;go_wp2;refine bodyPost_ret (j9 rfl ip k rfl rfl) rfl ?_;refine⟨λao c=>?_,λc=>(by rw[ea j]at c;cases c),g.trans (N.below g.size (λb P c=>by omega))⟩;rw[ea j]at c
    cases c
    exact⟨_,_,rfl,ea ak⟩
  .have A:ji a f=U:=by
    unfold ji;rw[List.find?_eq_none];intro h i;obtain⟨d,l,rfl⟩:=bT i;rw[z d l (by omega)];simp
   have j:=Ou A;obtain rfl:b=a.frames.length:=by omega
   have:¬(a.frames.length:Int)<(a.frames.length:Int):=(by omega);go_wp2_with (refine fJ ip q 0 [zB F,O U 0 0,O U 0 0] rfl (by simp) uj (.tmp 4) (.tmp 34) rfl rfl rfl rfl ?_;intro ab k i a1;rw[fw (by rfl)]at k)
   refine bodyPost_ret (j9 rfl ip k rfl rfl) rfl ?_;exact⟨λao c=>(by rw[ea j]at c;cases c),λ_=>rfl,g.trans (i.below g.size (λb P c=>by omega))⟩
end
def iE (f:fT):ef:=⟨f.locals,f.stack⟩
def oP (p:On)(m:eh)(i:Nat)(h:Option ef):Option (Option ef):=match ji m i with
 | none => M h
 | some f => match h with
  | none => M (M (iE f))
  | some s => if iH p s (iE f) then M (M (iE f)) else U
def rg (p:On)(m:eh)(out:ef)(i:Int):Bool:=match ji m i with
 | none => F
 | some f => iH p out (iE f)
def nO (p:On)(m:eh)(i:Nat)(h:Option ef):Option (Option ef):=(oP p m i h).bind λh'=>match h' with
 | none => M U
 | some s => (gB p m (ey m i) s).bind λout => if gz (ey m i) && !rg p m out (ey m i).a then U else M (if gJ (ey m i) then M out else U)
def mp (p:On)(c:Int)(m:eh):Nat->Option (Option ef)
 | 0 => M (M (fm m (fH c m)))
 | k + 1 => (mp p c m k).bind (nO p m k)
def nv (p:On)(c:Int)(m:eh):Bool:=match mp p c m m.code.length with
 | some U => K
 | _ => F
theorem LS{p b m k}(h:mp p b m k=U):∀a,k<=a->mp p b m a=U:=by
 intro a b
 induction a with
 | zero =>
  obtain rfl:k=0:=by omega
  exact h
 | succ a d =>
  rcases bt a k with c | c
  .obtain rfl:k=a+1:=by omega
   exact h
  .unfold mp;rw[d c];rfl
theorem vh{p b m a h}(e:a<m.code.length)(c:mp p b m a=M h)(d:nO p m a h=U):nv p b m=F:=by
 unfold nv;rw[LS (k:=a+1) (by unfold mp;rw[c];exact d) _ (by omega)]
def kq (p:On)(m:eh)(s:ef):Prop:=gO p s/\(s.loc.length:Int)=m.locals/\(s.stk.length:Int)<=m.stack
theorem xx{p m x d j}(i:Good p)(s:mU p m)(t:eU p m x=K)(h:kq p m d)(c:gB p m x d=M j):kq p m j:=by
 obtain⟨n,o,q⟩:=h;have e:=kM (p:=p) (m:=m) (op:=x.op) (a:=x.a) (b:=x.b) t
 have r:fe p m x d=M j:=by
  rw[<-Ae q (λg c=>(n.1 g c).1) (λh=>(e.cls (by omega)).1) (λh=>by
   have f:=e.cls (by omega);have k:=e.im (by omega);obtain⟨l,j⟩:=ax k.1;rw[j];exact(i.im x.a l f.1 f.2 (by omega)).1) (λh=>by
   have f:=e.cls (by omega);obtain⟨j,k⟩:=i.arg x.a x.b f.1 f.2 (e.call h)
   exact⟨λg c=>(j g c).1,k.1⟩) s.ret.1]
  exact c
 refine⟨Ck i e n r,?_,?_⟩
 .rcases Cj r q with h | ⟨_,g,h⟩
  .rw [h];exact o
  .rw [h,aO];exact o
 .unfold gB at c
  by_cases g:x.op=1/\d.loc.getD x.a.toNat 0=2
  .rw [am g]at c;cases c
  rw[af g]at c
  by_cases k:d.stk.length<(eB p m x).1.length
  .rw [am k]at c;cases c
  rw[af k]at c
  by_cases l:(((d.stk.drop (d.stk.length-(eB p m x).1.length)).zip (eB p m x).1).all λx=>jd p x.1 x.2)=K
  .rw [am l]at c
   by_cases f:(((d.stk.take (d.stk.length-(eB p m x).1.length)++(if x.op=1 then [d.loc.getD x.a.toNat 0] else (eB p m x).2).map (js (d.stk.drop (d.stk.length-(eB p m x).1.length)))).length:Nat):Int)<=m.stack
   .rw [am f]at c
    cases c
    exact f
   .rw [af f]at c;cases c
  .rw [af l]at c;cases c
theorem CM{a:Nat}{b}(h:gT (a:Int) b=K):fz a b:=by
 unfold gT gd at h;simp at h
 constructor <;> omega
theorem zo{p m}(c:gK p.length m (-1) m.frames=K){d a}(h:ji m d=M a):kq p m (iE a):=by
 have d:a∈m.frames:=dB h;have b:=(uG.1 c).2.2 a d;unfold m9 at b;simp only[aD,decide_eq_true_eq,aJ]at b;obtain⟨⟨⟨⟨a,c⟩,d⟩,e⟩,f⟩:=b;exact⟨⟨λb a=>CM (e b a),λb a=>CM (f b a)⟩,c,d⟩
structure lU (w V:World)(p:On)(m:eh)(bh:Nat)(vp vm1 vm5 vm6:Value)(h:Option ef)(vl vs:Value):Prop where
 bel:Below w.heap.size w V
 b0:ed V w.heap.size 24 [vp]
 b1:ed V (w.heap.size+1) 63 [J I m.slot,vm1,J I m.ret,J I m.locals,J I m.stack,vm5,vm6]
 bx:ed V bh 149 [zB h.isSome,vl,vs]
 st:∀s,h=M s->eY (sel (λk=>k≠bh) V) s vl vs/\kq p m s
 no:h=U->vl=O U 0 0/\vs=O U 0 0
 lo:w.heap.size+1<bh
section
variable {w V V' : World} {p : List eb} {m : eh} {bh : Nat} {vp vm1 vm5 vm6 : Value} {h : Option ef} {vl vs : Value}
theorem lU.below (a:lU w V p m bh vp vm1 vm5 vm6 h vl vs)(b:Below V.heap.size V V'):lU w V' p m bh vp vm1 vm5 vm6 h vl vs:=
 ⟨a.bel.trans (b.mono a.bel.size),a.b0.below b a.b0.lt,a.b1.below b a.b1.lt,a.bx.below b a.bx.lt,λd c=>⟨OU (fW (Ox b) λe b a=>⟨λc=>by omega,a⟩) (a.st d c).1,(a.st d c).2⟩,a.no,a.lo⟩
def jc (h:Option ef):ef:=h.getD ⟨[],[]⟩
theorem lU.hand (a:lU w V p m bh vp vm1 vm5 vm6 h vl vs):eY V.cell? (jc h) vl vs:=by
 cases h with
 | none =>
  obtain⟨rfl,rfl⟩:=a.no rfl;exact⟨ow,ow⟩
 | some b => exact OU iR (a.st b rfl).1
theorem lU.IY (a:lU w V p m bh vp vm1 vm5 vm6 h vl vs):gO p (jc h):=by
 cases h with
 | none => exact ⟨λa hx => (by cases hx), λa hx => (by cases hx)⟩
 | some b => exact(a.st b rfl).2.1
theorem lU.put(a:lU w V p m bh vp vm1 vm5 vm6 h vl vs)(e:ee (λc=>c=bh) V V'){d f g}(j:ed V' bh 149 [zB d.isSome,f,g])(i:∀b,d=M b->eY (sel (λc=>c≠bh) V) b f g/\kq p m b)(k:d=U->f=O U 0 0/\g=O U 0 0):lU w V' p m bh vp vm1 vm5 vm6 d f g:=by
 have:=a.lo;exact⟨a.bel.trans (e.below a.bel.size (λc a d=>by omega)),a.b0.mods e (by omega),a.b1.mods e (by omega),j,λb d=>⟨OU (fW e λc _ a=>⟨a,a⟩) (i b d).1,(i b d).2⟩,k,a.lo⟩
end
end Go.Proofs.YtiiokkllmchohaaGreat
