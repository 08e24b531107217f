/- The document's answer: two states joined. -/
import Derived.Test.YtiiokkllmchohaaGreatT37
set_option maxHeartbeats 0
set_option maxRecDepth 99999
namespace Go.Proofs.YtiiokkllmchohaaGreat
open Go.Value renaming int->J,slice->O,pointer->zP,bool->zB
open Go.IntKind renaming i64->I
open Option renaming none->U,some->M
open Bool renaming true->K,false->F
open Go.Ending renaming returned->zR
open Go.Obj renaming cells->zC
open Go.RowKit Go.Shelf
section
attribute [local go_sem ↓] Go.wp_at_zero Go.wp_at_succ
attribute [local go_sem] eZ
theorem ix.KY{i d c a h j}(p:ix i d c a h j (O U 0 0) [])(k:i.heap.size<=c)(l:c<=d.heap.size)(m:i.heap.size<=a)(n:a<c)(o:j.length<=100)(x):
  ∃e g f b,(Builtin.append_ #[40,40] 40 #[h,O (M ⟨d.heap.size,0,U⟩) 1 1]).run Tryz.prog (d.alloc (zC #[J I x] 43))= .ok (O e g f) b/\
   b.cell? ⟨a,1,U⟩=M h/\b.frozen? ⟨a,1,U⟩=F/\ee (λq=>h.ownBlock=M q) d b/\ix i (b.setCell ⟨a,1,U⟩ (O e g f)) c a (O e g f) (j++ [x]) (O U 0 0) []:=by
 obtain⟨e,g,f,b,i,c,d,h,_,a⟩:=p.CV.one k l m n o x;exact⟨e,g,f,b,i,c,d,h,a.bel,a.box,a.row,World.ownsRow_nil _ _ _ _,λb _ a=>by cases a⟩
structure sU (w V:World)(vp:Value)(ia ib:Bool)(val vas vbl vbs:Value):Prop where
 bel:Below w.heap.size w V
 b0:ed V w.heap.size 24 [vp]
 b1:ed V (w.heap.size+1) 149 [zB ia,val,vas]
 b2:ed V (w.heap.size+1+1) 149 [zB ib,vbl,vbs]
 b3:ed V (w.heap.size+1+1+1) 149 [zB F,O U 0 0,O U 0 0]
theorem sU.below{w c d k e f g h i j}(a:sU w c k e f g h i j)(b:Below c.heap.size c d):sU w d k e f g h i j:=
 ⟨a.bel.trans (b.mono a.bel.size),a.b0.below b a.b0.lt,a.b1.below b a.b1.lt,a.b2.below b a.b2.lt,a.b3.below b a.b3.lt⟩
theorem sU.new(a e b f c d g h):
  sU a ((((a.alloc (zC #[e] 24)).alloc (zC #[zB b,c,d] 149)).alloc (zC #[zB f,g,h] 149)).alloc (zC #[zB F,O U 0 0,O U 0 0] 149)) e b f c d g h:=by
 have i:=Oz (a.alloc (zC #[e] 24)) #[zB b,c,d] 149;have j:=Oz ((a.alloc (zC #[e] 24)).alloc (zC #[zB b,c,d] 149)) #[zB f,g,h] 149;have k:=Oz (((a.alloc (zC #[e] 24)).alloc (zC #[zB b,c,d] 149)).alloc (zC #[zB f,g,h] 149)) #[zB F,O U 0 0,O U 0 0] 149;simp only[World.size_alloc]at i j k;exact⟨(((ev a _).alloc (by simp) _).alloc (by simp;omega) _).alloc (by simp;omega) _,(((Oz a _ _).alloc _).alloc _).alloc _,(i.alloc _).alloc _,j.alloc _,k⟩
def us (p:On)(ia ib:Bool)(s t:ef)(vbl vbs:Value)(w w':World)(e:Ending):Prop:=
 (ia=F->e=zR (.tuple #[.agg #[zB ib,vbl,vbs],zB K]))/\(ia=K->s.stk.length≠t.stk.length->e=zR (.tuple #[.agg #[zB F,O U 0 0,O U 0 0],zB F]))/\
  (ia=K->s.stk.length=t.stk.length->∃vl vs,e=zR (.tuple #[.agg #[zB K,vl,vs],zB K])/\rN w.heap.size w' (nk p s t) vl vs)/\Below w.heap.size w w'
theorem Df{p}{b c:Ok}{a}(d:a<b.length)(e:a<c.length):((b.zip c).map λx=>gZ p x.1 x.2).take (a+1)=((b.zip c).map λx=>gZ p x.1 x.2).take a++ [gZ p b[a] c[a]]:=by
 rw[bd,ae (by simp;omega),List.getElem_map,dw]
 rfl
theorem KX{h b c f d g e}:∀a∈[Value.bool h,O b f d,O c g e],a.oneCell'=K:=λa a=>by
 simp only[aE,aF,or_false]at a
 rcases a with rfl | rfl | rfl <;> rfl
theorem Mk(p d1 c e T ad ds d0 bk bn i)(cs:eQ i d1 p)(cu:ez p p.length)(cm:p.length<=6)(cn:eY i.cell? c ds d0)(cp:eY i.cell? e bk bn)(cA:gO p c)(dp:gO p e)(ft:c.loc.length<=8)(f0:c.stk.length<=8)(e3:T=K->c.loc.length=e.loc.length):
  Calls Tryz.prog 98 #[.agg #[d1],.agg #[zB T,ds,d0],.agg #[zB ad,bk,bn]] i λd j=>us p T ad c e bk bn i j d:=by
 have bM:=Ou cs;obtain⟨ba,_,_,bc,rfl,_⟩:=cs;obtain⟨en,b6,b8,b7,rfl,_,et,eK⟩:=it cn.1;obtain⟨eo,b9,cb,ca,rfl,_,eP,eR⟩:=it cn.2;obtain⟨cc,ce,cf,a0,rfl,_,eS,e0⟩:=it cp.1;obtain⟨cg,ci,ck,a1,rfl,_,e1,bk⟩:=it cp.2;have d5:=Ou eK;have d6:=Ou eR;have d9:=Ou e0;have ec:=Ou bk;have h:=sU.new i (O ba p.length bc) T ad (O en c.loc.length b7) (O eo c.stk.length ca) (O cc e.loc.length a0) (O cg e.stk.length a1);have:p.length<=4194304:=by omega
 go_in
 go_upto_region 1 with fail
 generalize (((i.alloc _).alloc _).alloc _).alloc _=W at *;have:=h.b1.c0;have:=h.b1.c2;have:=h.b2.c0;have:=h.b2.c1;have:=h.b2.c2;have eg:=Ou e3
 cases T with
 | false =>
  go_wp2_with (refine fJ ip h.b3 0 [zB ad,O cc e.loc.length a0,O cg e.stk.length a1] rfl (by simp) (λc a=>by simp only[aE,aF,or_false]at a;rcases a with rfl | rfl | rfl <;> rfl) (.tmp 6) (.tmp 16) rfl rfl rfl rfl ?_;intro q l n o;rw[fw (by rfl)]at l)
  refine bodyPost_ret (jk rfl ip l rfl rfl) rfl ?_;exact⟨λ_=>rfl,λd=>(by cases d),λd=>(by cases d),h.bel.trans (n.below h.bel.size (λa s d=>by omega))⟩
 | true =>
  have es:=ea eg rfl
  by_cases ab:c.stk.length=e.stk.length
  rotate_left
  .have:((c.stk.length:Int) == (e.stk.length:Int))=F:=(by simpa using λa:(c.stk.length:Int)=e.stk.length=>ab (by omega));have N:=Ou ab;go_wp2_with (refine fJ ip h.b3 0 [zB F,O U 0 0,O U 0 0] rfl (by simp) uj (.tmp 6) (.tmp 24) rfl rfl rfl rfl ?_;intro q l n o;rw[fw (by rfl)]at l)
   refine bodyPost_ret (jk rfl ip l rfl rfl) rfl ?_;exact⟨λd=>(by cases d),λ_ _=>rfl,λ_ d=>absurd d N,h.bel.trans (n.below h.bel.size (λa s d=>by omega))⟩
  have N:=Ou ab;have bI:=Ou es;have:((c.stk.length:Int) == (e.stk.length:Int))=K:=by rw[ab];simp
  obtain⟨v,e5⟩:∃v,v=(c.loc.zip e.loc).map λa=>gZ p a.1 a.2:=⟨_,rfl⟩;obtain⟨x,e6⟩:∃x,x=(c.stk.zip e.stk).map λa=>gZ p a.1 a.2:=⟨_,rfl⟩;have ao:=Ou e5;have ar:=Ou e6;go_upto_region 5 with fail
  go_wp2_with fail;have:=h.b3.lt;have ei:=ix.start (w:=i) (V:=W) (B:=W.heap.size+1) h.bel;have e2:=ev W (zC #[zB K,O U 0 0,O U 0 0] 149);have:(W.alloc (zC #[zB K,O U 0 0,O U 0 0] 149)).heap.size=W.heap.size+1:=by simp
  go_loopg [9] c.loc.length (λe f d=>∃(a:Nat) (X:Value),a<=c.loc.length/\e=c.loc.length-a/\f=J I a/\ix i d (W.heap.size+1) W.heap.size X (v.take a) (O U 0 0) []/\Below W.heap.size W d/\W.heap.size+1<=d.heap.size)
  case atStart=>exact ⟨0,_,az _,rfl,rfl,ei,e2,by omega⟩
  case round=>
   obtain⟨a,X,s,ac,rfl,g,D,a6⟩:=hrel;have Y:=Ou ac;have f:=h.below D;obtain⟨bo,br,rfl⟩:=fd g.rl;obtain⟨L,G⟩:∃L,L=(v.take a).length:=⟨_,rfl⟩;rw[<-G]at g;have aa:=Ou G;clear G;have ak:=g.box.c1;have bf:=f.b1.c1
   by_cases k:a<c.loc.length
   rotate_left
   .obtain rfl:a=c.loc.length:=by omega
    have fc:¬(c.loc.length:Int)<(c.loc.length:Int):=(by omega);have a4:v.length=c.loc.length:=(by rw[ea ao];have:=ea bI;simp;omega);rw[aH (by omega)]at g aa;obtain⟨d2,d4,d3,cz⟩:∃m c a,O bo L br=O m c a:=⟨_,_,_,rfl⟩;rw[cz]at g;have Z:=Ou g;have an:=Ou D;have b5:=Ou a6;clear a4 g ak D a6 cz aa f Y;go_wp2_with fail;have fn:=(h.below an.out).b1.c2
    go_loopg [11] c.stk.length (λe f d=>∃(a:Nat) (X:Value),a<=c.stk.length/\e=c.stk.length-a/\f=J I a/\ix i d (W.heap.size+1) W.heap.size (O d2 d4 d3) v X (x.take a)/\Below W.heap.size W d/\W.heap.size+1<=d.heap.size)
    case atStart=>exact ⟨0,_,az _,rfl,rfl,ea Z,ea an,ea b5⟩
    case round=>
     clear fn Z an b5;obtain⟨a,X,s,ac,rfl,g,D,a6⟩:=hrel;have Y:=Ou ac;clear ac;have f:=h.below D;obtain⟨bo,br,rfl⟩:=fd g.rs;obtain⟨L,G⟩:∃L,L=(x.take a).length:=⟨_,rfl⟩;rw[<-G]at g;have aa:=Ou G;clear G;have ak:=g.box.c2;have bf:=f.b1.c2
     by_cases k:a<c.stk.length
     rotate_left
     .obtain rfl:a=c.stk.length:=by omega
      have fc:¬(c.stk.length:Int)<(c.stk.length:Int):=(by omega);have a4:x.length=c.stk.length:=(by rw[ea ar];have:=ea N;simp;omega);rw[aH (by omega)]at g aa;have:=g.box.c0;have:=g.box.c1;have Z:=Ou g;have r:=f.b3;clear a4 g;go_wp2_with (refine fJ ip r 0 [zB K,O d2 d4 d3,O bo L br] rfl (by simp) KX (.tmp 6) (.tmp 76) rfl rfl rfl rfl ?_;intro q l n o;rw[fw (by rfl)]at l)
      refine bodyPost_ret (jk rfl ip l rfl rfl) rfl ?_
      exact⟨λd=>(by cases d),λ_ d=>absurd N d,λ_ _=>⟨_,_,rfl,by
       have d:nk p c e=⟨v,x⟩:=(by unfold nk;rw[ea ao,ea ar]);rw[d];exact OU (fW n λa s a=>⟨by omega,by omega⟩) Z.read⟩,f.bel.trans (n.below f.bel.size (λa s d=>by omega))⟩
     have be:=f.b0.c0;have bh:=f.b2.c2;have t:a<e.stk.length:=(by rw[<-ea N];exact k);obtain rfl:=eP (eW k);obtain rfl:=e1 (eW t);have bs:=Oq f.bel _ _ (d6 a k);have bz:=Oq f.bel _ _ (ec a t);have hx:=cA.2 _ (av k);have a8:=dp.2 _ (av t);have HS:Hid (x.take (a+1)=x.take a++ [gZ p c.stk[a] e.stk[a]]):=(by show _=_;rw[ea ar];exact Df k t);generalize c.stk[a]=m at *;generalize e.stk[a]=b at *;have e7:=fp a;have e9:(a:Int)<(c.stk.length:Int):=(by omega);have fa:(a:Int)<(e.stk.length:Int):=(by omega);have P:=Ou (λc (a:Below wr.heap.size wr c)=>aq ((f.below a).b0.cell 0) (aq ((f.below a).b1.cell 2) (aq ((f.below a).b2.cell 2) (aq (Oq a _ _ bs) (Oq a _ _ bz)))));go_wp2;refine fk (λj=>j.cell? ⟨i.heap.size,0,U⟩=M (O ba p.length bc)/\j.cell? ⟨i.heap.size+1,2,U⟩=M (O (M ⟨b9,cb,U⟩) c.stk.length ca)/\j.cell? ⟨i.heap.size+1+1,2,U⟩=M (O (M ⟨ci,ck,U⟩) e.stk.length a1)/\j.cell? ⟨b9,cb+a,U⟩=M (J I m)/\j.cell? ⟨ci,ck+a,U⟩=M (J I b)) (P _ ik) λhHeld=>?_;refine dZ 58 0 ?_;refine dZ 59 1 ?_;refine dZ 60 2 ?_;refine dZ 61 3 ?_;refine dZ 62 4 ?_;refine dZ 63 5 ?_;refine dZ 64 6 ?_;refine dZ 65 7 ?_;refine dZ 66 8 ?_;refine dZ 67 9 ?_;refine dZ 68 10 ?_;refine el 11 (λej a2=>?_);go_simp;refine(Er p _ m b wr.drew (eA (Oq ik) (eA (Oq f.bel) bM)) cu cm hx a8).mono ?_;rintro d fo ⟨rfl,Q⟩;have r:=mA Q;obtain⟨H,S⟩:∃H,H=gZ p m b:=⟨_,rfl⟩;rw[<-S]at HS ⊢;have z:=g.below r;have fs:=z.box.c2;have e4:=r.size;obtain⟨n,u,o,l,a3,ep,er,q,A⟩:=z.one (by omega) (by omega) (by omega) (by omega) (by rw[aR];omega) H;have C:ee (λa=>a=W.heap.size) l (l.setCell ⟨W.heap.size,2,U⟩ (O n u o)):=(Ow (λa=>a=W.heap.size) l).setCell (p:=⟨W.heap.size,2,U⟩) (λ_=>rfl) _;have E:=eu D r;have R:Below W.heap.size W (l.setCell ⟨W.heap.size,2,U⟩ (O n u o)):=E.trans ((q.below E.size (λa s d=>by have:=(z.rs.lt a d).1;omega)).trans (C.below (ap E.size q.size) (λa s d=>by omega)));have a5:W.heap.size+1<=(l.setCell ⟨W.heap.size,2,U⟩ (O n u o)).heap.size:=(by have:=q.size;have:=C.size;omega);rw[<-ea HS]at A;have y:=Ou (aq A (aq R a5));clear A q C R S Q ak be bf bh;go_wp2_with fail;refine a2.out _ _ (P _ r) λhHeld=>?_;refine dZ 12 12 ?_;refine eV ?_;go_wp2_with (at_builtin;refine OA rfl (.tmp 71) (.tmp 73) 40 rfl _ _ rfl rfl a3 ?_)
     go_roundg (c.stk.length-(a+1))
     case measure=>have:=ea Y;omega
     case rel=>exact ⟨a+1,O n u o,by omega,rfl,by go_num,y.1,y.2.1,y.2.2⟩
   have be:=f.b0.c0;have bh:=f.b2.c1;have t:a<e.loc.length:=(by rw[<-ea bI];exact k);obtain rfl:=et (eW k);obtain rfl:=eS (eW t);have bs:=Oq f.bel _ _ (d5 a k);have bz:=Oq f.bel _ _ (d9 a t);have hx:=cA.1 _ (av k);have a8:=dp.1 _ (av t);have HS:Hid (v.take (a+1)=v.take a++ [gZ p c.loc[a] e.loc[a]]):=(by show _=_;rw[ea ao];exact Df k t);generalize c.loc[a]=m at *;generalize e.loc[a]=b at *;have e7:=fp a;have e9:(a:Int)<(c.loc.length:Int):=(by omega);have fa:(a:Int)<(e.loc.length:Int):=(by omega);have P:=Ou (λc (a:Below wr.heap.size wr c)=>aq ((f.below a).b0.cell 0) (aq ((f.below a).b1.cell 1) (aq ((f.below a).b2.cell 1) (aq (Oq a _ _ bs) (Oq a _ _ bz)))));go_wp2;refine fk (λj=>j.cell? ⟨i.heap.size,0,U⟩=M (O ba p.length bc)/\j.cell? ⟨i.heap.size+1,1,U⟩=M (O (M ⟨b6,b8,U⟩) c.loc.length b7)/\j.cell? ⟨i.heap.size+1+1,1,U⟩=M (O (M ⟨ce,cf,U⟩) e.loc.length a0)/\j.cell? ⟨b6,b8+a,U⟩=M (J I m)/\j.cell? ⟨ce,cf+a,U⟩=M (J I b)) (P _ ik) λhHeld=>?_;refine dZ 33 0 ?_;refine dZ 34 1 ?_;refine dZ 35 2 ?_;refine dZ 36 3 ?_;refine dZ 37 4 ?_;refine dZ 38 5 ?_;refine dZ 39 6 ?_;refine dZ 40 7 ?_;refine dZ 41 8 ?_;refine dZ 42 9 ?_;refine dZ 43 10 ?_;refine el 11 (λej a2=>?_);go_simp;refine(Er p _ m b wr.drew (eA (Oq ik) (eA (Oq f.bel) bM)) cu cm hx a8).mono ?_;rintro d fo ⟨rfl,Q⟩;have r:=mA Q;obtain⟨H,S⟩:∃H,H=gZ p m b:=⟨_,rfl⟩;rw[<-S]at HS ⊢;have z:=g.below r;have fs:=z.box.c1;have e4:=r.size;obtain⟨n,u,o,l,a3,ep,er,q,A⟩:=z.KY (by omega) (by omega) (by omega) (by omega) (by rw[aR];omega) H;have C:ee (λa=>a=W.heap.size) l (l.setCell ⟨W.heap.size,1,U⟩ (O n u o)):=(Ow (λa=>a=W.heap.size) l).setCell (p:=⟨W.heap.size,1,U⟩) (λ_=>rfl) _;have E:=eu D r;have R:Below W.heap.size W (l.setCell ⟨W.heap.size,1,U⟩ (O n u o)):=E.trans ((q.below E.size (λa s d=>by have:=(z.rl.lt a d).1;omega)).trans (C.below (ap E.size q.size) (λa s d=>by omega)));have a5:W.heap.size+1<=(l.setCell ⟨W.heap.size,1,U⟩ (O n u o)).heap.size:=(by have:=q.size;have:=C.size;omega);rw[<-ea HS]at A;have y:=Ou (aq A (aq R a5));clear A q C R S Q ak be bf bh;go_wp2_with fail;refine a2.out _ _ (P _ r) λhHeld=>?_;refine dZ 10 12 ?_;refine eV ?_;go_wp2_with (at_builtin;refine OA rfl (.tmp 46) (.tmp 48) 40 rfl _ _ rfl rfl a3 ?_)
   go_roundg (c.loc.length-(a+1))
   case measure=>have:=ea Y;omega
   case rel=>exact ⟨a+1,O n u o,by omega,rfl,by go_num,y.1,y.2.1,y.2.2⟩
end
end Go.Proofs.YtiiokkllmchohaaGreat
