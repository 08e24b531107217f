/- States: the blank one, that at the beginning, that of a frame. -/
import Derived.Test.YtiiokkllmchohaaGreatT19
import Derived.Test.YtiiokkllmchohaaGreatT21
set_option maxHeartbeats 0
set_option maxRecDepth 99999
namespace Go.Proofs.YtiiokkllmchohaaGreat
open Go.Value renaming int->J,slice->O,pointer->zP,bool->zB
open Go.IntKind renaming i64->I
open Option renaming none->U,some->M
open Bool renaming true->K,false->F
open Go.Ending renaming returned->zR
open Go.Obj renaming cells->zC
open Go.RowKit Go.Shelf
section
attribute [local go_sem ↓] Go.wp_at_zero Go.wp_at_succ
attribute [local go_sem] eZ
theorem yY{P w}(n H p u x)(t:P.underlying n=M (.slice p))(q:P.info? p=M u)(F:u.size=x)(b f k y h c o)(C:c<=k)(E:h=U->c=0/\o=0)(a)(r:a.length=c*x)(G:∀e,h=M e->∀v i,a[v]? =M i->w.cell? (e.add v)=M i)(g d)(l:ed w b g d)(A:f+a.length<=d.length)(z:∀i∈a,i.oneCell'=K):
  ∃j,(Builtin.copy_ #[n,n] H #[O (M ⟨b,f,U⟩) k y,O h c o]).run P w= .ok (goInt c) j/\ed j b g (OL d f a)/\ee (λm=>m=b) w j/\j.heap.size=w.heap.size:=by
 subst F;have D:Nat.min c k=c:=cN C
 cases h with
 | none =>
  obtain⟨rfl,rfl⟩:=E rfl;obtain rfl:a= []:=aV (by simpa using r);refine⟨w,?_,by simpa[OL]using l,Ow _ _,rfl⟩;simp[Builtin.copy_,run_underlying t,Builtin.lenOf,Builtin.firstCells,sizeOf,typeInfo,q,storeCells]
 | some e =>
  have B:=run_loadCells_list (P:=P) w e a (G e rfl);have s:=run_storeCells_at P b f g a 0 d.toArray w l (by simpa using A) z;simp only[bK]at s;refine⟨w.setRow b (OL d f a).toArray,?_,setRow_heap w b d.toArray _ g (0,0) l,⟨rfl,rfl,rfl,by simp[World.setRow],λm _ a=>setRow_other w b m _ a⟩,by simp[World.setRow]⟩
  .simp [Builtin.copy_,run_underlying t,Builtin.lenOf,Builtin.firstCells,sizeOf,typeInfo,q,D,<-r,B,s,OL]
theorem wp_copy_run{d i j}{b:Oper}{a K k}(e x c)(m:b.op= .call { callee:=.builtin .copy,args:= #[e,x],argTypes:= #[c,c] })(g f)(o:a.eval e=g)(hx:a.eval x=f){h}(n:(Builtin.copy_ #[c,c] b.type #[g,f]).run d i= .ok h j)(l:K (a.put b.dst h) j):b.wp d a i K k:=by
 unfold Oper.wp execOp;simp only[m,resolve,invoke,builtin,Sem.run_bind,Sem.run_pure,Result.andThen_ok,dx,bC,cy,o,hx,n];exact l
def mM (s:ef):List Value:=s.loc.map (J .i64)++(s.stk.map (J .i64)++List.replicate (8-s.stk.length) (J I 0))++ [J I (s.stk.length:Int)]
theorem kR{b}(a:okS b):(mM b).length=17:=by
 have:=a.1;have:=a.2;simp[mM];omega
theorem oF{a}(c:okS a):ir a (mM a):=by
 have h:=c.1;have i:=c.2;refine⟨c,kR c,λc g=>?_,λe f b=>?_,λe f b=>?_,?_⟩
 .simp only [mM,aN,bF,cJ,aC]at g
  rcases g with (⟨f,_,rfl⟩ | ⟨f,_,rfl⟩ | ⟨_,rfl⟩) | rfl <;> exact⟨_,rfl⟩
 .have d:e<a.loc.length:=(ag.1 b).1;unfold mM;rw[a9,aL (by simpa using d),aU,b];rfl
 .have d:e<a.stk.length:=(ag.1 b).1;unfold mM;rw[a9,aP (by simp;omega),aZ,h,dj,a9,aL (by simpa using d),aU,b];rfl
 .unfold mM;rw[aP (by simp;omega)];have:16-(a.loc.map (J .i64)++(a.stk.map (J .i64)++List.replicate (8-a.stk.length) (J .i64 0))).length=0:=by simp;omega
  rw[this];rfl
def lY:List Value:=List.replicate 8 (J I 2)++List.replicate 9 (J I 0)
theorem yM:lY.length=17:=rfl
theorem yN:∀b∈lY,b.oneCell'=K:=by
 intro b a;simp only[lY,aN,cJ]at a
 rcases a with ⟨_,rfl⟩ | ⟨_,rfl⟩ <;> rfl
theorem Gd{a}(b:a<8):(List.replicate a (J .i64 2)++List.replicate (17-a) (J .i64 0)).set a (J I 2)=List.replicate (a+1) (J .i64 2)++List.replicate (17-(a+1)) (J .i64 0):=by
 obtain⟨b,c⟩:∃b,17-a=b+1:=⟨16-a,by omega⟩;have d:17-(a+1)=b:=by omega
 rw[c,d,bS _ _ (by simp),List.replicate_succ,du,co,bi,cC (n:=a)];simp
theorem EJ(b):Calls Tryz.prog 143 #[] b λd j=>d=zR (.agg lY.toArray)/\Below b.heap.size b j:=by
 go_in
 go_wp2
 go_loopw [3] (λc wr=>∃a:Nat,a<=8/\c=J I a/\ed wr b.heap.size 130 (List.replicate 17 (J I 0))/\ed wr (b.heap.size+1) 130 (List.replicate a (J I 2)++List.replicate (17-a) (J I 0))/\Below b.heap.size b wr) (λc _=>8-(intOf c).toNat)
 case atStart=>
  refine⟨0,by omega,rfl,?_,?_,?_⟩
  .exact (Oz b _ _).alloc _
  .have:=Oz (b.alloc (zC (List.replicate 17 (J I 0)).toArray 130)) (List.replicate 17 (J I 0)).toArray 130;rw[World.size_alloc]at this;exact this
  .exact gS _ _ _
 case round=>
  obtain⟨a,i,rfl,g,c,e⟩:=hrel;have j:=c.lt
  by_cases j:a<8
  .have o:wr.cell? ⟨b.heap.size+1,a,U⟩=M (J I 0):=by
    rw[c.cell,aP (by simp),du,co,cL,am (by omega)]
   have o:=c.frozen a;have f:=c.setCell a (J I 2);rw[Gd j]at f;have h:=Ou (aq (g.gP (p:=⟨b.heap.size+1,a,U⟩) (by simp) (J I 2)) (aq f (e.setCell (p:=⟨b.heap.size+1,a,U⟩) (by simp) (J I 2))));have k:(a:Int)<8:=(by omega);have b:=fp a;go_wp2_with fail;obtain⟨l,m,n⟩:=h;exact⟨⟨a+1,by omega,by go_num,l,m,n⟩,by simp[intOf];omega⟩
  .obtain rfl:a=8:=by omega
   have k:¬((8:Nat):Int)<8:=(by omega)
   go_wp2_with (first
    | refine jv gR c 0 _ rfl (λa b d => by simpa using d) (.tmp 1) rfl rfl rfl ?_
    | (refine fJ gR g 0 _ rfl (by simp) yN (.tmp 0) (.tmp 10) rfl rfl rfl rfl ?_; intro b f h b))
   rw[fw (by rfl:lY.length=(List.replicate 17 (J .i64 0)).length)]at f;refine bodyPost_ret (j9 rfl gR f rfl rfl) rfl ?_;exact⟨rfl,e.trans (h.below e.size (λa i d=>by omega))⟩
theorem F8{c a}(d:a.args.length<=7):OL (lY.set 0 (J I (c+3))) 1 (a.args.map (J .i64))=mM (fH c a):=by
 have b:lY.set 0 (J I (c+3))=J I (c+3)::(List.replicate 7 (J I 2)++List.replicate 9 (J I 0)):=rfl;rw[b];unfold OL mM fH;rw[aZ,Nat.add_comm 1,List.drop_succ_cons,bW (by simpa using d),dV];simp only[dz,List.take_zero,bC,aM,List.map_replicate,cy,cT,bN,cB,Nat.sub_zero,a9]
 rfl
theorem Nc(e a D E F b)(a0:0<=e)(a1:e<=4194304)(ab:fK b.cell? a D E F)(s:a.args.length<=7):
  Calls Tryz.prog 79 #[J I e,fB a D E F] b λd l=>d=zR (.agg (mM (fH e a)).toArray)/\Below b.heap.size b l:=by
 unfold fB;obtain⟨ao,X,D,an,D⟩:=info_parts infoType;obtain⟨ac,ad,ak⟩:=ab;obtain⟨q,_,_,r,rfl,_⟩:=ak;obtain⟨n,_,_,o,rfl,_⟩:=ad;obtain⟨i,j,rfl,Y,aa⟩:=mg ac;have L:=Ou (F8 (c:=e) s);go_in
 go_wp2_with fail;have T:=gS b (zC #[J I a.slot,O i a.args.length j,J I a.ret,J I a.locals,J I a.stack,O n a.code.length o,O q a.frames.length r] 63) (zC (List.replicate 17 (J I 0)).toArray 130);have h:=(Oz b #[J I a.slot,O i a.args.length j,J I a.ret,J I a.locals,J I a.stack,O n a.code.length o,O q a.frames.length r] 63).alloc (zC (List.replicate 17 (J I 0)).toArray 130);have f:=Oz (b.alloc (zC #[J I a.slot,O i a.args.length j,J I a.ret,J I a.locals,J I a.stack,O n a.code.length o,O q a.frames.length r] 63)) (List.replicate 17 (J I 0)).toArray 130;rw[World.size_alloc]at f;refine(EJ _).mono ?_;rintro d g ⟨rfl,u⟩;have B:Below b.heap.size b g:=T.trans (u.mono (by simp;omega));replace h:=h.bl u;replace f:=f.bl u;have:=h.lt;have:=f.lt;go_wp2_with (refine fJ gR (Oz _ _ _) 0 lY rfl (by simp) yN (.tmp 5) (.tmp 6) rfl rfl rfl rfl ?_;intro G m R n)
 rw[fw (by rfl:lY.length=_)]at m;have v:Below g.heap.size g G:=(ev g _).trans (R.below (by simp) (λb a d=>by omega));have V:Below b.heap.size b G:=eu B v;replace h:=h.bl v;replace f:=f.bl v;have n:=m.c0;have:=m.frozen 0;have Z:b.heap.size<=g.heap.size:=B.size;refine(og e (by omega) (by omega) _).mono ?_;rintro d l ⟨rfl,rfl⟩;go_wp2_with fail;have x:=V.setCell (p:=⟨g.heap.size,0,U⟩) Z (J I (e+3));have K:=m.setCell 0 (J I (e+3));replace h:=h.gP (p:=⟨g.heap.size,0,U⟩) (by dsimp only;omega) (J I (e+3));replace f:=f.gP (p:=⟨g.heap.size,0,U⟩) (by dsimp only;omega) (J I (e+3));generalize l.setCell _ _=W3 at *;have y:=h.c1
 obtain⟨ar,W,z,t,h⟩:=yY (P:=Tryz.prog) (w:=W3.drew) 40 3 43 ao 1 Tryz.underlying40 X an g.heap.size 1 7 7 i a.args.length j s
  (λd=>by obtain⟨k,A⟩:=Y d;rw[k];exact⟨rfl,A⟩) (a.args.map (J .i64)) (by simp) (λb d a e k=>Oq x.drew _ _ (aa b d a e k)) 130 _ K.drew (by simp[yM];omega) (oy _)
 rw[ea L]at z;have C:Below b.heap.size b ar:=x.drew.trans (t.below x.size (λb a d=>by omega));have H:=f.drew.mods t (by omega);have N:=t.cell (w:=W3.drew) y (by dsimp only;omega);refine fk (λl=>l.cell? ⟨b.heap.size,1,U⟩=M (O i a.args.length j)) y λhHeld=>?_;refine dZ 11 0 ?_;refine dZ 12 1 ?_;refine dZ 13 2 ?_;refine dZ 14 3 ?_;refine el 4 (λa Q=>?_);refine wp_copy_run (.tmp 12) (.tmp 14) 40 rfl _ _ rfl rfl W ?_;go_simp;refine Q.out _ _ N λhHeld=>?_;refine eV ?_;have k:=xg (c:=e) s
 go_wp2_with (first
  | refine jv gR z 0 _ (kR k) (λa b d => by simpa using d) (.tmp 5) rfl rfl rfl ?_
  | (refine fJ gR H 0 _ (kR k) (by simp) (oF k).one (.tmp 4) (.tmp 16) rfl rfl rfl rfl ?_; intro a A S a))
 rw[fw (by rw[kR k];rfl)]at A;refine bodyPost_ret (j9 rfl gR A (kR k) rfl) rfl ?_;exact⟨rfl,C.trans (S.below C.size (λb a d=>by omega))⟩
theorem Nr{a}(e:a.locals.length<=8)(f:a.stack.length<=8):(OL (OL lY 0 (a.locals.map (J .i64))) 8 (a.stack.map (J .i64))).set 16 (J I (a.stack.length:Int))=mM (gW a):=by
 have c:OL lY 0 (a.locals.map (J .i64))=(a.locals.map (J .i64)++List.replicate (8-a.locals.length) (J I 2))++List.replicate 9 (J I 0):=by
  unfold OL lY;rw[aZ,bJ,bW (by simpa using e),dV];simp
 have b:(a.locals.map (J .i64)++List.replicate (8-a.locals.length) (J .i64 2)).length=8:=by simp;omega
 have d:OL ((a.locals.map (J .i64)++List.replicate (8-a.locals.length) (J .i64 2))++List.replicate 9 (J I 0)) 8 (a.stack.map (J .i64))=((a.locals.map (J .i64)++List.replicate (8-a.locals.length) (J .i64 2))++(a.stack.map (J .i64)++List.replicate (8-a.stack.length) (J I 0)))++ [J I 0]:=by
  unfold OL;rw[aZ,List.take_left' b,cY,b,dj,ct (by rw[b];omega),dV];have:9-a.stack.length=(8-a.stack.length)+1:=by omega
  rw[this,cC];simp
 rw[c,d,bS _ _ (by simp;omega)];have:16-((a.locals.map (J .i64)++List.replicate (8-a.locals.length) (J .i64 2))++(a.stack.map (J .i64)++List.replicate (8-a.stack.length) (J .i64 0))).length=0:=by simp;omega
 rw[this];unfold mM gW;simp
theorem Ni(a V W b)(a6:eG 1 (gF b) V a.locals)(be:eG 1 (gF b) W a.stack)(r:a.locals.length<=8)(s:a.stack.length<=8):
  Calls Tryz.prog 155 #[.agg #[J I a.pc,V,W]] b λc n=>c=zR (.agg (mM (gW a)).toArray)/\Below b.heap.size b n:=by
 obtain⟨T,R,V,S,V⟩:=info_parts infoType;obtain⟨h,i,rfl,a8,bc⟩:=mg a6;obtain⟨k,l,rfl,bf,bh⟩:=mg be;have ak:=Ou (Nr r s);go_in
 go_wp2_with fail;have a4:=gS b (zC #[J I a.pc,O h a.locals.length i,O k a.stack.length l] 42) (zC (List.replicate 17 (J I 0)).toArray 130);have e:=(Oz b #[J I a.pc,O h a.locals.length i,O k a.stack.length l] 42).alloc (zC (List.replicate 17 (J I 0)).toArray 130);have f:=Oz (b.alloc (zC #[J I a.pc,O h a.locals.length i,O k a.stack.length l] 42)) (List.replicate 17 (J I 0)).toArray 130;rw[World.size_alloc]at f;refine(EJ _).mono ?_;rintro c d ⟨rfl,x⟩;have N:Below b.heap.size b d:=a4.trans (x.mono (by simp;omega));replace e:=e.bl x;replace f:=f.bl x;have:=e.lt;have:=f.lt;go_wp2_with (refine fJ gR (Oz _ _ _) 0 lY rfl (by simp) yN (.tmp 3) (.tmp 4) rfl rfl rfl rfl ?_;intro D K a2 x)
 rw[fw (by rfl:lY.length=_)]at K;have y:Below d.heap.size d D:=(ev d _).trans (a2.below (by simp) (λb a c=>by omega));have z:Below b.heap.size b D:=eu N y;replace e:=e.bl y;replace f:=f.bl y;have ba:b.heap.size<=d.heap.size:=N.size;have an:=e.c1
 obtain⟨X,B,a1,u,x⟩:=yY (P:=Tryz.prog) (w:=D.drew) 40 3 43 T 1 Tryz.underlying40 R S d.heap.size 0 8 8 h a.locals.length i r
  (λc=>by obtain⟨g,q⟩:=a8 c;rw[g];exact⟨rfl,q⟩) (a.locals.map (J .i64)) (by simp) (λb c a m g=>Oq z.drew _ _ (bc b c a m g)) 130 _ K.drew (by simp[yM];omega) (oy _)
 have A:Below b.heap.size b X:=z.drew.trans (u.below z.size (λb a c=>by omega));have o:=e.drew.mods u (by omega);have aa:=f.drew.mods u (by omega);have ao:=o.c1;refine fk (λn=>n.cell? ⟨b.heap.size,1,U⟩=M (O h a.locals.length i)) an λhHeld=>?_;refine dZ 5 0 ?_;refine dZ 6 1 ?_;refine dZ 7 2 ?_;refine dZ 8 3 ?_;refine el 4 (λF j=>?_);refine wp_copy_run (.tmp 6) (.tmp 8) 40 rfl _ _ rfl rfl B ?_;go_simp;refine j.out _ _ ao λhHeld=>?_;refine eV ?_;have ar:=o.c2;have C:(OL lY 0 (a.locals.map (J .i64))).length=17:=by rw[tV (by simp[yM];omega)];rfl
 obtain⟨Y,B,t,v,e⟩:=yY (P:=Tryz.prog) (w:=X.drew) 40 3 43 T 1 Tryz.underlying40 R S d.heap.size 8 8 8 k a.stack.length l s
  (λc=>by obtain⟨g,q⟩:=bf c;rw[g];exact⟨rfl,q⟩) (a.stack.map (J .i64)) (by simp) (λb c a m g=>Oq A.drew _ _ (bh b c a m g)) 130 _ a1.drew (by rw[C];simp;omega) (oy _)
 have a5:Below b.heap.size b Y:=A.drew.trans (v.below A.size (λb a c=>by omega));have q:=o.drew.mods v (by omega);have ab:=aa.drew.mods v (by omega);have a0:=q.c2;have e:(OL (OL lY 0 (a.locals.map (J .i64))) 8 (a.stack.map (J .i64))).length=17:=by rw[tV (by rw[C];simp;omega),C]
 have G:∃m,Y.cell? ⟨d.heap.size,16,U⟩=M m:=⟨_,by rw[t.cell,ae (by rw[e];omega)]⟩;have H:=t.frozen 16;have ad:=Ou (aq G H);have E:=t.setCell 16 (J I (a.stack.length:Int));rw[ea ak]at E;have Q:=a5.setCell (p:=⟨d.heap.size,16,U⟩) ba (J I (a.stack.length:Int));have Z:=q.gP (p:=⟨d.heap.size,16,U⟩) (by dsimp only;omega) (J I (a.stack.length:Int));have ac:=ab.gP (p:=⟨d.heap.size,16,U⟩) (by dsimp only;omega) (J I (a.stack.length:Int));go_wp2;refine fk (λn=>n.cell? ⟨b.heap.size,2,U⟩=M (O k a.stack.length l)) ar λhHeld=>?_;refine dZ 10 0 ?_;refine dZ 11 1 ?_;refine dZ 12 2 ?_;refine dZ 13 3 ?_;refine el 4 (λF j=>?_);refine wp_copy_run (.tmp 11) (.tmp 13) 40 rfl _ _ rfl rfl B ?_;go_simp;refine j.out _ _ a0 λhHeld=>?_;refine dZ 15 5 ?_;obtain⟨⟨a,G⟩,H⟩:=ad;refine el 6 (λF j=>?_);go_simp;refine j.out _ _ (Z.cell 2) λhHeld=>?_;refine eV ?_;have g:=xh r s
 go_wp2_with (first
  | refine jv gR E 0 _ (kR g) (λa b c => by simpa using c) (.tmp 3) rfl rfl rfl ?_
  | (refine fJ gR ac 0 _ (kR g) (by simp) (oF g).one (.tmp 2) (.tmp 16) rfl rfl rfl rfl ?_; intro a L a3 a))
 rw[fw (by rw[kR g];rfl)]at L;refine bodyPost_ret (j9 rfl gR L (kR g) rfl) rfl ?_;exact⟨rfl,Q.trans (a3.below Q.size (λb a c=>by omega))⟩
theorem FP:jJ Tryz.prog 128 8:=⟨by kernel_rfl,by kernel_rfl⟩
theorem Oe{h rest c a d g}(x i)(l:c.guard=U)(n:c.op= .index 128 x i)(e:Oj)(b:Nat)(f)(hx:a.eval x= .agg e.toArray)(r:a.eval i=J I (b:Int))(m:b<8)(q:e[b]? =M f)(j:wpList Tryz.prog h g rest (a.put c.dst f) d):wpList Tryz.prog h g (c::rest) a d:=by
 refine wpList_plain l λa k=>?_
 have o:(Instr.index 128 (.agg e.toArray) (J I (b:Int))).run Tryz.prog d= .ok f d:=by
  have p:Tryz.prog.underlying 128=M (.array 8 43):=by kernel_rfl
  obtain⟨a,a,b,b,c⟩:=info_parts infoType;simp[Instr.index,asIntOf,run_underlying p,part,sizeOf,typeInfo,a,b,m,q]
 unfold Oper.wp execOp;simp only[n,hx,r,Sem.run_bind,Sem.run_pure,Result.andThen_ok,o];exact k _ _ j
theorem Fy{p}{b c:Ok}{a}(d:a<b.length)(e:a<c.length):((b.zip c).take (a+1)).all (λx=>eF p x.1 x.2)=(((b.zip c).take a).all (λx=>eF p x.1 x.2) && eF p b[a] c[a]):=by
 have d:a<(b.zip c).length:=by simp;omega
 rw[mH d,dw]
theorem Fx{p}{b c:Ok}{a}(e:a<b.length)(f:a<c.length)(d:eF p b[a] c[a]=F):(b.zip c).all (λx=>eF p x.1 x.2)=F:=by
 rw[cx];exact⟨(b[a],c[a]),by rw[<-dw (h:=by simp;omega)];exact av _,by simp[d]⟩
theorem Nd(p a0 b d f j c)(an:eQ c a0 p)(ao:ez p p.length)(ar:p.length<=4194304)(v:ir b f)(N:ir d j)(bn:∀x∈b.loc,fz p.length x)(bo:∀x∈b.stk,fz p.length x)(br:∀x∈d.loc,fz p.length x)(bs:∀x∈d.stk,fz p.length x):
  Calls Tryz.prog 141 #[.agg f.toArray,.agg #[a0],.agg j.toArray] c λn t=>n=zR (zB (gA p b d))/\Below c.heap.size c t:=by
 have ak:=Ou an;have bk:=v.ok.1;have a0:=N.ok.1;have a0:=v.ok.2;obtain⟨h,_,_,i,rfl,_⟩:=an;have A:Below c.heap.size c (((c.alloc (zC f.toArray 130)).alloc (zC #[O h p.length i] 24)).alloc (zC j.toArray 130)):=((ev c _).alloc (by simp) _).alloc (by simp;omega) _;have R:ed (((c.alloc (zC f.toArray 130)).alloc (zC #[O h p.length i] 24)).alloc (zC j.toArray 130)) c.heap.size 130 f:=((Oz c f.toArray _).alloc _).alloc _
 have a1:ed (((c.alloc (zC f.toArray 130)).alloc (zC #[O h p.length i] 24)).alloc (zC j.toArray 130)) (c.heap.size+1) 24 [O h p.length i]:=by
  have:=Oz (c.alloc (zC f.toArray 130)) #[O h p.length i] 24;rw[World.size_alloc]at this;exact this.alloc _
 have ab:ed (((c.alloc (zC f.toArray 130)).alloc (zC #[O h p.length i] 24)).alloc (zC j.toArray 130)) (c.heap.size+1+1) 130 j:=by
  have:=Oz ((c.alloc (zC f.toArray 130)).alloc (zC #[O h p.length i] 24)) j.toArray 130;rw[World.size_alloc,World.size_alloc]at this;exact this
 have ba:((((c.alloc (zC f.toArray 130)).alloc (zC #[O h p.length i] 24)).alloc (zC j.toArray 130))).cell? ⟨c.heap.size,16,U⟩=M (J I (b.stk.length:Int)):=by rw[R.cell];exact v.ht
 have bc:((((c.alloc (zC f.toArray 130)).alloc (zC #[O h p.length i] 24)).alloc (zC j.toArray 130))).cell? ⟨c.heap.size+1+1,16,U⟩=M (J I (d.stk.length:Int)):=by rw[ab.cell];exact N.ht
 by_cases B:b.stk.length=d.stk.length
 .have k:((b.stk.length:Int) != (d.stk.length:Int))=F:=by rw[B];simp
  have ac:Hid (gA p b d=((b.loc.zip d.loc).all (λx=>eF p x.1 x.2) && (b.stk.zip d.stk).all (λx=>eF p x.1 x.2))):=by
   show _=_
   unfold gA;rw[B];simp
  have a5:=Ou B;clear B;go_in
  go_wp2_with (refine jv FP R 0 (b.loc.map (J .i64)) (by simp[bk]) (λc d n=>by
    rw[aU]at n
    cases a:b.loc[c]? with
    | none => rw[a]at n; cases n
    | some x => rw[a]at n; cases n; rw[bJ]; exact v.loc c x a) (.tmp 16) rfl rfl rfl ?_)
  generalize ((c.alloc _).alloc _).alloc _=W at *
  go_loopw [18] (λc wr=>∃a:Nat,a<=8/\c=J I a/\((b.loc.zip d.loc).take a).all (λx=>eF p x.1 x.2)=K/\Below W.heap.size W wr) (λc _=>8-(intOf c).toNat)
  case atStart=>exact ⟨0,by omega,rfl,by simp,ay _ _⟩
  case round=>
   obtain⟨a,be,rfl,P,e⟩:=hrel;have D:=R.bl e;have E:=a1.bl e;have G:=ab.bl e;have f:=Ou (aq D (aq E G));have q:=Ou e;have u:=Ou P;have L:=Ou (eA (Oq (eu A e)) ak);clear P
   by_cases s:a<8
   .have f:a<b.loc.length:=(by omega);have o:a<d.loc.length:=(by omega);have hx:=bn _ (av f);have Z:=br _ (av o);have w:=E.c0;have z:wr.cell? ⟨c.heap.size+1+1,a,U⟩=M (J I d.loc[a]):=(by rw[G.cell];exact N.loc a _ (ae o));have T:=Ou (Fy (p:=p) f o);have S:=Ou (Fx (p:=p) f o);have H:(b.loc.map (J .i64))[a]? =M (J I b.loc[a]):=(by rw[aU,ae f];rfl);generalize b.loc[a]=x at *;generalize d.loc[a]=y at *;have Y:(a:Int)<8:=(by omega);have bf:=fp a;clear D E G e;go_wp2_with (refine Oe (.tmp 17) (.tmp 18) rfl rfl (b.loc.map (J .i64)) a (J I x) rfl rfl s H ?_)
    refine fk (λt=>t.cell? ⟨c.heap.size+1,0,U⟩=M (O h p.length i)/\t.cell? ⟨c.heap.size+1+1,a,U⟩=M (J I y)) (aq w z) λhHeld=>?_;refine dZ 22 0 ?_;refine dZ 23 1 ?_;refine dZ 24 2 ?_;refine dZ 25 3 ?_;refine dZ 26 4 ?_;refine dZ 27 5 ?_;refine el 6 (λa8 X=>?_);go_simp;refine(wA p _ x y _ (eA (Oq ((ay _ _).drew)) L) ao ar hx Z).mono ?_;rintro n aa ⟨rfl,g⟩;have r:Below wr.heap.size wr aa:=⟨g.os,g.tape,g.output,g.size,g.block⟩;have C:=Oq r;go_wp2_with fail;refine X.out _ _ (aq (C _ _ w) (C _ _ z)) λhHeld=>?_;refine dZ 29 7 ?_;refine eV ?_
    cases k:eF p x y with
    | false =>
     have m:Hid (gA p b d=F):=(by show _=_;rw[ea ac,ea S k];rfl);have l:=Ou (A.trans ((eu q r).mono A.size));clear k;go_wp2;go_ret;rw[ea m];exact⟨rfl,ea l⟩
    | true =>
     have m:Hid (((b.loc.zip d.loc).take (a+1)).all (λx=>eF p x.1 x.2)=K):=(by show _=_;rw[ea T,ea u,k];rfl);have l:=Ou (eu q r);clear k;go_wp2_with fail;exact⟨⟨a+1,by omega,by go_num,ea m,ea l⟩,by simp[intOf];omega⟩
   .obtain rfl:a=8:=by omega
    have H:Hid ((b.loc.zip d.loc).all (λx=>eF p x.1 x.2)=K):=by
     have:=ea u
     rwa[aH (by simp;omega)]at this
    have ad:Hid (gA p b d=(b.stk.zip d.stk).all (λx=>eF p x.1 x.2)):=(by show _=_;rw[ea ac,ea H,bO]);have bh:wr.cell? ⟨c.heap.size,16,U⟩=M (J I (b.stk.length:Int)):=(by rw[D.cell];exact v.ht);have f:=fp b.stk.length;have f:(b.stk.length:Int)<=8:=(by omega);have Y:¬((8:Nat):Int)<8:=(by omega);clear u s;have a6:=a5;clear k ba bc;go_wp2_with fail;generalize wr=V at *;have Q:=eu A e;clear q e H L bh
    go_loopw [36] (λc wr=>∃a:Nat,a<=b.stk.length/\c=J I a/\((b.stk.zip d.stk).take a).all (λx=>eF p x.1 x.2)=K/\Below V.heap.size V wr) (λc _=>b.stk.length-(intOf c).toNat)
    case atStart=>exact ⟨0,by omega,rfl,by simp,ay _ _⟩
    case round=>
     obtain⟨a,be,rfl,P,e⟩:=hrel;have a2:=D.bl e;have a3:=E.bl e;have a4:=G.bl e;have q:=Ou e;have u:=Ou P;have L:=Ou (eA (Oq (eu Q e)) ak)
     by_cases s:a<b.stk.length
     .have o:a<d.stk.length:=(by have:=ea a6;omega);have hx:=bo _ (av s);have Z:=bs _ (av o);have w:=a3.c0;have z:wr.cell? ⟨c.heap.size+1+1,8+a,U⟩=M (J I d.stk[a]):=(by rw[a4.cell];exact N.stk a _ (ae o));have e:wr.cell? ⟨c.heap.size,8+a,U⟩=M (J I b.stk[a]):=(by rw[a2.cell];exact v.stk a _ (ae s));have T:=Ou (Fy (p:=p) s o);have S:=Ou (Fx (p:=p) s o);generalize b.stk[a]=x at *;generalize d.stk[a]=y at *;have Y:(a:Int)<(b.stk.length:Int):=(by omega);have e:(a:Int)<8:=(by omega);have bf:=fp a;go_wp2;refine fk (λt=>t.cell? ⟨c.heap.size+1,0,U⟩=M (O h p.length i)/\t.cell? ⟨c.heap.size+1+1,8+a,U⟩=M (J I y)) (aq w z) λhHeld=>?_;refine dZ 41 0 ?_;refine dZ 42 1 ?_;refine dZ 43 2 ?_;refine dZ 44 3 ?_;refine dZ 45 4 ?_;refine dZ 46 5 ?_;refine el 6 (λa8 X=>?_);go_simp;refine(wA p _ x y _ (eA (Oq ((ay _ _).drew)) L) ao ar hx Z).mono ?_;rintro n aa ⟨rfl,g⟩;have r:Below wr.heap.size wr aa:=⟨g.os,g.tape,g.output,g.size,g.block⟩;have C:=Oq r;go_wp2_with fail;refine X.out _ _ (aq (C _ _ w) (C _ _ z)) λhHeld=>?_;refine dZ 48 7 ?_;refine eV ?_
      cases k:eF p x y with
      | false =>
       have m:Hid (gA p b d=F):=(by show _=_;rw[ea ad,ea S k]);have l:=Ou (Q.trans ((eu q r).mono Q.size));go_wp2;go_ret;rw[ea m];exact⟨rfl,ea l⟩
      | true =>
       have m:Hid (((b.stk.zip d.stk).take (a+1)).all (λx=>eF p x.1 x.2)=K):=(by show _=_;rw[ea T,ea u,k];rfl);have l:=Ou (eu q r);go_wp2_with fail;exact⟨⟨a+1,by omega,by go_num,ea m,ea l⟩,by simp[intOf];omega⟩
     .have H:Hid (gA p b d=K):=by
       have:=ea u;rw[aH (by simp;omega)]at this
       show _=_
       rw[ea ad,this]
      have Y:¬(a:Int)<(b.stk.length:Int):=(by omega);have l:=Ou (eu Q q);go_wp2;go_ret;rw[ea H];exact⟨rfl,ea l⟩
 .have k:((b.stk.length:Int) != (d.stk.length:Int))=K:=by simp;omega
  have m:Hid (gA p b d=F):=by
   show _=_
   unfold gA;have:(b.stk.length == d.stk.length)=F:=by simpa using B
   rw[this];rfl
  go_in
  go_wp2;go_ret;rw[ea m];exact⟨rfl,A⟩
def rF (p:On)(b:Int)(l:Ol):Int:=match l.find? (λ(c:Nat)=>eF p b ((c:Int)+3)) with
 | some c => (c : Int) + 3
 | none => 2
def gZ (p:On)(a b:Int):Int:=if eF p a b then b else if 3<=a then rF p b (OD p (a-3)) else 2
theorem Nx{p b}{a:Nat}{d}(c:eF p b ((a:Int)+3)=K):rF p b (a::d)=(a:Int)+3:=by
 unfold rF;rw[List.find?_cons_of_pos (p:=λ(a:Nat)=>eF p b ((a:Int)+3)) c]
theorem Fj{p a}{b:Nat}{c}(d:eF p a ((b:Int)+3)=F):rF p a (b::c)=rF p a c:=by
 unfold rF;rw[List.find?_cons_of_neg (p:=λ(b:Nat)=>eF p a ((b:Int)+3)) (by simp[d])]
end
def MX (s:ef)(i:Nat)(t:Int):ef:= { s with stk:=s.stk.set i t }
def qq (p:On)(s t:ef):Nat->ef
 | 0 => s
 | k + 1 => pK (qq p s t k) k (gZ p (s.loc.getD k 0) (t.loc.getD k 0))
def ss (p:On)(s t:ef):Nat->ef
 | 0 => qq p s t 8
 | k + 1 => MX (ss p s t k) k (gZ p (s.stk.getD k 0) (t.stk.getD k 0))
def jz (p:On)(s t:ef):ef:=ss p s t s.stk.length
theorem Dc(p b c):∀a,(qq p b c a).stk=b.stk
 | 0 => rfl
 | a + 1 => Dc p b c a
theorem zx(p b c):∀a,(qq p b c a).loc.length=b.loc.length
 | 0 => rfl
 | a + 1 => by
  show ((qq p b c a).loc.set a _).length=_
  rw[aO,zx p b c a]
theorem zy(p b c):∀a,(ss p b c a).stk.length=b.stk.length
 | 0 => by
  show (qq p b c 8).stk.length=_
  rw[Dc]
 | a + 1 => by
  show ((ss p b c a).stk.set a _).length=_
  rw[aO,zy p b c a]
section
attribute [local go_sem ↓] Go.wp_at_zero Go.wp_at_succ
attribute [local go_sem] eZ
theorem jk{f g}{d j:Tmp}{i o h c e b a}(k:g.results= #[.cell d i,.tmp j])(l:jJ f i h)(m:ed e c o b)(n:b.length=h)(hx:a.getD d undef=zP (M ⟨c,0,U⟩)):
  (results g a).run f e= .ok (.tuple #[.agg b.toArray,a.getD j undef]) e:=by
 have:=Am l m 0 b n (λb c a=>by simpa using a);have b:a[d]?.getD undef=zP (M ⟨c,0,U⟩):=by rw[<-hx];simp
 simp[results,k,b,asAddr,this]
def sR (p:On)(m:eh):Prop:=∀f∈m.frames,f.locals.length<=8/\f.stack.length<=8/\kT p.length m.stack (gW f)
def mB:List Value:=List.replicate 17 (J I 0)
theorem AN:∀b∈mB,b.oneCell'=K:=by
 intro b a;simp only[mB,cJ]at a
 rcases a with ⟨_,rfl⟩;rfl
def sq (m:eh)(pc:Int):Value:=match jP m pc with
 | some t => .tuple #[.agg (mM t).toArray,zB K]
 | none => .tuple #[.agg mB.toArray,zB F]
theorem IL {b:eh}{d:Int}{a:Nat}(h:a<b.frames.length)(g:∀c,(e:c<a)->b.frames[c].pc≠d)(f:b.frames[a].pc=d):jP b d=M (gW b.frames[a]):=by
 unfold jP;rw[List.find?_eq_some_iff_getElem.2 ⟨by simpa using f,a,h,rfl,λc e=>by simpa using g c e⟩];rfl
theorem IM{b d}(e:∀a,(c:a<b.frames.length)->b.frames[a].pc≠d):jP b d=U:=by
 unfold jP
 rw[List.find?_eq_none.2 (λb hx=>by
  obtain⟨a,c,rfl⟩:=bT hx
  simpa using e a c)];rfl
theorem CI{d e f}(b:jP d e=M f):∃a∈d.frames,f=gW a:=by
 unfold jP at b
 cases c:d.frames.find? λa=>a.pc == e with
 | none => rw[c]at b; cases b
 | some a => rw[c]at b; exact ⟨a, dB c, (aT b).symm⟩
theorem DR(p a P Q R d c)(a3:fK c.cell? a P Q R)(ak:sR p a)(be:a.frames.length<=40):
  Calls Tryz.prog 100 #[fB a P Q R,J I d] c λl a8=>l=zR (sq a d)/\Below c.heap.size c a8:=by
 unfold fB;obtain⟨a4,a5,a6⟩:=a3;obtain⟨k,_,_,s,rfl,_⟩:=a4;obtain⟨t,_,_,u,rfl,_⟩:=a5;obtain⟨v,P,P,w,rfl,P,ar,P⟩:=eN a6;have X:=Ou P;have ao:=gS c (zC #[J I a.slot,O k a.args.length s,J I a.ret,J I a.locals,J I a.stack,O t a.code.length u,O v a.frames.length w] 63) (zC mB.toArray 130)
 have S:ed ((c.alloc (zC #[J I a.slot,O k a.args.length s,J I a.ret,J I a.locals,J I a.stack,O t a.code.length u,O v a.frames.length w] 63)).alloc (zC mB.toArray 130)) (c.heap.size+1) 130 mB:=by
  have:=Oz (c.alloc (zC #[J I a.slot,O k a.args.length s,J I a.ret,J I a.locals,J I a.stack,O t a.code.length u,O v a.frames.length w] 63)) mB.toArray 130;rw[World.size_alloc]at this;exact this
 go_in
 go_wp2_with fail;generalize k:(c.alloc _).alloc _=W;have an:Below c.heap.size c W:=by rw[<-k];exact ao
 have T:ed W (c.heap.size+1) 130 mB:=by rw[<-k];exact S
 go_loopw [11] (λg wr=>∃b:Nat,b<=a.frames.length/\g=J I b/\(∀c,(e:c<a.frames.length)->c<b->a.frames[c].pc≠d)/\Below W.heap.size W wr) (λg _=>a.frames.length-(intOf g).toNat)
 case atStart=>exact ⟨0,by omega,rfl,λc _ g=>absurd g (by omega),ay _ _⟩
 case round=>
  obtain⟨b,D,rfl,s,k⟩:=hrel;have i:=eu an k;have y:=T.bl k;have q:=Ou s;have z:=Ou k
  by_cases m:b<a.frames.length
  .obtain rfl:=ar (eW m);obtain⟨k,k,ab,ac,ad,E,G⟩:=X b m;obtain⟨A,B,_⟩:=ak _ (av m);have k:=Oq i;have s:=k _ _ ab;have s:=k _ _ ac;have s:=k _ _ ad;have Y:=Ou (fu k E);have HS:=Ou (fu k G);obtain⟨H,L,rfl,_,_⟩:=mg E;obtain⟨M,N,rfl,_,_⟩:=mg G;have a0:(b:Int)<(a.frames.length:Int):=(by omega);have k:=fp b
   by_cases j:a.frames[b].pc=d
   .have r:Hid (sq a d= .tuple #[.agg (mM (gW a.frames[b])).toArray,zB K]):=by
     show _=_
     unfold sq;rw[IL m (λc e=>ea q c (by omega) e) j]
    have a1:(a.frames[b].pc == d)=K:=(by simpa using j);clear j;generalize a.frames[b]=f at *;have h:=ev wr (zC #[J I f.pc,O H f.locals.length L,O M f.stack.length N] 42);have Z:=Ou (fu (Oq h) Y);have aa:=Ou (fu (Oq h) HS);have U:=y.bl h;have o:=Ou h;clear h;go_wp2_with fail;refine(Ni f _ _ _ Z aa A B).mono ?_;rintro l ba ⟨rfl,h⟩;have V:=U.bl h;have n:=xh A B;have C:Below c.heap.size c ba:=i.trans ((eu o h).mono i.size);go_wp2_with (refine fJ gR V 0 _ (kR n) (by simp[mB]) (oF n).one (.tmp 4) (.tmp 20) rfl rfl rfl rfl ?_;intro bc g x a2)
    rw[fw (by rw[kR n];rfl)]at g;refine bodyPost_ret (jk rfl gR g (kR n) rfl) rfl ?_;rw[ea r];exact⟨rfl,C.trans (x.below C.size (λb D l=>by omega))⟩
   .have a1:(a.frames[b].pc == d)=F:=(by simpa using j)
    have h:Hid (∀c,(e:c<a.frames.length)->c<b+1->a.frames[c].pc≠d):=λc e a=>by
     rcases bt c b with g | g
     .exact q c e g
     .obtain rfl:c=b:=by omega
      exact j
    generalize a.frames[b]=f at *;have o:=Ou (z.trans ((ev wr (zC #[J I f.pc,O H f.locals.length L,O M f.stack.length N] 42)).mono z.size));go_wp2_with fail;exact⟨⟨b+1,by omega,by go_num,ea h,ea o⟩,by simp[intOf];omega⟩
  .have r:Hid (sq a d= .tuple #[.agg mB.toArray,zB F]):=by
    show _=_
    unfold sq;rw[IM (λc e=>ea q c e (by omega))]
   have a0:¬(b:Int)<(a.frames.length:Int):=(by omega);go_wp2_with (refine fJ gR y 0 mB rfl (by simp[mB]) AN (.tmp 4) (.tmp 22) rfl rfl rfl rfl ?_;intro bc g x a2)
   rw[fw (by rfl:mB.length=mB.length)]at g;refine bodyPost_ret (jk rfl gR g rfl rfl) rfl ?_;rw[ea r];exact⟨rfl,i.trans (x.below i.size (λb D l=>by omega))⟩
end
def OM:ef:=⟨List.replicate 8 0,[]⟩
structure eT where
 st:List ef
 re:List Bool
 ra:List Bool
def sv0:eT:=⟨List.replicate 40 OM,List.replicate 40 F,List.replicate 40 F⟩
def gH (s:eT)(i:Nat)(g:ef):eT:=⟨s.st.set i g,s.re.set i K,s.ra.set i K⟩
def mo (p:On)(i:Nat)(g:ef)(s:eT):Option eT:=
 if s.re.getD i F then
  if gA p g (s.st.getD i OM) then M s
  else if (s.st.getD i OM).stk.length=g.stk.length then M (gH s i (jz p (s.st.getD i OM) g)) else U
 else M (gH s i g)
def np (p:On)(n:ef):List (Int×Bool)->eT->Option eT
 | [], s => M s
 | y :: r, s => (mo p y.1.toNat n s).bind (np p n r)
def uK (p:On)(m:eh)(i:Nat)(s:eT):Option eT:=(iq p m i (s.st.getD i OM)).bind λn=>np p n (gU (ey m i) i) s
def oG (p:On)(m:eh)(i:Nat)(s:eT×Bool):Option (eT×Bool):=
 if s.1.ra.getD i F then (uK p m i { s.1 with ra:=s.1.ra.set i F }).map λs'=>(s',K) else M s
def nP (p:On)(m:eh)(s:eT):Nat->Option (eT×Bool)
 | 0 => M (s, F)
 | k + 1 => (nP p m s k).bind (oG p m k)
def mq (p:On)(m:eh):Nat->eT->Option (Option eT)
 | 0, _ => U
 | n + 1, s => match nP p m s m.code.length with
  | none => M U
  | some (s', true) => mq p m n s'
  | some (s', false) => M (M s')
section
attribute [local go_sem ↓] Go.wp_at_zero Go.wp_at_succ
attribute [local go_sem] eZ
theorem kS{k n i}(q:jJ k n i){f e m d}(l:ed f e m d)(b a)(t:a.length=i)(s:b+i<=d.length)(h:∀y∈a,y.oneCell'=true){j:Oper}{c K p}(x o)(u:j.op= .store n x o)(hx:c.eval x=zP (M ⟨e,b,U⟩))(v:c.eval o= .agg a.toArray)(r:∀g,ed g e m (OL d b a)->ee (λw=>w=e) f g->g.heap.size=f.heap.size->K (c.put j.dst undef) g):j.wp k c f K p:=by
 unfold Oper.wp execOp;simp only[u,hx,v,Instr.storeAt,Instr.sureAddr,Sem.run_bind,Sem.run_pure,Result.andThen_ok,Ew q l b a t s h];obtain⟨h,c,e⟩:=EX l (OL d b a);exact r _ h c e
end
theorem JA{p g c}(d:eU p g c=K)(f:gz c=K):0<=c.a/\c.a<(g.code.length:Int):=by
 unfold gz at f;have e:c.op=7\/c.op=8\/c.op=18:=by simpa[or_assoc]using f
 unfold eU at d;rw[af (by rcases e with b | b | b <;> rw[b] <;> decide),af (by rcases e with b | b | b <;> rw[b] <;> decide),am e]at d;have:=(Bool.and_eq_true_iff.1 d).1;unfold fR at this;simpa using this
theorem ro{p a b}(i:b<a.code.length)(m:∀q∈a.code,eU p a q=K){j r}(d:iq p a b j=M r):∀e∈gU (ey a b) b,0<=e.1/\e.1<(a.code.length:Int):=by
 have f:kX a b=F:=by
  unfold iq at d
  cases h:fe p a (ey a b) j with
  | none => rw[h]at d; cases d
  | some s =>
   rw[h]at d
   cases f:kX a b with
   | false => rfl
   | true => simp[f]at d
 intro e g
 have o:e.1≠(a.code.length:Int):=λk=>by
  have:kX a b=K:=by
   unfold kX;exact dI.2 ⟨e,g,by simpa using k⟩
  rw[f]at this;cases this
 have l:eU p a (ey a b)=K:=by
  unfold ey;rw[ae i];exact m _ (av i)
 unfold gU at g
 rcases aN.1 g with c | c
 .split at c
  .rename_i n;obtain rfl:=aC.1 c;exact JA l n
  .cases c
 .split at c
  .obtain rfl:=aC.1 c;dsimp only at o ⊢;omega
  .cases c
section
attribute [local go_sem ↓] Go.wp_at_zero Go.wp_at_succ
attribute [local go_sem] eZ
def un (b:Bool)(w w':World)(e:Ending):Prop:=(b=K->e=zR (.tuple #[]))/\(b=F->e= .panicked (lJ 5))/\Below w.heap.size w w'
theorem DH(p s g h c d b)(n:eQ b s p)(y:ez p p.length)(z:p.length<=4194304)(j:ir g c)(k:ir h d)(A B)(q:kT p.length A g)(r:kT p.length B h):
  Calls Tryz.prog 101 #[.agg #[s],.agg c.toArray,.agg d.toArray] b λa t=>un (gA p g h) b t a:=by
 have w:=Ou n;have C:=j.len;have D:=k.len;obtain⟨e,_,_,f,rfl,_⟩:=n;have l:Below b.heap.size b (((b.alloc (zC #[O e p.length f] 24)).alloc (zC c.toArray 130)).alloc (zC d.toArray 130)):=((ev b _).alloc (by simp) _).alloc (by simp;omega) _
 have u:ed (((b.alloc (zC #[O e p.length f] 24)).alloc (zC c.toArray 130)).alloc (zC d.toArray 130)) (b.heap.size+1) 130 c:=by
  have:=Oz (b.alloc (zC #[O e p.length f] 24)) c.toArray 130;rw[World.size_alloc]at this;exact this.alloc _
 have v:ed (((b.alloc (zC #[O e p.length f] 24)).alloc (zC c.toArray 130)).alloc (zC d.toArray 130)) (b.heap.size+1+1) 130 d:=by
  have:=Oz ((b.alloc (zC #[O e p.length f] 24)).alloc (zC c.toArray 130)) d.toArray 130;rw[World.size_alloc,World.size_alloc]at this;exact this
 have x:=Ou (eA (Oq l) w);go_in
 go_wp2_with (first
  | refine jv gR u 0 c C (λb c a => by simpa using a) (.tmp 4) rfl rfl rfl ?_
  | refine jv gR v 0 d D (λb c a => by simpa using a) (.tmp 5) rfl rfl rfl ?_)
 refine(Nd p _ g h c d _ x y z j k q.1 q.2.1 r.1 r.2.1).mono ?_;rintro a b ⟨rfl,b⟩;have m:=eu l b
 cases o:gA p g h with
 | true =>
  have i:=Ou o;go_wp2;go_end0;exact⟨λ_=>rfl,λa=>(by rw[ea i]at a;cases a),m⟩
 | false =>
  have i:=Ou o;go_wp2_with (go_at_call 140;refine(yT _ _).mono ?_;rintro a t ⟨rfl,rfl⟩)
  exact⟨rfl,λa=>(by rw[ea i]at a;cases a),λ_=>rfl,m⟩
theorem Kx(p Q a P R S f d e c)(M:eQ c Q p)(ak:ez p p.length)(a1:p.length<=4194304)(N:fK c.cell? a P R S)(C:sR p a)(ac:a.frames.length<=40)(D:ir d e)(B)(a3:kT p.length B d):
  Calls Tryz.prog 104 #[.agg #[Q],fB a P R S,J I f,.agg e.toArray] c λb T=>un (jp p a d f) c T b:=by
 have W:=Ou M;have X:=Ou N;have a2:=D.len;unfold fB;obtain⟨ao,ar,a0⟩:=N;obtain⟨l,_,_,m,rfl,_⟩:=ao;obtain⟨n,_,_,o,rfl,_⟩:=ar;obtain⟨q,_,_,r,rfl,_⟩:=a0;obtain⟨i,_,_,j,rfl,_⟩:=M;have E:Below c.heap.size c (((c.alloc (zC #[O i p.length j] 24)).alloc (zC #[J I a.slot,O l a.args.length m,J I a.ret,J I a.locals,J I a.stack,O n a.code.length o,O q a.frames.length r] 63)).alloc (zC e.toArray 130)):=((ev c _).alloc (by simp) _).alloc (by simp;omega) _;have t:ed (((c.alloc (zC #[O i p.length j] 24)).alloc (zC #[J I a.slot,O l a.args.length m,J I a.ret,J I a.locals,J I a.stack,O n a.code.length o,O q a.frames.length r] 63)).alloc (zC e.toArray 130)) c.heap.size 24 [O i p.length j]:=((Oz c _ _).alloc _).alloc _
 have u:ed (((c.alloc (zC #[O i p.length j] 24)).alloc (zC #[J I a.slot,O l a.args.length m,J I a.ret,J I a.locals,J I a.stack,O n a.code.length o,O q a.frames.length r] 63)).alloc (zC e.toArray 130)) (c.heap.size+1+1) 130 e:=by
  have:=Oz ((c.alloc (zC #[O i p.length j] 24)).alloc (zC #[J I a.slot,O l a.args.length m,J I a.ret,J I a.locals,J I a.stack,O n a.code.length o,O q a.frames.length r] 63)) e.toArray 130;rw[World.size_alloc,World.size_alloc]at this;exact this
 have Y:=Ou (Ot (Oq E) X);go_in
 go_wp2_with fail;refine(DR p a _ _ _ f _ Y C ac).mono ?_;rintro b U ⟨rfl,z⟩;replace t:=t.bl z;replace u:=u.bl z;have G:=eu E z;unfold sq
 cases A:jP a f with
 | none =>
  have k:Hid (jp p a d f=F):=by show _=_;unfold jp;rw[A]
  dsimp only
  go_wp2_with (first
   | (refine fJ gR (Oz _ _ _) 0 mB rfl (by simp) AN (.tmp 8) (.tmp 14) rfl rfl rfl rfl ?_; intro a4 x y an)
   | (go_at_call 140; refine(yT _ _).mono ?_; rintro b T ⟨rfl, rfl⟩))
  refine⟨rfl,λb=>(by rw[ea k]at b;cases b),λ_=>rfl,?_⟩;have g:=(ev U _).trans (y.below (by simp) (λB a b=>by omega));exact eu G g
 | some c =>
  have k:Hid (jp p a d f=gA p d c):=by show _=_;unfold jp;rw[A]
  obtain⟨w,ad,rfl⟩:=CI A;obtain⟨c,i,Z⟩:=C w ad;have h:=xh c i;dsimp only
  go_wp2_with (first
   | (refine fJ gR (Oz _ _ _) 0 _ (kR h) (by simp) (oF h).one (.tmp 8) (.tmp 14) rfl rfl rfl rfl ?_; intro a4 x y an; rw[fw (by rw[kR h]; rfl)]at x; have g := (ev U _).trans (y.below (by simp) (λB a b => by omega)); have V := u.bl g; have c := (t.bl g).c0)
   | refine jv gR V 0 e a2 (λa c b => by simpa using b) (.tmp 7) rfl rfl rfl ?_
   | refine jv gR x 0 _ (kR h) (λa c b => by simpa using b) (.tmp 8) rfl rfl rfl ?_)
  have H:=eu G g;have c:=Ou (eA (Oq H) W);refine(DH p _ d (gW w) e _ _ c ak a1 D (oF h) _ _ a3 Z).mono ?_;rintro b c ⟨aa,ab,c⟩;have L:=eu H c
  cases s:gA p d (gW w) with
  | true =>
   obtain rfl:=aa s;have v:Hid (jp p a d f=K):=(by show _=_;rw[ea k,s]);go_wp2;go_end0;exact⟨λ_=>rfl,λb=>(by rw[ea v]at b;cases b),L⟩
  | false =>
   obtain rfl:=ab s;have v:Hid (jp p a d f=F):=(by show _=_;rw[ea k,s]);go_wp2_with fail;exact⟨rfl,λb=>(by rw[ea v]at b;cases b),λ_=>rfl,L⟩
end
section
attribute [local go_sem ↓] Go.wp_at_zero Go.wp_at_succ
attribute [local go_sem] eZ
attribute [local go_sem] Oper.semAt_some
section
variable {P : Program} {f : FuncId} {Q : Exit -> Act -> World -> Prop} {a : Act} {w : World}
theorem vP{x b J}(d:∀a w,J a w->jI P f b Q a w)(c:jI P f x (Exit.then J Q) a w):jI P f (x.seq b) Q a w:=
 AL (Ob c λb _ _ h=>match b,h with
  | .normal, h => d _ _ h
  | .exit _, h => h
  | .goto _, h => h
  | .ret, h => h
  | .panic _, h => h
  | .outgrown, h => h)
theorem Oa{b c x d e J}(i:∀a w,J a w->jI P f e Q a w)(g:jI P f b (Exit.then (jI P f c (Exit.then (jI P f x (Exit.then (jI P f d (Exit.then J Q)) Q)) Q)) Q) a w):jI P f (b.seq (c.seq (x.seq (d.seq e)))) Q a w:=
 vP (λ_ _ h=>vP (λ_ _ h=>vP (λ_ _ h=>vP i h) h) h) g
end
def tK (D:Nat):Deferred:= { target:=.collected D,args:= #[] }
theorem zL{P g j e d}(i:d≠ .run)(c):∀(ds:Ol) (V:World),ds.Nodup->(∀b∈ds,V.heap[b]? =M (.deferred (M [])))->(∀b∈ds,c<=b)->
  (∀V',Below c V V'->LeavesIn Fence.wide 0 P g j e [] d V')->LeavesInM Fence.wide 0 P g j e (ds.map tK) d V
 | [], V, _, _, _, h => h V (ay _ _)
 | b :: ds, V, hn, hk, hB, h => ⟨i, .inl ⟨b, V.putObj b (.deferred U), rfl, run_takeDeferred (hk b (by simp)), zL i c ds _ (List.nodup_cons.1 hn).2
   (λc b=>(World.putObj_heap_other (λd=>(List.nodup_cons.1 hn).1 (by rw[<-d];exact b))).trans (hk c (by simp[b]))) (λc b=>hB c (by simp[b]))
   (λV' d=>h V' ((yL (ay c V) (hB b (by simp)) _).trans (d)))⟩⟩
structure jK (w V:World)(p:On)(m:eh)(bh ba:Nat)(vp:Value)(mc:Oj)(ds:Ol)(h:Option ef):Prop where
 bel:Below w.heap.size w V
 bp:ed V w.heap.size 24 [vp]
 bm:ed V (w.heap.size+1) 63 mc
 hd:∃cs,cs.length=17/\ed V bh 130 cs/\∀s,h=M s->ir s cs/\kT p.length m.stack s
 at_:ed V ba 4 [zB h.isSome]
 oS:∀D∈ds,V.heap[D]? =M (.deferred (M []))
 lo:∀D∈ds,w.heap.size<=D
 nd:ds.Nodup
theorem Jd{c V V'}{ds:Ol}(h:Below c V V')(e:V.heap.size<=c)(d:∀b∈ds,V.heap[b]? =M (.deferred (M []))):∀b∈ds,V'.heap[b]? =M (.deferred (M [])):=
 λb c=>(h.block b (by have:=(aY.1 (d b c)).1;omega)).trans (d b c)
theorem jK.below{w V V' p m bh ba vp mc ds h}(b:jK w V p m bh ba vp mc ds h)(c:Below V.heap.size V V'):jK w V' p m bh ba vp mc ds h:=by
 obtain⟨d,e,g,i⟩:=b.hd;exact⟨b.bel.trans (c.mono b.bel.size),b.bp.below c b.bp.lt,b.bm.below c b.bm.lt,⟨d,e,g.bl c,i⟩,b.at_.below c b.at_.lt,Jd c (ai _) b.oS,b.lo,b.nd⟩
def yx (b:Bool)(w w':World)(e:Ending):Prop:=un b w w' e
theorem Lr{P e j w V p m bh ba vp mc ds h d}(c:jK w V p m bh ba vp mc ds h)(g:d=K)(i:e.results= #[]):
  tL P e (λb k=>yx d w k b) .normal { tmps:=j,defers:=ds.map tK } V:=
 zL (by simp) w.heap.size ds V c.nd c.oS c.lo (λV' d=>⟨_,results_none i _ _ _,λ_=>rfl,λb=>(by rw[g]at b;cases b),c.bel.trans d⟩)
theorem Aa{P e l w V}{ds:Ol}{d}(g:Below w.heap.size w V)(k:ds.Nodup)(mk:∀c∈ds,V.heap[c]? =M (.deferred (M [])))(j:∀c∈ds,w.heap.size<=c)(i:d=F):
  tL P e (λb n=>yx d w n b) (.panic (lJ 5)) { tmps:=l,defers:=ds.map tK } V:=
 zL (by simp) w.heap.size ds V k mk j (λV' c=>⟨λb=>(by rw[i]at b;cases b),λ_=>rfl,g.trans c⟩)
theorem Lo{p c m k}(h:iP p c m k=U):∀b,k<=b->iP p c m b=U:=by
 intro b c
 induction b with
 | zero => obtain rfl : k = 0 := by omega
           exact h
 | succ b e =>
  rcases bt b k with d | d
  .obtain rfl:k=b+1:=by omega
   exact h
  .unfold iP;rw[e d];rfl
theorem z9{p c m b h}(g:b<m.code.length)(d:iP p c m b=M h)(e:stepS p m b h=U):iX p c m=F:=by
 unfold iX;rw[Lo (k:=b+1) (by unfold iP;rw[d];exact e) _ (by omega)];rfl
theorem Oc{d i P q n}(h:jJ P q n){w k B j}(s:ed w k B j)(g)(c:Oj)(z:c.length=n)(A:∀l r,c[l]? =M r->j[g+l]? =M r){o rest b a Q}(x)(y:b.guard=U)(e:b.op= .load q x)(hx:a.eval x=zP (M ⟨k,g,U⟩))(t:wpListIn d i P o Q rest (a.put b.dst (.agg c.toArray)) w):wpListIn d i P o Q (b::rest) a w:=by
 refine wpListIn_plain y λb u=>?_;unfold Oper.wpIn;refine⟨by simp[Oper.about,e],?_⟩;rw[Oper.semAt_plain d _ _ (by rw[e];intro b v;cases v),wI h s g c z A e hx];exact u _ _ t
theorem DA{V c d i e x}(g:V.heap[c]? =M (.deferred x))(b:ed V d i e):c≠d:=by
 rintro rfl;unfold ed at b;rw[g]at b
 cases b
section
variable {w V V' : World} {p : List eb} {m : eh} {bh ba : Nat} {vp : Value} {mc : List Value} {ds : List Nat} {h : Option ef}
theorem jK.put(b:jK w V p m bh ba vp mc ds h)(o:w.heap.size+1<bh)(n:bh<ba)(d:ee (λj=>j=bh) V V'){e}(i:ed V' bh 130 e)(k:e.length=17)(c)(l:∀g,c=M g->ir g e/\kT p.length m.stack g):
  jK w (V'.setCell ⟨ba,0,U⟩ (zB c.isSome)) p m bh ba vp mc ds c:=by
 obtain⟨g,_,j,_⟩:=b.hd;have g:=(b.at_.mods d (by omega)).setCell 0 (zB c.isSome)
 refine⟨(b.bel.trans (d.below b.bel.size (λd c b=>by omega))).setCell (p:=⟨ba,0,U⟩) (by dsimp only;omega) _,(b.bp.mods d (by omega)).gP (by dsimp only;omega) _,(b.bm.mods d (by omega)).gP (by dsimp only;omega) _,
  ⟨e,k,i.gP (by dsimp only;omega) _,l⟩,g,λe g=>?_,b.lo,b.nd⟩
 have c:=b.oS e g;have g:=(d.block e (aY.1 c).1 (DA c j)).trans c;have d:=DA c b.at_;exact(cZ _ _ _ _ d).trans g
theorem jK.Kw{g n}(b:jK w V p m bh ba vp mc ds h)(d:jK w g p m bh ba vp mc ds n)(c:ee (λe=>g.heap.size<=e) V V'):jK w V' p m bh ba vp mc ds h:=by
 obtain⟨i,j,k,l⟩:=b.hd;obtain⟨_,_,g,_⟩:=d.hd;have:=d.bp.lt;have:=d.bm.lt;have:=g.lt;have:=d.at_.lt
 exact⟨b.bel.trans (c.below b.bel.size (λe c b=>by omega)),b.bp.mods c (by omega),b.bm.mods c (by omega),⟨i,j,k.mods c (by omega),l⟩,b.at_.mods c (by omega),
  λe g=>(c.block e (aY.1 (b.oS e g)).1 (by have:=(aY.1 (d.oS e g)).1;omega)).trans (b.oS e g),b.lo,b.nd⟩
theorem jK.mark{i j}(b:jK w V p m bh ba vp mc ds h)(g:jK w i p m bh ba vp mc ds j){d}(k:V.heap[d]? =M (.deferred (M [])))(l:i.heap.size<=d):jK w V p m bh ba vp mc (d::ds) h:=by
 refine⟨b.bel,b.bp,b.bm,b.hd,b.at_,λe c=>?_,λe c=>?_,List.nodup_cons.2 ⟨λc=>?_,b.nd⟩⟩
 .rcases aE.1 c with rfl | h
  .exact k
  .exact b.oS e h
 .rcases aE.1 c with rfl | h
  .have:=g.bp.lt;omega
  .exact b.lo e h
 .have:=(aY.1 (g.oS d c)).1;omega
end
theorem FU(b c):(gU b c).any (λd=> !d.2)=gJ b:=by
 unfold gU
 cases gz b <;> cases gJ b <;> rfl
def ng (m:eh)(va vco vf:Value):List Value:= [J I m.slot,va,J I m.ret,J I m.locals,J I m.stack,vco,vf]
end
section
attribute [local go_sem ↓] Go.wp_at_zero Go.wp_at_succ
attribute [local go_sem] eZ
theorem yG(a c b):(⟨a,c,U⟩:Addr).add b=⟨a,c+b,U⟩:=by unfold Addr.add;split <;> simp_all
def kL (m:eh)(s:eT):Nat->List fT
 | 0 => []
 | k + 1 => kL m s k ++ (if s.re.getD k F then [⟨(k : Int), (s.st.getD k OM).loc.take m.locals.toNat, (s.st.getD k OM).stk⟩] else [])
theorem Jk:(Tryz.prog.info? 42).map (λa=>(a.zero,a.size,a.bytes))=M (M (.agg #[J I 0,O U 0 0,O U 0 0]),3,56):=by kernel_rfl
theorem ON{d i j}{b:Oper}{a K k}(e x c)(m:b.op= .call { callee:=.builtin .append,args:= #[e,x],argTypes:= #[c,c] })(g f)(o:a.eval e=g)(hx:a.eval x=f){h}(n:(Builtin.append_ #[c,c] b.type #[g,f]).run d i= .ok h j)(l:K (a.put b.dst h) j):b.wp d a i K k:=by
 unfold Oper.wp execOp;simp only[m,resolve,invoke,builtin,Sem.run_bind,Sem.run_pure,Result.andThen_ok,dx,bC,cy,o,hx,n];exact l
structure LVal where
 kind:Int
 num:Int
 obj:Option Nat
def eO:LVal:=⟨2,0,U⟩
def gt (n:Int):LVal:=⟨0,n,U⟩
def rm:LVal:=⟨1,0,U⟩
def ic (A:Ol):Option Nat->Value
 | none => zP U
 | some k => zP (M ⟨A.getD k 0, 0, U⟩)
def ff (A:Ol)(v:LVal):List Value:= [J I v.kind,J I v.num,ic A v.obj]
def fF (A:Ol)(l:List LVal):List Value:=l.flatMap (ff A)
def okV (A:Ol)(v:LVal):Prop:=∀k,v.obj=M k->k<A.length
theorem sf(a):∀b:List LVal,(fF a b).length=b.length*3
 | [] => rfl
 | v :: r => by
  show (ff a v++fF a r).length=_
  rw[aw,sf a r,bA]
  show 3+_=_
  omega
theorem oh(b):∀(e:List LVal) (c:Nat) (d:LVal),e[c]? =M d->∀a,a<3->(fF b e)[c*3+a]? =(ff b d)[a]?
 | [], c, d, h, a, hj => by simp at h
 | u :: r, 0, d, h, a, hj => by
  obtain rfl:u=d:=by simpa using h
  show (ff b u++fF b r)[0*3+a]? =_
  rw[cr,bJ,aL (show a<(ff b u).length from hj)]
 | u :: r, c + 1, d, h, a, hj => by
  show (ff b u++fF b r)[(c+1)*3+a]? =_
  have f:(ff b u).length=3:=rfl;rw[aP (by rw[f];omega),f,show (c+1)*3+a-3=c*3+a by omega];exact oh b r c d (by simpa using h) a hj
theorem se(a b c):fF a (b++c)=fF a b++fF a c:=by unfold fF;rw[cG]
theorem Cp(b):∀(c:List LVal) (a:Nat),(fF b c).take (a*3)=fF b (c.take a)
 | [], a => by simp[fF]
 | v :: r, 0 => by simp[fF]
 | v :: r, a + 1 => by
  show (ff b v++fF b r).take ((a+1)*3)=ff b v++fF b (r.take a)
  have d:(ff b v).length=3:=rfl;rw[dK,d,aH (by rw[d];omega),show (a+1)*3-3=a*3 by omega,Cp b r a]
theorem Cn(b):∀(c:List LVal) (a:Nat),(fF b c).drop (a*3)=fF b (c.drop a)
 | [], a => by simp[fF]
 | v :: r, 0 => by simp[fF]
 | v :: r, a + 1 => by
  show (ff b v++fF b r).drop ((a+1)*3)=fF b (r.drop a)
  have d:(ff b v).length=3:=rfl;rw[cY,d,ct (by rw[d];omega),bN,show (a+1)*3-3=a*3 by omega,Cn b r a]
theorem oN(c b):∀a∈ff c b,a.oneCell'=K:=λa a=>by
 simp only[ff,aE,aF,or_false]at a
 rcases a with rfl | rfl | rfl
 .rfl
 .rfl
 .cases b.obj <;> rfl
theorem Ie(b c):∀a∈fF b c,a.oneCell'=K:=λa c=>by
 obtain⟨e,_,d⟩:=List.mem_flatMap.1 c;exact oN b e a d
theorem DL(b d){c}(e:∀a,c=M a->a<b.length):ic (b++d) c=ic b c:=by
 cases c with
 | none => rfl
 | some a =>
  show Value.pointer (M ⟨(b++d).getD a 0,0,U⟩)=Value.pointer (M ⟨b.getD a 0,0,U⟩)
  rw[aj,aj,aL (e a rfl)]
theorem If(a c){b}(d:okV a b):ff (a++c) b=ff a b:=by
 unfold ff;rw[DL a c d]
theorem tv(a b):∀ {d:List LVal},(∀c∈d,okV a c)->fF (a++b) d=fF a d
 | [], _ => rfl
 | c :: r, h => by
  show ff (a++b) c++fF (a++b) r=ff a c++fF a r
  rw[If a b (h c (by simp)),tv a b (λb a=>h b (by simp[a]))]
theorem jf:jJ Tryz.prog 170 3:=⟨by kernel_rfl,by kernel_rfl⟩
theorem wS:(Tryz.prog.info? 170).map (λa=>(a.zero,a.size,a.bytes))=M (M (.agg #[J I 0,J I 0,zP U]),3,24):=by kernel_rfl
theorem uW{i:World}{f h a g b c j}(e:i.ownsRow f h a (O g b c) b j){m}(s:m<=b):i.ownsRow f h a (O g m c) m (j.take (m*a)):=by
 have t:m*a<=b*a:=bP a s
 rcases e.2 with ⟨d,a⟩ | ⟨l,a,k,d,n,o,a,p,q,r⟩
 .cases d
  obtain rfl:m=0:=by omega
  exact⟨by rw[aR,e.1];omega,.inl ⟨rfl,rfl⟩⟩
 .cases d
  refine⟨by rw[aR,e.1];omega,.inr ⟨l,c,k,rfl,n,o,by omega,p,q,?_⟩⟩;rw[<-r,dv,cN t]
theorem jH{g:World}{i j f e b h}(k:g.ownsRow i j f e b h)(o:0<b):∃a c,e=O (M ⟨a,0,U⟩) b c/\b<=c/\e.ownBlock=M a/\∀d,d<b*f->g.cell? ⟨a,d,U⟩=h[d]? :=by
 rcases k.2 with ⟨_,b⟩ | ⟨a,c,b,rfl,b,l,m,b,b,n⟩
 .omega
 .refine⟨a,c,rfl,m,rfl,λd a=>?_⟩;rw[<-n,bj,am a];unfold World.cell?;simp only[l];simp
def sY (vs:Oj)(w w':World)(e:Ending):Prop:=e=zR (.agg vs.toArray)/\Below w.heap.size w w'
theorem sv(b a):Calls Tryz.prog 110 #[J I b] a λc d=>sY [J I 0,J I b,zP U] a d c:=by
 go_in
 go_wp2;refine bodyPost_ret (j9 rfl jf (Oz a _ _) rfl rfl) rfl ?_;exact⟨rfl,ev _ _⟩
theorem Dv(a):Calls Tryz.prog 210 #[] a λb c=>sY [J I 2,J I 0,zP U] a c b:=by
 go_in
 go_wp2;refine bodyPost_ret (j9 rfl jf (Oz a _ _) rfl rfl) rfl ?_;exact⟨rfl,ev _ _⟩
theorem Dw(a):Calls Tryz.prog 211 #[] a λb c=>sY [J I 1,J I 0,zP U] a c b:=by
 go_in
 go_wp2;refine bodyPost_ret (j9 rfl jf (Oz a _ _) rfl rfl) rfl ?_;exact⟨rfl,ev _ _⟩
def si (t:Int):List Value:=if t=0 then [J I 0,J I 0,zP U] else [J I 1,J I 0,zP U]
theorem Dr(b d):Calls Tryz.prog 168 #[J I b] d λe n=>sY (si b) d n e:=by
 have c:=ev d (zC #[J I 0,J I 0,zP U] 170);have k:=Oz d #[J I 0,J I 0,zP U] 170
 by_cases g:b=0
 .have j:si b= [J I 0,J I 0,zP U]:=am g;rw[j];have m:(b == 0)=K:=by simpa using g
  go_in
  go_wp2_with fail;generalize d.alloc _=W at *;refine(sv 0 _).mono ?_;rintro e o ⟨rfl,a⟩;have h:=k.bl a;go_wp2_with (refine fJ jf h 0 _ rfl (by simp) (λb a=>by simp only[aE,aF,or_false]at a;rcases a with rfl | rfl | rfl <;> rfl) (.tmp 2) (.tmp 5) rfl rfl rfl rfl ?_;intro p f i l)
  rw[fw (by rfl)]at f;refine bodyPost_ret (j9 rfl jf f rfl rfl) rfl ?_;exact⟨rfl,c.trans ((a.mono c.size).trans (i.below (ap c.size a.size) (λb a e=>by omega)))⟩
 .have j:si b= [J I 1,J I 0,zP U]:=af g;rw[j];have m:(b == 0)=F:=by simpa using g
  go_in
  go_wp2_with fail;generalize d.alloc _=W at *;refine(Dw _).mono ?_;rintro e o ⟨rfl,a⟩;have h:=k.bl a;go_wp2_with (refine fJ jf h 0 _ rfl (by simp) (λb a=>by simp only[aE,aF,or_false]at a;rcases a with rfl | rfl | rfl <;> rfl) (.tmp 2) (.tmp 6) rfl rfl rfl rfl ?_;intro p f i l)
  rw[fw (by rfl)]at f;refine bodyPost_ret (j9 rfl jf f rfl rfl) rfl ?_;exact⟨rfl,c.trans ((a.mono c.size).trans (i.below (ap c.size a.size) (λb a e=>by omega)))⟩
theorem wV(e b a)(i:a.cell? ⟨e,0,U⟩=M (J I b))(k:0<=b)(l:b<=4194304):
  Calls Tryz.prog 166 #[zP (M ⟨e,0,U⟩)] a λc j=>sY [J I (b+3),J I 0,zP (M ⟨e,0,U⟩)] a j c:=by
 have d:=ev a (zC #[J I 0,J I 0,zP U] 170);have g:=Oz a #[J I 0,J I 0,zP U] 170;have:=Oq d _ _ i;go_in
 go_wp2_with fail;generalize a.alloc _=W at *;refine(og b (by omega) (by omega) _).mono ?_;rintro c a ⟨rfl,rfl⟩;go_wp2_with (refine fJ jf g 0 _ rfl (by simp) (λb a=>by simp only[aE,aF,or_false]at a;rcases a with rfl | rfl | rfl <;> rfl) (.tmp 2) (.tmp 9) rfl rfl rfl rfl ?_;intro a f h a)
 rw[fw (by rfl)]at f;refine bodyPost_ret (j9 rfl jf f rfl rfl) rfl ?_;exact⟨rfl,d.trans (h.below d.size (λb a c=>by omega))⟩
structure gL (w:World)(B:Nat)(A:Ol)(fb:Nat)(mc:Oj)(pc:Int)(vl:Value)(loc:List LVal)(vs:Value)(stk:List LVal):Prop where
 blk:ed w fb 239 (mc++ [J I pc,vl,vs])
 l7:mc.length=7
 base:B<=fb
 lo:w.ownsRow B 170 3 vl loc.length (fF A loc)
 st:w.ownsRow B 170 3 vs stk.length (fF A stk)
 ne:∀g,vl.ownBlock=M g->vs.ownBlock≠M g
theorem OO{e f b c l d k m g}(h:e.ownsRow f b l d k m){a}(i:ed e a c g)(j:b≠c):d.ownBlock≠M a:=λb=>by
 obtain⟨a,a⟩:=j8 h b;exact j (a.uniq i)
theorem gL.c7{b h g a j d e i f k}(c:gL b h g a j d e i f k):b.cell? ⟨a,7,U⟩=M (J I d)/\b.cell? ⟨a,8,U⟩=M e/\b.cell? ⟨a,9,U⟩=M f:=by
 have a:=c.l7;refine⟨?_,?_,?_⟩ <;> (rw[c.blk.cell,aP (by omega),a];rfl)
def vX (B:Nat)(A:Ol)(fb:Nat)(mc:Oj)(pc:Int)(vl:Value)(loc:List LVal)(vs:Value)(stk:List LVal)(v:LVal)(w w':World)(e:Ending):Prop:=
 ∃vs',e=zR (.tuple #[])/\gL w' B A fb mc pc vl loc vs' (stk++ [v])/\ee (λk=>k=fb\/vs.ownBlock=M k) w w'/\(vs'.ownBlock=vs.ownBlock\/∃k,w.heap.size<=k/\vs'.ownBlock=M k)
theorem mQ:170≠239:=by decide
theorem nf(t q e x y z Y a1 c a d)(m:gL d t q e x y z Y a1 c)(a3:t<=d.heap.size)(bs:c.length<=4194304):
  Calls Tryz.prog 213 #[zP (M ⟨e,0,U⟩),.agg (ff q a).toArray] d λb A=>vX t q e x y z Y a1 c a d A b:=by
 obtain⟨br,a8,bk,bn,bo⟩:=info_parts wS;obtain⟨n,o,rfl⟩:=fd m.st;have E:=m.blk;have X:=m.st;have V:=m.lo;have a0:=m.l7;have a1:=E.lt;have a2:=m.c7.2.2;have bf:=oN q a;unfold ff at *;generalize be:ic q a.obj=ob at *;have v:=ev d (zC #[J I a.kind,J I a.num,ob] 170);have F:=Oz d #[J I a.kind,J I a.num,ob] 170;have bc:=fX (S:=λh=>h=e\/(O n c.length o).ownBlock=M h) v;have aa:=Oq v _ _ a2;go_in
 go_wp2_with fail;generalize d.alloc _=W at *;have B:=F.c0;have C:=F.c1;have D:=F.c2;have ao:=(fX (S:=λ_=>False) v).drew;have bh:=eX X ao (λ_ _ a=>a);obtain⟨F,i,ak,R,s,ar⟩:=iN (P:=Tryz.prog) (W:=W.drew) 173 173 170 br _ 3 24 Tryz.underlying173 a8 bk bn bo rfl (by decide) t _ _ _ bh #[J I a.kind,J I a.num,ob] rfl bf W.heap.size rfl (by unfold maxLen;omega) (by omega) (ap a3 v.size);have a5:Below W.heap.size W (W.drew.alloc (zC #[J I a.kind,J I a.num,ob] 170)):=⟨rfl,rfl,rfl,by simp,λb a=>cO W.drew _ b a⟩;have F:=Oq a5;have a1:=F _ _ aa;have a2:(W.alloc (zC #[J I a.kind,J I a.num,ob] 170)).cell? ⟨e,9,U⟩=M (O n c.length o):=a1;have G:=F _ _ B;have H:=F _ _ C;have K:=F _ _ D;obtain⟨k,l,rfl⟩:=fd R;have a1:=E.mods ao (λa=>a);have F:¬(O n c.length o).ownBlock=M e:=OO X E mQ;have T:=a1.mods s F;have ao:i.cell? ⟨e,9,U⟩=M (O n c.length o):=s.cell (w:=W.drew) aa F;have aa:∀f,(O n c.length o).ownBlock=M f->f<d.heap.size:=λf j=>(X.lt f j).2;have F:¬(O n c.length o).ownBlock=M d.heap.size:=λb=>by have:=aa _ b;omega
 have L:i.cell? ⟨d.heap.size,0,U⟩=M (J I a.kind):=s.cell (w:=W.drew) B F;have N:i.cell? ⟨d.heap.size,1,U⟩=M (J I a.num):=s.cell (w:=W.drew) C F;have Q:i.cell? ⟨d.heap.size,2,U⟩=M ob:=s.cell (w:=W.drew) D F;have F:=T.frozen 9;have u:ee (λh=>h=e) i (i.setCell ⟨e,9,U⟩ (O k (c.length+1) l)):=(Ow (λh=>h=e) i).setCell (p:=⟨e,9,U⟩) (λ_=>rfl) _;have an:=T.setCell 9 (O k (c.length+1) l)
 have a4:(x++ [J I y,z,O n c.length o]).set 9 (O k (c.length+1) l)=x++ [J I y,z,O k (c.length+1) l]:=by
  rw[bS _ _ (by omega),a0];rfl
 rw[a4]at an;have F:¬d.heap.size=e:=by omega
 have ab:(i.setCell ⟨e,9,U⟩ (O k (c.length+1) l)).cell? ⟨d.heap.size,0,U⟩=M (J I a.kind):=u.cell L F;have ac:(i.setCell ⟨e,9,U⟩ (O k (c.length+1) l)).cell? ⟨d.heap.size,1,U⟩=M (J I a.num):=u.cell N F;have ad:(i.setCell ⟨e,9,U⟩ (O k (c.length+1) l)).cell? ⟨d.heap.size,2,U⟩=M ob:=u.cell Q F
 have Z:Hid (vX t q e x y z Y (O n c.length o) c a d (i.setCell ⟨e,9,U⟩ (O k (c.length+1) l)) (zR (.tuple #[]))):=by
  have t:ee (λh=>h=e\/(O n c.length o).ownBlock=M h) d i:=bc.drew.trans s (λ_ _ b=>.inr b);have i:d.heap.size<=W.heap.size:=v.size;have r:=t.trans u (λ_ _ b=>.inl b);have a6:∀f,(O k (c.length+1) l).ownBlock=M f->¬f=e:=λf j b=>OO R T mQ (b▸j);refine⟨_,rfl,⟨an,a0,m.base,eX V r (λf j b=>?_),?_,λf j b=>?_⟩,r,?_⟩
  .rcases b with b | b
   .exact OO V E mQ (b▸j)
   .exact m.ne f j b
  .have:=eX R u (λf j b=>a6 f j b);rw[se,aw];have g:fF q [a]= [J I a.kind,J I a.num,ob]:=(by rw[<-be];rfl);rw[g];exact this
  .rcases ar with g | ⟨h,ba,g⟩
   .rw [g]at b;exact m.ne f j b
   .rw [g]at b;cases b;have:=(V.lt f j).2;omega
  .rcases ar with g | ⟨h,ba,g⟩
   .exact .inl g
   .exact .inr ⟨h,by omega,g⟩
 refine fk (λA=>A.cell? ⟨d.heap.size,0,U⟩=M (J I a.kind)/\A.cell? ⟨d.heap.size,1,U⟩=M (J I a.num)/\A.cell? ⟨d.heap.size,2,U⟩=M ob) ⟨B,C,D⟩ λhHeld=>?_;refine dZ 4 0 ?_;refine dZ 5 1 ?_;refine dZ 6 2 ?_;refine dZ 7 3 ?_;refine dZ 9 5 ?_;refine iu 4 6 (λr g=>?_) λr g=>?_
 .go_simp;refine g.out _ _ ⟨B,C,D⟩ λhHeld=>?_;refine el 6 (λr g=>?_);go_simp;refine g.out _ _ ⟨G,H,K⟩ λhHeld=>?_;refine el 7 (λr g=>?_);refine ON (.tmp 8) (.tmp 10) 173 rfl _ _ rfl rfl ak ?_;go_simp;refine g.out _ _ ⟨L,N,Q⟩ λhHeld=>?_;refine dZ 12 8 ?_;refine dZ 13 9 ?_;refine el 10 (λr g=>?_);go_simp;refine g.out _ _ ⟨ab,ac,ad⟩ λhHeld=>?_;refine eV ?_;go_wp2;go_end0;exact Z
 .go_simp;refine g.out _ _ ⟨G,H,K⟩ λhHeld=>?_;refine el 4 (λr g=>?_);go_simp;refine g.out _ _ ⟨G,H,K⟩ λhHeld=>?_;refine el 7 (λr g=>?_);refine ON (.tmp 8) (.tmp 10) 173 rfl _ _ rfl rfl ak ?_;go_simp;refine g.out _ _ ⟨L,N,Q⟩ λhHeld=>?_;refine dZ 12 8 ?_;refine dZ 13 9 ?_;refine el 10 (λr g=>?_);go_simp;refine g.out _ _ ⟨ab,ac,ad⟩ λhHeld=>?_;refine eV ?_;go_wp2;go_end0;exact Z
section
variable {w : World} {B : Nat} {A : List Nat} {fb : Nat} {mc : List Value} {pc : Int} {vl : Value} {loc : List LVal} {vs : Value} {stk : List LVal}
theorem gL.cut{sa scap}(a:gL w B A fb mc pc vl loc (O sa stk.length scap) stk){n}(d:n<=stk.length):gL (w.setCell ⟨fb,9,U⟩ (O sa n scap)) B A fb mc pc vl loc (O sa n scap) (stk.take n)/\ee (λb=>b=fb) w (w.setCell ⟨fb,9,U⟩ (O sa n scap))/\(O sa n scap).ownBlock=(O sa stk.length scap).ownBlock:=by
 have e:ee (λb=>b=fb) w (w.setCell ⟨fb,9,U⟩ (O sa n scap)):=(Ow (λb=>b=fb) w).setCell (p:=⟨fb,9,U⟩) (λ_=>rfl) _;have h:=a.l7;have c:=a.blk.setCell 9 (O sa n scap)
 have i:(mc++ [J I pc,vl,O sa stk.length scap]).set 9 (O sa n scap)=mc++ [J I pc,vl,O sa n scap]:=by
  rw[bS _ _ (by omega),h];rfl
 rw[i]at c;have f:(O sa n scap).ownBlock=(O sa stk.length scap).ownBlock:=by cases sa <;> rfl
 have g:=uW a.st d;rw[Cp]at g;refine⟨⟨c,h,a.base,eX a.lo e (λd c b=>OO a.lo a.blk mQ (b▸c)),?_,λd c b=>a.ne d c (f▸b)⟩,e,f⟩;rw[aR,cN d];exact eX g e (λd c b=>OO a.st a.blk mQ (by rw[<-f,c,b]))
end
def yE (B:Nat)(A:Ol)(fb:Nat)(mc:Oj)(pc:Int)(vl:Value)(loc:List LVal)(vs:Value)(stk:List LVal)(n:Nat)(w w':World)(e:Ending):Prop:=
 ∃ta tcap vs',e=zR (O ta n tcap)/\n<=tcap/\(ta=U->n=0/\tcap=0)/\(0<n->∃g,ta=M ⟨g,(stk.length-n)*3,U⟩/\vs.ownBlock=M g)/\(∀ad,ta=M ad->∀j u,(fF A (stk.drop (stk.length-n)))[j]? =M u->w'.cell? (ad.add j)=M u)/\
  gL w' B A fb mc pc vl loc vs' (stk.take (stk.length-n))/\vs'.ownBlock=vs.ownBlock/\ee (λk=>k=fb) w w'
theorem Dy(B A fb mc pc vl loc vs stk a w)(e:gL w B A fb mc pc vl loc vs stk)(z:a<=stk.length)(y:stk.length<=4194304):
  Calls Tryz.prog 171 #[zP (M ⟨fb,0,U⟩),J I (a:Int)] w λb x=>yE B A fb mc pc vl loc vs stk a w x b:=by
 have g:=Ou e;have:=e.c7.2.2;have:=e.blk.frozen 9;have:(0:Int)<=(stk.length:Int)-(a:Int):=by omega
 have:(stk.length:Int)-(a:Int)<=(stk.length:Int):=by omega
 rcases e.st.2 with ⟨rfl,q⟩ | ⟨c,d,x,rfl,x,r,x,x,x,v⟩
 .clear e;obtain rfl:a=0:=by omega
  obtain rfl:stk= []:=aV q;go_in
  go_wp2;go_ret;obtain⟨h,f,i⟩:=gL.cut (stk:= []) (sa:=U) (scap:=0) g (n:=0) (ai _);exact⟨U,0,O U 0 0,rfl,ai _,λ_=>⟨rfl,rfl⟩,λb=>absurd b (df _),λa b=>(by cases b),h,i,f⟩
 .clear e;have:(stk.length:Int)<=(d:Int):=by omega
  have:(stk.length:Int)-(a:Int)=((stk.length-a:Nat):Int):=by omega
  have u:stk.length-(stk.length-a)=a:=by omega
  obtain⟨h,f,i⟩:=g.cut (n:=stk.length-a) (by omega)
  have s:∀d e,(fF A (stk.drop (stk.length-a)))[d]? =M e->w.cell? ⟨c,(stk.length-a)*3+d,U⟩=M e:=λd e c=>by
   have j:d<(fF A (stk.drop (stk.length-a))).length:=(ag.1 c).1;rw[sf,cv,u]at j;rw[<-Cn,cS,<-v,bj]at c
   split at c
   .unfold World.cell?;simp only[r];simpa using c
   .cases c
  have t:¬c=fb:=λb=>OO g.st g.blk mQ (show _=M fb from b▸rfl)
  have l:∀g,a<=g->Hid (yE B A fb mc pc vl loc (O (M ⟨c,0,U⟩) stk.length d) stk a w (w.setCell ⟨fb,9,U⟩ (O (M ⟨c,0,U⟩) (stk.length-a) d)) (zR (O (M ⟨c,(stk.length-a)*3,U⟩) a g))):=λg j=>
   ⟨_,g,_,rfl,j,λb=>(by cases b),λ_=>⟨c,rfl,rfl⟩,λa b d e c=>by
    obtain rfl:=aT b;rw[yG];exact f.cell (s d e c) t,h,i,f⟩
  have m:a=0->Hid (yE B A fb mc pc vl loc (O (M ⟨c,0,U⟩) stk.length d) stk a w (w.setCell ⟨fb,9,U⟩ (O (M ⟨c,0,U⟩) (stk.length-a) d)) (zR (O (M ⟨c,0,U⟩) a 0))):=λg=>
   ⟨_,0,_,rfl,by omega,λb=>(by cases b),λe=>(by omega),λa b d e c=>by
    subst g;rw[Nat.sub_zero,List.drop_length]at c;simp[fF]at c,h,i,f⟩
  have o:=Ou l;have p:=Ou m;have k:=Ou (show a<=d-(stk.length-a) by omega);go_in
  go_wp2_with fail
  .go_ret;have b:d=stk.length-a:=(by omega);have j:=ea (p (by omega));rw[b]at j;exact j
  .go_ret;exact ea (o _ k)
theorem pu:jJ Tryz.prog 63 7:=⟨by kernel_rfl,by kernel_rfl⟩
def gh (p:On)(c k:Int):Option eh:=if 0<=c/\0<=k then (p[c.toNat]?).bind λx=>x.ek[k.toNat]? else U
theorem zV{p}{a b:Nat}(c:a<p.length)(d:b<p[a].ek.length):gh p a b=M p[a].ek[b]:=by
 unfold gh;rw[am ⟨by omega,by omega⟩,aK,aK,ae c,au,ae d]
end
end Go.Proofs.YtiiokkllmchohaaGreat
