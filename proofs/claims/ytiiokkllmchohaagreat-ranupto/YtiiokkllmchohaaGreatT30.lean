/- What holds in a run of a program that Form takes (pure). -/
import Derived.Test.YtiiokkllmchohaaGreatT25
import Derived.Test.YtiiokkllmchohaaGreatT26
set_option maxHeartbeats 0
set_option maxRecDepth 99999
namespace Go.Proofs.YtiiokkllmchohaaGreat
open Go.Value renaming int->J,slice->O,pointer->zP,bool->zB
open Go.IntKind renaming i64->I
open Option renaming none->U,some->M
open Bool renaming true->K,false->F
open Go.Ending renaming returned->zR
open Go.Obj renaming cells->zC
open Go.RowKit Go.Shelf
def fv (objs:List fL)(v:LVal):Prop:=match v.obj with
 | none => v.kind = 0 \/ v.kind = 1 \/ v.kind = 2
 | some k => ∃ o, objs[k]? = M o /\ v.kind = o.cls + 3
def Grow (objs objs':List fL):Prop:=∀(k:Nat) (o:fL),objs[k]? =M o->∃o',objs'[k]? =M o'/\o'.cls=o.cls
theorem Grow.refl(a):Grow a a:=λ_ b a=>⟨b,a,rfl⟩
theorem fv.grow{b c d}(e:Grow b c)(a:fv b d):fv c d:=by
 unfold fv at a ⊢
 split at a
 .exact a
 .rename_i k n;obtain⟨l,g,h⟩:=a;obtain⟨m,i,j⟩:=e k l g;exact⟨m,i,by rw[j];exact h⟩
theorem fv.sC(b a):fv b (gt a):=.inl rfl
theorem fv.null(a):fv a rm:=.inr (.inl rfl)
theorem fv.tP(a):fv a eO:=.inr (.inr rfl)
theorem fv.first(a b):fv a (fV b):=by
 unfold fV
 split
 .exact .sC _ _
 .exact .null _
structure jX (p:On)(objs:List fL):Prop where
 cls:∀o∈objs,0<=o.cls/\o.cls<(p.length:Int)
 fl:∀o∈objs,o.fO.length=(OE p o.cls).length
 val:∀o∈objs,∀v∈o.fO,fv objs v
structure rI (p:On)(objs:List fL)(f:eD):Prop where
 own:∃c k,gh p c k=M f.m
 pc:f.pc<=f.m.code.length
 loc:f.m.locals=(f.loc.length:Int)
 vl:∀v∈f.loc,fv objs v
 vs:∀v∈f.stk,fv objs v
theorem rI.grow{p b c f}(d:Grow b c)(a:rI p b f):rI p c f:=
 ⟨a.own,a.pc,a.loc,λc b=>(a.vl c b).grow d,λc b=>(a.vs c b).grow d⟩
structure Inv (p:On)(fuel:Int)(st:eJ):Prop where
 ob:jX p st.objs
 fr:∀f∈st.frames,rI p st.objs f
 top:∀f,st.frames.getLast? =M f->(f.stk.length:Int)<=f.m.stack
 rest:∀g∈st.frames.dropLast,(g.stk.length:Int)+1<=g.m.stack
 len:st.frames.length<=30
 ol:st.objs.length<=100
 out:st.out.length<=st.steps
 jt:(st.steps:Int)<=fuel
theorem fv.ty{p b c}(a:fv b c)(d:jX p b):fz p.length c.kind:=by
 unfold fv at a
 split at a
 .exact⟨by omega,by omega⟩
 .obtain⟨c,b,e⟩:=a;have:=d.cls c (aB b);exact⟨by omega,by omega⟩
theorem fv.some {d:List fL}{a:LVal}{b:Nat}(g:fv d a)(e:a.obj=M b):∃c,d[b]? =M c/\a.kind=c.cls+3:=by grind [fv]
theorem mi{st a b}(c:st.objs[a]? =M b):gu st a=b:=by grind [gu]
theorem s9{p a b}(c:eF p (a+3) (b+3)=K)(h:ez p p.length)(d:0<=a)(e:a<(p.length:Int))(g:0<=b):fD p a b=K:=by grind [eF,za]
theorem tW{p c j d a b e}(g:ie p c j d a b e=K):
  (gN p c.ret a b e).length<=d.length/\(∀h i,(gN p c.ret a b e)[h]? =M i->eF p (d.getD (d.length-(gN p c.ret a b e).length+h) eO).kind i=K)/\(a=1->(j.getD b.toNat eO).kind≠2)/\(kg a=K->(d.length:Int)<c.stack):=by
 unfold ie mR at g;simp only[aD,decide_eq_true_eq,aJ,bw,dD,bB,cQ,beq_eq_false_iff_ne,ne_eq]at g;obtain⟨⟨⟨a,b⟩,b⟩,b⟩:=g;refine⟨a,λh i a=>?_,λa=>?_,λa=>?_⟩
 .grind
 .omega
 .grind
theorem Ff{a}(b:1<=a.length):a.getD (a.length-1) eO=em a:=by
 obtain⟨b,b,rfl⟩:=pM (l:=a) (by omega);rw[nT];simp
theorem Ns {a:List LVal}(c:2<=a.length):a.getD (a.length-2) eO=em a.dropLast:=by
 obtain⟨b,d,rfl⟩:=pM (l:=a) (by omega);obtain⟨a,a,rfl⟩:=pM (l:=b) (by simp at c;omega);rw[aQ,nT];simp
theorem qC{l}(a:1<=l.length):em l∈l:=by
 obtain⟨a,a,rfl⟩:=pM (l:=l) (by omega);rw[nT];simp
theorem NI{p h c e g d}(b:(gN p h c e g).length<=d.length):pp c d:=by
 refine⟨λa=>?_,λa=>?_⟩
 .rcases a with rfl | rfl | rfl | rfl | rfl | rfl | rfl | rfl | rfl <;> exact b
 .rcases a with rfl | rfl | rfl | rfl | rfl | rfl <;> exact b
section
variable {p : List eb} {fuel : Int} {st : eJ} {f : eD}
theorem Inv.xQ (w:fi p=0)(ab:eM p<=4194304)(a1:fuel<=5000)(d:Inv p fuel st):Bd p fuel st:=by
 have G:=iA w;have Q:=oj w ab;have F:∀f,st.frames.getLast? =M f->f∈st.frames:=λf P=>cU P
 have J:∀f,st.frames.getLast? =M f->∃u,vU p u f.m/\0<=u/\u<(p.length:Int):=λf P=>by
  obtain⟨u,x,s⟩:=(d.fr f (F f P)).own;obtain⟨g,z,v⟩:=kZ w s;exact⟨u,v,g,z⟩
 have U:∀f,st.frames.getLast? =M f->gg p fuel st.steps f=0->eU p f.m (ey f.m f.pc)=K/\ie p f.m f.loc f.stk (ey f.m f.pc).op (ey f.m f.pc).a (ey f.m f.pc).b=K:=λf j t=>by
  obtain⟨u,i,_⟩:=J f j;unfold gg at t
  split at t
  .cases t
  rename_i a2
  split at t
  .cases t
  split at t
  .rename_i D;refine⟨i.ins _ ?_,D⟩;have a3:=(d.fr f (F f j)).pc;unfold ey;rw[ae (by omega)];exact av _
  .cases t
 refine⟨λf j=>?_,λf j t=>?_,λf j t T=>?_,d.len,λO A=>?_,d.jt⟩
 .obtain⟨u,i,_⟩:=J f j;have n:=d.fr f (F f j);have c:=d.top f j;have:=i.ok.stk;have:=i.ok.loc;have:=n.loc;refine⟨i.ins,i.c40,n.pc,λq B ao c=>?_,λq B=>?_,λar aa=>(n.vs ar aa).ty d.ob,by omega,by omega,n.loc⟩
  .have h:=kM (p:=p) (m:=f.m) (op:=q.op) (a:=q.a) (b:=q.b) (i.ins q B);have a4:0<p.length:=(by have:=(kY w).1;omega);unfold gN at c
   split at c
   .simp only [aE,aF,or_false]at c;exact⟨by omega,by omega⟩
   split at c
   .simp only [aE,aF,or_false]at c;exact⟨by omega,by omega⟩
   split at c
   .simp only [aE,aF,or_false]at c;exact⟨by omega,by omega⟩
   split at c
   .simp only [aE,aF,or_false]at c;exact⟨by omega,by omega⟩
   split at c
   .simp only [aE,aF,or_false]at c;exact⟨by omega,by omega⟩
   split at c
   .rename_i e;have:=h.cls (by omega);simp only[aE,aF,or_false]at c;exact⟨by omega,by omega⟩
   split at c
   .rename_i e;have:=h.cls (by omega);have H:=h.im (by omega);simp only[aE,aF,or_false]at c
    rcases c with rfl | rfl
    .exact⟨by omega,by omega⟩
    .obtain⟨ac,Z⟩:=ax H.1;have:=Q.im q.a ac this.1 this.2 (by omega);rw[Z];exact this
   split at c
   .rename_i e;have k:=h.cls (by omega)
    rcases aE.1 c with rfl | c
    .exact⟨by omega,by omega⟩
    .exact (Q.arg q.a q.b k.1 k.2 (h.call e)).1 ao c
   split at c
   .simp only [aE,aF,or_false]at c;subst c;exact i.ok.ret
   .cases c
  .have h:=kM (p:=p) (m:=f.m) (op:=q.op) (a:=q.a) (b:=q.b) (i.ins q B);unfold gN
   repeat' split
   all_goals try simp
   rename_i e;have:=(jw.1 (nL w (h.call e))).2.2.1;omega
 .obtain⟨u,i,_⟩:=J f j;have n:=d.fr f (F f j);have c:=d.top f j;have:=i.ok.stk;have:=i.ok.loc;have:=n.loc;obtain⟨B,D⟩:=U f j t;generalize ey f.m f.pc=ins at *;obtain⟨ad,o,y⟩:=ins;have h:=kM B;dsimp only at D h ⊢;obtain⟨L,N,ak,an⟩:=tW D;have I:=NI L
  have X:∀x,(gu st x).fO.length<=4194304:=λx=>by
   unfold gu
   cases e:st.objs[x]? with
   | none => simp
   | some r =>
    have s:=d.ob.fl r (aB e);have g:=d.ob.cls r (aB e);have:=zk w g.1 g.2;simp only[dM];omega
  refine⟨I,n.loc,by omega,by omega,λe x C=>?_,λe x C=>?_,λe x C=>?_,X,d.ol,?_⟩
  .subst e;have s:=I.s1 (by omega);obtain⟨r,g,z⟩:=(n.vs _ (qC s)).some C;have v:=N 0 (o+3) rfl;rw[show (gN p f.m.ret 10 o y).length=1 from rfl,bK,Ff s,z]at v;have k:=d.ob.cls r (aB g);have E:=s9 v G k.1 k.2 (h.cls (by omega)).1;rw[mi g,d.ob.fl r (aB g)];have:=(uD G E).length_le;have:=h.im (by omega);omega
  .subst e;have s:=I.s2 (by omega);obtain⟨r,g,z⟩:=(n.vs _ (cj _ (qC (l:=f.stk.dropLast) (by rw[aI];omega)))).some C;have v:=N 0 (o+3) rfl;rw[show (gN p f.m.ret 11 o y).length=2 from rfl,bK,Ns s,z]at v;have k:=d.ob.cls r (aB g);have E:=s9 v G k.1 k.2 (h.cls (by omega)).1;rw[mi g,d.ob.fl r (aB g)];have:=(uD G E).length_le;have:=h.im (by omega);omega
  .subst e;have s:=I.s1 (by omega);obtain⟨r,g,z⟩:=(n.vs _ (qC s)).some C;rw[mi g];exact d.ob.cls r (aB g)
  .have:=d.out;have:=d.jt;omega
 .obtain⟨u,i,_⟩:=J f j;have n:=d.fr f (F f j);obtain⟨B,D⟩:=U f j t;generalize ey f.m f.pc=ins at *;obtain⟨ad,o,y⟩:=ins;dsimp only at T;subst T;have h:=kM B;obtain⟨L,N,ak,an⟩:=tW D;have V:gN p f.m.ret 12 o y=(o+3)::(ew p o y).args:=rfl;rw[V,bA]at L;refine⟨L,λx C=>?_⟩;have S:1<=(f.stk.take (f.stk.length-(ew p o y).args.length)).length:=by rw[aR];omega
  obtain⟨r,g,z⟩:=(n.vs _ (dL _ _ (qC S))).some C;have v:=N 0 (o+3) rfl
  have W:f.stk.getD (f.stk.length-(gN p f.m.ret 12 o y).length+0) eO=em (f.stk.take (f.stk.length-(ew p o y).args.length)):=by
   rw[V,bA,<-Ff S,aR,aj,aj,dC (by omega)]
   congr 2
   omega
  rw[W,z]at v;have k:=d.ob.cls r (aB g);have E:=s9 v G k.1 k.2 (h.cls (by omega)).1;obtain⟨R,Y,_⟩:=y8 w E (h.call rfl);have H:=jw.1 (nL w R);dsimp only;rw[mi g,<-Y];exact⟨k.1,k.2,R,H.2.2.2.2.2.1,H.2.2.2.2.2.2.1⟩
 .rcases bX st.frames with e | ⟨a0,f,e⟩
  .grind
  .rw [cR]at e;obtain⟨u,x,s⟩:=(d.fr O A).own;obtain⟨_,_,i⟩:=kZ w s;have:=i.ok.stk;rw[e,aN]at A
   rcases A with A | A
   .have:=d.rest O (by rw[e,aQ];exact A);omega
   .obtain rfl:=aC.1 A;have:=d.top O (by rw[e,bu]);omega
end
abbrev OR:=@Grow.refl
end Go.Proofs.YtiiokkllmchohaaGreat
