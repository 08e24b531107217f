/- What holds is kept by every step; a run ends (pure). -/
import Derived.Test.YtiiokkllmchohaaGreatT29
import Derived.Test.YtiiokkllmchohaaGreatT30
set_option maxHeartbeats 0
set_option maxRecDepth 99999
namespace Go.Proofs.YtiiokkllmchohaaGreat
open Go.Value renaming int->J,slice->O,pointer->zP,bool->zB
open Go.IntKind renaming i64->I
open Option renaming none->U,some->M
open Bool renaming true->K,false->F
open Go.Ending renaming returned->zR
open Go.Obj renaming cells->zC
open Go.RowKit Go.Shelf
theorem rA{α :Type}(fs)(f a: α):(fs++ [f]).set fs.length a=fs++ [a]:=by grind
theorem uJ{α :Type}{a}{f: α}(b:a.getLast? =M f):∃fs,a=fs++ [f]/\a.length-1=fs.length/\a.dropLast=fs:=by
 rcases bX a with rfl | ⟨fs,a,rfl⟩
 .cases b
 .grind
section
variable {p : List eb} {fuel : Int} {st : eJ} {f : eD} {fs : List eD}
theorem Inv.put(b:Inv p fuel st)(e:st.frames=fs++ [f])(r:(st.steps:Int)≠fuel){c a o i}(g:Grow st.objs a)(l:jX p a)(j:a.length<=100)(q:rI p a c)(s:(c.stk.length:Int)<=c.m.stack)(n:i.length<=st.steps+1):
  Inv p fuel ⟨fs++ [c],a,o,i,st.steps+1⟩:=by
 have:=b.jt;have k:=b.len;rw[e,aw]at k;refine⟨l,λd hx=>?_,λd hx=>?_,λd hx=>?_,?_,j,n,?_⟩
 .rcases aN.1 hx with h | h
  .exact (b.fr d (by rw[e];simp[h])).grow g
  .grind
 .grind
 .dsimp only at hx;rw[aQ]at hx;exact b.rest d (by rw[e,aQ];exact hx)
 .grind
 .grind
theorem DF{objs i d op a}(g:∀c∈i,fv objs c)(k:∀c∈d,fv objs c):(∀c∈(gG op a i d).1,fv objs c)/\(∀c∈(gG op a i d).2,fv objs c)/\(gG op a i d).1.length=i.length:=by
 have m:∀c∈d.dropLast,fv objs c:=λc b=>k c (cj _ b);have l:∀c∈d.dropLast.dropLast,fv objs c:=λc b=>m c (cj _ b)
 have:fv objs (em d):=by
  unfold em
  cases j:d.getLast? with
  | none => exact .tP _
  | some e => exact k e (cU j)
 have:fv objs (em d.dropLast):=by
  unfold em
  cases j:d.dropLast.getLast? with
  | none => exact .tP _
  | some e => exact m e (cU j)
 have h:∀(d:List LVal) (e:LVal),(∀c∈d,fv objs c)->fv objs e->∀c∈d++ [e],fv objs c:=λd e e g c b=>by grind
 unfold gG
 by_cases b:op=0
 .rw [am b];exact⟨g,h _ _ k (.sC _ _),rfl⟩
 rw[af b];clear b
 by_cases b:op=16
 .rw [am b];exact⟨g,h _ _ k (.null _),rfl⟩
 rw[af b];clear b
 by_cases b:op=1
 .rw [am b];refine⟨g,h _ _ k ?_,rfl⟩;rw[aj]
  cases j:i[a.toNat]? with
  | none => exact .tP _
  | some e => exact g e (aB j)
 rw[af b];clear b
 by_cases b:op=2
 .grind
 rw[af b];clear b
 by_cases b:op=14
 .grind
 rw[af b];clear b
 by_cases b:op=15
 .grind
 rw[af b];clear b
 by_cases b:op=20
 .grind
 rw[af b];clear b
 by_cases b:op=3
 .rw [am b];exact⟨g,h _ _ l (.sC _ _),rfl⟩
 rw[af b];clear b
 by_cases b:op=4
 .rw [am b];exact⟨g,h _ _ l (.sC _ _),rfl⟩
 rw[af b];clear b
 by_cases b:op=5
 .rw [am b];exact⟨g,h _ _ l (.sC _ _),rfl⟩
 .rw [af b];exact⟨g,h _ _ l (.sC _ _),rfl⟩
theorem DE{k a c h b}(g:pp c a)(j:c=0\/c=16\/c=1\/c=2\/c=14\/c=15\/c=20\/c=3\/c=4\/c=5\/c=6)(e:kg c=K->(a.length:Int)<b)(l:(a.length:Int)<=b):((gG c h k a).2.length:Int)<=b:=by
 have i:=g.s1;have d:=g.s2
 rcases j with rfl | rfl | rfl | rfl | rfl | rfl | rfl | rfl | rfl | rfl | rfl
 .have:=e rfl
  show ((a++ [_]).length:Int)<=b
  simp only[aw,aS];omega
 .have:=e rfl
  show ((a++ [_]).length:Int)<=b
  simp only[aw,aS];omega
 .have:=e rfl
  show ((a++ [_]).length:Int)<=b
  simp only[aw,aS];omega
 .show ((a.dropLast).length:Int)<=b
  simp only[aI];omega
 .show ((a.dropLast).length:Int)<=b
  simp only[aI];omega
 .have:=e rfl;have:=i (by omega)
  show ((a.dropLast++ [_]++ [_]).length:Int)<=b
  simp only[aw,aS,aI];omega
 .have:=d (by omega)
  show ((a.dropLast.dropLast++ [_]++ [_]).length:Int)<=b
  simp only[aw,aS,aI];omega
 .have:=d (by omega)
  show ((a.dropLast.dropLast++ [_]).length:Int)<=b
  simp only[aw,aS,aI];omega
 .have:=d (by omega)
  show ((a.dropLast.dropLast++ [_]).length:Int)<=b
  simp only[aw,aS,aI];omega
 .have:=d (by omega)
  show ((a.dropLast.dropLast++ [_]).length:Int)<=b
  simp only[aw,aS,aI];omega
 .have:=d (by omega)
  show ((a.dropLast.dropLast++ [_]).length:Int)<=b
  simp only[aw,aS,aI];omega
structure FC (p:On)(st:eJ)(fs:List eD)(f:eD)(op a b:Int):Prop where
 ex:∃loc stk objs' out',(gr p st fs.length f op a b).1=⟨fs++ [{ f with loc:=loc,stk:=stk }],objs',st.told,out',st.steps⟩/\Grow st.objs objs'/\jX p objs'/\objs'.length<=100/\(∀v∈loc,fv objs' v)/\(∀v∈stk,fv objs' v)/\loc.length=f.loc.length/\(stk.length:Int)<=f.m.stack/\out'.length<=st.out.length+1
theorem mL(c:st.frames=fs++ [f])(a b):fP st fs.length f a b=⟨fs++ [{ f with loc:=a,stk:=b }],st.objs,st.told,st.out,st.steps⟩:=by grind [fP]
theorem Hh(c:Inv p fuel st)(s:st.frames=fs++ [f]){g i o}(C:lP p f.m g i o)(V:g≠7/\g≠8/\g≠12/\g≠13/\g≠18)(w:yj p st f g o)(F:kg g=K->(f.stk.length:Int)<f.m.stack)(h:(gr p st fs.length f g i o).2=0):FC p st fs f g i o:=by
 have k:=c.fr f (by rw[s];simp);have G:=c.top f (by rw[s,bu]);have x:=DF (op:=g) (a:=i) k.vl k.vs;have z:∀d∈f.stk.dropLast,fv st.objs d:=λd e=>k.vs d (cj _ e)
 have Q:∀(B:List fL) (H:List LVal) (r:LVal),(∀d∈H,fv B d)->fv B r->∀d∈H++ [r],fv B d:=λB H r y n d e=>by
  rcases aN.1 e with b | b
  .exact y d b
  .obtain rfl:=aC.1 b;exact n
 by_cases O:g=6
 .subst O;unfold gr at h;rw[am rfl]at h;dsimp only at h
  split at h
  .cases h
  .rename_i D;refine⟨_,_,st.objs,st.out,?_,OR _,c.ob,c.ol,x.1,x.2.1,x.2.2,DE w.stk (by omega) F G,by omega⟩;unfold gr;rw[am rfl];dsimp only;rw[af D];exact mL s _ _
 by_cases P:g=9
 .subst P;have S:=C.cls (by omega);unfold gr at h;rw[af (by decide),am rfl]at h;dsimp only at h
  split at h
  .cases h
  .rename_i D;have q:Grow st.objs (st.objs++ [⟨i,(OE p i).map fV⟩]):=λt j b=>⟨j,by rw[aL (ag.1 b).1];exact b,rfl⟩;refine⟨f.loc,f.stk++ [ju i st.objs.length],st.objs++ [⟨i,(OE p i).map fV⟩],st.out,?_,q,⟨λj b=>?_,λj b=>?_,λj b d e=>?_⟩,?_,λd e=>(k.vl d e).grow q,Q _ _ _ (λd e=>(k.vs d e).grow q) ⟨_,by simp;rfl,rfl⟩,rfl,?_,by omega⟩
   .unfold gr;rw[af (by decide),am rfl];dsimp only;rw[af D];unfold rj;rw[mL s]
   .rcases aN.1 b with b | b
    .exact c.ob.cls j b
    .obtain rfl:=aC.1 b;exact S
   .rcases aN.1 b with b | b
    .exact c.ob.fl j b
    .obtain rfl:=aC.1 b;simp
   .rcases aN.1 b with b | b
    .exact (c.ob.val j b d e).grow q
    .obtain rfl:=aC.1 b;obtain⟨Y,_,rfl⟩:=bF.1 e;exact .first _ _
   .have:=c.ol;rw[aw,aS];omega
   .have:=F rfl;rw[aw,aS];omega
 by_cases J:g=10
 .subst J;have y:=w.stk.s1 (by omega);have u:gr p st fs.length f 10 i o=ku st fs.length f o:=rfl;rw[u]at h;unfold ku at h
  split at h
  .cases h
  .rename_i t v;obtain⟨j,n,R⟩:=(k.vs _ (qC y)).some v;have A:=w.get rfl t v;refine⟨f.loc,_,st.objs,st.out,?_,OR _,c.ob,c.ol,k.vl,Q _ _ ((gu st t).fO.getD o.toNat eO) z ?_,rfl,?_,by omega⟩
   .rw [u];unfold ku;rw[v];exact mL s _ _
   .rw [mi n]at A ⊢;rw[aj,ae A];exact c.ob.val j (aB n) _ (av A)
   .rw [aw,aS,aI];omega
 by_cases L:g=11
 .subst L;have y:=w.stk.s2 (by omega);have u:gr p st fs.length f 11 i o=kz st fs.length f o:=rfl;rw[u]at h;unfold kz at h
  split at h
  .cases h
  .rename_i t v;obtain⟨j,n,R⟩:=(z _ (qC (l:=f.stk.dropLast) (by rw[aI];omega))).some v;have A:=w.put rfl t v;have T:=(ag.1 n).1;have E:=aB n
   have q:Grow st.objs (st.objs.set t { gu st t with fO:=(gu st t).fO.set o.toNat (em f.stk) }):=λU r hx=>by
    by_cases I:U=t
    .subst I;rw[n]at hx
     cases hx
     exact⟨_,by rw[aA T],by rw[mi n]⟩
    .exact⟨r,by rw[ah (λb=>I b.symm)];exact hx,rfl⟩
   refine⟨f.loc,f.stk.dropLast.dropLast,_,st.out,?_,q,⟨λr b=>?_,λr b=>?_,λr b d e=>?_⟩,by rw[aO];exact c.ol,λd e=>(k.vl d e).grow q,λd e=>(z d (cj _ e)).grow q,rfl,?_,by omega⟩
   .rw [u];unfold kz;rw[v];dsimp only;rw[mL s]
   .rcases bE b with b | rfl
    .exact c.ob.cls r b
    .dsimp only;rw[mi n];exact c.ob.cls j E
   .rcases bE b with b | rfl
    .exact c.ob.fl r b
    .dsimp only;rw[mi n,aO];exact c.ob.fl j E
   .rcases bE b with b | rfl
    .exact (c.ob.val r b d e).grow q
    .dsimp only at e
     rcases bE e with e | rfl
     .rw [mi n]at e;exact(c.ob.val j E d e).grow q
     .exact (k.vs _ (qC (by omega))).grow q
   .rw [aI,aI];omega
 by_cases M:g=17
 .subst M;refine⟨f.loc,f.stk,st.objs,st.out,?_,OR _,c.ob,c.ol,k.vl,k.vs,rfl,G,by omega⟩
  show st=_
  cases st
  dsimp only at s ⊢;rw[s]
 by_cases N:g=19
 .subst N;refine⟨f.loc,f.stk.dropLast,st.objs,st.out++ [(em f.stk).num],?_,OR _,c.ob,c.ol,k.vl,z,rfl,?_,by simp⟩
  .show pE st fs.length f=_
   unfold pE;rw[mL s]
  .rw [aI];omega
 .have u:gr p st fs.length f g i o=(fP st fs.length f (gG g i f.loc f.stk).1 (gG g i f.loc f.stk).2,0):=by
   unfold gr;rw[af O,af P,af J,af L,af M,af N]
  have W:=C.rq;have X:=C.op1;refine⟨_,_,st.objs,st.out,?_,OR _,c.ob,c.ol,x.1,x.2.1,x.2.2,DE w.stk (by omega) F G,by omega⟩;rw[u];exact mL s _ _
theorem jQ(c:st.frames=fs++ [f])(a b):fM st fs.length f a b=⟨fs++ [{ f with pc:=a,stk:=b }],st.objs,st.told,st.out,st.steps⟩:=by grind [fM]
theorem Inv.step(C:fi p=0)(b5:eM p<=4194304)(a8:fuel<=5000)(d:Inv p fuel st){an}(c:OQ p fuel st= .inl an):Inv p fuel an:=by
 have V:=d.xQ C b5 a8
 cases s:st.frames.getLast? with
 | none => unfold OQ at c; rw[s]at c; cases c
 | some f =>
  obtain⟨fs,g,Q,E⟩:=uJ s;have e:=d.fr f (by rw[g];simp);have bz:=d.top f s;have cb:=d.out
  by_cases k:gg p fuel st.steps f=0
  .have G:=V.ok f s k;have T:=V.cl f s k
   have n:(st.steps:Int)≠fuel/\f.pc<f.m.code.length/\ie p f.m f.loc f.stk (ey f.m f.pc).op (ey f.m f.pc).a (ey f.m f.pc).b=K:=by
    have ab:=e.pc;unfold gg at k
    split at k
    .cases k
    rename_i I
    split at k
    .cases k
    rename_i X
    split at k
    .grind
    .cases k
   obtain⟨n,ab,ac⟩:=n;obtain⟨r,t,o⟩:=e.own;obtain⟨b7,b8,a0⟩:=kZ C o
   have be:eU p f.m (ey f.m f.pc)=K:=by
    refine a0.ins _ ?_;unfold ey;rw[ae ab];exact av _
   generalize a5:ey f.m f.pc=ins at *;obtain⟨A,H,v⟩:=ins;dsimp only at G T ac;have q:=kM be;obtain⟨cm,cn,cp,b6⟩:=tW ac;rw[ud s k Q a5]at c;have D:∀i∈f.stk.dropLast,fv st.objs i:=λi j=>e.vs i (cj _ j)
   by_cases O:A=7
   .subst O;obtain⟨ad,x⟩:=ax (q.jmp (by omega)).1;have y:=(q.jmp (by omega)).2;rw[x]at c y;rw[EN,jQ g]at c
    cases c
    exact d.put g n (OR _) d.ob d.ol ⟨⟨r,t,o⟩,by dsimp only;omega,e.loc,e.vl,e.vs⟩ bz (by dsimp only;omega)
   by_cases P:A=8
   .subst P;obtain⟨ad,x⟩:=ax (q.jmp (by omega)).1;have y:=(q.jmp (by omega)).2;rw[x]at c y
    by_cases z:(em f.stk).num=0
    .rw [EO _ _ _ _ _ _ z,jQ g]at c
     cases c
     exact d.put g n (OR _) d.ob d.ol ⟨⟨r,t,o⟩,by dsimp only;omega,e.loc,e.vl,D⟩ (by dsimp only;rw[aI];omega) (by dsimp only;omega)
    .rw [EP _ _ _ _ _ _ z,jQ g]at c
     cases c
     exact d.put g n (OR _) d.ob d.ol ⟨⟨r,t,o⟩,by dsimp only;omega,e.loc,e.vl,D⟩ (by dsimp only;rw[aI];omega) (by dsimp only;omega)
   by_cases N:A=18
   .subst N;obtain⟨ad,x⟩:=ax (q.jmp (by omega)).1;have y:=(q.jmp (by omega)).2;rw[x]at c y
    by_cases z:(em f.stk).obj=U
    .rw [EL _ _ _ _ _ _ z,jQ g]at c
     cases c
     exact d.put g n (OR _) d.ob d.ol ⟨⟨r,t,o⟩,by dsimp only;omega,e.loc,e.vl,D⟩ (by dsimp only;rw[aI];omega) (by dsimp only;omega)
    .rw [EM _ _ _ _ _ _ z,jQ g]at c
     cases c
     exact d.put g n (OR _) d.ob d.ol ⟨⟨r,t,o⟩,by dsimp only;omega,e.loc,e.vl,D⟩ (by dsimp only;rw[aI];omega) (by dsimp only;omega)
   by_cases J:A=12
   .subst J;have B:=T rfl;rw[vD]at c;unfold oL at c;dsimp only at c
    split at c
    .cases c
    rename_i l aa
    split at c
    .cases c
    rename_i a3;have Y:=B.obj l aa;rw[jQ g]at c
    cases c
    have b9:=B.len
    have bc:(ew p (gu st l).cls v).stack<=8/\0<=(ew p (gu st l).cls v).stack:=by
     have:=jw.1 (nL C Y.2.2.1);omega
    obtain⟨cf,cg,_,bk,_⟩:=sh (iA C) Y.2.2.1;have a6:rI p st.objs { f with pc:=f.pc+1,stk:=(f.stk.take (f.stk.length-(ew p H v).args.length)).dropLast } :=⟨⟨r,t,o⟩,by dsimp only;omega,e.loc,e.vl,λi j=>e.vs i (dL _ _ (cj _ j))⟩;have ca:=B.obj
    have F:l<st.objs.length:=by
     have I:=AQ.len B;have Q:1<=(f.stk.take (f.stk.length-(ew p H v).args.length)).length:=(by rw[aR];omega);obtain⟨h,X,_⟩:=(e.vs _ (dL _ _ (qC Q))).some aa;exact(ag.1 X).1
    have bf:=d.len;rw[g,aw,aS]at bf a3;have bs:=d.jt;have bo:∀i∈f.stk.drop (f.stk.length-(ew p H v).args.length),fv st.objs i:=λi j=>e.vs i (List.drop_subset _ _ j);refine⟨d.ob,λh hx=>?_,λh hx=>?_,λh hx=>?_,?_,d.ol,by show st.out.length<=st.steps+1;omega,by show ((st.steps+1:Nat):Int)<=fuel;omega⟩
    .rcases aN.1 hx with hx | hx
     .rcases aN.1 hx with hx | hx
      .exact d.fr h (by rw[g];simp[hx])
      .obtain rfl:=aC.1 hx;exact a6
     .obtain rfl:=aC.1 hx;refine⟨⟨_,_,bk⟩,az _,?_,λi j=>?_,λi j=>(by cases j)⟩
      .grind
      .rcases aN.1 j with j | j
       .rcases aE.1 j with rfl | j
        .exact⟨st.objs[l],ae F,by unfold ju gu;simp[List.getElem?_eq_getElem F]⟩
        .exact bo i j
       .obtain⟨_,rfl⟩:=cJ.1 j;exact .tP _
    .change (_++ [_]).getLast? =M h at hx
     rw[bu]at hx
     cases hx
     exact bc.2
    .change h∈(_++ [_]).dropLast at hx
     rw[aQ]at hx
     rcases aN.1 hx with hx | hx
     .exact d.rest h (by rw[E];exact hx)
     .grind
    .show (_++ [_]++ [_]).length<=30
     rw[aw,aw,aS,aS];omega
   by_cases L:A=13
   .subst L;have I:=G.stk.s1 (by omega);have j:=e.vs _ (qC I);rw[Aw,jQ g]at c
    cases c
    have bs:=d.jt
    rcases bX fs with rfl | ⟨W,w,rfl⟩
    .refine⟨d.ob,λh hx=>(by cases hx),λh hx=>(by cases hx),λh hx=>(by cases hx),az _,d.ol,by show st.out.length<=st.steps+1;omega,by show ((st.steps+1:Nat):Int)<=fuel;omega⟩
    .rw [cR]at g E ⊢;have cc:=d.rest w (by rw[E];simp);have u:=d.fr w (by rw[g];simp);have Z:=d.len;rw[g]at Z;simp only[aw,aS]at Z
     have a4:∀(h:eD) (l:List fL) (ar:LVal) (S:Ok) (R:Nat) (i:LVal),jE ⟨W++ [w]++ [h],l,ar,S,R⟩ i=⟨W++ [{ w with stk:=w.stk++ [i] }],l,i,S,R⟩:=λh l ar S R i=>by
      unfold jE;dsimp only;rw[aQ,bu,aQ]
     rw[a4];refine⟨d.ob,λh hx=>?_,λh hx=>?_,λh hx=>?_,?_,d.ol,by show st.out.length<=st.steps+1;omega,by show ((st.steps+1:Nat):Int)<=fuel;omega⟩
     .rcases aN.1 hx with hx | hx
      .exact d.fr h (by rw[g];simp[hx])
      .obtain rfl:=aC.1 hx;refine⟨u.own,u.pc,u.loc,u.vl,λi c=>?_⟩
       rcases aN.1 c with c | c
       .exact u.vs i c
       .obtain rfl:=aC.1 c;exact j
     .change (_++ [_]).getLast? =M h at hx
      rw[bu]at hx
      cases hx
      dsimp only;rw[aw,aS];omega
     .change h∈(_++ [_]).dropLast at hx
      rw[aQ]at hx;exact d.rest h (by rw[E];simp[hx])
     .show (_++ [_]).length<=30
      rw[aw,aS];omega
   .rw [mw _ _ _ _ _ _ _ ⟨O,P,J,L,N⟩]at c
    split at c
    .rename_i a2;obtain⟨ak,ao,ci,ck,a1,ba,bn,F,bI,bM,bh,br,ce⟩:=Hh d g q ⟨O,P,J,L,N⟩ G b6 a2
     cases c
     rw[a1];unfold j6 OP;dsimp only;rw[show (fs++ [{ f with loc:=ak,stk:=ao }])[fs.length]? =M { f with loc:=ak,stk:=ao } by simp];dsimp only;rw[rA];exact d.put g n ba bn F ⟨⟨r,t,o⟩,by dsimp only;omega,by dsimp only;rw[bh];exact e.loc,bI,bM⟩ br (by omega)
    .cases c
  .unfold OQ at c;rw[s]at c;dsimp only at c;rw[am k]at c
   cases c
theorem Inv.run (a:fi p=0)(c:eM p<=4194304)(b:fuel<=5000):∀(d:Nat) (st:eJ),Inv p fuel st->sX p fuel d st
 | 0, _, _ => trivial
 | d + 1, _, f => ⟨f.xQ a c b, λg e => Inv.run a c b d g (f.step a c b e)⟩
theorem Inv.start(h:fi p=0)(n:0<=fuel){b d g}(k:0<=b)(l:b<(p.length:Int))(i:(fy p b d).isSome=K)(q:(ew p b d).args.length=g.length):Inv p fuel (ny p b d g):=by
 have m:=jw.1 (nL h i);obtain⟨b,b,_,o,_⟩:=sh (iA h) i;refine⟨⟨λb c=>?_,λb c=>?_,λb c j a=>?_⟩,λe hx=>?_,λe hx=>?_,λe hx=>(by cases hx),by show 1<=30;omega,by show 1<=100;omega,az _,n⟩
 .obtain rfl:=aC.1 c;exact⟨k,l⟩
 .obtain rfl:=aC.1 c;simp
 .obtain rfl:=aC.1 c;obtain⟨b,_,rfl⟩:=bF.1 a;exact .first _ _
 .obtain rfl:=aC.1 hx;refine⟨⟨_,_,o⟩,az _,?_,λj a=>?_,λj a=>(by cases a)⟩
  .grind
  .rcases aN.1 a with a | a
   .rcases aE.1 a with rfl | a
    .exact⟨_,rfl,rfl⟩
    .obtain⟨b,_,rfl⟩:=bF.1 a;exact .sC _ _
   .obtain⟨_,rfl⟩:=cJ.1 a;exact .tP _
 .change (_++ [_]).getLast? =M e at hx
  rw[bu]at hx
  cases hx
  exact m.2.2.2.2.2.2.2.1
theorem EU{g}(a:OQ p fuel st= .inl g):g.steps=st.steps+1:=by
 have l:∀(a:eJ) (b:LVal),(jE a b).steps=a.steps:=λa b=>by grind [jE]
 cases e:st.frames.getLast? with
 | none => unfold OQ at a; rw[e]at a; cases a
 | some f =>
  by_cases o:gg p fuel st.steps f=0
  .obtain⟨fs,k,n,g⟩:=uJ e;obtain⟨d,b,c,j⟩:∃d b c,ey f.m f.pc=⟨d,b,c⟩:=⟨_,_,_,rfl⟩;rw[ud e o n j]at a;unfold lu at a
   split at a
   .cases a;rfl
   split at a
   .cases a
    show (if _ then _ else _:eJ).steps+1=_
    split <;> rfl
   split at a
   .cases a
    show (if _ then _ else _:eJ).steps+1=_
    split <;> rfl
   split at a
   .unfold oL at a;dsimp only at a
    split at a
    .cases a
    split at a
    .cases a
    .cases a;rfl
   split at a
   .cases a
    show (jE _ _).steps+1=_
    rw[l];rfl
   split at a
   .cases a
    obtain⟨_,_,h,i,_⟩:=Ch p st fs.length f d b c (by rw[k];simp)
    show (j6 _ _).steps+1=_
    unfold j6;rw[h]
    show (gr p st fs.length f d b c).1.steps+1=_
    rw[i]
   .cases a
  .grind [OQ]
theorem Ev (c:fi p=0)(e:eM p<=4194304)(d:fuel<=5000):∀(a:Nat) (st:eJ),Inv p fuel st->fuel<(st.steps:Int)+a->∃g,runM p fuel a st=M g
 | 0, st, f, h => by have := f.jt; omega
 | a + 1, st, f, h => by
  unfold runM
  cases b:OQ p fuel st with
  | inr g => exact ⟨g, rfl⟩
  | inl i =>
   have g:=f.step c e d b;have:=EU b;exact Ev c e d a i g (by omega)
end
theorem kU(p a):eF p a a=K:=by unfold eF;simp
theorem nG(p a):eF p a 2=K:=by unfold eF;simp
theorem kJ{p b a}:eF p b a=K↔b=a\/a=2\/(3<=a/\(b=1\/(3<=b/\fD p (b-3) (a-3)=K))):=by grind [eF]
theorem kt{p}(f:ez p p.length){a b c}(d:eF p a b=K)(e:eF p b c=K):eF p a c=K:=by grind [kJ,Hg]
def gj (p:On):List LVal->List Int->Prop
 | [], [] => True
 | v :: r, t :: u => eF p v.kind t = K /\ gj p r u
 | _, _ => False
theorem gj.len{p}:∀ {a:List LVal} {b:Ok},gj p a b->a.length=b.length
 | [], [], _ => rfl
 | _ :: _, _ :: _, h => by simp only[bA]; rw[gj.len h.2]
 | [], _ :: _, h => h.elim
 | _ :: _, [], h => h.elim
theorem gj.app{p}:∀ {a:List LVal} {c:Ok} {b:List LVal} {d:Ok},gj p a c->gj p b d->gj p (a++b) (c++d)
 | [], [], _, _, _, h => h
 | _ :: _, _ :: _, _, _, h, h' => ⟨h.1, gj.app h.2 h'⟩
 | [], _ :: _, _, _, h, _ => h.elim
 | _ :: _, [], _, _, h, _ => h.elim
theorem gj.split{p}:∀ {c:List LVal} {u d:Ok},gj p c (u++d)->∃a b,c=a++b/\gj p a u/\gj p b d
 | c, [], d, h => ⟨[], c, rfl, trivial, h⟩
 | [], _ :: _, _, h => h.elim
 | v :: r, t :: u, d, h => by
  obtain⟨a,b,c,e,f⟩:=gj.split (u:=u) h.2;exact⟨v::a,b,by rw[c];rfl,⟨h.1,e⟩,f⟩
theorem gj.snoc{p c u d}(f:gj p c (u++ [d])):∃a x,c=a++ [x]/\gj p a u/\eF p x.kind d=K:=by
 obtain⟨a,c,e,g,b⟩:=f.split
 match c,b with
 | [x], b => exact ⟨a, x, e, g, b.1⟩
theorem gj.push{p a c d b}(e:gj p a c)(f:eF p d.kind b=K):gj p (a++ [d]) (c++ [b]):=e.app ⟨f,trivial⟩
theorem gj.get{p}:∀ {c:List LVal} {d:Ok} (_:gj p c d) (b:Nat) (a:Int),d[b]? =M a->eF p (c.getD b eO).kind a=K
 | _ :: _, _ :: _, h, 0, a, e => by cases e; exact h.1
 | _ :: _, _ :: _, h, b + 1, a, e => gj.get h.2 b a e
 | [], [], _, _, _, e => by cases e
 | [], _ :: _, h, _, _, _ => h.elim
 | _ :: _, [], h, _, _, _ => h.elim
theorem gj.mono{p}(c:ez p p.length):∀ {d:List LVal} {a b:Ok},gj p d a->a.length=b.length->((a.zip b).all λx=>eF p x.1 x.2)=K->gj p d b
 | [], [], [], h, _, _ => h
 | _ :: _, t :: a, t' :: b, h, hl, ha => by
  rw[List.zip_cons_cons,cX,aD]at ha;exact⟨kt c h.1 ha.1,gj.mono c h.2 (by simpa using hl) ha.2⟩
 | [], _ :: _, _, h, _, _ => h.elim
 | _ :: _, [], _, h, _, _ => h.elim
 | [], [], _ :: _, _, hl, _ => by simp at hl
 | _ :: _, _ :: _, [], _, hl, _ => by simp at hl
def rT (p:On)(loc:List LVal)(u:Ok):Prop:=u.length=8/\∀j v,loc[j]? =M v->eF p v.kind (u.getD j 0)=K
theorem rT.mono{p}(h:ez p p.length){a c b}(e:rT p a c)(d:b.length=8)(g:((c.zip b).all λx=>eF p x.1 x.2)=K)(f:a.length<=8):rT p a b:=by
 refine⟨d,λa i d=>?_⟩;have:=(ag.1 d).1;have f:=e.2 a i d;have:=e.1
 have d:eF p (c.getD a 0) (b.getD a 0)=K:=by
  rw[aj,aj,ae (by omega),ae (by omega)];refine aJ.1 g (_,_) ?_;rw[dS];exact⟨a,by rw[List.length_zip];omega,by rw[dw]⟩
 exact kt h f d
structure nU (p:On)(loc stk:List LVal)(s:ef):Prop where
 l:rT p loc s.loc
 s:gj p stk s.stk
theorem nU.mono{p}(e:ez p p.length){b g f c}(d:nU p b g f)(a:gA p f c=K)(i:c.loc.length=8)(h:b.length<=8):nU p b g c:=by
 unfold gA at a;simp only[aD,beq_iff_eq]at a;exact⟨d.l.mono e i a.1.2 h,d.s.mono e a.1.1 a.2⟩
theorem Ga(p a):gA p a a=K:=by grind [eF,gA,kU,List.all_eq_true,List.getElem_of_mem]
def nF (p:On)(c:Int)(m:eh)(pc:Nat):Option ef:=match jP m pc with
 | some t => M t
 | none => (iP p c m pc).join
theorem xq{p e b}(c:iX p e b=K):∀a,a<=b.code.length->∃i,iP p e b a=M i:=by
 intro a i
 have h:∀d,a+d<=b.code.length->(iP p e b (a+d)).isSome=K->(iP p e b a).isSome=K:=by
  intro d
  induction d with
  | zero => intro _ c; exact c
  | succ d g =>
   intro i c;refine g (by omega) ?_;rw[<-Nat.add_assoc]at c;unfold iP at c
   cases f:iP p e b (a+d) with
   | none => rw[f]at c; cases c
   | some d => rfl
 exact bQ.1 (h (b.code.length-a) (by omega) (by rw[show a+(b.code.length-a)=b.code.length by omega];exact c))
theorem zm{p d}(g:sR p d){e f}(a:jP d e=M f):f.loc.length=8:=by
 unfold jP at a
 cases b:d.frames.find? (λc=>c.pc == e) with
 | none => rw[b]at a; cases a
 | some c =>
  rw[b]at a
  cases a
  have:=(g c (dB b)).1;unfold gW;simp;omega
theorem Ax {p:On}{a:eh}{b:Nat}{d e:Option ef}(g:stepS p a b d=M e){s:ef}(h:(match jP a b with | some c=>M c | none=>d)=M s):kv p a b s=M e/\∀f c,d=M f->jP a b=M c->gA p f c=K:=by
 unfold stepS at g
 cases d:jP a b with
 | none => grind
 | some c => grind
theorem Lq{p k c}(o:iX p k c=K)(w:sR p c)(I:∀O∈c.code,eU p c O=K){d}(z:d<c.code.length){j}(r:nF p k c d=M j):
  ∃g,fe p c (ey c d) j=M g/\(gz (ey c d)=K->∃e,nF p k c (ey c d).a.toNat=M e/\gA p g e=K/\(ey c d).a.toNat<c.code.length/\e.loc.length=8)/\
   (gJ (ey c d)=K->∃e,nF p k c (d+1)=M e/\gA p g e=K/\d+1<c.code.length/\(e=g\/e.loc.length=8)):=by
 obtain⟨v,t⟩:=xq o d (by omega);obtain⟨D,l⟩:=xq o (d+1) (by omega)
 have u:stepS p c d v=M D:=by
  have:=l;unfold iP at this;rw[t]at this;exact this
 have N:(match jP c d with | some e=>M e | none=>v)=M j:=by
  unfold nF at r;rw[t]at r;exact r
 obtain⟨h,_⟩:=Ax u N
 have J:ey c d∈c.code:=by
  unfold ey;rw[ae z];exact av _
 unfold kv at h
 cases f:iq p c d j with
 | none => rw[f]at h; cases h
 | some g =>
  rw[f,au]at h
  split at h
  .rename_i G
   cases h
   unfold iq at f
   cases x:fe p c (ey c d) j with
   | none => rw[x]at f; cases f
   | some R =>
    rw[x,au]at f
    split at f
    .cases f
    .rename_i H
     cases f
     refine⟨g,rfl,λq=>?_,λy=>?_⟩
     .have L:((ey c d).a,K)∈gU (ey c d) d:=by
       unfold gU;rw[am q];simp
      have:=aJ.1 G _ L;simp only[Bool.not_true,Bool.false_or]at this;unfold jp at this;have F:=kM (p:=p) (m:=c) (op:=(ey c d).op) (a:=(ey c d).a) (b:=(ey c d).b) (I _ J)
      have Q:=F.jmp (by
       unfold gz at q;simp only[bB,beq_iff_eq]at q
       omega)
      split at this
      .cases this
      .rename_i e B;have n:(((ey c d).a.toNat:Nat):Int)=(ey c d).a:=(by omega);refine⟨e,?_,this,by omega,zm w B⟩;unfold nF;rw[n,B]
     .have A:d+1<c.code.length:=by
       apply Nat.lt_of_le_of_ne z
       intro P
       apply H
       unfold kX gU;rw[am y,List.any_append];simp only[List.any_cons,List.any_nil,dY,bB,beq_iff_eq]
       right
       omega
      rw[am y]at l u;obtain⟨E,n⟩:=xq o (d+2) (by omega)
      have C:stepS p c (d+1) (M g)=M E:=by
       have:=n;unfold iP at this;rw[l]at this;exact this
      cases i:jP c ((d+1:Nat):Int) with
      | none =>
       refine⟨g,?_,Ga _ _,A,.inl rfl⟩;unfold nF;rw[i,l]
       rfl
      | some e =>
       refine⟨e,?_,?_,A,.inr (zm w i)⟩
       .unfold nF;rw[i]
       .exact (Ax C (s:=e) (by rw[i])).2 g e rfl i
  .cases h
theorem pN{s t s'}(c:fS s=M (t,s')):s.stk=s'.stk++ [t]/\s'.loc=s.loc:=by
 unfold fS at c
 cases d:s.stk.getLast? with
 | none => rw[d]at c; cases c
 | some g =>
  rw[d]at c
  cases c
  obtain⟨c,e,_,f⟩:=uJ d;refine⟨?_,rfl⟩;dsimp only;rw[f];exact e
theorem oC{p s s' c}(e:fC p c s=M s'):∃d,s.stk=s'.stk++ [d]/\s'.loc=s.loc/\eF p d c=K:=by grind [fS,fC,pN]
theorem x8{s s'}(c:iU s=M s'):∃e,s.stk=s'.stk++ [e]/\s'.loc=s.loc/\(e=1\/3<=e):=by
 unfold iU at c
 cases d:fS s with
 | none => rw[d]at c; cases c
 | some f =>
  rw[d,au]at c
  split at c
  .rename_i g
   cases c
   obtain⟨h,i⟩:=pN (t:=f.1) (s':=f.2) d;refine⟨f.1,h,i,?_⟩;unfold iy at g;simpa using g
  .cases c
theorem mK{m c s s'}(d:fj m c s=M s'):(s.stk.length:Int)≠m.stack/\s'.stk=s.stk++ [c]/\s'.loc=s.loc:=by grind [fj]
theorem uN{c d}(e:jj c=M d):d=c/\c≠2:=by grind [jj]
theorem fg{α β :Type}{c}{d: α->Option β}{b}(e:c.bind d=M b):∃a,c=M a/\d a=M b:=by
 cases c with
 | none => cases e
 | some a => exact ⟨a, rfl, e⟩
theorem NG{p}(q:ez p p.length):∀(c:Ok) {s s':ef} {stk:List LVal},gC p c.reverse s=M s'->gj p stk s.stk->∃a b,stk=a++b/\gj p a s'.stk/\gj p b c/\s'.loc=s.loc/\s.stk.length=s'.stk.length+c.length:=by
 have t:∀(c:List Int) {s s':ef} {stk:List LVal},gC p c s=M s'->gj p stk s.stk->∃a b,stk=a++b/\gj p a s'.stk/\gj p b c.reverse/\s'.loc=s.loc/\s.stk.length=s'.stk.length+c.length:=by
  intro c
  induction c with
  | nil =>
   intro s s' stk d e
   cases d
   exact⟨stk,[],by simp,e,trivial,rfl,rfl⟩
  | cons j j r =>
   intro s s' stk d e;unfold gC at d;obtain⟨j,g,f⟩:=fg d;obtain⟨j,j,k,o⟩:=oC g;rw[j]at e;obtain⟨j,u,rfl,h,i⟩:=e.snoc;obtain⟨a,b,rfl,j,l,n,v⟩:=r f h;refine⟨a,b++ [u],by simp,j,?_,by rw[n,k],?_⟩
   .rw [List.reverse_cons];exact l.push (kt q i o)
   .grind
 intro c s s' stk d e;obtain⟨a,b,j,g,f,h,i⟩:=t c.reverse d e;rw[List.reverse_reverse]at f;exact⟨a,b,j,g,f,h,by rw[i];simp⟩
section
variable {p : List eb} {m : eh} {loc stk : List LVal} {s s' : ef} {a b : Int}
theorem nt{op x y}(d:gj p y (gN p m.ret op a b))(c:op=1->(loc.getD a.toNat eO).kind≠2)(e:kg op=K->((x++y).length:Int)<m.stack):ie p m loc (x++y) op a b=K:=by
 unfold ie mR;simp only[aD,decide_eq_true_eq,aJ,bw,dD,bB,cQ,beq_eq_false_iff_ne,ne_eq];have:=d.len;refine⟨⟨⟨by rw[aw];omega,λc f=>?_⟩,?_⟩,?_⟩
 .have e:(x++y).length-(gN p m.ret op a b).length+c=x.length+c:=by rw[aw];omega
  rw[e,aj,aP (by omega),dj,<-aj];refine d.get c _ ?_;rw[aj,ae f]
  rfl
 .omega
 .grind
theorem vd{c}(e:gN p m.ret c a b= [])(d:c=1->(loc.getD a.toNat eO).kind≠2)(f:kg c=K->(stk.length:Int)<m.stack):ie p m loc stk c a b=K:=by
 have:=nt (p:=p) (m:=m) (loc:=loc) (a:=a) (b:=b) (op:=c) (x:=stk) (y:= []) (by rw[e];trivial) d (by rw[bL];exact f);rw[bL]at this;exact this
theorem M8{e}(H:ez p p.length)(d:fe p m ⟨e,a,b⟩ s=M s')(T:nU p loc stk s)(P:m.locals=(loc.length:Int))(O:loc.length<=8)(Q:(stk.length:Int)<=m.stack)(G:(e=1\/e=2)->0<=a/\a<m.locals)(y:e=0\/e=16\/e=1\/e=2\/e=14\/e=15\/e=20\/e=3\/e=4\/e=5\/e=6):ie p m loc stk e a b=K/\nU p (gG e a loc stk).1 (gG e a loc stk).2 s':=by
 obtain⟨u,i⟩:=T;have:=i.len
 rcases y with rfl | rfl | rfl | rfl | rfl | rfl | rfl | y
 .obtain⟨q,k,h⟩:=mK (show fj m 0 s=M s' from d);refine⟨vd rfl (by omega) (λ_=>by omega),?_,?_⟩
  .show rT p loc s'.loc
   rw[h];exact u
  .show gj p (stk++ [_]) s'.stk
   rw[k];exact i.push (kU _ _)
 .obtain⟨q,k,h⟩:=mK (show fj m 1 s=M s' from d);refine⟨vd rfl (by omega) (λ_=>by omega),?_,?_⟩
  .show rT p loc s'.loc
   rw[h];exact u
  .show gj p (stk++ [_]) s'.stk
   rw[k];exact i.push (kU _ _)
 .obtain⟨t,n,d⟩:=fg (show (jj (s.loc.getD a.toNat 0)).bind (λt=>fj m t s)=M s' from d);obtain⟨rfl,z⟩:=uN n;obtain⟨q,k,h⟩:=mK d;have x:=G (by omega);have c:a.toNat<loc.length:=by omega
  have f:=u.2 a.toNat _ (ae c);have j:loc.getD a.toNat eO=loc[a.toNat]:=by rw[aj,ae c];rfl
  refine⟨vd rfl (λ_ g=>?_) (λ_=>by omega),?_,?_⟩
  .grind [kJ]
  .show rT p loc s'.loc
   rw[h];exact u
  .show gj p (stk++ [_]) s'.stk
   rw[k,j];exact i.push f
 .obtain⟨⟨t,B⟩,n,d⟩:=fg (show (fS s).bind (λc=>(jj c.1).map λt=> { c.2 with loc:=c.2.loc.set a.toNat t })=M s' from d);obtain⟨q,k⟩:=pN n
  cases l:jj t with
  | none => dsimp only at d; rw[l]at d; cases d
  | some C =>
   dsimp only at d;rw[l]at d
   cases d
   obtain⟨rfl,z⟩:=uN l;rw[q]at i;obtain⟨f,c,rfl,h,r⟩:=i.snoc;have x:=G (by omega)
   have o:gG 2 a loc (f++ [c])=(loc.set a.toNat c,f):=by
    show (loc.set a.toNat (em (f++ [c])),(f++ [c]).dropLast)=_
    rw[nT,aQ]
   rw[o];refine⟨nt (show gj p [c] [2] from ⟨nG _ _,trivial⟩) (by omega) (λg=>by cases g),⟨?_,λw A g=>?_⟩,h⟩
   .dsimp only;rw[aO,k];exact u.1
   .dsimp only at g ⊢
    by_cases j:w=a.toNat
    .subst j;have v:=(ag.1 g).1;rw[aO]at v;rw[aA v]at g
     cases g
     rw[aj,aA (by rw[k,u.1];omega)];exact r
    .rw [ah (λc=>j c.symm)]at g;rw[aj,ah (λc=>j c.symm),<-aj,k];exact u.2 w A g
 .cases n:fS s with
  | none =>
   have v : (fS s).map (·.2) = M s' := d;rw[n]at v;cases v
  | some c =>
   have v : (fS s).map (·.2) = M s' := d;rw[n]at v
   cases v
   obtain⟨t,B⟩:=c;obtain⟨q,k⟩:=pN n;rw[q]at i;obtain⟨f,c,rfl,h,r⟩:=i.snoc
   have o:gG 14 a loc (f++ [c])=(loc,f):=by
    show (loc,(f++ [c]).dropLast)=_
    rw[aQ]
   rw[o];refine⟨nt (show gj p [c] [2] from ⟨nG _ _,trivial⟩) (by omega) (λg=>by cases g),?_,h⟩;dsimp only;rw[k];exact u
 .obtain⟨⟨t,B⟩,n,d⟩:=fg (show (fS s).bind (λc=>(fj m c.1 c.2).bind (fj m c.1))=M s' from d);obtain⟨q,k⟩:=pN n;obtain⟨I,z,A⟩:=fg d;obtain⟨_,w,C⟩:=mK z;obtain⟨N,x,F⟩:=mK A;rw[q]at i;obtain⟨f,c,rfl,h,r⟩:=i.snoc
  have o:gG 15 a loc (f++ [c])=(loc,f++ [c]++ [c]):=by
   show (loc,(f++ [c]).dropLast++ [em (f++ [c])]++ [em (f++ [c])])=_
   rw[nT,aQ]
  rw[o];refine⟨nt (show gj p [c] [2] from ⟨nG _ _,trivial⟩) (by omega) (λ_=>?_),?_,?_⟩
  .grind
  .grind
  .dsimp only;rw[x,w];exact(h.push r).push r
 .obtain⟨⟨t,B⟩,n,d⟩:=fg (show (fS s).bind (λf=>(fS f.2).bind λc=>(fj m f.1 c.2).bind (fj m c.1))=M s' from d);obtain⟨⟨u,I⟩,J,d⟩:=fg d;obtain⟨q,k⟩:=pN n;obtain⟨v,L⟩:=pN J;obtain⟨u,z,A⟩:=fg d;obtain⟨_,w,C⟩:=mK z;obtain⟨N,x,F⟩:=mK A;dsimp only at v L w C x;rw[q,v]at i;obtain⟨f,c,rfl,h,r⟩:=i.snoc;obtain⟨j,l,rfl,D,E⟩:=h.snoc
  have o:gG 20 a loc (j++ [l]++ [c])=(loc,j++ [c]++ [l]):=by
   show (loc,(j++ [l]++ [c]).dropLast.dropLast++ [em (j++ [l]++ [c])]++ [em (j++ [l]++ [c]).dropLast])=_
   rw[nT,aQ,aQ,nT]
  rw[o];refine⟨?_,?_,?_⟩
  .rw [a9];exact nt (show gj p [l,c] [2,2] from ⟨nG _ _,nG _ _,trivial⟩) (by omega) (λg=>by cases g)
  .grind
  .dsimp only;rw[x,w];exact(D.push r).push E
 .have N:gN p m.ret e a b= [0,0]:=by rcases y with rfl | rfl | rfl | rfl <;> rfl
  have v:(fC p 0 s).bind (λs=>(fC p 0 s).bind (fj m 0))=M s':=by rcases y with rfl | rfl | rfl | rfl <;> exact d
  obtain⟨B,z,A⟩:=fg v;obtain⟨I,J,L⟩:=fg A;obtain⟨d,w,C,n⟩:=oC z;obtain⟨d,x,F,q⟩:=oC J;obtain⟨_,t,d⟩:=mK L;rw[w,x]at i;obtain⟨f,c,rfl,h,r⟩:=i.snoc;obtain⟨j,l,rfl,D,E⟩:=h.snoc
  have o:∃k,gG e a loc (j++ [l]++ [c])=(loc,j++ [gt k]):=by
   have g:(j++ [l]++ [c]).dropLast.dropLast=j:=by rw[aQ,aQ]
   rcases y with rfl | rfl | rfl | rfl
   .exact⟨_,show (loc,(j++ [l]++ [c]).dropLast.dropLast++ [_])=_ by rw[g]⟩
   .exact⟨_,show (loc,(j++ [l]++ [c]).dropLast.dropLast++ [_])=_ by rw[g]⟩
   .exact⟨_,show (loc,(j++ [l]++ [c]).dropLast.dropLast++ [_])=_ by rw[g]⟩
   .exact⟨_,show (loc,(j++ [l]++ [c]).dropLast.dropLast++ [_])=_ by rw[g]⟩
  obtain⟨k,o⟩:=o;rw[o];refine⟨?_,?_,?_⟩
  .rw [a9];refine nt (by rw[N];exact⟨kt H E q,kt H r n,trivial⟩) (by omega) (λg=>?_)
   rcases y with rfl | rfl | rfl | rfl <;> cases g
  .grind
  .dsimp only;rw[t];exact D.push (kU _ _)
end
def Wait (p:On)(g:eD)(r:Int):Prop:=∃c k s,gh p c k=M g.m/\g.pc<g.m.code.length/\nF p c g.m g.pc=M s/\∀v:LVal,eF p v.kind r=K->nU p g.loc (g.stk++ [v]) s
def Waits (p:On):List eD->Int->Prop
 | [], _ => True
 | g :: l, r => Wait p g r /\ Waits p l g.m.ret
def Runs (p:On)(f:eD):Prop:=∃c k s,gh p c k=M f.m/\f.pc<f.m.code.length/\nF p c f.m f.pc=M s/\nU p f.loc f.stk s
def AT (p:On)(objs:List fL):Prop:=∀o∈objs,∀(j:Nat) (v:LVal),o.fO[j]? =M v->eF p v.kind (gi p o.cls j)=K
structure pq (p:On)(st:eJ):Prop where
 fl:AT p st.objs
 fr:∀fs f,st.frames=fs++ [f]->Runs p f/\Waits p fs.reverse f.m.ret
def uo (p:On):Prop:=∀c k m,gh p c k=M m->iX p c m=K
theorem Cz{p a}(c:a=0\/3<=a):eF p (fV a).kind a=K:=by
 unfold fV
 split
 .rename_i b;subst b;exact kU _ _
 .rw [kJ]
  right;right
  exact⟨by omega,.inl rfl⟩
theorem KQ{c a p b}(d:fv c a)(e:eF p a.kind b=K)(h:b=1\/3<=b)(g:a.obj=U):a.kind=1:=by grind [fv,kJ]
section
variable {p : List eb} {fuel : Int} {st : eJ} {f : eD} {fs : List eD}
theorem zi(h:fi p=0){a b}(i:b<(OE p a).length):gi p a b=0\/3<=gi p a b:=by
 have d:gi p a b∈OE p a:=by grind [gi]
 unfold OE at d;obtain⟨a,g,c⟩:=List.mem_flatten.1 d;obtain⟨e,_,rfl⟩:=bF.1 g;unfold uV at c
 cases hx:p[e]? with
 | none => rw[hx]at c; simp at c
 | some a => grind [gd, lr, kY]
theorem pq.go(q:fi p=0)(T:pq p st)(u:st.frames=fs++ [f]){b i}(w:gh p b i=M f.m){j}(v:AT p j){e d k s a}(r:nF p b f.m e=M a)(x:e<f.m.code.length)(t:gA p s a=K)(h:nU p d k s)(c:a=s\/a.loc.length=8)(o:d.length<=8)(B A z):
  pq p ⟨fs++ [{ f with pc:=e,loc:=d,stk:=k }],j,B,A,z⟩:=by
 have y:=iA q;refine⟨v,λd d g=>?_⟩;dsimp only at g;obtain⟨rfl,n⟩:=di g rfl
 cases n
 refine⟨⟨b,i,a,w,x,r,?_⟩,(T.fr _ _ u).2⟩;refine h.mono y t ?_ o
 rcases c with rfl | c
 .exact h.l.1
 .exact c
theorem Bn(j:fi p=0)(r:uo p){a b}(m:(fy p a b).isSome=K)(o){d}(q:gj p d (ew p a b).args):Runs p ⟨ew p a b,0,ju a o::d++List.replicate ((ew p a b).locals.toNat-(1+d.length)) eO,[]⟩:=by
 have l:=iA j;obtain⟨c,v,w,i,w,n,w⟩:=sh l m;have w:=Hf n;obtain⟨w,w,e⟩:=kZ j i;have w:=jw.1 (nL j m);have j:=q.len;refine⟨(c:Int),(v:Int),?_⟩
 have k:nU p (ju a o::d++List.replicate ((ew p a b).locals.toNat-(1+d.length)) eO) [] (fH c (ew p a b)):=by
  refine⟨⟨?_,λg j h=>?_⟩,trivial⟩
  .grind [fH]
  .unfold fH;dsimp only
   cases g with
   | zero =>
    cases h
    rw[List.getD_cons_zero,kJ]
    right;right
    refine⟨by omega,.inr ⟨?_,?_⟩⟩
    .show 3<=a+3;omega
    .show fD p (a+3-3) ((c:Int)+3-3)=K
     simpa using n
   | succ g =>
    rw[cB,bU]at h;rw[List.getD_cons_succ]
    by_cases j:g<d.length
    .rw [aL j]at h;rw[aj,aL (by omega),<-aj];have:=q.get g ((ew p a b).args[g]'(by omega)) (ae _);rw[aj,h]at this;rw[aj,ae (by omega)];exact this
    .grind [nG]
 have u:=r _ _ _ i;obtain⟨d,j⟩:=xq u 1 e.c1;have h:stepS p (ew p a b) 0 (M (fH c (ew p a b)))=M d:=by grind [iP]
 cases g:jP (ew p a b) ((0:Nat):Int) with
 | none =>
  refine⟨fH c (ew p a b),i,e.c1,?_,k⟩
  show nF p c (ew p a b) 0=_
  unfold nF;rw[g]
  rfl
 | some a =>
  refine⟨a,i,e.c1,?_,?_⟩
  .grind [nF,ew]
  .have t:=(Ax h (s:=a) (by rw[g])).2 _ _ rfl g;refine k.mono l t (zm e.fr g) ?_;rw[aw,bA,du];have:=e.ok.loc;omega
theorem M9 (y:fi p=0)(gp:eM p<=4194304)(ga:fuel<=5000)(d9:uo p)(W:Inv p fuel st)(T:pq p st):(∀q,OQ p fuel st= .inl q->pq p q)/\∀o,OQ p fuel st= .inr o->o.2≠5:=by
 have k:=iA y
 cases ck:st.frames.getLast? with
 | none => grind [OQ]
 | some f =>
  obtain⟨fs,h,gb,b7⟩:=uJ ck;have an:=W.fr f (by rw[h];simp);have gl:=W.top f ck;obtain⟨⟨d4,er,B,E,eo,f1,bM⟩,b6⟩:=T.fr fs f h;obtain⟨g6,g7,b5⟩:=kZ y E;have gc:=an.loc;have H:f.loc.length<=8:=by have:=b5.ok.loc;omega
  by_cases cn:(st.steps:Int)=fuel
  .grind [gg,OQ]
  have eg:eU p f.m (ey f.m f.pc)=K:=by
   refine b5.ins _ ?_;unfold ey;rw[ae eo];exact av _
  obtain⟨w,J,br,ba⟩:=Lq (d9 d4 er f.m E) b5.fr b5.ins eo f1;obtain⟨e,c,g,cf⟩:∃e c g,ey f.m f.pc=⟨e,c,g⟩:=⟨_,_,_,rfl⟩;rw[cf]at eg J br ba;dsimp only at br;have X:=kM eg;have x:=bM.s;have ak:=bM.l
  -- from readiness to the step
  have P:ie p f.m f.loc f.stk e c g=K->(gg p fuel st.steps f=0)/\OQ p fuel st=lu p st fs.length f e c g:=λj=>by
   have I:gg p fuel st.steps f=0:=by
    unfold gg;rw[af (by omega),af cn,cf,am j]
   exact⟨I,ud ck I gb cf⟩
  have g5:=W.xQ y gp ga
  by_cases en:e=0\/e=16\/e=1\/e=2\/e=14\/e=15\/e=20\/e=3\/e=4\/e=5\/e=6
  .obtain⟨j,a2⟩:=M8 k J bM gc H gl X.loc en;obtain⟨I,b⟩:=P j
   obtain⟨be,cc,ce,z,n⟩:=ba (by
    unfold gJ
    rcases en with rfl | rfl | rfl | rfl | rfl | rfl | rfl | rfl | rfl | rfl | rfl <;> rfl)
   have gf:=DF (objs:=st.objs) (op:=e) (a:=c) an.vl an.vs;have a3:e≠7/\e≠8/\e≠12/\e≠13/\e≠18:=(by omega);rw[b,mw _ _ _ _ _ _ _ a3]
   have gk:OP (j6 (fP st fs.length f (gG e c f.loc f.stk).1 (gG e c f.loc f.stk).2) fs.length)=⟨fs++ [{ f with pc:=f.pc+1,loc:=(gG e c f.loc f.stk).1,stk:=(gG e c f.loc f.stk).2 }],st.objs,st.told,st.out,st.steps+1⟩:=by
    rw[mL h];unfold j6 OP;dsimp only;rw[show ∀d:eD,(fs++ [d])[fs.length]? =M d by intro d;simp];dsimp only;rw[rA]
   have d5:pq p (OP (j6 (fP st fs.length f (gG e c f.loc f.stk).1 (gG e c f.loc f.stk).2) fs.length)):=by
    rw[gk];exact T.go y h E T.fl cc z ce a2 n (by rw[gf.2.2];exact H) _ _ _
   by_cases bn:e=6
   .subst bn;unfold gr;rw[am rfl];dsimp only
    by_cases b8:(em f.stk).num=0
    .rw [am b8,am b8,af (by decide)];exact⟨λq b=>(by cases b),λo b=>by cases b;simp⟩
    .rw [af b8,af b8,am rfl];exact⟨λq b=>by cases b;exact d5,λo b=>by cases b⟩
   .have Q:gr p st fs.length f e c g=(fP st fs.length f (gG e c f.loc f.stk).1 (gG e c f.loc f.stk).2,0):=by
     unfold gr;rw[af bn,af (by omega),af (by omega),af (by omega),af (by omega),af (by omega)]
    rw[Q,am rfl];exact⟨λq b=>by cases b;exact d5,λo b=>by cases b⟩
  by_cases fc:e=7
  .subst fc;have j:ie p f.m f.loc f.stk 7 c g=K:=vd rfl (by omega) (λb=>by cases b);obtain⟨I,b⟩:=P j;obtain⟨be,cc,ce,z,n⟩:=br rfl;have f4:M B=M w:=J
   cases f4
   have t:lu p st fs.length f 7 c g= .inl (OP (fM st fs.length f c.toNat f.stk)):=rfl;rw[b,t,jQ h];exact⟨λq b=>by cases b;exact T.go y h E T.fl cc z ce bM (.inr n) H _ _ _,λo b=>by cases b⟩
  by_cases fn:e=8
  .subst fn;obtain⟨D,C,t,u⟩:=oC (show fC p 0 B=M w from J);rw[C]at x;obtain⟨V,d,i,z,n⟩:=x.snoc
   have j:ie p f.m f.loc f.stk 8 c g=K:=by
    rw[i];exact nt (show gj p [d] [0] from ⟨kt k n u,trivial⟩) (by omega) (λb=>by cases b)
   obtain⟨I,b⟩:=P j;have b7:f.stk.dropLast=V:=(by rw[i,aQ]);have a2:nU p f.loc f.stk.dropLast w:=⟨by rw[t];exact ak,by rw[b7];exact z⟩;obtain⟨be,cz,cA,dp,ds⟩:=br rfl;obtain⟨b9,N,O,bh,cb⟩:=ba rfl;have F:lu p st fs.length f 8 c g= .inl (OP (if (em f.stk).num=0 then fM st fs.length f c.toNat f.stk.dropLast else fM st fs.length f (f.pc+1) f.stk.dropLast)):=rfl;rw[b,F];refine⟨λq b=>?_,λo b=>by cases b⟩
   cases b
   split
   .rw [jQ h];exact T.go y h E T.fl cz dp cA a2 (.inr ds) H _ _ _
   .rw [jQ h];exact T.go y h E T.fl N bh O a2 cb H _ _ _
  by_cases e9:e=18
  .subst e9;obtain⟨D,C,t,u⟩:=x8 (show iU B=M w from J);rw[C]at x;obtain⟨V,d,i,z,n⟩:=x.snoc;have hx:=an.vs d (by rw[i];simp)
   have bk:eF p d.kind 3=K:=by
    have cp:=hx.ty W.ob;rw[kJ]at n ⊢
    by_cases cs:d.kind=1
    .exact .inr (.inr ⟨by omega,.inl cs⟩)
    .have cu:3<=d.kind:=(by omega);exact .inr (.inr ⟨by omega,.inr ⟨cu,zb k (by omega) (by have:=cp.2;omega)⟩⟩)
   have j:ie p f.m f.loc f.stk 18 c g=K:=by
    rw[i];exact nt (show gj p [d] [3] from ⟨bk,trivial⟩) (by omega) (λb=>by cases b)
   obtain⟨I,b⟩:=P j;have b7:f.stk.dropLast=V:=(by rw[i,aQ]);have a2:nU p f.loc f.stk.dropLast w:=⟨by rw[t];exact ak,by rw[b7];exact z⟩;obtain⟨be,cz,cA,dp,ds⟩:=br rfl;obtain⟨b9,N,O,bh,cb⟩:=ba rfl;have F:lu p st fs.length f 18 c g= .inl (OP (if (em f.stk).obj=U then fM st fs.length f c.toNat f.stk.dropLast else fM st fs.length f (f.pc+1) f.stk.dropLast)):=rfl;rw[b,F];refine⟨λq b=>?_,λo b=>by cases b⟩
   cases b
   split
   .rw [jQ h];exact T.go y h E T.fl cz dp cA a2 (.inr ds) H _ _ _
   .rw [jQ h];exact T.go y h E T.fl N bh O a2 cb H _ _ _
  by_cases e6:e=13
  .subst e6;obtain⟨D,C,t,u⟩:=oC (show fC p f.m.ret B=M w from J);rw[C]at x;obtain⟨V,d,i,z,n⟩:=x.snoc
   have j:ie p f.m f.loc f.stk 13 c g=K:=by
    rw[i];exact nt (show gj p [d] [f.m.ret] from ⟨kt k n u,trivial⟩) (by omega) (λb=>by cases b)
   obtain⟨I,b⟩:=P j;have gn:em f.stk=d:=(by rw[i,nT]);rw[b,Aw,jQ h,gn];refine⟨λq b=>?_,λo b=>by cases b⟩
   cases b
   rcases bX fs with rfl | ⟨a1,L,rfl⟩
   .exact⟨T.fl,λa1 L b=>by
     have:([]:List eD)=a1++ [L]:=b;simp at this⟩
   .rw [cR]at b6 ⊢
    have ft:∀(d:eD) (R:List fL) (be:LVal) (D:Ok) (B:Nat) (S:LVal),jE ⟨a1++ [L]++ [d],R,be,D,B⟩ S=⟨a1++ [{ L with stk:=L.stk++ [S] }],R,S,D,B⟩:=λd R be D B S=>by
     unfold jE;dsimp only;rw[aQ,bu,aQ]
    rw[ft];rw[dW]at b6;obtain⟨⟨eP,gs,es,A,ab,g3,g4⟩,f0⟩:=b6;refine⟨T.fl,λe1 e0 b=>?_⟩;have ca:a1++ [{ L with stk:=L.stk++ [d] }]=e1++ [e0]:=b;obtain⟨rfl,t⟩:=di ca rfl
    cases t
    exact⟨⟨eP,gs,es,A,ab,g3,g4 d (kt k n u)⟩,f0⟩
  by_cases e5:e=12
  .subst e5;have a8:=X.cls (by omega);have f2:=X.call rfl;obtain⟨d1,N,f3⟩:=fg (show (gC p (ew p c g).args.reverse B).bind (λB=>(fC p (c+3) B).bind (fj f.m (ew p c g).ret))=M w from J);obtain⟨es,O,bh⟩:=fg f3;obtain⟨V,bf,bI,et,d2,t3,t4⟩:=NG k _ N x;obtain⟨D,C,t,u⟩:=oC O;obtain⟨_,F,Y⟩:=mK bh;rw[C]at et;obtain⟨ad,d,rfl,t5,eK⟩:=et.snoc;have gq:=d2.len
   have j:ie p f.m f.loc f.stk 12 c g=K:=by
    rw[bI,a9];exact nt (show gj p (d::bf) ((c+3)::(ew p c g).args) from ⟨kt k eK u,d2⟩) (by omega) (λb=>by cases b)
   obtain⟨I,b⟩:=P j;have ep:f.stk.length-(ew p c g).args.length=(ad++ [d]).length:=(by rw[bI,aw,gq];omega);have gm:f.stk.take (f.stk.length-(ew p c g).args.length)=ad++ [d]:=(by rw[ep,bI,List.take_left]);have f6:f.stk.drop (f.stk.length-(ew p c g).args.length)=bf:=(by rw[ep,bI,List.drop_left]);rw[b,vD];unfold oL;dsimp only;rw[gm,f6,nT,aQ]
   cases aa:d.obj with
   | none =>
    dsimp only;exact⟨λq b=>(by cases b),λo b=>by cases b;simp⟩
   | some R =>
    dsimp only
    split
    .exact⟨λq b=>(by cases b),λo b=>by cases b;simp⟩
    .rw [jQ h];refine⟨λq b=>?_,λo b=>by cases b⟩
     cases b
     have bz:=an.vs d (by rw[bI];simp);obtain⟨v,A,ab⟩:=bz.some aa;have Z:=W.ob.cls v (aB A);have ao:=kt k eK u;rw[ab]at ao;have ar:=s9 ao k Z.1 Z.2 a8.1;obtain⟨gx,g0,g1⟩:=y8 y ar f2;rw[mi A];obtain⟨b9,a4,a5,a6,ac⟩:=ba rfl;refine⟨T.fl,λa1 L b=>?_⟩;have ca:(fs++ [{ f with pc:=f.pc+1,stk:=ad }])++ [⟨ew p v.cls g,0,ju v.cls R::bf++List.replicate ((ew p v.cls g).locals.toNat-(1+bf.length)) eO,[]⟩]=a1++ [L]:=b;obtain⟨rfl,eR⟩:=di ca rfl
     cases eR
     refine⟨?_,?_⟩
     .exact Bn y d9 gx R (by rw[g0];exact d2)
     .rw [dW];refine⟨⟨d4,er,b9,E,a6,a4,λS r=>?_⟩,b6⟩;dsimp only;rw[g1]at r;have d6:nU p f.loc (ad++ [S]) w:=⟨by rw[Y,t,t3];exact ak,by rw[F];exact t5.push r⟩;refine d6.mono k a5 ?_ H
      rcases ac with rfl | ac
      .exact d6.l.1
      .exact ac
  -- the others
  have a3:e≠7/\e≠8/\e≠12/\e≠13/\e≠18:=by omega
  have ha:=X.rq;have hc:=X.op1
  have bo:∀(d:eD) (v:List fL) (d3:LVal) (D:Ok) (d0:Nat),OP (j6 ⟨fs++ [d],v,d3,D,d0⟩ fs.length)=⟨fs++ [{ d with pc:=d.pc+1 }],v,d3,D,d0+1⟩:=λd v d3 D d0=>by
   unfold j6 OP;dsimp only;rw[show (fs++ [d])[fs.length]? =M d by simp];dsimp only;rw[rA]
  obtain⟨b9,a4,a5,a6,ac⟩:=ba (by
   unfold gJ;simp only[aD,dD,beq_eq_false_iff_ne]
   omega)
  by_cases fo:e=9
  .subst fo;obtain⟨g9,F,Y⟩:=mK (show fj f.m (c+3) B=M w from J);have g8:=x.len;have j:ie p f.m f.loc f.stk 9 c g=K:=vd rfl (by omega) (λ_=>by omega);obtain⟨I,b⟩:=P j;rw[b,mw _ _ _ _ _ _ _ a3];have Q:gr p st fs.length f 9 c g=(if st.objs.length=100 then st else rj p st fs.length f c,if st.objs.length=100 then 8 else 0):=rfl;rw[Q];dsimp only
   by_cases G:st.objs.length=100
   .rw [am G,am G,af (by decide)];exact⟨λq b=>(by cases b),λo b=>by cases b;simp⟩
   .rw [af G,af G,am rfl];refine⟨λq b=>?_,λo b=>by cases b⟩
    cases b
    unfold rj;rw[mL h];rw[bo];refine T.go y h E ?_ a4 a6 a5 (s:=w) ⟨by rw[Y];exact ak,by rw[F];exact x.push (kU _ _)⟩ ac H _ _ _;intro R bs a0 S r
    rcases aN.1 bs with bs | bs
    .exact T.fl R bs a0 S r
    .obtain rfl:=aC.1 bs;dsimp only at r ⊢;rw[aU]at r
     have bc:a0<(OE p c).length:=by
      apply Nat.lt_of_not_le
      intro L;rw[cH L]at r
      cases r
     rw[ae bc]at r
     cases r
     have eS:(OE p c)[a0]=gi p c a0:=by
      unfold gi;rw[aK,aj,ae bc];rfl
     rw[eS];exact Cz (zi y bc)
  by_cases e3:e=10
  .subst e3;have a8:=X.cls (by omega);have f9:=X.im (by omega);obtain⟨d1,N,O⟩:=fg (show (fC p (c+3) B).bind (fj f.m (gi p c g))=M w from J);obtain⟨D,C,t,u⟩:=oC N;obtain⟨_,F,Y⟩:=mK O;rw[C]at x;obtain⟨V,d,i,z,n⟩:=x.snoc
   have j:ie p f.m f.loc f.stk 10 c g=K:=by
    rw[i];exact nt (show gj p [d] [c+3] from ⟨kt k n u,trivial⟩) (by omega) (λb=>by cases b)
   obtain⟨I,b⟩:=P j;rw[b,mw _ _ _ _ _ _ _ a3];have Q:gr p st fs.length f 10 c g=ku st fs.length f g:=rfl;rw[Q];unfold ku;rw[show em f.stk=d by rw[i,nT],show f.stk.dropLast=V by rw[i,aQ]];have bz:=an.vs d (by rw[i];simp)
   cases aa:d.obj with
   | none =>
    dsimp only;rw[af (by decide)];exact⟨λq b=>(by cases b),λo b=>by cases b;simp⟩
   | some R =>
    dsimp only;rw[am rfl];refine⟨λq b=>?_,λo b=>by cases b⟩
    cases b
    rw[mL h,bo];obtain⟨v,A,ab⟩:=bz.some aa;have Z:=W.ob.cls v (aB A);have ao:=kt k n u;rw[ab]at ao;have ar:=s9 ao k Z.1 Z.2 a8.1;have cg:g.toNat<(OE p c).length:=(by omega);have ci:=Cg k ar cg
    have ej:g.toNat<v.fO.length:=by
     rw[W.ob.fl v (aB A)];have:=(uD k ar).length_le;omega
    refine T.go y h E T.fl a4 a6 a5 (s:=w) ⟨by rw[Y,t];exact ak,?_⟩ ac H _ _ _;dsimp only;rw[F];refine z.push ?_;rw[mi A,aj,ae ej,<-ci];have:=T.fl v (aB A) g.toNat _ (ae ej);rw[show ((g.toNat:Nat):Int)=g by omega]at this;exact this
  by_cases e4:e=11
  .subst e4;have a8:=X.cls (by omega);have f9:=X.im (by omega);obtain⟨d1,N,O⟩:=fg (show (fC p (gi p c g) B).bind (fC p (c+3))=M w from J);obtain⟨D,C,t,u⟩:=oC N;obtain⟨hf,F,Y,ec⟩:=oC O;rw[C,F]at x;obtain⟨V,d,i,z,n⟩:=x.snoc;obtain⟨bf,ad,rfl,bk,bn⟩:=z.snoc
   have j:ie p f.m f.loc f.stk 11 c g=K:=by
    rw[i,a9];exact nt (show gj p [ad,d] [c+3,gi p c g] from ⟨kt k bn ec,kt k n u,trivial⟩) (by omega) (λb=>by cases b)
   obtain⟨I,b⟩:=P j;rw[b,mw _ _ _ _ _ _ _ a3];have Q:gr p st fs.length f 11 c g=kz st fs.length f g:=rfl;rw[Q];unfold kz;rw[show em f.stk=d by rw[i,nT],show f.stk.dropLast=bf++ [ad] by rw[i,aQ],nT,aQ];have bz:=an.vs ad (by rw[i];simp)
   cases aa:ad.obj with
   | none =>
    dsimp only;rw[af (by decide)];exact⟨λq b=>(by cases b),λo b=>by cases b;simp⟩
   | some R =>
    dsimp only;rw[am rfl];refine⟨λq b=>?_,λo b=>by cases b⟩
    cases b
    rw[mL h,bo];obtain⟨v,A,ab⟩:=bz.some aa;have Z:=W.ob.cls v (aB A);have ao:=kt k bn ec;rw[ab]at ao;have ar:=s9 ao k Z.1 Z.2 a8.1;have cg:g.toNat<(OE p c).length:=(by omega);have ci:=Cg k ar cg;refine T.go y h E ?_ a4 a6 a5 (s:=w) ⟨by rw[Y,t];exact ak,bk⟩ ac H _ _ _;intro g2 cm a0 S r
    rcases bE cm with cm | rfl
    .exact T.fl g2 cm a0 S r
    .dsimp only at r ⊢;rw[mi A]at r ⊢
     by_cases bc:a0=g.toNat
     .subst bc;have ei:=(ag.1 r).1;rw[aO]at ei;rw[aA ei]at r
      cases r
      rw[show ((g.toNat:Nat):Int)=g by omega,ci];exact kt k n u
     .rw [ah (λe2=>bc e2.symm)]at r;exact T.fl v (aB A) a0 S r
  by_cases e7:e=17
  .subst e7;have a8:=X.cls (by omega);obtain⟨d1,N,O⟩:=fg (show (iU B).bind (fj f.m (c+3))=M w from J);obtain⟨D,C,t,u⟩:=x8 N;obtain⟨_,F,Y⟩:=mK O;rw[C]at x;obtain⟨V,d,i,z,n⟩:=x.snoc;have hx:=an.vs d (by rw[i];simp)
   have bk:eF p d.kind 3=K:=by
    have cp:=hx.ty W.ob;rw[kJ]at n ⊢
    by_cases cs:d.kind=1
    .exact .inr (.inr ⟨by omega,.inl cs⟩)
    .have cu:3<=d.kind:=(by omega);exact .inr (.inr ⟨by omega,.inr ⟨cu,zb k (by omega) (by have:=cp.2;omega)⟩⟩)
   have j:ie p f.m f.loc f.stk 17 c g=K:=by
    rw[i];exact nt (show gj p [d] [3] from ⟨bk,trivial⟩) (by omega) (λb=>by cases b)
   obtain⟨I,b⟩:=P j;rw[b,mw _ _ _ _ _ _ _ a3];have Q:gr p st fs.length f 17 c g=(st,mI p st f c):=rfl;rw[Q];dsimp only
   split
   .rename_i G;refine⟨λq b=>?_,λo b=>by cases b⟩
    cases b
    have cn:st=⟨fs++ [f],st.objs,st.told,st.out,st.steps⟩:=by
     cases st
     dsimp only at h ⊢;rw[h]
    rw[show j6 st fs.length=j6 ⟨fs++ [f],st.objs,st.told,st.out,st.steps⟩ fs.length by rw[<-cn],bo];refine T.go y h E T.fl a4 a6 a5 (s:=w) ⟨by rw[Y,t];exact ak,?_⟩ ac H _ _ _;rw[F,i];refine z.push ?_;unfold mI at G;rw[show em f.stk=d by rw[i,nT]]at G
    cases aa:d.obj with
    | none =>
     have:=KQ hx n u aa;rw[kJ]
     right;right
     exact⟨by omega,.inl this⟩
    | some R =>
     rw[aa]at G;dsimp only at G;obtain⟨v,A,ab⟩:=hx.some aa;rw[mi A]at G
     split at G
     .rename_i ar;have Z:=W.ob.cls v (aB A);rw[kJ,ab]
      right;right
      exact⟨by omega,.inr ⟨by omega,by simpa using ar⟩⟩
     .cases G
   .rename_i G;refine⟨λq b=>(by cases b),λo b=>?_⟩
    cases b
    dsimp only;unfold mI
    split
    .decide
    .split <;> decide
  have fa:e=19:=by omega
  subst fa;obtain⟨D,C,t,u⟩:=oC (show fC p 0 B=M w from J);rw[C]at x;obtain⟨V,d,i,z,n⟩:=x.snoc
  have j:ie p f.m f.loc f.stk 19 c g=K:=by
   rw[i];exact nt (show gj p [d] [0] from ⟨kt k n u,trivial⟩) (by omega) (λb=>by cases b)
  obtain⟨I,b⟩:=P j;rw[b,mw _ _ _ _ _ _ _ a3];have Q:gr p st fs.length f 19 c g=(pE st fs.length f,0):=rfl;rw[Q,am rfl];refine⟨λq b=>?_,λo b=>by cases b⟩
  cases b
  unfold pE;rw[mL h,bo];refine T.go y h E T.fl a4 a6 a5 (s:=w) ⟨by rw[t];exact ak,?_⟩ ac H _ _ _;rw[show f.stk.dropLast=V by rw[i,aQ]];exact z
theorem EG (c:fi p=0)(e:eM p<=4194304)(d:fuel<=5000)(i:uo p):∀(g:Nat) (st:eJ) (a:eJ×Int),Inv p fuel st->pq p st->runM p fuel g st=M a->a.2≠5
 | 0, _, _, _, _, h => by cases h
 | g + 1, st, a, f, T, h => by
  have j:=M9 c e d i f T;unfold runM at h
  cases b:OQ p fuel st with
  | inr k => grind
  | inl k =>
   rw[b]at h;exact EG c e d i g k a (f.step c e d b) (j.1 _ b) h
theorem pq.start(l:fi p=0)(q:uo p){a d e}(s:(fy p a d).isSome=K)(t:(ew p a d).args.length=e.length)(r:∀c∈(ew p a d).args,c=0):pq p (ny p a d e):=by
 refine⟨λx u j x h=>?_,λo n m=>?_⟩
 .obtain rfl:=aC.1 u;dsimp only at h ⊢;rw[aU]at h;have b:j<(OE p a).length:=by grind
  rw[ae b]at h
  cases h
  have g:(OE p a)[j]=gi p a j:=by grind [gi]
  rw[g];exact Cz (zi l b)
 .have w:∀(i:List Int) (b:List Int),b.length=i.length->(∀c∈b,c=0)->gj p (i.map gt) b:=by
   intro i
   induction i with
   | nil => intro b g _; match b, g with | [], _ => exact trivial
   | cons h h v =>
    intro b g k
    match b,g with
    | c :: b, g => exact ⟨by rw[k c (by simp)]; exact kU _ _, v b (by simpa using g) (λc a => k c (by simp[a]))⟩
  have g: []++ [⟨ew p a d,0,ju a 0::e.map gt++List.replicate ((ew p a d).locals.toNat-(1+(e.map gt).length)) eO,[]⟩]=o++ [n]:=m;obtain⟨rfl,k⟩:=di g rfl
  cases k
  exact⟨Bn l q s 0 (w e _ t r),trivial⟩
theorem xR{e}(a:OQ p fuel st= .inr e):(1<=e.2/\e.2<=8)/\e.1.steps=st.steps/\e.1.out=st.out/\(e.2=6->(e.1.steps:Int)=fuel):=by
 cases l:st.frames.getLast? with
 | none => grind [OQ]
 | some f =>
  by_cases x:gg p fuel st.steps f=0
  .obtain⟨fs,A,w,z⟩:=uJ l;obtain⟨b,g,h,v⟩:∃b g h,ey f.m f.pc=⟨b,g,h⟩:=⟨_,_,_,rfl⟩;rw[ud l x w v]at a;unfold lu at a
   by_cases s:b=7
   .grind
   rw[af s]at a
   by_cases t:b=8
   .grind
   rw[af t]at a
   by_cases q:b=18
   .grind
   rw[af q]at a
   by_cases k:b=12
   .rw [am k]at a;unfold oL at a;dsimp only at a
    split at a
    .cases a
     exact⟨by simp,rfl,rfl,λd=>by simp at d⟩
    split at a
    .cases a
     exact⟨by simp,rfl,rfl,λd=>by simp at d⟩
    .cases a
   rw[af k]at a
   by_cases n:b=13
   .grind
   rw[af n]at a
   split at a
   .cases a
   .rename_i c
    cases a
    unfold gr at c ⊢
    by_cases r:b=6
    .grind
    rw[af r]at c ⊢
    by_cases u:b=9
    .grind
    rw[af u]at c ⊢
    by_cases i:b=10
    .rw [am i]at c ⊢;unfold ku at c ⊢
     split
     .exact⟨by simp,rfl,rfl,λd=>by simp at d⟩
     .grind
    rw[af i]at c ⊢
    by_cases j:b=11
    .rw [am j]at c ⊢;unfold kz at c ⊢
     split
     .exact⟨by simp,rfl,rfl,λd=>by simp at d⟩
     .grind
    rw[af j]at c ⊢
    by_cases o:b=17
    .grind [mI]
    rw[af o]at c ⊢
    by_cases y:b=19
    .grind
    .grind
  .grind [gg,OQ]
theorem Inv.last (d:fi p=0)(g:eM p<=4194304)(e:fuel<=5000):∀(c:Nat) (st:eJ) (a:eJ×Int),Inv p fuel st->runM p fuel c st=M a->(a.1.steps:Int)<=fuel
 | 0, _, _, _, h => by cases h
 | c + 1, st, a, f, h => by
  unfold runM at h
  cases b:OQ p fuel st with
  | inr i =>
   rw[b]at h
   cases h
   rw[(xR b).2.1];exact f.jt
  | inl i =>
   rw[b]at h;exact Inv.last d g e c i a (f.step d g e b) h
end
theorem uf(p b):∀(c:Ol),(rF p b c=2/\∀a∈c,eF p b ((a:Int)+3)=F)\/∃(f:Ol) (a:Nat) (g:Ol),c=f++a::g/\rF p b c=(a:Int)+3/\eF p b ((a:Int)+3)=K/\∀e∈f,eF p b ((e:Int)+3)=F
 | [] => .inl ⟨rfl, λa d => by cases d⟩
 | a :: c => by
  cases d:eF p b ((a:Int)+3) with
  | true => exact .inr ⟨[], a, c, rfl, Nx d, d, λe a => by cases a⟩
  | false =>
   rcases uf p b c with ⟨a,h⟩ | ⟨f,e,g,rfl,h,a,a⟩
   .grind [Fj]
   .grind [Fj]
theorem y9{p a}{b:Nat}:fD p a b=K↔b∈OD p a:=by grind [fD]
theorem Gw{p}(j:ez p p.length):∀(a:Nat) (c:Ol) (b:Nat) (d:Ol),OD p (a:Int)=c++b::d->∀e∈b::d,fD p (b:Int) (e:Int)=K:=by
 intro a
 induction a using Nat.strongRecOn with
 | ind a ih =>
  intro c b d g e b
  cases hx:p[a]? with
  | none => simp_all[OC, OD]
  | some k =>
   have i:=(ag.1 hx).1;have l:=sd p j i hx
   cases c with
   | nil => grind [y9]
   | cons b c =>
    rw[l,cB]at g
    injection g with b h
    have:=my (j a k i hx)
    rcases bV k.sup 0 with f | f
    .rw [ti p f]at h;simp at h
    .grind [Int.eq_ofNat_of_zero_le]
theorem zE{p}(a b):eF p a (gZ p a b)=K:=by grind [OD,gZ,kJ,nG,y9,uf]
theorem zF{p}(b a):eF p a (gZ p b a)=K:=by grind [OD,gZ,kU,nG,uf]
theorem zA{p}(g:ez p p.length){a c b}(e:eF p a b=K)(f:eF p c b=K)(d:3<=a->a-3<(p.length:Int)):eF p (gZ p a c) b=K:=by grind [OD,fD,gZ,kJ,nG,Gw,za,uf]
def rank (p:On)(t:Int):Nat:=if t=2 then 0 else if t=1 then 20 else if 3<=t then 1+(OD p (t-3)).length else 1
theorem BD(p)(d:ez p p.length):∀a:Nat,(OD p (a:Int)).length<=a+1:=by
 intro a
 induction a using Nat.strongRecOn with
 | ind a ih =>
  cases hx:p[a]? with
  | none =>
   have:OD p (a:Int)= []:=by
    unfold OD OC;rw[af (by omega),aK,hx]
   rw[this];simp
  | some e =>
   have c:=(ag.1 hx).1;rw[sd p d c hx,bA];have f:=my (d a e c hx)
   rcases bV e.sup 0 with b | b
   .rw [ti p b];simp
   .obtain⟨c,a⟩:=ax b;rw[a];have:=ih c (by omega);omega
theorem LN{p}(g:ez p p.length)(f:p.length<=6)(a):rank p a<=20:=by
 unfold rank
 split
 .omega
 split
 .omega
 split
 .rename_i e;obtain⟨d,c⟩:=ax (show 0<=a-3 by omega);rw[c]
  rcases bt d p.length with b | b
  .grind [BD]
  .grind [OC,OD]
 .omega
theorem LM{p}(d:ez p p.length){a b}(e:fD p a b=K)(h:a≠b):(OD p b).length<(OD p a).length:=by
 have g:a=b\/(OD p b).length<(OD p a).length:=by
  refine wE d (λa=>a=b\/(OD p b).length<(OD p a).length) (λb h _ c=>.inl c) (λb h hx _ f=>?_) a e
  right
  rw[sd p d (ag.1 hx).1 hx,bA]
  rcases f with c | c
  .grind
  .omega
 rcases g with c | c
 .omega
 .exact c
theorem rx{p}(i:ez p p.length)(l:p.length<=6){b a}(c:eF p b a=K):rank p a<=rank p b/\(b≠a->rank p a<rank p b):=by
 by_cases l:b=a
 .grind
 have k:rank p a<rank p b:=by
  rw[kJ]at c
  rcases c with c | rfl | ⟨f,d⟩
  .omega
  .grind [rank]
  .rcases d with rfl | ⟨d,j⟩
   .have h:rank p a=1+(OD p (a-3)).length:=by
     unfold rank;rw[af (by omega),af (by omega),am f]
    have g:rank p 1=20:=rfl;rw[h,g];obtain⟨e,l⟩:=ax (show 0<=a-3 by omega);rw[l]
    rcases bt e p.length with c | c
    .have:=BD p i e;omega
    .have:OD p (e:Int)= []:=by
      unfold OD OC;rw[af (by omega),aK,cH c]
     rw[this];simp
   .have h:rank p a=1+(OD p (a-3)).length:=by
     unfold rank;rw[af (by omega),af (by omega),am f]
    have g:rank p b=1+(OD p (b-3)).length:=by
     unfold rank;rw[af (by omega),af (by omega),am d]
    have:=LM i j (by omega);omega
 exact⟨by omega,λ_=>k⟩
end Go.Proofs.YtiiokkllmchohaaGreat
