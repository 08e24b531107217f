/- The machine that asks: look. -/
import Derived.Test.YtiiokkllmchohaaGreatT24
set_option maxHeartbeats 0
set_option maxRecDepth 99999
namespace Go.Proofs.YtiiokkllmchohaaGreat
open Go.Value renaming int->J,slice->O,pointer->zP,bool->zB
open Go.IntKind renaming i64->I
open Option renaming none->U,some->M
open Bool renaming true->K,false->F
open Go.Ending renaming returned->zR
open Go.Obj renaming cells->zC
open Go.RowKit Go.Shelf
section
attribute [local go_sem ↓] Go.wp_at_zero Go.wp_at_succ
attribute [local go_sem] eZ
def gg (p:On)(fuel:Int)(steps:Nat)(f:eD):Int:=
 if f.pc=f.m.code.length then 5 else if (steps:Int)=fuel then 6 else if ie p f.m f.loc f.stk (ey f.m f.pc).op (ey f.m f.pc).a (ey f.m f.pc).b then 0 else 5
structure yl (p:On)(f:eD):Prop where
 ins:∀i∈f.m.code,eU p f.m i=K
 c40:f.m.code.length<=40
 pc:f.pc<=f.m.code.length
 want:∀i∈f.m.code,∀t∈gN p f.m.ret i.op i.a i.b,fz p.length t
 NJ:∀i∈f.m.code,(gN p f.m.ret i.op i.a i.b).length<=4194304
 JG:∀v∈f.stk,fz p.length v.kind
 slen:f.stk.length<=4194303
 llen:f.loc.length<=4194304
 loc:f.m.locals=(f.loc.length:Int)
def yr (r:Int)(w w':World)(e:Ending):Prop:=e=zR (J I r)/\Below w.heap.size w w'
theorem Ke(p T V q ρ i h f Z ak a8 b8 ba)(v:fE V q ρ i T h K f Z ak a8 b8 ba)(a4:Good p)(br:eQ V T p)(bf:∀j s,(fy p j s).isSome=K->0<=j->j<(p.length:Int)->(ew p j s).args.length<=4194303)(S:Nat)(A x)(bo:f.frames[S]? =M A)(hx:ak[S]? =M x)(u:yl p A):
  Calls Tryz.prog 169 #[zP (M ⟨i,0,U⟩),zP (M ⟨x.fb,0,U⟩)] q λao e=>yr (gg p h f.steps A) q e ao:=by
 have aa:=v.fr S A x bo hx;obtain⟨g,S,b7,b9⟩:=x;obtain⟨d,c,n,o⟩:=A;obtain⟨b5,A,b6,rfl,ar⟩:=aa.mt;have C:=aa.fr;dsimp only at C ar;obtain⟨A,bI,A⟩:=ar;obtain⟨an,k,l,z,rfl,A,bh,bk⟩:=eN bI;have a2:=v.eH.c1;have B:=v.eH.c2;have a3:=v.eH.c9;have bM:=v.eH.c0;have w:=C.blk.c5;have y:q.cell? ⟨g,7,U⟩=M (J I (c:Int)):=C.c7.1;have bs:=u.pc;have bc:=u.c40;dsimp only at bs bc;have a5:=Ou C;have ab:=Ou v
 by_cases Q:c=d.code.length
 .have r:Hid (gg p h f.steps ⟨d,c,n,o⟩=5):=am Q;have bn:((c:Int) == (d.code.length:Int))=K:=beq_iff_eq.2 (by omega);go_in
  go_wp2;refine fk (λe=>e.cell? ⟨i,2,U⟩=M (zB K)/\e.cell? ⟨g,5,U⟩=M (O an d.code.length z)/\e.cell? ⟨g,7,U⟩=M (J I (c:Int))) ⟨B,w,y⟩ λhHeld=>?_;refine dZ 5 0 ?_;refine dZ 6 1 ?_;refine dZ 7 2 ?_;refine dZ 8 3 ?_;refine dZ 9 4 ?_;refine dZ 10 5 ?_;refine dZ 11 6 ?_;refine dZ 12 7 ?_;refine dZ 13 8 ?_;refine dZ 14 9 ?_;refine dZ 15 10 ?_;refine dZ 16 11 ?_;refine dZ 17 12 ?_;refine dZ 18 13 ?_;refine dZ 19 14 ?_;refine dZ 20 15 ?_;refine dZ 21 16 ?_;refine eV ?_;go_wp2;go_ret;rw[ea r];exact⟨rfl,(ay _ _).drew⟩
 .have bn:((c:Int) == (d.code.length:Int))=F:=beq_eq_false_iff_ne.2 (by omega);have D:c<d.code.length:=by omega
  by_cases E:(f.steps:Int)=h
  .have r:Hid (gg p h f.steps ⟨d,c,n,o⟩=6):=by
    show _=_
    unfold gg;rw[af Q,am E]
   have bz:((f.steps:Int) == h)=K:=(by simpa using E);go_in
   go_wp2;refine fk (λe=>e.cell? ⟨i,2,U⟩=M (zB K)/\e.cell? ⟨g,5,U⟩=M (O an d.code.length z)/\e.cell? ⟨g,7,U⟩=M (J I (c:Int))) ⟨B,w,y⟩ λhHeld=>?_;refine dZ 5 0 ?_;refine dZ 6 1 ?_;refine dZ 7 2 ?_;refine dZ 8 3 ?_;refine dZ 9 4 ?_;refine dZ 10 5 ?_;refine dZ 11 6 ?_;refine dZ 12 7 ?_;refine dZ 13 8 ?_;refine dZ 14 9 ?_;refine dZ 15 10 ?_;refine dZ 16 11 ?_;refine dZ 17 12 ?_;refine dZ 18 13 ?_;refine dZ 19 14 ?_;refine dZ 20 15 ?_;refine dZ 21 16 ?_;refine eV ?_;go_wp2;refine fk (λe=>e.cell? ⟨i,9,U⟩=M (J I (f.steps:Int))/\e.cell? ⟨i,1,U⟩=M (J I h)) ⟨a3,a2⟩ λhHeld=>?_;refine dZ 22 0 ?_;refine dZ 23 1 ?_;refine dZ 24 2 ?_;refine dZ 25 3 ?_;refine dZ 26 4 ?_;refine dZ 27 5 ?_;refine dZ 28 6 ?_;refine dZ 29 7 ?_;refine dZ 30 8 ?_;refine eV ?_;go_wp2;go_ret;rw[ea r];exact⟨rfl,(ay _ _).drew.drew⟩
  .have bz:((f.steps:Int) == h)=F:=(by simpa using E);obtain rfl:=bh (eW D);obtain⟨ca,cb,cc⟩:=bk c D;have R:d.code[c]∈d.code:=av D;have be:ey d c=d.code[c]:=(by unfold ey;rw[ae D];rfl)
   have r:Hid (gg p h f.steps ⟨d,c,n,o⟩=if ie p d n o (d.code[c]).op (d.code[c]).a (d.code[c]).b then 0 else 5):=by
    show _=_
    unfold gg;rw[af Q,af E];dsimp only;rw[be]
   have ad:=kM (p:=p) (m:=d) (op:=(d.code[c]).op) (a:=(d.code[c]).a) (b:=(d.code[c]).b) (u.ins _ R);have H:=u.want _ R;have G:=u.NJ _ R;dsimp only at H G;have v:=Oq ab.bel;have W:=v _ _ ca;have X:=v _ _ cb;have Y:=v _ _ cc;have a6:=Ou (aq H (aq G u));generalize d.code[c]=ins at *;obtain⟨L,j,s⟩:=ins;dsimp only at W X Y ad r;have:=fp c;have:(c:Int)<(d.code.length:Int):=(by omega);go_in
   go_wp2;refine fk (λe=>e.cell? ⟨i,2,U⟩=M (zB K)/\e.cell? ⟨g,5,U⟩=M (O (M ⟨k,l,U⟩) d.code.length z)/\e.cell? ⟨g,7,U⟩=M (J I (c:Int))) ⟨B,w,y⟩ λhHeld=>?_;refine dZ 5 0 ?_;refine dZ 6 1 ?_;refine dZ 7 2 ?_;refine dZ 8 3 ?_;refine dZ 9 4 ?_;refine dZ 10 5 ?_;refine dZ 11 6 ?_;refine dZ 12 7 ?_;refine dZ 13 8 ?_;refine dZ 14 9 ?_;refine dZ 15 10 ?_;refine dZ 16 11 ?_;refine dZ 17 12 ?_;refine dZ 18 13 ?_;refine dZ 19 14 ?_;refine dZ 20 15 ?_;refine dZ 21 16 ?_;refine eV ?_;go_wp2;refine fk (λe=>e.cell? ⟨i,9,U⟩=M (J I (f.steps:Int))/\e.cell? ⟨i,1,U⟩=M (J I h)) ⟨a3,a2⟩ λhHeld=>?_;refine dZ 22 0 ?_;refine dZ 23 1 ?_;refine dZ 24 2 ?_;refine dZ 25 3 ?_;refine dZ 26 4 ?_;refine dZ 27 5 ?_;refine dZ 28 6 ?_;refine dZ 29 7 ?_;refine dZ 30 8 ?_;refine eV ?_;go_wp2;refine fk (λe=>e.cell? ⟨i,2,U⟩=M (zB K)/\e.cell? ⟨g,5,U⟩=M (O (M ⟨k,l,U⟩) d.code.length z)/\e.cell? ⟨g,7,U⟩=M (J I (c:Int))/\e.cell? ⟨k,l+c*3,U⟩=M (J I L)/\e.cell? ⟨k,l+c*3+1,U⟩=M (J I j)/\e.cell? ⟨k,l+c*3+2,U⟩=M (J I s)) ⟨B,w,y,W,X,Y⟩ λhHeld=>?_;refine dZ 31 0 ?_;refine dZ 32 1 ?_;refine dZ 33 2 ?_;refine dZ 34 3 ?_;refine dZ 35 4 ?_;refine dZ 36 5 ?_;refine dZ 37 6 ?_;refine dZ 38 7 ?_;refine dZ 39 8 ?_;refine dZ 40 9 ?_;refine dZ 41 10 ?_;refine dZ 42 11 ?_;refine dZ 43 12 ?_;refine dZ 44 13 ?_;refine dZ 45 14 ?_;refine dZ 46 15 ?_;refine dZ 47 16 ?_;refine dZ 48 17 ?_;refine el 18 (λe a0=>?_);go_simp;obtain⟨H,G,e⟩:=a6;refine(Kd p T V _ i g Z d b5 _ b6 (c:Int) b7 n b9 o L j s (a5.below (ay q.heap.size q).drew.drew.drew (ai _)) ad a4 br ab.bel.drew.drew.drew bM bf H G e.JG (ap e.slen (by omega)) e.llen e.loc).mono ?_;rintro ao t ⟨rfl,e⟩;have P:Below q.heap.size q t:=⟨e.os,e.tape,e.output,e.size,e.block⟩;have e:=Oq P;have ac:=Ou (show t.cell? ⟨i,2,U⟩=M (zB K)/\t.cell? ⟨g,5,U⟩=M (O (M ⟨k,l,U⟩) d.code.length z)/\t.cell? ⟨g,7,U⟩=M (J I (c:Int))/\t.cell? ⟨k,l+c*3,U⟩=M (J I L)/\t.cell? ⟨k,l+c*3+1,U⟩=M (J I j)/\t.cell? ⟨k,l+c*3+2,U⟩=M (J I s) from ⟨e _ _ B,e _ _ w,e _ _ y,e _ _ W,e _ _ X,e _ _ Y⟩)
   cases a1:ie p d n o L j s with
   | true =>
    have N:Hid (gg p h f.steps ⟨d,c,n,o⟩=0):=by
     show _=_
     rw[ea r,a1];rfl
    go_wp2_with fail;refine a0.out _ _ ac λhHeld=>?_;refine dZ 50 19 ?_;refine dZ 51 20 ?_;refine eV ?_;go_wp2;go_ret;rw[ea N];exact⟨rfl,P⟩
   | false =>
    have N:Hid (gg p h f.steps ⟨d,c,n,o⟩=5):=by
     show _=_
     rw[ea r,a1];rfl
    go_wp2_with fail;refine a0.out _ _ ac λhHeld=>?_;refine dZ 50 19 ?_;refine dZ 51 20 ?_;refine eV ?_;go_wp2;go_ret;rw[ea N];exact⟨rfl,P⟩
def em (l:List LVal):LVal:=l.getLast?.getD eO
theorem lM{l}(a:1<=l.length):l=l.dropLast++ [em l]:=by
 obtain⟨a,a,rfl⟩:=pM (l:=l) (by omega);unfold em;rw[aQ,bu];rfl
theorem nT(a x):em (a++ [x])=x:=by
 unfold em;rw[bu];rfl
def gG (op a:Int)(loc stk:List LVal):List LVal×List LVal:=
 if op=0 then (loc,stk++ [gt a])
 else if op=16 then (loc,stk++ [rm])
 else if op=1 then (loc,stk++ [loc.getD a.toNat eO])
 else if op=2 then (loc.set a.toNat (em stk),stk.dropLast)
 else if op=14 then (loc,stk.dropLast)
 else if op=15 then (loc,stk.dropLast++ [em stk]++ [em stk])
 else if op=20 then (loc,stk.dropLast.dropLast++ [em stk]++ [em stk.dropLast])
 else if op=3 then (loc,stk.dropLast.dropLast++ [gt (wrap64 ((em stk.dropLast).num+(em stk).num))])
 else if op=4 then (loc,stk.dropLast.dropLast++ [gt (wrap64 ((em stk.dropLast).num-(em stk).num))])
 else if op=5 then (loc,stk.dropLast.dropLast++ [gt (wrap64 ((em stk.dropLast).num*(em stk).num))])
 else (loc,stk.dropLast.dropLast++ [gt (wrap64 (Int.tdiv (em stk.dropLast).num (em stk).num))])
structure pp (op:Int)(stk:List LVal):Prop where
 s1:(op=2\/op=14\/op=15\/op=8\/op=18\/op=10\/op=17\/op=19\/op=13)->1<=stk.length
 s2:(op=3\/op=4\/op=5\/op=6\/op=20\/op=11)->2<=stk.length
theorem Dt(p z i k j n o q c r a e d m h)(b:gL h i k j n o q c r a)(t:i<=h.heap.size)(x:lP p z e d m)(u:pp e a)(G:z.locals=(c.length:Int))(H:a.length<4194303)(y:c.length<=4194304)(D:e=0\/e=16\/e=1\/e=2\/e=14\/e=15\/e=20\/e=3\/e=4\/e=5\/(e=6/\(em a).num≠0)):
  Calls Tryz.prog 215 #[zP (M ⟨j,0,U⟩),.agg #[J I e,J I d,J I m]] h λC F=>lS i k j n o q r (gG e d c a).1 (gG e d c a).2 h F C:=by
 have w:1<=a.length->a=a.dropLast++ [em a]:=lM
 have v:2<=a.length->a=a.dropLast.dropLast++ [em a.dropLast]++ [em a]:=λb=>by
  have e:=lM (l:=a.dropLast) (by rw[aI];omega);rw[<-e];exact lM (by omega)
 have e:a.dropLast.length=a.length-1:=aI;have:a.dropLast.dropLast.length=a.length-1-1:=by rw[aI,e]
 rcases D with rfl | rfl | rfl | rfl | rfl | rfl | rfl | rfl | rfl | rfl | ⟨rfl,E⟩
 .exact KD i k j n o q c r a d m h b t (by omega)
 .exact KC i k j n o q c r a d m h b t (by omega)
 .obtain⟨A,B⟩:=x.loc (.inl rfl);obtain⟨s,rfl⟩:∃s:Nat,d=(s:Int):=⟨d.toNat,by omega⟩;have e:s<c.length:=by omega
  have hx:c[s]? =M (c.getD (s:Int).toNat eO):=by
   rw[aK,aj,ae e];rfl
  exact KA i k j n o q c r a m h s _ hx b t (by omega) y
 .obtain⟨A,B⟩:=x.loc (.inr rfl);obtain⟨s,rfl⟩:∃s:Nat,d=(s:Int):=⟨d.toNat,by omega⟩;have f:=u.s1 (by omega);have g:=w f;rw[g]at b;exact KJ i k j n o q c r a.dropLast m h s (em a) (by omega) b (by omega) y
 .have f:=u.s1 (by omega);have g:=w f;rw[g]at b;exact KE i k j n o q c r a.dropLast d m h (em a) b (by omega)
 .have f:=u.s1 (by omega);have g:=w f;rw[g]at b;exact Kz i k j n o q c r a.dropLast d m h (em a) b t (by omega)
 .have f:=u.s2 (by omega);have g:=v f;rw[g]at b;exact KM i k j n o q c r a.dropLast.dropLast d m h (em a.dropLast) (em a) b t (by omega)
 .have f:=u.s2 (by omega);have g:=v f;rw[g]at b;exact Ky i k j n o q c r a.dropLast.dropLast d m h (em a.dropLast) (em a) b t (by omega)
 .have f:=u.s2 (by omega);have g:=v f;rw[g]at b;exact KL i k j n o q c r a.dropLast.dropLast d m h (em a.dropLast) (em a) b t (by omega)
 .have f:=u.s2 (by omega);have g:=v f;rw[g]at b;exact KB i k j n o q c r a.dropLast.dropLast d m h (em a.dropLast) (em a) b t (by omega)
 .have f:=u.s2 (by omega);have g:=v f;rw[g]at b;exact KH i k j n o q c r a.dropLast.dropLast d m h (em a.dropLast) (em a) E b t (by omega)
theorem ze{α :Type}{a:List α}{x}(b:x∈a.dropLast):x∈a:=cj a b
theorem pd{b a}(d:∀f∈a,okV b f):okV b (em a):=by
 unfold em
 cases c:a.getLast? with
 | none => intro a e; cases e
 | some a => exact d a (cU c)
theorem xe(a b):okV a (gt b):=λb a=>by cases a
theorem DG{c op a j h}(e:∀b∈j,okV c b)(g:∀b∈h,okV c b):(∀b∈(gG op a j h).1,okV c b)/\∀b∈(gG op a j h).2,okV c b:=by
 have i:∀b∈h.dropLast,okV c b:=λb d=>g b (ze d);have n:∀b∈h.dropLast.dropLast,okV c b:=λb d=>i b (ze d)
 have f:∀(e:List LVal) (k:LVal),(∀b∈e,okV c b)->okV c k->∀b∈e++ [k],okV c b:=λe k c f b d=>by
  rcases aN.1 d with d | d
  .exact c b d
  .rw [aC.1 d];exact f
 generalize m:gG op a j h=q;unfold gG at m
 repeat' split at m
 all_goals subst m
 all_goals first
  | exact ⟨e, f _ _ g (xe c _)⟩
  | exact ⟨e, f _ _ g (λp l => by cases l)⟩
  | exact ⟨e, f _ _ g (by
    rw[aj]
    cases o:j[a.toNat]? with
    | none => intro p l; cases l
    | some k => exact e k (aB o))⟩
  | exact ⟨λb d => by
    rcases bE d with l | rfl
    .exact e b l
    .exact pd g,i⟩
  | exact ⟨e, i⟩
  | exact ⟨e, f _ _ (f _ _ i (pd g)) (pd g)⟩
  | exact ⟨e, f _ _ (f _ _ n (pd g)) (pd i)⟩
  | exact ⟨e, f _ _ n (xe c _)⟩
end
section
attribute [local go_sem ↓] Go.wp_at_zero Go.wp_at_succ
attribute [local go_sem] eZ
attribute [local go_sem] qY qZ
def jB (i fb:Nat)(w0:World)(mb:Nat)(vp:Value)(fuel:Int)(ask:Bool)(st:eJ)(k:Int)(w':World)(e:Ending):Prop:=e=zR (J I k)/\∃A ρ X Y vr eE,(X[i]?).map gv.fb=M fb/\fE w0 w' ρ mb vp fuel ask st A X Y vr eE
theorem mZ{X:List gv}{i:Nat}{x}(hx:X[i]? =M x):(X[i]?).map gv.fb=M x.fb:=by rw[hx];rfl
theorem m7{X:List gv}{i x}(hx:X[i]? =M x)(c):((X.set i { x with vs:=c })[i]?).map gv.fb=M x.fb:=by
 rw[aA (ag.1 hx).1];rfl
theorem m8{X:List gv}{i x}(hx:X[i]? =M x)(c d):(((X.set i { x with vs:=c }).set i { x with vs:=d })[i]?).map gv.fb=M x.fb:=by
 rw[db,aA (ag.1 hx).1];rfl
def fP (st:eJ)(i:Nat)(f:eD)(loc stk:List LVal):eJ:= { st with frames:=st.frames.set i { f with loc:=loc,stk:=stk } }
section
variable (p : List eb) (vp : Value) (w0 w : World) (ρ : Nat -> Nat × Nat) (mb : Nat) (fuel : Int) (ask : Bool) (st : eJ) (A : List Nat) (X : List gv) (Y : List Value) (vr eE : Value) (i : Nat) (f : eD) (x : gv) (op a b : Int)
theorem H8 (n:fE w0 w ρ mb vp fuel ask st A X Y vr eE)(g:st.frames[i]? =M f)(hx:X[i]? =M x)(k:lP p f.m op a b)(l:pp op f.stk)(t:f.m.locals=(f.loc.length:Int))(v:f.stk.length<4194303)(s:f.loc.length<=4194304)(u:op=0\/op=16\/op=1\/op=2\/op=14\/op=15\/op=20\/op=3\/op=4\/op=5) :
  Calls Tryz.prog 173 #[zP (M ⟨mb,0,U⟩),zP (M ⟨x.fb,0,U⟩),.agg #[J I op,J I a,J I b]] w λe r=>jB i x.fb w0 mb vp fuel ask (fP st i f (gG op a f.loc f.stk).1 (gG op a f.loc f.stk).2) 0 r e:=by
 have r:=ev w (zC #[J I op,J I a,J I b] 60);have d:=Ou (n.below r (ai _));have:(op == 6)=F:=beq_eq_false_iff_ne.2 (by omega);have:(op == 9)=F:=beq_eq_false_iff_ne.2 (by omega);have:(op == 10)=F:=beq_eq_false_iff_ne.2 (by omega);have:(op == 11)=F:=beq_eq_false_iff_ne.2 (by omega);have:(op == 17)=F:=beq_eq_false_iff_ne.2 (by omega);have:(op == 19)=F:=beq_eq_false_iff_ne.2 (by omega);have j:=Ou u;go_in
 go_wp2_with fail;generalize w.alloc _=W at *;have c:=d.fr i f x g hx;refine(Dt p f.m _ A x.fb x.mc (f.pc:Int) x.vl f.loc x.vs f.stk op a b W c.fr d.bel.size k l t v s (by have:=ea j;omega)).mono ?_;rintro e B q;obtain⟨y,z⟩:=DG (op:=op) (a:=a) c.lI c.oks;obtain⟨rfl,C,c,o⟩:=d.move g hx q y z;have h:Hid (jB i x.fb w0 mb vp fuel ask (fP st i f (gG op a f.loc f.stk).1 (gG op a f.loc f.stk).2) 0 B (zR (J I 0))):=⟨rfl,A,C,_,_,_,_,(by first | exact mZ hx | exact m7 hx _ | exact m8 hx _ _),o⟩;go_wp2;go_ret;exact h
theorem Hz (r:fE w0 w ρ mb vp fuel ask st A X Y vr eE)(o:st.frames[i]? =M f)(hx:X[i]? =M x)(F:lP p f.m 6 a b)(q:pp 6 f.stk)(L:f.m.locals=(f.loc.length:Int))(N:f.stk.length<4194303)(K:f.loc.length<=4194304) :
  Calls Tryz.prog 173 #[zP (M ⟨mb,0,U⟩),zP (M ⟨x.fb,0,U⟩),.agg #[J I 6,J I a,J I b]] w λn Q=>jB i x.fb w0 mb vp fuel ask (if (em f.stk).num=0 then st else fP st i f (gG 6 a f.loc f.stk).1 (gG 6 a f.loc f.stk).2) (if (em f.stk).num=0 then 3 else 0) Q n:=by
 obtain⟨B,u⟩:∃c,c=(if (em f.stk).num=0 then st else fP st i f (gG 6 a f.loc f.stk).1 (gG 6 a f.loc f.stk).2):=⟨_,rfl⟩;obtain⟨z,t⟩:∃c:Int,c=(if (em f.stk).num=0 then 3 else 0):=⟨_,rfl⟩;rw[<-u,<-t];have g:=Ou (aq u t);have t:=ev w (zC #[J I 6,J I a,J I b] 60);have D:=Oz w #[J I 6,J I a,J I b] 60;have h:=Ou (r.below t (ai _));have:=q.s2 (by omega);have v:=lM (l:=f.stk) (by omega);have:f.stk.dropLast.length=f.stk.length-1:=aI;have E:=Ou v;clear r v;go_in
 go_wp2_with fail;generalize w.alloc _=W at *;have c:=h.fr i f x o hx;have s:=Dz _ A x.fb x.mc (f.pc:Int) x.vl f.loc x.vs f.stk.dropLast (em f.stk) W (by rw[<-ea E];exact c.fr) (by omega);refine s.mono ?_;rintro n C ⟨rfl,r⟩;have e:=Ou (h.below r (ai _));have h:=D.bl r;have:=h.c0;have:=h.c1;have:=h.c2;unfold ff;clear c s
 cases y:(em f.stk).num == 0 with
 | true =>
  have d:(em f.stk).num=0:=by simpa using y
  have j:Hid (jB i x.fb w0 mb vp fuel ask B z C (zR (J I 3))):=by
   show jB _ _ _ _ _ _ _ _ _ _ _
   rw[g.out.1,g.out.2,am d,am d];exact⟨rfl,A,ρ,_,_,_,_,(by first | exact mZ hx | exact m7 hx _ | exact m8 hx _ _),ea e⟩
  clear d;go_wp2;go_ret;exact j
 | false =>
  have d:¬(em f.stk).num=0:=by simpa using y
  have k:=Ou d;go_wp2_with fail;have c:=e.fr i f x o hx;refine(Dt p f.m _ A x.fb x.mc (f.pc:Int) x.vl f.loc x.vs f.stk 6 a b C c.fr e.bel.size F q L N K (by have:=ea k;omega)).mono ?_;rintro n R H;obtain⟨O,P⟩:=DG (op:=6) (a:=a) c.lI c.oks;obtain⟨rfl,S,c,G⟩:=e.move o hx H O P
  have j:Hid (jB i x.fb w0 mb vp fuel ask B z R (zR (J I 0))):=by
   show jB _ _ _ _ _ _ _ _ _ _ _
   rw[g.out.1,g.out.2,af k.out,af k.out];exact⟨rfl,A,S,_,_,_,_,(by first | exact mZ hx | exact m7 hx _ | exact m8 hx _ _),G⟩
  go_wp2;go_ret;exact j
def rj (p:On)(st:eJ)(i:Nat)(f:eD)(a:Int):eJ:=
 { fP st i f f.loc (f.stk++ [ju a st.objs.length]) with objs:=st.objs++ [⟨a,(OE p a).map fV⟩] }
theorem H9 (l:fE w0 w ρ mb vp fuel ask st A X Y vr eE)(r:st.frames[i]? =M f)(hx:X[i]? =M x)(L:eQ w0 vp p)(N:ez p p.length)(t:eM p<=4194304)(n:0<=a)(z:a<(p.length:Int))(O:f.stk.length<=4194304)(T:st.objs.length<=100) :
  Calls Tryz.prog 173 #[zP (M ⟨mb,0,U⟩),zP (M ⟨x.fb,0,U⟩),.agg #[J I 9,J I a,J I b]] w λg q=>jB i x.fb w0 mb vp fuel ask (if st.objs.length=100 then st else rj p st i f a) (if st.objs.length=100 then 8 else 0) q g:=by
 have q:=ev w (zC #[J I 9,J I a,J I b] 60);have:=Oz w #[J I 9,J I a,J I b] 60;have c:=Ou (l.below q (ai _));have:=ap (fQ p) t;have:=l.lt;have:=Oq q _ _ (show w.cell? ⟨mb,4,U⟩=M (J I (st.objs.length:Int)) from l.eH.cell 4)
 by_cases h:st.objs.length=100
 .have H:((st.objs.length:Int) == 100)=K:=beq_iff_eq.2 (by omega);rw[am h,am h];go_in
  go_wp2;go_ret;exact⟨rfl,A,ρ,_,_,_,_,(by first | exact mZ hx | exact m7 hx _ | exact m8 hx _ _),ea c⟩
 .have H:((st.objs.length:Int) == 100)=F:=beq_eq_false_iff_ne.2 (by omega);rw[af h,af h];go_in
  go_wp2_with fail;generalize w.alloc _=W at *;refine(Dq p vp a w0 W mb fuel ask vr st.objs.length A st.told eE st.steps L c.bel c.base c.eH N t n z (by omega)).mono ?_;rintro g Q ⟨d,h,rfl,m,D,C⟩;obtain⟨h,h⟩:=c.newObj m D C;have s:=c.la;have v:=Ou h;have P:=m.blk.c0;go_wp2_with fail;refine(wV d a Q P n (by omega)).mono ?_;rintro g u ⟨rfl,c⟩;have k:=Ou (v.below c (ai _));go_wp2_with fail;have j:=k.fr i f x r hx
  have G:ff (A++ [d]) (ju a st.objs.length)= [J I (a+3),J I 0,zP (M ⟨d,0,U⟩)]:=by
   show [J .i64 (a+3),J I 0,zP (M ⟨(A++ [d]).getD st.objs.length 0,0,U⟩)]=_
   rw[aj,<-s,aP (ai _),co];rfl
  have o:=nf _ (A++ [d]) x.fb x.mc (f.pc:Int) x.vl f.loc x.vs f.stk (ju a st.objs.length) u j.fr k.bel.size O;rw[G]at o;refine o.mono ?_;rintro g R c;have E:=c.move (Ow _ u) (.inl rfl)
  obtain⟨rfl,S,c,B⟩:=k.move r hx E j.lI (λc e=>by
   rcases aN.1 e with e | e
   .exact j.oks c e
   .obtain rfl:=aC.1 e;intro e y
    cases y
    rw[aw,s];simp)
  have y:Hid (jB i x.fb w0 mb vp fuel ask (rj p st i f a) 0 R (zR (J I 0))):=⟨rfl,A++ [d],S,_,_,_,_,(by first | exact mZ hx | exact m7 hx _ | exact m8 hx _ _),B⟩;go_wp2;go_ret;exact y
end
section
variable {w0 w w' : World} {ρ : Nat -> Nat × Nat} {mb : Nat} {vp : Value} {fuel : Int} {ask : Bool} {st : eJ} {A : List Nat} {X : List gv} {Y : List Value} {vr eE : Value} {i : Nat} {f : eD} {x : gv}
theorem fE.pop(j:fE w0 w ρ mb vp fuel ask st A X Y vr eE)(k:st.frames[i]? =M f)(hx:X[i]? =M x){d y}(r:f.stk=d++ [y]){h}(n:vW w0.heap.size A x.fb x.mc (f.pc:Int) x.vl f.loc x.vs d y w w' h):
  h=zR (.agg (ff A y).toArray)/\∃ g e,fE w0 w' g mb vp fuel ask (fP st i f f.loc d) A (X.set i { x with vs:=e }) Y vr eE:=by
 obtain⟨e,o,l,q,m⟩:=n.mods;have c:=j.fr i f x k hx;obtain⟨g,d⟩:=j.upd k hx m c.within l (.inl q) c.lI (λe d=>c.oks e (by rw[r];exact aN.2 (.inl d)));exact⟨o,g,e,d⟩
theorem oX{α :Type}{c:List α}{i a}(d:c[i]? =M a)(b):(c.set i b)[i]? =M b:=aA (ag.1 d).1
theorem sI(e:st.frames[i]? =M f)(c d):(fP st i f c d).frames[i]? =M { f with loc:=c,stk:=d } :=oX e _
theorem Ez(c e d g):fP (fP st i f c e) i { f with loc:=c,stk:=e } d g=fP st i f d g:=by
 unfold fP;simp[List.set_set]
end
def gu (st:eJ)(k:Nat):fL:=(st.objs[k]?).getD ⟨0,[]⟩
def ku (st:eJ)(i:Nat)(f:eD)(b:Int):eJ×Int:=match (em f.stk).obj with
 | none => (fP st i f f.loc f.stk.dropLast, 2)
 | some k => (fP st i f f.loc (f.stk.dropLast ++ [(gu st k).fO.getD b.toNat eO]), 0)
section
variable (p : List eb) (vp : Value) (w0 w : World) (ρ : Nat -> Nat × Nat) (mb : Nat) (fuel : Int) (ask : Bool) (st : eJ) (A : List Nat) (X : List gv) (Y : List Value) (vr eE : Value) (i : Nat) (f : eD) (x : gv) (a b : Int)
theorem H4 (t:fE w0 w ρ mb vp fuel ask st A X Y vr eE)(v:st.frames[i]? =M f)(hx:X[i]? =M x)(a5:pp 10 f.stk)(ca:f.stk.length<4194303)(b9:0<=b)(bk:∀c,(em f.stk).obj=M c->b.toNat<(gu st c).fO.length)(bn:∀c,(gu st c).fO.length<=4194304) :
  Calls Tryz.prog 173 #[zP (M ⟨mb,0,U⟩),zP (M ⟨x.fb,0,U⟩),.agg #[J I 10,J I a,J I b]] w λd w'=>jB i x.fb w0 mb vp fuel ask (ku st i f b).1 (ku st i f b).2 w' d:=by
 have b9:=a5.s1 (by omega);have ad:=lM (l:=f.stk) (by omega);have a5:f.stk.dropLast.length=f.stk.length-1:=aI;have a5:=ev w (zC #[J I 10,J I a,J I b] 60);have a1:=Oz w #[J I 10,J I a,J I b] 60;have Q:=Ou (t.below a5 (ai _));have D:=t.fr i f x v hx;have bI:okV A (em f.stk):=pd D.oks;have a5:=t.la;have a5:=t.ly;have a2:Hid (∀c,(em f.stk).obj=M c->ku st i f b=(fP st i f f.loc (f.stk.dropLast++ [(gu st c).fO.getD b.toNat eO]),0)):=λc y=>by unfold ku;rw[y]
 have a3:Hid ((em f.stk).obj=U->ku st i f b=(fP st i f f.loc f.stk.dropLast,2)):=λy=>by unfold ku;rw[y]
 generalize ku st i f b=gp at *;have R:=Ou ad;have a5:=D.fr.blk.lt;clear t ad D;go_in
 go_wp2_with fail;generalize w.alloc _=W at *;have P:=Q.fr i f x v hx;have T:=jT _ A x.fb x.mc (f.pc:Int) x.vl f.loc x.vs f.stk.dropLast (em f.stk) W (by rw[<-ea R];exact P.fr) (by omega);refine T.mono ?_;rintro d g q;have N:=a1.mods q.choose_spec.2.2.2 (by omega);obtain⟨rfl,b7,n,S⟩:=Q.pop v hx R q;have r:=Ou S;have an:=N.c2;unfold ff;clear P T q S
 cases B:(em f.stk).obj with
 | none =>
  have E:Hid (jB i x.fb w0 mb vp fuel ask gp.1 gp.2 g (zR (J I 2))):=by
   show jB _ _ _ _ _ _ _ _ _ _ _
   rw[a3.out B];exact⟨rfl,A,b7,_,_,_,_,(by first | exact mZ hx | exact m7 hx _ | exact m8 hx _ _),ea r⟩
  unfold ic;clear B;go_wp2;go_ret;exact E
 | some c =>
  have y:c<A.length:=bI c B;obtain⟨k,ac⟩:∃k,A[c]? =M k:=⟨_,ae y⟩;obtain⟨m,aa⟩:∃m,st.objs[c]? =M m:=⟨_,ae (by omega)⟩;obtain⟨L,b5⟩:∃L,Y[c]? =M L:=⟨_,ae (by omega)⟩;have ab:gu st c=m:=by unfold gu;rw[aa];rfl
  have G:=bk c B;have bh:=bn c;rw[ab]at G bh;obtain⟨h,rfl⟩:∃h:Nat,b=(h:Int):=⟨b.toNat,by omega⟩;rw[aK]at G;have s:=r.ob c m k L aa ac b5;obtain⟨j,a6,rfl,t,bo,H⟩:=jH s.row (by omega);obtain⟨e,z⟩:∃e,m.fO[h]? =M e:=⟨_,ae G⟩;have ak:=s.blk.c1;have ao:g.cell? ⟨j,h*3,U⟩=M (J I e.kind):=by rw[H _ (by omega)];exact oh A _ _ e z 0 (by omega)
  have ar:g.cell? ⟨j,h*3+1,U⟩=M (J I e.num):=by rw[H _ (by omega)];exact oh A _ _ e z 1 (by omega)
  have a0:g.cell? ⟨j,h*3+2,U⟩=M (ic A e.obj):=by rw[H _ (by omega)];exact oh A _ _ e z 2 (by omega)
  have o:=r.fr i _ _ (sI v f.loc f.stk.dropLast) (oX hx { x with vs:=n })
  have K:¬(j=x.fb\/n.ownBlock=M j):=λd=>by
   have u:=s.r4 j bo
   rcases d with d | d
   .have:=o.r0;rw[<-d]at this;rw[u]at this;cases this
   .have:=o.r2 j d;rw[u]at this;cases this
  have bs:¬(k=x.fb\/n.ownBlock=M k):=λd=>by
   have u:=s.r3
   rcases d with d | d
   .have:=o.r0;rw[<-d]at this;rw[u]at this;cases this
   .have:=o.r2 k d;rw[u]at this;cases this
  have be:¬(w.heap.size=x.fb\/n.ownBlock=M w.heap.size):=λd=>by
   rcases d with d | d
   .omega
   .exact OO o.fr.st N (by decide) d
  have bM:ic A (M c)=zP (M ⟨k,0,U⟩):=by
   show Value.pointer (M ⟨A.getD c 0,0,U⟩)=_
   rw[aj,ac];rfl
  have Z:=a2 c B;have br:(gu st c).fO.getD (h:Int).toNat eO=e:=by rw[ab,aK,aj,z];rfl
  rw[br]at Z;have bz:okV A e:=s.ok e (aB z);have bf:ff A e= [J I e.kind,J I e.num,ic A e.obj]:=rfl;have s:=fp h;have s:(h:Int)<(m.fO.length:Int):=by omega
  have F:=Ou o;have a4:=Ou Z;rw[bM];go_wp2;refine iY (λw'=>w'.cell? ⟨k,1,U⟩=M (O (M ⟨j,0,U⟩) m.fO.length a6)/\w'.cell? ⟨w.heap.size,2,U⟩=M (J I (h:Int))/\w'.cell? ⟨j,h*3,U⟩=M (J I e.kind)/\w'.cell? ⟨j,h*3+1,U⟩=M (J I e.num)/\w'.cell? ⟨j,h*3+2,U⟩=M (ic A e.obj)) ⟨ak,an,ao,ar,a0⟩ λhHeld=>?_;refine dZ 46 0 ?_;refine dZ 47 1 ?_;refine dZ 48 2 ?_;refine dZ 49 3 ?_;refine dZ 50 4 ?_;refine dZ 51 5 ?_;refine dZ 52 6 ?_;refine dZ 53 7 ?_;refine dZ 54 8 ?_;refine el 9 (λh ba=>?_);go_simp;have V:=nf _ A x.fb x.mc (f.pc:Int) x.vl f.loc n f.stk.dropLast e g.drew (F.fr.below (ay g.heap.size g).drew (ai _)) r.bel.size (by omega);rw[bf]at V;refine V.mono ?_;rintro d b6 q;have d:ee (λc=>c=x.fb\/n.ownBlock=M c\/x.vl.ownBlock=M c) g g.drew:=(Ow _ g).drew;have bc:=q.move d (.inl rfl);have u:=q.choose_spec.2.2.1
  obtain⟨rfl,b8,c,a8⟩:=r.move (sI v f.loc f.stk.dropLast) (oX hx { x with vs:=n }) bc F.lI (λc C=>by
   rcases aN.1 C with C | C
   .exact F.oks c C
   .obtain rfl:=aC.1 C;exact bz)
  have E:Hid (jB i x.fb w0 mb vp fuel ask gp.1 gp.2 b6 (zR (J I 0))):=by
   show jB _ _ _ _ _ _ _ _ _ _ _
   rw[ea a4];have c:=Ez (st:=st) (i:=i) (f:=f) f.loc f.stk.dropLast f.loc (f.stk.dropLast++ [e]);rw[<-c];exact⟨rfl,A,b8,_,_,_,_,(by first | exact mZ hx | exact m7 hx _ | exact m8 hx _ _),a8⟩
  go_wp2_with fail;refine ba.out _ _ ⟨u.cell (w:=g.drew) ak bs,u.cell (w:=g.drew) an be,u.cell (w:=g.drew) ao K,u.cell (w:=g.drew) ar K,u.cell (w:=g.drew) a0 K⟩ λhHeld=>?_;refine ig ?_;go_wp2;go_ret;exact E
end
section
variable {w0 w w' : World} {ρ : Nat -> Nat × Nat} {mb : Nat} {vp : Value} {fuel : Int} {ask : Bool} {st : eJ} {A : List Nat} {X : List gv} {Y : List Value} {vr eE : Value} {i : Nat} {f : eD} {x : gv}
theorem fE.Lz(c:fE w0 w ρ mb vp fuel ask st A X Y vr eE){k n o}(s:st.objs[k]? =M n)(t:Y[k]? =M o){j}(e:ee j w w')(v:∀d,d<w.heap.size->j d->ρ d=(4,k)){fl}(z:w'.ownsRow w0.heap.size 170 3 o fl.length (fF A fl))(C:∀D∈fl,okV A D):
  fE w0 w' ρ mb vp fuel ask { st with objs:=st.objs.set k { n with fO:=fl } } A X Y vr eE:=by
 have h:∀d,d<w.heap.size->j d->∀c,c≠(4,k)->ρ d≠c:=λd g j c h e=>h (e.symm.trans (v d g j));have u:Same w.heap.size ρ ρ :=λ_ _=>rfl;have y:k<st.objs.length:=(ag.1 s).1;refine⟨?_,c.base,c.iv,eX c.run e (λd g e=>h d (c.run.lt d g).2 e (6,0) (by simp) (c.oA d g)),c.oA,eX c.io e (λd g e=>h d (c.io.lt d g).2 e (7,0) (by simp) (c.iZ d g)),c.iZ,c.lx,λi f x j hx=>(c.fr i f x j hx).mods e u (λd g e=>⟨h d g e _ (by simp),h d g e _ (by simp),h d g e _ (by simp)⟩),by simpa using c.la,by simpa using c.ly,?_,c.qu,c.bel.trans (e.below c.bel.size (λd g e=>h d (dm g c.bel.size) e (9,0) (by simp) (c.low d g))),c.low⟩
 .show ed w' mb _ (machC vp fuel ask vr (st.objs.set k _).length A st.told eE st.steps)
  rw[aO];exact c.eH.mods e (λe=>h _ c.lt e (5,0) (by simp) c.iv)
 .intro d B q E l r m
  by_cases g:k=d
  .subst g;rw[aA y]at l;obtain rfl:=aT l;rw[t]at m;obtain rfl:=aT m;have j:=c.ob k n q o s r t;exact⟨j.blk.mods e (λe=>h _ j.blk.lt e (3,k) (by simp) j.r3),j.base,z,j.r3,j.r4,C⟩
  .rw [ah g]at l;exact(c.ob d B q E l r m).mods e u (λd c e=>⟨h d c e _ (by simp),h d c e _ (by simp;omega)⟩)
end
def kz (st:eJ)(i:Nat)(f:eD)(b:Int):eJ×Int:=match (em f.stk.dropLast).obj with
 | none => (fP st i f f.loc f.stk.dropLast.dropLast, 2)
 | some k => ({ fP st i f f.loc f.stk.dropLast.dropLast with objs := st.objs.set k { gu st k with fO := (gu st k).fO.set b.toNat (em f.stk) } }, 0)
section
variable (p : List eb) (vp : Value) (w0 w : World) (ρ : Nat -> Nat × Nat) (mb : Nat) (fuel : Int) (ask : Bool) (st : eJ) (A : List Nat) (X : List gv) (Y : List Value) (vr eE : Value) (i : Nat) (f : eD) (x : gv) (a b : Int)
theorem Ib (r:fE w0 w ρ mb vp fuel ask st A X Y vr eE)(D:st.frames[i]? =M f)(hx:X[i]? =M x)(b5:pp 11 f.stk)(cz:f.stk.length<4194303)(cu:0<=b)(cf:∀c,(em f.stk.dropLast).obj=M c->b.toNat<(gu st c).fO.length)(cg:∀c,(gu st c).fO.length<=4194304) :
  Calls Tryz.prog 173 #[zP (M ⟨mb,0,U⟩),zP (M ⟨x.fb,0,U⟩),.agg #[J I 11,J I a,J I b]] w λg w'=>jB i x.fb w0 mb vp fuel ask (kz st i f b).1 (kz st i f b).2 w' g:=by
 have:=b5.s2 (by omega);have a6:=lM (l:=f.stk) (by omega);have b5:f.stk.dropLast.length=f.stk.length-1:=aI;have a8:=lM (l:=f.stk.dropLast) (by omega);have:f.stk.dropLast.dropLast.length=f.stk.length-1-1:=by rw[aI,b5]
 have b5:=ev w (zC #[J I 11,J I a,J I b] 60);have bk:=Oz w #[J I 11,J I a,J I b] 60;have ad:=Ou (r.below b5 (ai _));have z:=r.fr i f x D hx;have cm:okV A (em f.stk.dropLast):=pd (λF t=>z.oks F (ze t));have ck:okV A (em f.stk):=pd z.oks;have:=r.la;have:=r.ly;have bo:Hid (∀c,(em f.stk.dropLast).obj=M c->kz st i f b=({ fP st i f f.loc f.stk.dropLast.dropLast with objs:=st.objs.set c { gu st c with fO:=(gu st c).fO.set b.toNat (em f.stk) } },0)):=λc s=>by unfold kz;rw[s]
 have br:Hid ((em f.stk.dropLast).obj=U->kz st i f b=(fP st i f f.loc f.stk.dropLast.dropLast,2)):=λs=>by unfold kz;rw[s]
 generalize kz st i f b=gp at *;have ao:=Ou a6;have ar:=Ou a8;have:=z.fr.blk.lt;have T:=oN A (em f.stk);have:∀e,x.vs.ownBlock=M e->e<w.heap.size:=λe c=>(z.fr.st.lt e c).2;clear r a6 a8 z;go_in
 go_wp2_with fail;generalize w.alloc _=W at *;have ac:=ad.fr i f x D hx;have a3:=jT _ A x.fb x.mc (f.pc:Int) x.vl f.loc x.vs f.stk.dropLast (em f.stk) W (by rw[<-ea ao];exact ac.fr) (by omega);refine a3.mono ?_;rintro g cs y;have bn:=bk.mods y.choose_spec.2.2.2 (by omega);obtain⟨rfl,z,aa,a1⟩:=ad.pop D hx ao y;have ak:=Ou a1;clear ac a3 y a1;go_wp2_with fail;have z:=ak.fr i _ _ (sI D f.loc f.stk.dropLast) (oX hx { x with vs:=aa });have ac:=jT _ A x.fb x.mc (f.pc:Int) x.vl f.loc aa f.stk.dropLast.dropLast (em f.stk.dropLast) cs (by rw[<-ea ar];exact z.fr) (by omega);refine ac.mono ?_;rintro g d y;have N:=bn.mods y.choose_spec.2.2.2 (by omega);obtain⟨rfl,bh,z,a2⟩:=ak.pop (sI D f.loc f.stk.dropLast) (oX hx { x with vs:=aa }) ar y;rw[show fP (fP st i f f.loc f.stk.dropLast) i { f with loc:=f.loc,stk:=f.stk.dropLast } f.loc f.stk.dropLast.dropLast=fP st i f f.loc f.stk.dropLast.dropLast from Ez _ _ _ _]at a2;have H:=Ou a2;have cc:ff A (em f.stk.dropLast)= [J I (em f.stk.dropLast).kind,J I (em f.stk.dropLast).num,ic A (em f.stk.dropLast).obj]:=rfl;rw[cc];have:=N.lt
 cases L:(em f.stk.dropLast).obj with
 | none =>
  have Q:Hid (∀j,Below d.heap.size d j->jB i x.fb w0 mb vp fuel ask gp.1 gp.2 j (zR (J I 2))):=λj m=>by
   rw[br.out L];exact⟨rfl,A,bh,_,_,_,_,(by first | exact mZ hx | exact m7 hx _ | exact m8 hx _ _),H.below m (ai _)⟩
  unfold ic;go_wp2_with (refine fJ jf (Oz d #[J I 0,J I 0,zP U] 170) 0 (ff A (em f.stk)) rfl (by simp) T (.tmp 8) (.tmp 59) rfl rfl rfl rfl ?_;intro j B R cp;rw[fw (by rfl)]at B)
  have m:Below d.heap.size d j:=(ev d _).trans (R.below (by simp) (λc s g=>by omega));have P:=Ou (H.below m (ai _));have G:=N.bl m;have Z:=G.c2;have an:=Ou B;go_ret;exact Q j m
 | some c =>
  have s:c<A.length:=cm c L;obtain⟨u,E⟩:∃u,A[c]? =M u:=⟨_,ae s⟩;obtain⟨o,n⟩:∃o,st.objs[c]? =M o:=⟨_,ae (by omega)⟩;obtain⟨F,t⟩:∃F,Y[c]? =M F:=⟨_,ae (by omega)⟩;have a5:gu st c=o:=by unfold gu;rw[n];rfl
  have S:=cf c L;have ce:=cg c;rw[a5]at S ce;obtain⟨q,rfl⟩:∃q:Nat,b=(q:Int):=⟨b.toNat,by omega⟩;rw[aK]at S
  have cn:ic A (M c)=zP (M ⟨u,0,U⟩):=by
   show Value.pointer (M ⟨A.getD c 0,0,U⟩)=_
   rw[aj,E];rfl
  have a4:=bo c L;rw[a5,aK]at a4;have:=fp q;have:(q:Int)<(o.fO.length:Int):=by omega
  have bs:=Ou a4;have bI:=Ou (aq n (aq E t));rw[cn];go_wp2_with (refine fJ jf (Oz d #[J I 0,J I 0,zP U] 170) 0 (ff A (em f.stk)) rfl (by simp) T (.tmp 8) (.tmp 59) rfl rfl rfl rfl ?_;intro j B R cp;rw[fw (by rfl)]at B)
  have m:Below d.heap.size d j:=(ev d _).trans (R.below (by simp) (λc s g=>by omega));have P:=Ou (H.below m (ai _));have G:=N.bl m;have Z:=G.c2;have an:=Ou B;obtain⟨n,E,t⟩:=bI;have h:=P.ob c o u F n E t;obtain⟨e,b6,rfl,s,K,_⟩:=jH h.row (by omega);have ba:=h.blk.c1;have s:=ea an;have bc:=s.c0;have be:=s.c1;have bf:=s.c2;obtain⟨s,ca,cb,V⟩:=DQ (em f.stk) h.row rfl S;have s:=H.ob c o u _ n E t;have:e<d.heap.size:=(s.row.lt e K).2;have bM:=Ou (aq h (aq V n));have bz:=Ou t;refine iY (λw'=>w'.cell? ⟨u,1,U⟩=M (O (M ⟨e,0,U⟩) o.fO.length b6)/\w'.cell? ⟨w.heap.size,2,U⟩=M (J I (q:Int))/\w'.cell? ⟨d.heap.size,0,U⟩=M (J I (em f.stk).kind)/\w'.cell? ⟨d.heap.size,1,U⟩=M (J I (em f.stk).num)/\w'.cell? ⟨d.heap.size,2,U⟩=M (ic A (em f.stk).obj)) ⟨ba,Z,bc,be,bf⟩ λhHeld=>?_;refine dZ 65 0 ?_;refine dZ 66 1 ?_;refine dZ 67 2 ?_;refine dZ 68 3 ?_;refine dZ 69 4 ?_;refine dZ 70 5 ?_;refine dZ 71 6 ?_;refine dZ 72 7 ?_;refine el 8 (λd b9=>?_);refine kS jf ca.drew (q*3) (ff A (em f.stk)) rfl cb T (.tmp 72) (.tmp 71) rfl rfl rfl ?_;intro ab b8 C d;obtain⟨h,V,n⟩:=bM;have v:ee (λc=>c=e) j ab:=⟨C.os,C.tape,C.output,C.size,C.block⟩
  have b7:=P.Lz (k:=c) n bz v (λc _ g=>g▸h.r4 e K) (fl:=o.fO.set q (em f.stk)) (by rw[aO];exact V ab b8) (λd c=>by
   rcases bE c with r | rfl
   .exact h.ok d r
   .exact ck)
  have Q:Hid (jB i x.fb w0 mb vp fuel ask gp.1 gp.2 ab (zR (J I 0))):=by
   show jB _ _ _ _ _ _ _ _ _ _ _
   rw[ea bs];exact⟨rfl,A,bh,_,_,_,_,(by first | exact mZ hx | exact m7 hx _ | exact m8 hx _ _),b7⟩
  have ci:¬u=e:=λg=>by
   have a0:=h.r3;rw[g,h.r4 e K]at a0;cases a0
  have c:¬w.heap.size=e:=λg=>by
   exact OO h.row G (by decide) (by rw[K,g])
  refine b9.out _ _ ⟨v.cell ba ci,v.cell Z c,v.cell bc (by dsimp only;omega),v.cell be (by dsimp only;omega),v.cell bf (by dsimp only;omega)⟩ λhHeld=>?_;try simp only[Act.put]
  refine ig ?_;go_wp2;go_ret;exact Q
end
def mI (p:On)(st:eJ)(f:eD)(a:Int):Int:=match (em f.stk).obj with
 | none => 0
 | some k => if fD p (gu st k).cls a then 0 else 4
section
variable (p : List eb) (vp : Value) (w0 w : World) (ρ : Nat -> Nat × Nat) (mb : Nat) (fuel : Int) (ask : Bool) (st : eJ) (A : List Nat) (X : List gv) (Y : List Value) (vr eE : Value) (i : Nat) (f : eD) (x : gv) (a b : Int)
theorem Hy (k:fE w0 w ρ mb vp fuel ask st A X Y vr eE)(P:st.frames[i]? =M f)(hx:X[i]? =M x)(R:eQ w0 vp p)(a2:ez p p.length)(a3:eM p<=4194304)(a0:pp 17 f.stk)(a8:f.stk.length<4194303)(N:∀c,(em f.stk).obj=M c->0<=(gu st c).cls/\(gu st c).cls<(p.length:Int)) :
  Calls Tryz.prog 173 #[zP (M ⟨mb,0,U⟩),zP (M ⟨x.fb,0,U⟩),.agg #[J I 17,J I a,J I b]] w λs g=>jB i x.fb w0 mb vp fuel ask st (mI p st f a) g s:=by
 have:=a0.s1 (by omega);have a4:=ap (fQ p) a3;have T:=lM (l:=f.stk) (by omega);have:f.stk.dropLast.length=f.stk.length-1:=aI;have a0:=ev w (zC #[J I 17,J I a,J I b] 60);have an:=Oz w #[J I 17,J I a,J I b] 60;have C:=Ou (k.below a0 (ai _));have B:=k.fr i f x P hx;have a1:okV A (em f.stk):=pd B.oks;have:=k.la;have:=k.ly;have ao:=Ou R;have E:Hid (∀c,(em f.stk).obj=M c->mI p st f a=if fD p (gu st c).cls a then 0 else 4):=λc m=>by unfold mI;rw[m]
 have F:Hid ((em f.stk).obj=U->mI p st f a=0):=λm=>by unfold mI;rw[m]
 generalize mI p st f a=gp at *;have ar:=Ou T;obtain⟨ab,_,_,ac,rfl,_⟩:=R;clear k T B;go_in
 go_wp2_with fail;generalize w.alloc _=W at *;have z:=C.fr i f x P hx;have L:=Dz _ A x.fb x.mc (f.pc:Int) x.vl f.loc x.vs f.stk.dropLast (em f.stk) W (by rw[<-ea ar];exact z.fr) (by omega);refine L.mono ?_;rintro s ak ⟨rfl,k⟩;have B:=an.bl k;have j:=Ou (C.below k (ai _));have ad:=B.c1;have v:=j.out.eH.c0;unfold ff;clear z L
 cases h:(em f.stk).obj with
 | none =>
  have d:=F h;subst d;unfold ic;clear h;go_wp2;refine fk (λg=>g.cell? ⟨mb,0,U⟩=M (O ab p.length ac)) v λhHeld=>?_;refine dZ 78 0 ?_;refine dZ 79 1 ?_;refine dZ 80 2 ?_;refine eL 81 3 ?_;refine eL 82 4 ?_;refine eL 83 5 ?_;refine eL 84 6 ?_;refine eL 85 7 ?_;refine eL 86 8 ?_;refine eL 87 9 ?_;refine eL 88 10 ?_;refine eL 89 11 ?_;refine eL 90 12 ?_;refine eL 91 13 ?_;refine eL 92 14 ?_;refine dZ 93 15 ?_;refine eV ?_;go_wp2;go_ret;exact⟨rfl,A,ρ,_,_,_,_,(by first | exact mZ hx | exact m7 hx _ | exact m8 hx _ _),j.drew⟩
 | some c =>
  have m:c<A.length:=a1 c h;obtain⟨n,u⟩:∃n,A[c]? =M n:=⟨_,ae m⟩;obtain⟨e,t⟩:∃e,st.objs[c]? =M e:=⟨_,ae (by omega)⟩;obtain⟨y,V⟩:∃y,Y[c]? =M y:=⟨_,ae (by omega)⟩;have Q:gu st c=e:=by unfold gu;rw[t];rfl
  obtain⟨a5,Z⟩:=N c h;have d:=E c h;rw[Q]at a5 Z d;have K:=j.ob c e n y t u V;have aa:=K.blk.c0
  have S:ic A (M c)=zP (M ⟨n,0,U⟩):=by
   show Value.pointer (M ⟨A.getD c 0,0,U⟩)=_
   rw[aj,u];rfl
  rw[S];have o:=Ou d;clear K Q t u V h S d E F N;go_wp2;refine fk (λg=>g.cell? ⟨mb,0,U⟩=M (O ab p.length ac)/\g.cell? ⟨n,0,U⟩=M (J I e.cls)/\g.cell? ⟨w.heap.size,1,U⟩=M (J I a)) ⟨v,aa,ad⟩ λhHeld=>?_;refine dZ 78 0 ?_;refine dZ 79 1 ?_;refine dZ 80 2 ?_;refine dZ 81 3 ?_;refine dZ 82 4 ?_;refine dZ 83 5 ?_;refine dZ 84 6 ?_;refine dZ 85 7 ?_;refine dZ 86 8 ?_;refine dZ 87 9 ?_;refine dZ 88 10 ?_;refine dZ 89 11 ?_;refine dZ 90 12 ?_;refine el 13 (λH q=>?_);go_simp;refine(BO p _ e.cls a _ (eA (Oq j.bel.drew) ao) a2 (by omega) Z a4).mono ?_;rintro s a6 ⟨rfl,c⟩;have g:Below ak.heap.size ak a6:=⟨c.os,c.tape,c.output,c.size,c.block⟩;have c:=Oq g;have G:=Ou (aq (c _ _ v) (aq (c _ _ aa) (c _ _ ad)));have D:=Ou (j.below g (ai _))
  cases r:fD p e.cls a with
  | true =>
   have d:=ea o;rw[r,am rfl]at d;subst d;clear r o;go_wp2_with fail;refine q.out _ _ G λhHeld=>?_;clear q H;try simp only[Act.put,Ap,Ar,Aq]
   refine dZ 92 14 ?_;refine dZ 93 15 ?_;refine eV ?_;go_wp2;go_ret;exact⟨rfl,A,ρ,_,_,_,_,(by first | exact mZ hx | exact m7 hx _ | exact m8 hx _ _),ea D⟩
  | false =>
   have d:=ea o;rw[r,af (by decide)]at d;subst d;clear r o;go_wp2_with fail;refine q.out _ _ G λhHeld=>?_;clear q H;try simp only[Act.put,Ap,Ar,Aq]
   refine dZ 92 14 ?_;refine dZ 93 15 ?_;refine eV ?_;go_wp2;go_ret;exact⟨rfl,A,ρ,_,_,_,_,(by first | exact mZ hx | exact m7 hx _ | exact m8 hx _ _),ea D⟩
end
theorem Jm:(Tryz.prog.info? 3).map (λi=>(i.zero,i.size,i.bytes))=M (M (J I 0),1,8):=by kernel_rfl
theorem Fc:3≠172:=by decide
section
variable {w0 w w' : World} {ρ : Nat -> Nat × Nat} {mb : Nat} {vp : Value} {fuel : Int} {ask : Bool} {st : eJ} {A : List Nat} {X : List gv} {Y : List Value} {vr eE : Value}
theorem fE.print(e:fE w0 w ρ mb vp fuel ask st A X Y vr eE){j s r l}(t:ee (λc=>eE.ownBlock=M c) w j)(v:j.ownsRow w0.heap.size 3 1 l (st.out.length+1) (st.out.map (J .i64)++ [J I r]))(z:l.ownBlock=eE.ownBlock\/∃c,w.heap.size<=c/\l.ownBlock=M c)(y:s=j.setCell ⟨mb,8,U⟩ l):
  (∃ C,fE w0 s C mb vp fuel ask { st with out:=st.out++ [r] } A X Y vr l)/\j.cell? ⟨mb,8,U⟩=M eE/\j.frozen? ⟨mb,8,U⟩=F:=by
 subst y;have s:¬eE.ownBlock=M mb:=OO e.io e.eH Fc;have o:=e.eH.mods t s;have u:ee (λc=>c=mb) j (j.setCell ⟨mb,8,U⟩ l):=(Ow (λc=>c=mb) j).setCell (p:=⟨mb,8,U⟩) (λ_=>rfl) _;have q:ee (λc=>c=mb\/eE.ownBlock=M c) w (j.setCell ⟨mb,8,U⟩ l):=(t.mono (λ_ _ d=>.inr d)).trans u (λ_ _ d=>.inl d);have B:=e.bel.size
 have m:∀c,c<w.heap.size->(c=mb\/eE.ownBlock=M c)->∀g,g≠(5,0)->g≠(7,0)->ρ c≠g:=λc _ d g j k h=>by
  rcases d with d | d
  .exact j (h▸d▸e.iv)
  .exact k (h▸e.iZ c d)
 refine⟨⟨λc=>if w.heap.size<=c then (7,0) else ρ c,?_⟩,o.cell 8,o.frozen 8⟩;have n:Same w.heap.size ρ (λc=>if w.heap.size<=c then (7,0) else ρ c):=λc k=>by show (if _ then _ else _)=_;rw[af (by omega)]
 refine⟨o.setCell 8 l,e.base,(n _ e.lt).trans e.iv,eX e.run q (λh g d=>m h (e.run.lt h g).2 d (6,0) (by simp) (by simp) (e.oA h g)),e.oA.same n (λh g=>(e.run.lt h g).2),?_,λh g=>?_,e.lx,λi f x j hx=>(e.fr i f x j hx).mods q n (λc k d=>⟨m c k d _ (by simp) (by simp),m c k d _ (by simp) (by simp),m c k d _ (by simp) (by simp)⟩),e.la,e.ly,λc t b y j l s=>(e.ob c t b y j l s).mods q n (λe c d=>⟨m e c d _ (by simp) (by simp),m e c d _ (by simp) (by simp)⟩),e.qu,?_,λc k=>(n c (by omega)).trans (e.low c k)⟩
 .show World.ownsRow _ _ _ _ _ (st.out++ [r]).length ((st.out++ [r]).map _)
  rw[aw,aM];exact eX v u (λh g d=>OO v o Fc (d▸g))
 .rcases z with d | ⟨c,k,d⟩
  .rw [d]at g;exact(n h (e.io.lt h g).2).trans (e.iZ h g)
  .rw [d]at g;cases g
   show (if _ then _ else _)=_
   rw[am k]
 .refine e.bel.trans (q.below B (λc k d=>?_))
  rcases d with d | d
  .have:=e.base;omega
  .have:=(e.io.lt c d).1;omega
end
def pE (st:eJ)(i:Nat)(f:eD):eJ:= { fP st i f f.loc f.stk.dropLast with out:=st.out++ [(em f.stk).num] }
section
variable (p : List eb) (vp : Value) (w0 w : World) (ρ : Nat -> Nat × Nat) (mb : Nat) (fuel : Int) (ask : Bool) (st : eJ) (A : List Nat) (X : List gv) (Y : List Value) (vr eE : Value) (i : Nat) (f : eD) (x : gv) (a b : Int)
theorem Ia (E:fE w0 w ρ mb vp fuel ask st A X Y vr eE)(z:st.frames[i]? =M f)(hx:X[i]? =M x)(S:pp 19 f.stk)(an:f.stk.length<4194303)(ak:st.out.length<=4194304) :
  Calls Tryz.prog 173 #[zP (M ⟨mb,0,U⟩),zP (M ⟨x.fb,0,U⟩),.agg #[J I 19,J I a,J I b]] w λD w'=>jB i x.fb w0 mb vp fuel ask (pE st i f) 0 w' D:=by
 obtain⟨R,H,L,N,Q⟩:=info_parts Jm;have:=S.s1 (by omega);have K:=lM (l:=f.stk) (by omega);have:f.stk.dropLast.length=f.stk.length-1:=aI;have S:=ev w (zC #[J I 19,J I a,J I b] 60);have k:=Ou (E.below S (ai _));obtain⟨s,t,rfl⟩:=fd E.io;have v:=Ou K;clear E K;go_in
 go_wp2_with fail;generalize w.alloc _=W at *;have:W.cell? ⟨mb,8,U⟩=M (O s st.out.length t):=k.out.eH.cell 8;refine iY (λ_=>True) trivial λhHeld=>?_;refine dZ 96 0 ?_;refine dZ 97 1 ?_;refine dZ 98 2 ?_;refine dZ 99 3 ?_;refine dZ 101 5 ?_;refine iu 4 6 (λd c=>?_) λd c=>?_
 .go_simp;refine c.out _ _ trivial λhHeld=>?_;refine el 6 (λd c=>?_);go_simp;have j:=k.out.fr i f x z hx;have q:=jT _ A x.fb x.mc (f.pc:Int) x.vl f.loc x.vs f.stk.dropLast (em f.stk) W.drew (by rw[<-ea v];exact j.fr.below (ay W.heap.size W).drew (ai _)) (by omega);refine q.mono ?_;rintro D g o;obtain⟨rfl,ad,ac,e⟩:=k.out.drew.pop z hx v.out o;obtain⟨ab,F,y,h,n,r⟩:=iN (P:=Tryz.prog) (W:=g) 51 51 3 R _ 1 8 Tryz.underlying51 H L N Q rfl (by decide) w0.heap.size _ _ _ e.io #[J I (em f.stk).num] rfl (λd c=>by obtain rfl:=aC.1 c;rfl) g.heap.size rfl (by have:(fP st i f f.loc f.stk.dropLast).out.length=st.out.length:=rfl;unfold maxLen;omega) (by have:(fP st i f f.loc f.stk.dropLast).out.length=st.out.length:=rfl;omega) e.bel.size;obtain⟨B,C,rfl⟩:=fd h;obtain⟨⟨G,m⟩,T,V⟩:=e.print n h r rfl;have Z:g.cell? ⟨mb,8,U⟩=M (O s st.out.length t):=e.eH.cell 8;have aa:(g.alloc (zC #[J I (em f.stk).num] 3)).cell? ⟨mb,8,U⟩=M (O s st.out.length t):=(e.eH.alloc _).cell 8;have u:Hid (jB i x.fb w0 mb vp fuel ask (pE st i f) 0 (F.setCell ⟨mb,8,U⟩ (O B ((fP st i f f.loc f.stk.dropLast).out.length+1) C)) (zR (J I 0))):=⟨rfl,A,G,_,_,_,_,(by first | exact mZ hx | exact m7 hx _ | exact m8 hx _ _),m⟩;unfold ff;clear e m h n r o q j;go_wp2_with fail;refine c.out _ _ trivial λhHeld=>?_;refine dZ 103 7 ?_;refine el 8 (λd c=>?_);go_simp;refine c.out _ _ trivial λhHeld=>?_;refine el 9 (λd c=>?_);refine ON (.tmp 100) (.tmp 104) 51 rfl _ _ rfl rfl y ?_;go_simp;refine c.out _ _ trivial λhHeld=>?_;refine dZ 106 10 ?_;refine dZ 107 11 ?_;refine el 12 (λd c=>?_);go_simp;refine c.out _ _ trivial λhHeld=>?_;refine ig ?_;go_wp2;go_ret;exact ea u
 .go_simp;have j:=k.out.fr i f x z hx;have q:=jT _ A x.fb x.mc (f.pc:Int) x.vl f.loc x.vs f.stk.dropLast (em f.stk) W.drew (by rw[<-ea v];exact j.fr.below (ay W.heap.size W).drew (ai _)) (by omega);refine q.mono ?_;rintro D g o;obtain⟨rfl,ad,ac,e⟩:=k.out.drew.pop z hx v.out o;obtain⟨ab,F,y,h,n,r⟩:=iN (P:=Tryz.prog) (W:=g) 51 51 3 R _ 1 8 Tryz.underlying51 H L N Q rfl (by decide) w0.heap.size _ _ _ e.io #[J I (em f.stk).num] rfl (λd c=>by obtain rfl:=aC.1 c;rfl) g.heap.size rfl (by have:(fP st i f f.loc f.stk.dropLast).out.length=st.out.length:=rfl;unfold maxLen;omega) (by have:(fP st i f f.loc f.stk.dropLast).out.length=st.out.length:=rfl;omega) e.bel.size;obtain⟨B,C,rfl⟩:=fd h;obtain⟨⟨G,m⟩,T,V⟩:=e.print n h r rfl;have Z:g.cell? ⟨mb,8,U⟩=M (O s st.out.length t):=e.eH.cell 8;have aa:(g.alloc (zC #[J I (em f.stk).num] 3)).cell? ⟨mb,8,U⟩=M (O s st.out.length t):=(e.eH.alloc _).cell 8;have u:Hid (jB i x.fb w0 mb vp fuel ask (pE st i f) 0 (F.setCell ⟨mb,8,U⟩ (O B ((fP st i f f.loc f.stk.dropLast).out.length+1) C)) (zR (J I 0))):=⟨rfl,A,G,_,_,_,_,(by first | exact mZ hx | exact m7 hx _ | exact m8 hx _ _),m⟩;unfold ff;clear e m h n r o q j;go_wp2_with fail;refine c.out _ _ trivial λhHeld=>?_;refine dZ 103 7 ?_;refine iu 4 8 (λd c=>?_) λd c=>?_
  .go_simp;refine c.out _ _ trivial λhHeld=>?_;refine el 8 (λd c=>?_);go_simp;refine c.out _ _ trivial λhHeld=>?_;refine el 9 (λd c=>?_);refine ON (.tmp 100) (.tmp 104) 51 rfl _ _ rfl rfl y ?_;go_simp;refine c.out _ _ trivial λhHeld=>?_;refine dZ 106 10 ?_;refine dZ 107 11 ?_;refine el 12 (λd c=>?_);go_simp;refine c.out _ _ trivial λhHeld=>?_;refine ig ?_;go_wp2;go_ret;exact ea u
  .go_simp;refine c.out _ _ trivial λhHeld=>?_;refine el 4 (λd c=>?_);go_simp;refine c.out _ _ trivial λhHeld=>?_;refine el 9 (λd c=>?_);refine ON (.tmp 100) (.tmp 104) 51 rfl _ _ rfl rfl y ?_;go_simp;refine c.out _ _ trivial λhHeld=>?_;refine dZ 106 10 ?_;refine dZ 107 11 ?_;refine el 12 (λd c=>?_);go_simp;refine c.out _ _ trivial λhHeld=>?_;refine ig ?_;go_wp2;go_ret;exact ea u
end
end
def gr (p:On)(st:eJ)(i:Nat)(f:eD)(op a b:Int):eJ×Int:=
 if op=6 then (if (em f.stk).num=0 then st else fP st i f (gG 6 a f.loc f.stk).1 (gG 6 a f.loc f.stk).2,if (em f.stk).num=0 then 3 else 0)
 else if op=9 then (if st.objs.length=100 then st else rj p st i f a,if st.objs.length=100 then 8 else 0)
 else if op=10 then ku st i f b
 else if op=11 then kz st i f b
 else if op=17 then (st,mI p st f a)
 else if op=19 then (pE st i f,0)
 else (fP st i f (gG op a f.loc f.stk).1 (gG op a f.loc f.stk).2,0)
structure yj (p:On)(st:eJ)(f:eD)(op b:Int):Prop where
 stk:pp op f.stk
 loc:f.m.locals=(f.loc.length:Int)
 sl:f.stk.length<4194303
 ll:f.loc.length<=4194304
 get:op=10->∀k,(em f.stk).obj=M k->b.toNat<(gu st k).fO.length
 put:op=11->∀k,(em f.stk.dropLast).obj=M k->b.toNat<(gu st k).fO.length
 cast:op=17->∀k,(em f.stk).obj=M k->0<=(gu st k).cls/\(gu st k).cls<(p.length:Int)
 fl:∀k,(gu st k).fO.length<=4194304
 ol:st.objs.length<=100
 out:st.out.length<=4194304
theorem Kb(p i j o ρ h n l f q k r t s e c x b d g)(v:fE j o ρ h i n l f q k r t s)(w:f.frames[e]? =M c)(hx:k[e]? =M x)(y:Good p)(F:eQ j i p)(u:lP p c.m b d g)(a:yj p f c b g)(L:b≠7/\b≠8/\b≠12/\b≠13/\b≠18):
  Calls Tryz.prog 173 #[zP (M ⟨h,0,U⟩),zP (M ⟨x.fb,0,U⟩),.agg #[J I b,J I d,J I g]] o λG K=>jB e x.fb j h i n l (gr p f e c b d g).1 (gr p f e c b d g).2 K G:=by
 have:=u.rq;have:=u.op1
 by_cases D:b=6
 .subst D;exact Hz p i j o ρ h n l f q k r t s e c x d g v w hx u a.stk a.loc a.sl a.ll
 by_cases E:b=9
 .subst E;have z:=u.cls (by omega);exact H9 p i j o ρ h n l f q k r t s e c x d g v w hx F y.sup y.sz z.1 z.2 (by have:=a.sl;omega) a.ol
 by_cases z:b=10
 .subst z;exact H4 i j o ρ h n l f q k r t s e c x d g v w hx a.stk a.sl (u.im (by omega)).1 (a.get rfl) a.fl
 by_cases A:b=11
 .subst A;exact Ib i j o ρ h n l f q k r t s e c x d g v w hx a.stk a.sl (u.im (by omega)).1 (a.put rfl) a.fl
 by_cases B:b=17
 .subst B;exact Hy p i j o ρ h n l f q k r t s e c x d g v w hx F y.sup y.sz a.stk a.sl (a.cast rfl)
 by_cases C:b=19
 .subst C;exact Ia i j o ρ h n l f q k r t s e c x d g v w hx a.stk a.sl a.out
 have H:gr p f e c b d g=(fP f e c (gG b d c.loc c.stk).1 (gG b d c.loc c.stk).2,0):=by
  unfold gr;rw[af D,af E,af z,af A,af B,af C]
 rw[H];exact H8 p i j o ρ h n l f q k r t s e c x b d g v w hx u a.stk a.loc a.sl a.ll (by omega)
def fM (st:eJ)(i:Nat)(f:eD)(pc:Nat)(stk:List LVal):eJ:= { st with frames:=st.frames.set i { f with pc:=pc,stk:=stk } }
def OP (st:eJ):eJ:= { st with steps:=st.steps+1 }
def j6 (st:eJ)(i:Nat):eJ:=match st.frames[i]? with
 | none => st
 | some f => { st with frames := st.frames.set i { f with pc := f.pc + 1 } }
def oL (p:On)(st:eJ)(i:Nat)(f:eD)(a b:Int):eJ ⊕ (eJ×Int):=
 let n:=(ew p a b).args.length
 let r:=f.stk.take (f.stk.length-n)
 match (em r).obj with
 | none => .inr (fM st i f f.pc r.dropLast, 2)
 | some k => if st.frames.length = 30 then .inr (fM st i f f.pc r.dropLast, 7)
  else .inl (OP (qO p (fM st i f (f.pc+1) r.dropLast) k (gu st k).cls b (f.stk.drop (f.stk.length-n))))
def OQ (p:On)(fuel:Int)(st:eJ):eJ ⊕ (eJ×Int):=match st.frames.getLast? with
 | none => .inr (st, 1)
 | some f =>
  let i:=st.frames.length-1
  let ins:=ey f.m f.pc
  if gg p fuel st.steps f≠0 then .inr (st,gg p fuel st.steps f)
  else if ins.op=7 then .inl (OP (fM st i f ins.a.toNat f.stk))
  else if ins.op=8 then .inl (OP (if (em f.stk).num=0 then fM st i f ins.a.toNat f.stk.dropLast else fM st i f (f.pc+1) f.stk.dropLast))
  else if ins.op=18 then .inl (OP (if (em f.stk).obj=U then fM st i f ins.a.toNat f.stk.dropLast else fM st i f (f.pc+1) f.stk.dropLast))
  else if ins.op=12 then oL p st i f ins.a ins.b
  else if ins.op=13 then .inl (OP (jE (fM st i f f.pc f.stk.dropLast) (em f.stk)))
  else if (gr p st i f ins.op ins.a ins.b).2=0 then .inl (OP (j6 (gr p st i f ins.op ins.a ins.b).1 i))
  else .inr (gr p st i f ins.op ins.a ins.b)
def lu (p:On)(st:eJ)(i:Nat)(f:eD)(op a b:Int):eJ ⊕ (eJ×Int):=
 if op=7 then .inl (OP (fM st i f a.toNat f.stk))
 else if op=8 then .inl (OP (if (em f.stk).num=0 then fM st i f a.toNat f.stk.dropLast else fM st i f (f.pc+1) f.stk.dropLast))
 else if op=18 then .inl (OP (if (em f.stk).obj=U then fM st i f a.toNat f.stk.dropLast else fM st i f (f.pc+1) f.stk.dropLast))
 else if op=12 then oL p st i f a b
 else if op=13 then .inl (OP (jE (fM st i f f.pc f.stk.dropLast) (em f.stk)))
 else if (gr p st i f op a b).2=0 then .inl (OP (j6 (gr p st i f op a b).1 i))
 else .inr (gr p st i f op a b)
theorem ud{p e b a f g c d}(i:b.frames.getLast? =M a)(k:gg p e b.steps a=0)(j:b.frames.length-1=f)(h:ey a.m a.pc=⟨g,c,d⟩):OQ p e b=lu p b f a g c d:=by
 unfold OQ;rw[i];dsimp only;rw[af (by rw[k];simp),j,h]
 rfl
theorem EN(p d b a)(c:Nat)(e):lu p d b a 7 (c:Int) e= .inl (OP (fM d b a c a.stk)):=rfl
theorem EO(p d b a)(c:Nat)(e)(f:(em a.stk).num=0):lu p d b a 8 (c:Int) e= .inl (OP (fM d b a c a.stk.dropLast)):=by
 show Sum.inl (OP (if _ then _ else _))=_
 rw[am f];rfl
theorem EP(p c b a)(f:Nat)(d)(e:¬(em a.stk).num=0):lu p c b a 8 (f:Int) d= .inl (OP (fM c b a (a.pc+1) a.stk.dropLast)):=by
 show Sum.inl (OP (if _ then _ else _))=_
 rw[af e]
theorem EL(p d b a)(c:Nat)(e)(f:(em a.stk).obj=U):lu p d b a 18 (c:Int) e= .inl (OP (fM d b a c a.stk.dropLast)):=by
 show Sum.inl (OP (if _ then _ else _))=_
 rw[am f];rfl
theorem EM(p c b a)(f:Nat)(d)(e:¬(em a.stk).obj=U):lu p c b a 18 (f:Int) d= .inl (OP (fM c b a (a.pc+1) a.stk.dropLast)):=by
 show Sum.inl (OP (if _ then _ else _))=_
 rw[af e]
theorem vD(p e d c a b):lu p e d c 12 a b=oL p e d c a b:=rfl
theorem Aw(p c b a d e):lu p c b a 13 d e= .inl (OP (jE (fM c b a a.pc a.stk.dropLast) (em a.stk))):=rfl
theorem mw(p g c f a d e)(b:a≠7/\a≠8/\a≠12/\a≠13/\a≠18):lu p g c f a d e=if (gr p g c f a d e).2=0 then .inl (OP (j6 (gr p g c f a d e).1 c)) else .inr (gr p g c f a d e):=by
 unfold lu;rw[af b.1,af b.2.1,af b.2.2.2.2,af b.2.2.1,af b.2.2.2.1]
theorem Ch(p c d a l j k)(i:c.frames[d]? =M a):∃e f,(gr p c d a l j k).1.frames[d]? =M { a with loc:=e,stk:=f }/\(gr p c d a l j k).1.steps=c.steps/\(gr p c d a l j k).1.frames.length=c.frames.length:=by
 have:d<c.frames.length:=(ag.1 i).1;have h:∀e f,(fP c d a e f).frames[d]? =M { a with loc:=e,stk:=f } :=λe f=>sI i e f;have g:∀e f,(fP c d a e f).frames.length=c.frames.length:=λe f=>by simp[fP]
 generalize b:gr p c d a l j k=q;unfold gr at b
 split at b
 .subst b;dsimp only
  split
  .exact⟨a.loc,a.stk,i,rfl,rfl⟩
  .exact⟨_,_,h _ _,rfl,g _ _⟩
 split at b
 .subst b;dsimp only
  split
  .exact⟨a.loc,a.stk,i,rfl,rfl⟩
  .exact⟨_,_,h _ _,rfl,g _ _⟩
 split at b
 .subst b;unfold ku
  split
  .exact⟨_,_,h _ _,rfl,g _ _⟩
  .exact⟨_,_,h _ _,rfl,g _ _⟩
 split at b
 .subst b;unfold kz
  split
  .exact⟨_,_,h _ _,rfl,g _ _⟩
  .exact⟨_,_,h _ _,rfl,g _ _⟩
 split at b
 .subst b;exact⟨a.loc,a.stk,i,rfl,rfl⟩
 split at b
 .subst b;exact⟨_,_,h _ _,rfl,g _ _⟩
 .subst b;exact⟨_,_,h _ _,rfl,g _ _⟩
def runM (p:On)(fuel:Int):Nat->eJ->Option (eJ×Int)
 | 0, _ => U
 | n + 1, st => match OQ p fuel st with
  | .inr r => M r
  | .inl st' => runM p fuel n st'
structure AQ (p:On)(st:eJ)(f:eD)(a b:Int):Prop where
 len:(ew p a b).args.length+1<=f.stk.length
 obj:∀k,(em (f.stk.take (f.stk.length-(ew p a b).args.length))).obj=M k->0<=(gu st k).cls/\(gu st k).cls<(p.length:Int)/\(fy p (gu st k).cls b).isSome=K/\1+((ew p a b).args.length:Int)<=(ew p (gu st k).cls b).locals/\(ew p (gu st k).cls b).locals<=8
structure Bd (p:On)(fuel:Int)(st:eJ):Prop where
 fr:∀f,st.frames.getLast? =M f->yl p f
 ok:∀f,st.frames.getLast? =M f->gg p fuel st.steps f=0->yj p st f (ey f.m f.pc).op (ey f.m f.pc).b
 cl:∀f,st.frames.getLast? =M f->gg p fuel st.steps f=0->(ey f.m f.pc).op=12->AQ p st f (ey f.m f.pc).a (ey f.m f.pc).b
 len:st.frames.length<=30
 all:∀g∈st.frames,g.stk.length<=4194304
 jt:(st.steps:Int)<=fuel
def sX (p:On)(fuel:Int):Nat->eJ->Prop
 | 0, _ => True
 | n + 1, st => Bd p fuel st /\ ∀ st', OQ p fuel st = .inl st' -> sX p fuel n st'
section
attribute [local go_sem ↓] Go.wp_at_zero Go.wp_at_succ
attribute [local go_sem] eZ
theorem Kg(p A C o ρ g e f t u v B x)(k:fE C o ρ g A e F f t u v B x)(c y)(h:gg p e f.steps c≠5):
  Calls Tryz.prog 169 #[zP (M ⟨g,0,U⟩),zP (M ⟨y,0,U⟩)] o λw d=>yr (gg p e f.steps c) o d w:=by
 have r:=k.eH.c1;have n:=k.eH.c2;have s:=k.eH.c9;clear k
 by_cases i:(f.steps:Int)=e
 .have l:Hid (gg p e f.steps c=6):=by
   show _=_
   unfold gg at h ⊢
   split at h
   .exact absurd rfl h
   .rename_i j;rw[af j,am i]
  have z:((f.steps:Int) == e)=K:=by simpa using i
  clear i h;go_in
  go_wp2;refine fk (λd=>d.cell? ⟨g,2,U⟩=M (zB F)) n λhHeld=>?_;refine dZ 5 0 ?_;refine dZ 6 1 ?_;refine dZ 7 2 ?_;refine dZ 8 3 ?_;refine dZ 9 4 ?_;refine eL 10 5 ?_;refine eL 11 6 ?_;refine eL 12 7 ?_;refine eL 13 8 ?_;refine eL 14 9 ?_;refine eL 15 10 ?_;refine eL 16 11 ?_;refine eL 17 12 ?_;refine eL 18 13 ?_;refine eL 19 14 ?_;refine eL 20 15 ?_;refine dZ 21 16 ?_;refine eV ?_;go_wp2;refine fk (λd=>d.cell? ⟨g,9,U⟩=M (J I (f.steps:Int))/\d.cell? ⟨g,1,U⟩=M (J I e)) ⟨s,r⟩ λhHeld=>?_;refine dZ 22 0 ?_;refine dZ 23 1 ?_;refine dZ 24 2 ?_;refine dZ 25 3 ?_;refine dZ 26 4 ?_;refine dZ 27 5 ?_;refine dZ 28 6 ?_;refine dZ 29 7 ?_;refine dZ 30 8 ?_;refine eV ?_;go_wp2;go_ret;rw[ea l];exact⟨rfl,(ay _ _).drew.drew⟩
 .have l:Hid (gg p e f.steps c=0):=by
   show _=_
   by_cases j:c.pc=c.m.code.length
   .exact absurd (am j) h
   .by_cases q:ie p c.m c.loc c.stk (ey c.m c.pc).op (ey c.m c.pc).a (ey c.m c.pc).b=K
    .unfold gg;rw[af j,af i,am q]
    .exact absurd (by unfold gg;rw[af j,af i,af q]) h
  have z:((f.steps:Int) == e)=F:=beq_eq_false_iff_ne.2 i;clear i h;go_in
  go_wp2;refine fk (λd=>d.cell? ⟨g,2,U⟩=M (zB F)) n λhHeld=>?_;refine dZ 5 0 ?_;refine dZ 6 1 ?_;refine dZ 7 2 ?_;refine dZ 8 3 ?_;refine dZ 9 4 ?_;refine eL 10 5 ?_;refine eL 11 6 ?_;refine eL 12 7 ?_;refine eL 13 8 ?_;refine eL 14 9 ?_;refine eL 15 10 ?_;refine eL 16 11 ?_;refine eL 17 12 ?_;refine eL 18 13 ?_;refine eL 19 14 ?_;refine eL 20 15 ?_;refine dZ 21 16 ?_;refine eV ?_;go_wp2;refine fk (λd=>d.cell? ⟨g,9,U⟩=M (J I (f.steps:Int))/\d.cell? ⟨g,1,U⟩=M (J I e)) ⟨s,r⟩ λhHeld=>?_;refine dZ 22 0 ?_;refine dZ 23 1 ?_;refine dZ 24 2 ?_;refine dZ 25 3 ?_;refine dZ 26 4 ?_;refine dZ 27 5 ?_;refine dZ 28 6 ?_;refine dZ 29 7 ?_;refine dZ 30 8 ?_;refine eV ?_;go_wp2;refine fk (λd=>d.cell? ⟨g,2,U⟩=M (zB F)) n λhHeld=>?_;refine dZ 31 0 ?_;refine dZ 32 1 ?_;refine dZ 33 2 ?_;refine dZ 34 3 ?_;refine dZ 35 4 ?_;refine eL 36 5 ?_;refine eL 37 6 ?_;refine eL 38 7 ?_;refine eL 39 8 ?_;refine eL 40 9 ?_;refine eL 41 10 ?_;refine eL 42 11 ?_;refine eL 43 12 ?_;refine eL 44 13 ?_;refine eL 45 14 ?_;refine eL 46 15 ?_;refine eL 47 16 ?_;refine eL 48 17 ?_;refine eL 49 18 ?_;refine eL 50 19 ?_;refine dZ 51 20 ?_;refine eV ?_;go_wp2;go_ret;rw[ea l];exact⟨rfl,(ay _ _).drew.drew.drew⟩
theorem Kf(p h i d ρ g c l b j e k o m)(r:fE i d ρ g h c l b j e k o m)(s:Good p)(z:eQ i h p)(v:∀f q,(fy p f q).isSome=K->0<=f->f<(p.length:Int)->(ew p f q).args.length<=4194303)(n:Nat)(a x)(y:b.frames[n]? =M a)(hx:e[n]? =M x)(t:yl p a)(w:l=K\/gg p c b.steps a≠5):
  Calls Tryz.prog 169 #[zP (M ⟨g,0,U⟩),zP (M ⟨x.fb,0,U⟩)] d λu A=>yr (gg p c b.steps a) d A u:=by
 cases l with
 | true => exact Ke p h i d ρ g c b j e k o m r s z v n a x y hx t
 | false => exact Kg p h i d ρ g c b j e k o m r a x.fb (w.resolve_left (by simp))
end
end Go.Proofs.YtiiokkllmchohaaGreat
