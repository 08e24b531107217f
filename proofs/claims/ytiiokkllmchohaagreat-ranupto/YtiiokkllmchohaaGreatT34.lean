/- The document's solver, pure: it ends, and as the code's does. -/
import Derived.Test.YtiiokkllmchohaaGreatT33
set_option maxHeartbeats 0
set_option maxRecDepth 99999
namespace Go.Proofs.YtiiokkllmchohaaGreat
open Go.Value renaming int->J,slice->O,pointer->zP,bool->zB
open Go.IntKind renaming i64->I
open Option renaming none->U,some->M
open Bool renaming true->K,false->F
open Go.Ending renaming returned->zR
open Go.Obj renaming cells->zC
open Go.RowKit Go.Shelf
def qd (p:On)(i:Nat)(g:ef)(s:eT):Bool:= !(s.re.getD i F && gA p g (s.st.getD i OM))
def oV (p:On)(n:ef):List (Int×Bool)->eT×Bool->Option (eT×Bool)
 | [], x => M x
 | y :: l, x => (mo p y.1.toNat n x.1).bind λs' => oV p n l (s', x.2 || qd p y.1.toNat n x.1)
def sF (p:On)(m:eh)(i:Nat)(x:eT×Bool):Option (eT×Bool):=
 if x.1.re.getD i F then (iq p m i (x.1.st.getD i OM)).bind λn=>oV p n (gU (ey m i) i).reverse x else M x
def nN (p:On)(m:eh)(s:eT):Nat->Option (eT×Bool)
 | 0 => M (s, F)
 | k + 1 => (nN p m s k).bind (sF p m k)
def pF (p:On)(m:eh):Nat->eT->Option (Option eT)
 | 0, _ => U
 | n + 1, s => match nN p m s m.code.length with
  | none => M U
  | some (s', true) => pF p m n s'
  | some (s', false) => M (M s')
section
variable {p : List eb} {m : eh} {c : Int} {σ : Nat -> Option ef}
theorem DV{d}:∀ {b:List (Int×Bool)} {x a:eT×Bool},oV p d b x=M a->np p d b x.1=M a.1
 | [], x, a, e => by cases e; rfl
 | y :: b, x, a, e => by
  unfold oV at e;obtain⟨a,f,g⟩:=fg e;unfold np;rw[f,au];exact DV g
theorem Bh{d}:∀ {b:List (Int×Bool)} {x:eT×Bool} {a:eT},np p d b x.1=M a->∃f,oV p d b x=M (a,f)
 | [], x, a, e => by cases e; exact ⟨x.2, rfl⟩
 | y :: b, x, a, e => by
  unfold np at e;obtain⟨i,g,h⟩:=fg e;unfold oV;rw[g,au];exact Bh (x:=(i,x.2 || qd p y.1.toNat d x.1)) h
theorem LP(q:ez p p.length)(l:p.length<=6)(r:m.stack<=8){a h}(f:gM p m a){e}(j:e<40){d}(n:d.loc.length=8)(s:(d.stk.length:Int)<=m.stack)(b:mo p e d a=M h):(qd p e d a=F->h=a)/\(qd p e d a=K->mu p h<mu p a):=by
 unfold mo at b;unfold qd
 split at b
 .rename_i k;rw[k,bO]
  split at b
  .grind
  .rename_i i
   split at b
   .rename_i o
    cases b
    refine⟨λf=>absurd (by simpa using f) i,λ_=>?_⟩;exact(xw f j (g:=jz p (a.st.getD e OM) d) (by rw[am k];exact D7 q l (f.ok e j).1 n o i)).1
   .cases b
 .grind [xw,D8]
theorem DW(k:ez p p.length)(g:p.length<=6)(h:m.stack<=8){f}(j:f.loc.length=8)(i:(f.stk.length:Int)<=m.stack):∀(d:List (Int×Bool)) (x a:eT×Bool),gM p m x.1->(∀b∈d,b.1.toNat<40)->oV p f d x=M a->(a.2=F->a.1=x.1/\x.2=F)/\mu p a.1<=mu p x.1/\(a.2=K->x.2=K\/mu p a.1<mu p x.1)
 | [], x, a, c, _, e => by
  cases e
  exact⟨λa=>⟨rfl,a⟩,ai _,λa=>.inl a⟩
 | b :: d, x, a, c, hy, e => by
  unfold oV at e;obtain⟨t,l,s⟩:=fg e;obtain⟨t,t⟩:=LP k g h c (hy b (by simp)) j i l;obtain⟨n,_⟩:=uZ k g h c (hy b (by simp)) j i l;obtain⟨o,q,r⟩:=DW k g h j i d _ a n (λb a=>hy b (by simp[a])) s;dsimp only at o q r
  cases a:qd p b.1.toNat f x.1 with
  | false => grind
  | true => grind
theorem LA(j:ez p p.length)(h:p.length<=6)(i:m.stack<=8)(I:m.code.length<=40)(D:∀a∈m.code,eU p m a=K){a}(B:a<m.code.length){x b}(e:gM p m x.1)(f:sF p m a x=M b):
  gM p m b.1/\Up p x.1 b.1/\(b.2=F->b.1=x.1/\x.2=F/\(x.1.re.getD a F=K->Done p m x.1 a))/\mu p b.1<=mu p x.1/\(b.2=K->x.2=K\/mu p b.1<mu p x.1):=by
 unfold sF at f
 split at f
 .rename_i J;obtain⟨E,g,r⟩:=fg f;have t:=e.ok a (by omega);obtain⟨n,o⟩:=rk g t.1 t.2;have C:=ro B D g;have l:∀d∈(gU (ey m a) a).reverse,d.1.toNat<40:=λd k=>by have:=C d (dJ.1 k);omega
  have s:=DV r;obtain⟨G,H⟩:=Ag j h i n o _ _ _ e l s;obtain⟨u,_⟩:=xz j h i n o _ _ _ e l s;obtain⟨v,w,y⟩:=DW j h i n o _ _ _ e l r;refine⟨u,G,λA=>?_,w,y⟩;obtain⟨q,z⟩:=v A;refine⟨q,z,λ_=>⟨E,g,λd k=>?_⟩⟩;have:=H d (dJ.2 k);rw[q]at this;exact this
 .grind [Up.refl]
theorem Ac(i:ez p p.length)(k:p.length<=6)(l:m.stack<=8)(j:m.code.length<=40)(n:∀d∈m.code,eU p m d=K){b}(h:gM p m b):∀(f:Nat) (a:eT×Bool),f<=m.code.length->nN p m b f=M a->
  gM p m a.1/\Up p b a.1/\(a.2=F->a.1=b/\∀d,d<f->b.re.getD d F=K->Done p m b d)/\mu p a.1<=mu p b/\(a.2=K->mu p a.1<mu p b)
 | 0, a, _, e => by
  cases e
  exact⟨h,Up.refl h,λ_=>⟨rfl,λd g=>by omega⟩,ai _,λg=>by cases g⟩
 | f + 1, a, hk, e => by
  unfold nN at e;obtain⟨t,r,s⟩:=fg e;obtain⟨o,q,a,a,a⟩:=Ac i k l j n h f t (by omega) r;obtain⟨a,b,d,d,d⟩:=LA i k l j n (by omega) o s;refine⟨a,q.trans i b,λg=>?_,by omega,λg=>?_⟩
  .grind
  .grind
structure uq (p:On)(c:Int)(m:eh)(s:eT):Prop where
 ok:gM p m s
 oH:s.re.getD 0 F=K/\fU p (fH c m) (s.st.getD 0 OM)
 dn:∀i,i<m.code.length->s.re.getD i F=K->Done p m s i
theorem DZ (f:ez p p.length)(l:p.length<=6)(n:m.stack<=8)(k:m.code.length<=40)(o:∀t∈m.code,eU p m t=K):∀(g:Nat) (a b:eT),gM p m a->a.re.getD 0 F=K->fU p (fH c m) (a.st.getD 0 OM)->pF p m g a=M (M b)->uq p c m b
 | 0, a, b, _, _, _, e => by cases e
 | g + 1, a, b, w, b1, b2, e => by
  unfold pF at e
  cases d:nN p m a m.code.length with
  | none => rw[d]at e; cases e
  | some v =>
   obtain⟨u,q⟩:=v;rw[d]at e;obtain⟨h,i,r,_,_⟩:=Ac f l n k o w _ _ (ai _) d
   cases q with
   | true => exact DZ f l n k o g u b h (i.re 0 (by omega) b1) (b2.trans f (i.le 0 (by omega) b1)) e
   | false =>
    cases e
    obtain⟨j,s⟩:=r rfl;dsimp only at j;subst j;exact⟨h,⟨b1,b2⟩,s⟩
theorem DY (i:ez p p.length)(e:p.length<=6)(f:m.stack<=8)(d:m.code.length<=40)(g:∀q∈m.code,eU p m q=K):∀(b:Nat) (a:eT),gM p m a->mu p a<b->∃r,pF p m b a=M r
 | 0, a, _, h => by omega
 | b + 1, a, c, h => by
  unfold pF
  cases o:nN p m a m.code.length with
  | none => exact ⟨U, rfl⟩
  | some s =>
   obtain⟨j,l⟩:=s;obtain⟨k,_,_,a,n⟩:=Ac i e f d g c _ _ (ai _) o
   cases l with
   | true => exact DY i e f d g b j k (by have := n rfl; dsimp only at this; omega)
   | false => exact ⟨M j, rfl⟩
def lL (s:eT)(i:Nat):Option ef:=if s.re.getD i F then M (s.st.getD i OM) else U
theorem uq.xM{d}(b:uq p c m d):rS p c m (lL d):=by
 refine⟨⟨d.st.getD 0 OM,by unfold lL;rw[am b.oH.1],b.oH.2⟩,λk n i a=>?_⟩;unfold lL at a
 split at a
 .rename_i j
  cases a
  obtain⟨l,h,e⟩:=b.dn k i j;exact⟨l,h,λg f=>⟨_,by unfold lL;rw[am (e g f).1],(e g f).2⟩⟩
 .cases a
theorem DX(d:fi p=0)(t:eM p<=4194304){N}(q:gh p c N=M m)(n:rS p c m σ){f}(k:gM p m f)(j:jY p σ f):∀(a:Nat),a<=m.code.length->∃i,nN p m f a=M i/\jY p σ i.1/\gM p m i.1
 | 0, _ => ⟨(f, F), rfl, j, k⟩
 | a + 1, hn => by
  have h:=iA d;have w:=oj d t;obtain⟨_,_,b⟩:=kZ d q;have I:=(kY d).1.2;have W:=b.c40;obtain⟨V,z,g,l⟩:=DX d t q n k j a (by omega);unfold nN;rw[z,au];unfold sF
  split
  .rename_i r;obtain⟨T,G,H⟩:=g.le a (by omega) r;obtain⟨X,D,E⟩:=n.go a T (by omega) G;obtain⟨Y,e,C⟩:=DI h b.ins b.ok.loc (by omega) H D;have o:=l.ok a (by omega);obtain⟨Q,R⟩:=rk e o.1 o.2;have K:=ro (by omega) b.ins e;have J:=uT w b.ins (by omega) (g.ty a (by omega) r) e
   obtain⟨S,A,v,x⟩:=Af (σ := σ) h I b.ok.stk Q R J (gU (ey m a) a).reverse V.1 l g (λu L=>by
    have s:=dJ.1 L;obtain⟨U,O,P⟩:=E u s
    exact⟨by have:=K u s;omega,U,O,C.trans h P⟩)
   obtain⟨y,B⟩:=Bh A;exact⟨(S,y),by rw[e,au,B],v,x⟩
  .grind
theorem Ad(g:fi p=0)(i:eM p<=4194304){q}(h:gh p c q=M m)(f:rS p c m σ):∀(d:Nat) (b:eT) (a:Option eT),gM p m b->jY p σ b->pF p m d b=M a->∃j,a=M j/\jY p σ j
 | 0, b, a, _, _, e => by cases e
 | d + 1, b, a, t, B, e => by
  obtain⟨s,o,k,l⟩:=DX g i h f t B m.code.length (ai _);unfold pF at e;rw[o]at e;obtain⟨r,n⟩:=s
  cases n with
  | true => exact Ad g i h f d r a l k e
  | false => grind
theorem iL.anti(j:ez p p.length)(i:p.length<=6){b d}(h:iL p b d)(n:iL p d b):b=d:=by
 have g:=h.len;have k:=(iL.iff g).1 h;have l:=(iL.iff g.symm).1 n
 apply List.ext_getElem g
 intro a g h;have e:=k a g;have f:=l a h;rw[aj,aj,ae g,ae h]at e f;dsimp only[Option.getD_some]at e f;have:=rx j i e;have:=rx j i f
 by_cases e:b[a]=d[a]
 .exact e
 .omega
theorem fU.anti(i:ez p p.length)(h:p.length<=6){a d}(b:fU p a d)(g:fU p d a):a=d:=by
 obtain⟨n,j⟩:=a;obtain⟨q,o⟩:=d;have e:=b.sl;have f:=b.tl;obtain rfl:n=q:=iL.anti i h ((iL.iff (by rw[e,f])).2 λd a=>b.l d (by rw[e]at a;exact a)) ((iL.iff (by rw[e,f])).2 λd a=>g.l d (by rw[f]at a;exact a));obtain rfl:j=o:=iL.anti i h b.k g.k
 rfl
theorem Nb(n:fi p=0)(x:eM p<=4194304){I}(t:gh p c I=M m){w v j k}(y:mq p m w (gH sv0 0 (fH c m))=M j)(z:pF p m v (gH sv0 0 (fH c m))=M k):
  (j=U↔k=U)/\∀a d,j=M a->k=M d->∀e,e<40->a.re.getD e F=d.re.getD e F/\(a.re.getD e F=K->a.st.getD e OM=d.st.getD e OM):=by
 have D:=iA n;obtain⟨_,_,g⟩:=kZ n t;have C:=(kY n).1.2;have s:0<=m.stack:=by have:=g.bg.2.2;have f:((fH c m).stk.length:Int)=0:=rfl;omega
 have l:=vC (p:=p) (c:=c) g.a7 s
 have A:∀a,j=M a->uq p c m a:=λa f=>by
  subst f;obtain⟨h,b⟩:=Au D C g.ok.stk g.c40 g.ins w _ _ l y;exact⟨h.ok,h.oH,λe r i=>h.dn e r i (b e r)⟩
 have B:∀a,k=M a->uq p c m a:=λa f=>by
  subst f;exact DZ D C g.ok.stk g.c40 g.ins v _ _ l.ok l.oH.1 l.oH.2 z
 have G:∀a d,j=M a->k=M d->jY p (lL a) d:=λa d f o=>by
  have h:=(A a f).xM;obtain⟨u,b,q⟩:=Ad n x t h v _ k l.ok (xP g s h) z;rw[o]at b
  cases b
  exact q
 have H:∀a d,j=M a->k=M d->jY p (lL d) a:=λa d f o=>by
  have h:=(B d o).xM;obtain⟨u,b,q⟩:=At n x t h w _ j l (xP g s h) y;rw[f]at b
  cases b
  exact q
 refine⟨⟨λf=>?_,λf=>?_⟩,λa d f o e r=>?_⟩
 .cases i:k with
  | none => rfl
  | some d =>
   have h:=(B d i).xM;obtain⟨u,b,_⟩:=At n x t h w _ j l (xP g s h) y;rw[f]at b
   cases b
 .cases i:j with
  | none => rfl
  | some a =>
   have h:=(A a i).xM;obtain⟨u,b,_⟩:=Ad n x t h v _ k l.ok (xP g s h) z;rw[f]at b
   cases b
 .have h:=G a d f o;have E:=H a d f o
  have J:d.re.getD e F=K->a.re.getD e F=K/\fU p (d.st.getD e OM) (a.st.getD e OM):=λi=>by
   obtain⟨u,b,q⟩:=h.le e r i;unfold lL at b
   split at b
   .grind
   .cases b
  have L:a.re.getD e F=K->d.re.getD e F=K/\fU p (a.st.getD e OM) (d.st.getD e OM):=λi=>by
   obtain⟨u,b,q⟩:=E.le e r i;unfold lL at b
   split at b
   .grind
   .cases b
  refine⟨?_,λi=>?_⟩
  .rw [de];exact⟨λf=>(L f).1,λf=>(J f).1⟩
  .grind [fU.anti]
end
def eB (p:On)(m:eh)(i:fG):List Int×List Int:=
 if i.op=0 then ([],[0])
 else if i.op=2 then ([-2],[])
 else if i.op=3\/i.op=4\/i.op=5\/i.op=6 then ([0,0],[0])
 else if i.op=8\/i.op=19 then ([0],[])
 else if i.op=9 then ([],[i.a+3])
 else if i.op=10 then ([i.a+3],[gi p i.a i.b])
 else if i.op=11 then ([i.a+3,gi p i.a i.b],[])
 else if i.op=12 then ((i.a+3)::(ew p i.a i.b).args,[(ew p i.a i.b).ret])
 else if i.op=13 then ([m.ret],[])
 else if i.op=14 then ([2],[])
 else if i.op=15 then ([2],[-1,-1])
 else if i.op=16 then ([],[1])
 else if i.op=17 then ([-1],[i.a+3])
 else if i.op=18 then ([-1],[])
 else if i.op=20 then ([2,2],[-2,-1])
 else ([],[])
def jd (p:On)(t w:Int):Bool:=if w= -1 then iy t else if w= -2 then !(t == 2) else eF p t w
def js (tk:Ok)(t:Int):Int:=if t<0 then tk.getD (-1-t).toNat 0 else t
def gB (p:On)(m:eh)(i:fG)(s:ef):Option ef:=
 if i.op=1/\s.loc.getD i.a.toNat 0=2 then U
 else if s.stk.length<(eB p m i).1.length then U
 else if ((s.stk.drop (s.stk.length-(eB p m i).1.length)).zip (eB p m i).1).all λx=>jd p x.1 x.2 then
  (if (((s.stk.take (s.stk.length-(eB p m i).1.length)++(if i.op=1 then [s.loc.getD i.a.toNat 0] else (eB p m i).2).map (js (s.stk.drop (s.stk.length-(eB p m i).1.length)))).length:Nat):Int)<=m.stack then
    M ⟨if i.op=2 then s.loc.set i.a.toNat (s.stk.getD (s.stk.length-(eB p m i).1.length) 0) else s.loc,s.stk.take (s.stk.length-(eB p m i).1.length)++(if i.op=1 then [s.loc.getD i.a.toNat 0] else (eB p m i).2).map (js (s.stk.drop (s.stk.length-(eB p m i).1.length)))⟩ else U)
 else U
section
variable {p : List eb} {m : eh} {s : ef}
theorem rB (a:Ok):a= []\/∃b x,a=b++ [x]:=by
 rcases bX a with c | ⟨b,x,c⟩
 .grind
 .grind
theorem take_nil (a:s.stk= []):fS s=U:=by unfold fS;rw[a];rfl
theorem sK{a x}(b:s.stk=a++ [x]):fS s=M (x,{ s with stk:=a }):=take_mk b
theorem NH:∀(b:Ok) (s:ef),gC p b.reverse s=(if s.stk.length<b.length then U else if ((s.stk.drop (s.stk.length-b.length)).zip b).all (λx=>eF p x.1 x.2) then M { s with stk:=s.stk.take (s.stk.length-b.length) } else U):=by
 intro b
 induction g:b.length generalizing b with
 | zero =>
  intro s;obtain rfl:b= []:=aV g;simp[gC]
 | succ c k =>
  intro s
  obtain⟨f,e,rfl⟩:∃f e,b=f++ [e]:=by
   rcases rB b with d | d
   .subst d;simp at g
   .exact d
  have i:f.length=c:=by simpa using g
  rw[dW,List.reverse_singleton,dO];unfold gC fC
  rcases rB s.stk with d | ⟨a,x,d⟩
  .rw [take_nil d,d];simp
  .rw [sK d,au,d];dsimp only;have b:(a++ [x]).length-(c+1)=a.length-c:=(by simp);rw[b]
   by_cases j:a.length<c
   .rw [am (show (a++ [x]).length<c+1 by simp;omega)]
    cases h:eF p x e with
    | false => rfl
    | true =>
     rw[am rfl,au,k f i,am j]
   .rw [af (show ¬(a++ [x]).length<c+1 by simp;omega)];have b:(a++ [x]).drop (a.length-c)=a.drop (a.length-c)++ [x]:=bW (by omega);have g:(a++ [x]).take (a.length-c)=a.take (a.length-c):=cI (by omega);rw[b,g,List.zip_append (by rw[cv,i];omega),bR]
    cases h:eF p x e with
    | false => simp[h]
    | true =>
     have l:([x].zip [e]).all (λx=>eF p x.1 x.2)=K:=by
      show (eF p x e && K)=K
      rw[h];rfl
     rw[am rfl,au,k f i,af j,l,dy]
theorem zH(b:(s.stk.length:Int)<=m.stack)(a):fj m a s=if ((s.stk.length:Nat):Int)+1<=m.stack then M { s with stk:=s.stk++ [a] } else U:=by grind [fj]
theorem Dl{a}(c:(a.length:Int)+1<=m.stack)(x b):(fj m x { s with stk:=a }).bind (fj m b)=if (a.length:Int)+2<=m.stack then M { s with stk:=a++ [x,b] } else U:=by grind [fj]
theorem Iw {c b:Ok}(a:∀e∈b,0<=e):((c.zip b).all λx=>jd p x.1 x.2)=(c.zip b).all λx=>eF p x.1 x.2:=by
 rw[de,aJ,aJ]
 have d:∀x∈c.zip b,jd p x.1 x.2=eF p x.1 x.2:=λx hx=>by
  have:=a x.2 (List.of_mem_zip hx).2;unfold jd;rw[af (by omega),af (by omega)]
 exact⟨λa x hx=>by rw[<-d x hx];exact a x hx,λa x hx=>by rw[d x hx];exact a x hx⟩
theorem JT {d a:Ok}(c:∀b∈a,0<=b):a.map (js d)=a:=by
 induction a with
 | nil => rfl
 | cons b a a =>
  rw[bC,a (λa hx=>c a (by simp[hx]))];have:=c b (by simp);unfold js;rw[af (by omega)]
theorem oW{a tk lv}(f:a.op≠1)(g:a.op≠2)(e:eB p m a=(tk,lv))(d:∀c∈tk,0<=c)(h:∀c∈lv,0<=c):
  gB p m a s=(gC p tk.reverse s).bind λb=>if ((b.stk.length+lv.length:Nat):Int)<=m.stack then M { b with stk:=b.stk++lv } else U:=by
 unfold gB;rw[af (by omega),e,NH];dsimp only
 split
 .rfl
 .rw [Iw d]
  split
  .grind [JT]
  .rfl
theorem te(b)(d:∀a,b=M a->(a.stk.length:Int)<=m.stack)(c):(b.bind λa=>if ((a.stk.length+ [c].length:Nat):Int)<=m.stack then M { a with stk:=a.stk++ [c] } else U)=b.bind (fj m c):=by
 cases b with
 | none => rfl
 | some a => grind [zH]
theorem bind_none (b:Option ef)(c:∀a,b=M a->(a.stk.length:Int)<=m.stack):(b.bind λa=>if ((a.stk.length+([]:Ok).length:Nat):Int)<=m.stack then M { a with stk:=a.stk++ [] } else U)=b:=by
 cases b with
 | none => rfl
 | some a => simp_all
theorem Ft:∀(b a:Ok) (s:ef),gC p (b++a) s=(gC p b s).bind (gC p a)
 | [], a, s => rfl
 | t :: b, a, s => by
  rw[cB];unfold gC
  cases fC p t s with
  | none => rfl
  | some c => rw[au, au]; exact Ft b a c
theorem sM(a s):gC p [a] s=fC p a s:=by simp_all[fC,gC]
theorem Ae{d}(j:(s.stk.length:Int)<=m.stack)(O:∀x∈s.loc,0<=x)(E:(9<=d.op/\d.op<=12)\/d.op=17->0<=d.a)(J:d.op=10\/d.op=11->0<=gi p d.a d.b)(P:d.op=12->(∀v∈(ew p d.a d.b).args,0<=v)/\0<=(ew p d.a d.b).ret)(Q:0<=m.ret):gB p m d s=fe p m d s:=by
 have q:∀d A,gC p d s=M A->(A.stk.length:Int)<=m.stack:=λd A c=>(yb (m:=m) d c j).1
 have N:0<=s.loc.getD d.a.toNat 0:=by
  rw[aj]
  cases h:s.loc[d.a.toNat]? with
  | none => exact Int.le_refl _
  | some x => exact O x (aB h)
 unfold fe
 by_cases c:d.op=0
 .rw [am c,oW (by omega) (by omega) (show eB p m d=([],[0]) by unfold eB;rw[am c]) (by simp) (by simp),te _ (q _)]
  rfl
 rw[af c];have g:=c
 by_cases c:d.op=1
 .rw [am c]
  have o:eB p m d=([],[]):=by
   unfold eB;simp[c]
  unfold gB jj;obtain⟨v,e⟩:∃v,v=s.loc.getD d.a.toNat 0:=⟨_,rfl⟩;rw[<-e]at N ⊢
  by_cases f:v=2
  .rw [am ⟨c,f⟩,am f];rfl
  .rw [af (λc=>f c.2),af f,o,au,zH j,am c,af (show ¬d.op=2 by omega)];have h:∀c,js c v=v:=λc=>by unfold js;rw[af (by omega)]
   simp[h]
 rw[af c];have l:=c
 by_cases c:d.op=2
 .rw [am c]
  have o:eB p m d=([-2],[]):=by
   unfold eB;rw[af g,am c]
  unfold gB;rw[af (λc=>l c.1),o,af l,am c]
  rcases rB s.stk with e | ⟨k,x,e⟩
  .rw [take_nil e,e];simp
  .rw [sK e,au,e];have y:(k.length:Int)<=m.stack:=(by rw[e]at j;simp at j;omega);unfold jj jd
   by_cases f:x=2
   .simp [f]
   .simp [f,y]
 rw[af c];have f:=c;have u:d.op≠1/\d.op≠2:=⟨l,f⟩
 by_cases c:d.op=3\/d.op=4\/d.op=5\/d.op=6
 .rw [am c,oW (tk:= [0,0]) (lv:= [0]) (by omega) (by omega) (by unfold eB;rw[af g,af f,am c]) (by simp) (by simp),te _ (q _)]
  show (gC p [0,0] s).bind _=_
  unfold gC
  cases fC p 0 s with
  | none => rfl
  | some A => rw[au, au, sM]
 rw[af c];have h:=c
 by_cases c:d.op=8\/d.op=19
 .rw [am c,oW (tk:= [0]) (lv:= []) (by omega) (by omega) (by unfold eB;rw[af g,af f,af h,am c]) (by simp) (by simp),bind_none _ (q _)];exact sM _ _
 rw[af c];have i:=c
 by_cases c:d.op=9
 .have:=E (by omega);rw[am c,oW (tk:= []) (lv:= [d.a+3]) (by omega) (by omega) (by unfold eB;rw[af g,af f,af h,af i,am c]) (by simp) (by simp;omega),te _ (q _)]
  rfl
 rw[af c];have n:=c
 by_cases c:d.op=10
 .have:=E (by omega);have:=J (by omega);rw[am c,oW (tk:= [d.a+3]) (lv:= [gi p d.a d.b]) (by omega) (by omega) (by unfold eB;rw[af g,af f,af h,af i,af n,am c]) (by simp;omega) (by simp;omega),te _ (q _)]
  show (gC p [d.a+3] s).bind _=_
  rw[sM]
 rw[af c];have r:=c
 by_cases c:d.op=11
 .have:=E (by omega);have:=J (by omega);rw[am c,oW (tk:= [d.a+3,gi p d.a d.b]) (lv:= []) (by omega) (by omega) (by unfold eB;rw[af g,af f,af h,af i,af n,af r,am c]) (by simp;omega) (by simp),bind_none _ (q _)]
  show gC p [gi p d.a d.b,d.a+3] s=_
  unfold gC
  cases fC p (gi p d.a d.b) s with
  | none => rfl
  | some A => rw[au, au, sM]
 rw[af c];have t:=c
 by_cases c:d.op=12
 .have:=E (by omega);obtain⟨k,o⟩:=P c
  rw[am c,oW (tk:=(d.a+3)::(ew p d.a d.b).args) (lv:= [(ew p d.a d.b).ret]) (by omega) (by omega) (by unfold eB;rw[af g,af f,af h,af i,af n,af r,af t,am c]) (λv e=>by
   rcases aE.1 e with rfl | e
   .omega
   .exact k v e) (by simpa using o),te _ (q _),List.reverse_cons,Ft]
  cases gC p (ew p d.a d.b).args.reverse s with
  | none => rfl
  | some A => rw[au, au, sM]
 rw[af c];have u:=c
 by_cases c:d.op=13
 .rw [am c,oW (tk:= [m.ret]) (lv:= []) (by omega) (by omega) (by unfold eB;rw[af g,af f,af h,af i,af n,af r,af t,af u,am c]) (by simpa using Q) (by simp),bind_none _ (q _)];exact sM _ _
 rw[af c];have w:=c;have G:∀x,eF p x 2=K:=λx=>by unfold eF;simp
 by_cases c:d.op=14
 .rw [am c,oW (tk:= [2]) (lv:= []) (by omega) (by omega) (by unfold eB;rw[af g,af f,af h,af i,af n,af r,af t,af u,af w,am c]) (by simp) (by simp),bind_none _ (q _)]
  show gC p [2] s=_
  rw[sM];unfold fC
  cases fS s with
  | none => rfl
  | some x => rw[au, G]; rfl
 rw[af c];have z:=c
 by_cases c:d.op=15
 .rw [am c];have o:eB p m d=([2],[-1,-1]):=by unfold eB;rw[af g,af f,af h,af i,af n,af r,af t,af u,af w,af z,am c]
  unfold gB;rw[af (λc=>l c.1),o,af l,af f]
  rcases rB s.stk with e | ⟨k,x,e⟩
  .rw [take_nil e,e];simp
  .rw [sK e,au,e];have y:(k.length:Int)+1<=m.stack:=(by rw[e]at j;simp at j;omega);have C:=Dl (m:=m) (s:=s) y x x;dsimp only at C ⊢;rw[C];unfold jd js;simp[G]
 rw[af c];have B:=c
 by_cases c:d.op=16
 .rw [am c,oW (tk:= []) (lv:= [1]) (by omega) (by omega) (by unfold eB;rw[af g,af f,af h,af i,af n,af r,af t,af u,af w,af z,af B,am c]) (by simp) (by simp),te _ (q _)]
  rfl
 rw[af c];have F:=c
 by_cases c:d.op=17
 .rw [am c];have:=E (by omega);have o:eB p m d=([-1],[d.a+3]):=by unfold eB;rw[af g,af f,af h,af i,af n,af r,af t,af u,af w,af z,af B,af F,am c]
  unfold gB iU;rw[af (λc=>l c.1),o,af l,af f]
  rcases rB s.stk with e | ⟨k,x,e⟩
  .rw [take_nil e,e];simp
  .rw [sK e,au,e];have y:(k.length:Int)+1<=m.stack:=(by rw[e]at j;simp at j;omega);unfold jd js
   cases C:iy x with
   | false => simp[C]
   | true =>
    rw[am rfl,au,zH (s:= { s with stk:=k }) (by dsimp only;omega)];have:¬d.a+3<0:=by omega
    simp[C,this]
 rw[af c];have H:=c
 by_cases c:d.op=18
 .rw [am c];have o:eB p m d=([-1],[]):=by unfold eB;rw[af g,af f,af h,af i,af n,af r,af t,af u,af w,af z,af B,af F,af H,am c]
  unfold gB iU;rw[af (λc=>l c.1),o,af l,af f]
  rcases rB s.stk with e | ⟨k,x,e⟩
  .rw [take_nil e,e];simp
  .rw [sK e,au,e];have y:(k.length:Int)<=m.stack:=(by rw[e]at j;simp at j;omega);unfold jd
   cases C:iy x with
   | false => simp[C]
   | true => simp[C, y]
 rw[af c];have I:=c
 by_cases c:d.op=20
 .rw [am c];have o:eB p m d=([2,2],[-2,-1]):=by unfold eB;rw[af g,af f,af h,af i,af n,af r,af t,af u,af w,af z,af B,af F,af H,af I,am c]
  unfold gB;rw[af (λc=>l c.1),o,af l,af f]
  rcases rB s.stk with e | ⟨k,x,e⟩
  .rw [take_nil e,e];simp
  .rw [sK e,au,e]
   rcases rB k with D | ⟨L,R,D⟩
   .rw [take_nil (s:= { s with stk:=k }) D];subst D;simp
   .rw [sK (s:= { s with stk:=k }) D,au];subst D;have y:(L.length:Int)+2<=m.stack:=(by rw[e]at j;simp at j;omega);have C:=Dl (m:=m) (s:=s) (show (L.length:Int)+1<=m.stack by omega) x R;dsimp only at C ⊢;rw[C];unfold jd js;simp[G];omega
 rw[af c];rw[oW (tk:= []) (lv:= []) (by omega) (by omega) (by unfold eB;rw[af g,af f,af h,af i,af n,af r,af t,af u,af w,af z,af B,af F,af H,af I,af c]) (by simp) (by simp),bind_none _ (q _)]
 rfl
end
def fm (m:eh)(s:ef):ef:=⟨s.loc.take m.locals.toNat,s.stk⟩
section
variable {p : List eb} {m : eh} {s t : ef}
theorem getD_take{c:Ok}{d a}(e:a<d)(b):(c.take d).getD a b=c.getD a b:=by grind
theorem Ca{c}(g:c.op=1\/c.op=2->c.a.toNat<m.locals.toNat):fe p m c (fm m s)=(fe p m c s).map (fm m):=by
 have h:∀(t:Int) (s:ef),fj m t (fm m s)=(fj m t s).map (fm m):=λt s=>by
  unfold fj fm;dsimp only
  split <;> rfl
 have e:∀s:ef,fS (fm m s)=(fS s).map λd=>(d.1,fm m d.2):=λs=>by
  unfold fS fm;dsimp only
  cases s.stk.getLast? <;> rfl
 have i:∀(t:Int) (s:ef),fC p t (fm m s)=(fC p t s).map (fm m):=λt s=>by
  unfold fC;rw[e]
  cases fS s with
  | none => rfl
  | some d => grind
 have:∀s:ef,iU (fm m s)=(iU s).map (fm m):=λs=>by
  unfold iU;rw[e]
  cases fS s with
  | none => rfl
  | some d => grind
 have:∀(f:List Int) (s:ef),gC p f (fm m s)=(gC p f s).map (fm m):=λf=>by
  induction f with
  | nil => exact λs => rfl
  | cons t f b =>
   intro s;unfold gC;rw[i]
   cases fC p t s with
   | none => rfl
   | some d => rw[bD, au, au, b]
 have:∀(b:Option ef) (c e:ef->Option ef),(∀d,c (fm m d)=(e d).map (fm m))->(b.map (fm m)).bind c=(b.bind e).map (fm m):=λb c e f=>by
  cases b with
  | none => rfl
  | some d => rw[bD, au, au, f]
 unfold fe
 by_cases b:c.op=0
 .grind
 simp only[af b];clear b
 by_cases b:c.op=1
 .simp only [am b];have f:(fm m s).loc.getD c.a.toNat 0=s.loc.getD c.a.toNat 0:=getD_take (g (.inl b)) 0;rw[f]
  cases jj (s.loc.getD c.a.toNat 0) with
  | none => rfl
  | some t => rw[au, au, h]
 simp only[af b];clear b
 by_cases b:c.op=2
 .simp only [am b];rw[e]
  cases fS s with
  | none => rfl
  | some d =>
   rw[bD,au,au];dsimp only
   cases jj d.1 with
   | none => rfl
   | some t =>
    rw[bD,bD,bD];unfold fm;dsimp only;rw[List.take_set]
 simp only[af b];clear b
 by_cases b:c.op=3\/c.op=4\/c.op=5\/c.op=6
 .grind
 simp only[af b];clear b
 by_cases b:c.op=8\/c.op=19
 .grind
 simp only[af b];clear b
 by_cases b:c.op=9
 .grind
 simp only[af b];clear b
 by_cases b:c.op=10
 .grind
 simp only[af b];clear b
 by_cases b:c.op=11
 .grind
 simp only[af b];clear b
 by_cases b:c.op=12
 .grind
 simp only[af b];clear b
 by_cases b:c.op=13
 .grind
 simp only[af b];clear b
 by_cases b:c.op=14
 .simp only [am b];rw[e]
  cases fS s <;> rfl
 simp only[af b];clear b
 by_cases b:c.op=15
 .simp only [am b];rw[e]
  cases fS s with
  | none => rfl
  | some d => grind
 simp only[af b];clear b
 by_cases b:c.op=16
 .grind
 simp only[af b];clear b
 by_cases b:c.op=17
 .grind
 simp only[af b];clear b
 by_cases b:c.op=18
 .grind
 simp only[af b];clear b
 by_cases b:c.op=20
 .simp only [am b];rw[e]
  cases fS s with
  | none => rfl
  | some d =>
   rw[bD,au,au];dsimp only;rw[e]
   cases fS d.2 with
   | none => rfl
   | some c => grind
 simp only[af b];clear b
 rfl
theorem Ha (a:s.loc.length=8)(b:t.loc.length=8)(e:Hi m t)(h:0<=m.locals)(i:m.locals<=8):gA p (fm m s) (fm m t)=gA p s t:=by
 have d:(((fm m s).loc.zip (fm m t).loc).all λa=>eF p a.1 a.2)=((s.loc.zip t.loc).all λa=>eF p a.1 a.2):=by
  rw[de,sO (show (fm m s).loc.length=(fm m t).loc.length by unfold fm;simp[a,b]),sO (by rw[a,b])];have g:(fm m s).loc.length=m.locals.toNat:=by unfold fm;simp[a];omega
  rw[g,a]
  constructor
  .intro a c f
   rcases bt c m.locals.toNat with a | a
   .grind [fm]
   .rw [e c (by omega) f];exact nG _ _
  .grind [fm,getD_take]
 unfold gA;rw[d]
 rfl
def nk (p:On)(s t:ef):ef:=⟨(s.loc.zip t.loc).map λx=>gZ p x.1 x.2,(s.stk.zip t.stk).map λx=>gZ p x.1 x.2⟩
theorem Fz{b c:Ok}(d:b.length=c.length)(a)(e:a<b.length):((b.zip c).map λx=>gZ p x.1 x.2)[a]? =M (gZ p (b.getD a 0) (c.getD a 0)):=by grind
theorem Cb (c:s.loc.length=8)(f:t.loc.length=8)(e:s.stk.length=t.stk.length)(i:m.locals<=8):nk p (fm m s) (fm m t)=fm m (jz p s t):=by
 obtain⟨g,h⟩:=om p s t;unfold nk fm;dsimp only
 congr 1
 .apply cM
  intro b
  rcases bt b m.locals.toNat with a | d
  .rw [Fz (by simp[c,f]) b (by simp[c];omega),bj,am a,getD_take a,getD_take a,<-tG p s t c (by omega),aj,ae (by rw[h,c];omega)]
   rfl
  .grind
 .apply cM
  intro b
  rcases bt b s.stk.length with a | d
  .rw [Fz e b a,<-uL p s t a,aj,ae (by rw[g];exact a)]
   rfl
  .grind
theorem Jz (c:ez p p.length)(a:s.loc.length=8)(b:t.loc.length=8)(e:s.stk.length=t.stk.length)(d:gO p s):gA p (jz p s t) s=gA p t s:=by
 obtain⟨f,f⟩:=om p s t;rw[de,le_iff (by rw[f];exact a) a,le_iff b a]
 constructor
 .exact λb=>(zG a e).trans c b
 .exact λb=>De c a d.Fg (mE.refl p s) b
end
def rJ (p:On)(a b:Int):Nat->Int
 | 0 => 2
 | k + 1 => if eF p a (k : Int) && eF p b (k : Int) && eF p (k : Int) (rJ p a b k) then (k : Int) else rJ p a b k
section
variable {p : List eb} {a b : Int}
theorem zw (h:fz p.length b):fz p.length (gZ p a b):=by
 unfold gZ
 split
 .exact h
 .split
  .rcases uf p b (OD p (a-3)) with ⟨g,_⟩ | ⟨h,h,j,g,j,_,_⟩
   .rw [g];exact⟨by omega,by omega⟩
   .rw [j]
    have:h<p.length:=by
     have i:h∈OD p (a-3):=(by rw[g];simp);unfold OD at i
     have k:∀(d:Nat) (f:Int) (e:Nat),e∈OC p d f->e<p.length:=by
      intro d
      induction d with
      | zero => intro f e c; cases c
      | succ d d =>
       intro f e c;unfold OC at c
       split at c
       .cases c
       .grind
     exact k _ _ _ i
    exact⟨by omega,by omega⟩
  .exact⟨by omega,by omega⟩
theorem Gb(f:ez p p.length)(e:p.length<=6){x c}(g:eF p x c=K)(h:eF p c x=K):x=c:=by
 by_cases d:x=c
 .exact d
 .have:=(rx f e g).2 d;have:=(rx f e h).1;omega
theorem LB (g:ez p p.length)(i:p.length<=6)(f:fz p.length a)(e:fz p.length b):rJ p a b (p.length+3)=gZ p a b:=by
 have d:=zw (p:=p) (a:=a) e;have:∀c,eF p a c=K->eF p b c=K->eF p (gZ p a b) c=K:=λc d e=>zA g d e (λ_=>by have:=f.2;omega)
 have h:∀c:Nat,(eF p a (rJ p a b c)=K/\eF p b (rJ p a b c)=K)/\(gZ p a b<(c:Int)->rJ p a b c=gZ p a b):=by
  intro c
  induction c with
  | zero => exact ⟨⟨nG _ _, nG _ _⟩, λc => by have := d.1; omega⟩
  | succ c c => grind [gZ, rJ, Gb, zE, zF]
 exact(h (p.length+3)).2 (by have:=d.2;omega)
end
section
attribute [local go_sem ↓] Go.wp_at_zero Go.wp_at_succ
attribute [local go_sem] eZ
theorem Er(p A b c e)(u:eQ e A p)(i:ez p p.length)(D:p.length<=6)(q:fz p.length b)(r:fz p.length c):
  Calls Tryz.prog 153 #[.agg #[A],J I b,J I c] e λf H=>f=zR (J I (gZ p b c))/\Below e.heap.size e H:=by
 have j:=Ou u;have C:=Ou (LB i D q r);obtain⟨y,_,_,z,rfl,_⟩:=u;have E:=ev e (zC #[O y p.length z] 24);have B:=Oz e #[O y p.length z] 24;go_in
 go_wp2_with fail;generalize e.alloc _=W at *;have l:=B.c0
 go_loopw [7,8] (λe d wr=>∃a:Nat,a<=p.length+3/\d=J I a/\e=J I (rJ p b c a)/\fz p.length (rJ p b c a)/\Below W.heap.size W wr) (λ_ d _=>p.length+3-(intOf d).toNat)
 case atStart=>exact ⟨0,by omega,rfl,rfl,⟨by unfold rJ;omega,by unfold rJ;omega⟩,ay _ _⟩
 case round=>
  obtain⟨a,e,rfl,rfl,k,m⟩:=hrel;have n:=eu E m;have:=Oq m _ _ l
  by_cases e:a<p.length+3
  .have HS:Hid (rJ p b c (a+1)=if eF p b (a:Int) && eF p c (a:Int) && eF p (a:Int) (rJ p b c a) then (a:Int) else rJ p b c a):=rfl;generalize rJ p b c a=best at *;have G:(a:Int)<3+(p.length:Int):=(by omega);have o:p.length<=4194304:=(by omega);have g:fz p.length (a:Int):=⟨by omega,by omega⟩;go_wp2_with fail;refine(t8 p _ b (a:Int) wr (eA (Oq n) j) i o q g).mono ?_;rintro f K ⟨rfl,e⟩;have v:=eu m e;have s:=eu n e;have:=Oq v _ _ l;generalize eF p b (a:Int)=q1 at *;go_wp2_with fail;refine(t8 p _ c (a:Int) K (eA (Oq s) j) i o r g).mono ?_;rintro f L ⟨rfl,e⟩;have w:=eu v e;have F:=eu s e;have:=Oq w _ _ l;generalize eF p c (a:Int)=q2 at *;go_wp2_with fail;refine(t8 p _ (a:Int) best L (eA (Oq F) j) i o g k).mono ?_;rintro f e ⟨rfl,e⟩;have h:=eu w e;generalize eF p (a:Int) best=q3 at *
   have t:∀e:Int,e=(if q1 && q2 && q3 then (a:Int) else best)->fz p.length (rJ p b c (a+1))/\e=rJ p b c (a+1):=λe x=>by
    rw[ea HS,<-x];refine⟨?_,rfl⟩;rw[x]
    split
    .exact g
    .exact k
   have d:=Ou t;clear t HS
   cases q1 with
   | false =>
    go_wp2_with fail;exact⟨⟨a+1,by omega,by go_num,cP (J .i64) (d _ rfl).2,(d _ rfl).1,h⟩,by simp[intOf];omega⟩
   | true =>
    cases q2 with
    | false =>
     go_wp2_with fail;exact⟨⟨a+1,by omega,by go_num,cP (J .i64) (d _ rfl).2,(d _ rfl).1,h⟩,by simp[intOf];omega⟩
    | true =>
     cases q3 with
     | false =>
      go_wp2_with fail;exact⟨⟨a+1,by omega,by go_num,cP (J .i64) (d _ rfl).2,(d _ rfl).1,h⟩,by simp[intOf];omega⟩
     | true =>
      go_wp2_with fail;exact⟨⟨a+1,by omega,by go_num,cP (J .i64) (d _ rfl).2,(d _ rfl).1,h⟩,by simp[intOf];omega⟩
  .obtain rfl:a=p.length+3:=by omega
   obtain⟨a,d⟩:∃a,a=rJ p b c (p.length+3):=⟨_,rfl⟩;rw[<-d];have g:=Ou (d.trans C);have G:¬((p.length+3:Nat):Int)<3+(p.length:Int):=(by omega);clear d k;go_wp2;go_ret;exact⟨iQ g,n⟩
def iH (p:On)(s t:ef):Bool:=(s.stk.length == t.stk.length) && (s.loc.length == t.loc.length) && ((s.stk.zip t.stk).all λx=>eF p x.1 x.2) && ((s.loc.zip t.loc).all λx=>eF p x.1 x.2)
def eY (g:Addr->Option Value)(s:ef)(vl vs:Value):Prop:=eG 1 (gy g) vl s.loc/\eG 1 (gy g) vs s.stk
theorem eY.keep{a g'}(b:fN a g'){d e f}(c:eY a d e f):eY g' d e f:=⟨fu b c.1,fu b c.2⟩
theorem AP(d){b c:Ok}{a}(e:a<b.length)(f:a<c.length):((b.take (a+1)).zip (c.take (a+1))).all d=(((b.take a).zip (c.take a)).all d && d (b[a],c[a])):=by
 rw[bd,bd,ae e,ae f,List.zip_append (by simp;omega),bR];simp
theorem AO(d){b c:Ok}{a}(f:a<b.length)(g:a<c.length)(e:d (b[a],c[a])=F):(b.zip c).all d=F:=by
 rw[cx];exact⟨(b[a],c[a]),by rw[<-dw (h:=by simp;omega)];exact av _,by rw[e];simp⟩
theorem Ak(p cp c e N P ci ck cm cn f)(b6:eQ f cp p)(b7:ez p p.length)(b8:p.length<=4194304)(bz:eY f.cell? c ci ck)(bI:eY f.cell? e cm cn)(cf:gO p c)(cg:gO p e)(ec:c.loc.length<=4194304)(eg:c.stk.length<=4194304):
  Calls Tryz.prog 99 #[.agg #[cp],.agg #[zB N,ci,ck],.agg #[zB P,cm,cn]] f λak h=>ak=zR (zB (iH p c e))/\Below f.heap.size f h:=by
 have be:=Ou b6;obtain⟨r,_,_,s,rfl,_⟩:=b6;obtain⟨B,bh,bk,t,rfl,_,d0,d1⟩:=it bz.1;obtain⟨C,bn,bo,u,rfl,_,d2,d3⟩:=it bz.2;obtain⟨D,br,bs,v,rfl,_,d4,d5⟩:=it bI.1;obtain⟨w,ac,ad,x,rfl,_,bM,bz⟩:=it bI.2;have cu:=Ou d1;have cz:=Ou d3;have cA:=Ou d5;have dp:=Ou bz;have y:Below f.heap.size f (((f.alloc (zC #[O r p.length s] 24)).alloc (zC #[zB N,O B c.loc.length t,O C c.stk.length u] 149)).alloc (zC #[zB P,O D e.loc.length v,O w e.stk.length x] 149)):=(gS _ _ _).alloc (by simp;omega) _;have Y:=((Oz f #[O r p.length s] 24).alloc (zC #[zB N,O B c.loc.length t,O C c.stk.length u] 149)).alloc (zC #[zB P,O D e.loc.length v,O w e.stk.length x] 149);have z:=(Oz (f.alloc (zC #[O r p.length s] 24)) #[zB N,O B c.loc.length t,O C c.stk.length u] 149).alloc (zC #[zB P,O D e.loc.length v,O w e.stk.length x] 149);have A:=Oz ((f.alloc (zC #[O r p.length s] 24)).alloc (zC #[zB N,O B c.loc.length t,O C c.stk.length u] 149)) #[zB P,O D e.loc.length v,O w e.stk.length x] 149;rw[World.size_alloc]at z;rw[World.size_alloc,World.size_alloc]at A;go_in
 by_cases l:c.stk.length=e.stk.length
 rotate_left
 .have:((c.stk.length:Int) == (e.stk.length:Int))=F:=by simpa using λd:(c.stk.length:Int)=e.stk.length=>l (by omega)
  have i:Hid (iH p c e=F):=by show _=_;unfold iH;rw[show (c.stk.length == e.stk.length)=F by simpa using l];rfl
  go_wp2;go_ret;exact⟨eC i.symm,y⟩
 by_cases n:c.loc.length=e.loc.length
 rotate_left
 .have:((c.loc.length:Int) == (e.loc.length:Int))=F:=by simpa using λd:(c.loc.length:Int)=e.loc.length=>n (by omega)
  have i:Hid (iH p c e=F):=by show _=_;unfold iH;rw[show (c.loc.length == e.loc.length)=F by simpa using n,bv];rfl
  rw[<-l]at y ⊢;clear n l;go_wp2;go_ret;exact⟨eC i.symm,y⟩
 have ab:Hid (iH p c e=(((c.stk.zip e.stk).all λc=>eF p c.1 c.2) && ((c.loc.zip e.loc).all λc=>eF p c.1 c.2))):=by show _=_;unfold iH;rw[l,n];simp
 have ba:=Ou l;have bc:=Ou n;rw[<-l,<-n]at y Y z A ⊢;have:e.stk≠[]->w=M ⟨ac,ad,U⟩:=bM;clear l n;go_wp2_with fail;generalize ((f.alloc _).alloc _).alloc _=W at *
 have b5:∀d,Below W.heap.size W d->d.cell? ⟨f.heap.size,0,U⟩=M (O r p.length s)/\d.cell? ⟨f.heap.size+1,1,U⟩=M (O B c.loc.length t)/\d.cell? ⟨f.heap.size+1,2,U⟩=M (O C c.stk.length u)/\d.cell? ⟨f.heap.size+1+1,1,U⟩=M (O D c.loc.length v)/\d.cell? ⟨f.heap.size+1+1,2,U⟩=M (O w c.stk.length x):=λd c=>
  ⟨(Y.bl c).cell 0,(z.bl c).cell 1,(z.bl c).cell 2,(A.bl c).cell 1,(A.bl c).cell 2⟩
 have X:=Ou b5;clear b5 Y z A
 go_loopw [7] (λf wr=>∃d:Nat,d<=c.stk.length/\f=J I d/\(((c.stk.take d).zip (e.stk.take d)).all λc=>eF p c.1 c.2)=K/\Below W.heap.size W wr) (λf _=>c.stk.length-(intOf f).toNat)
 case atStart=>exact ⟨0,az _,rfl,rfl,ay _ _⟩
 case round=>
  obtain⟨d,d6,rfl,o,m⟩:=hrel;have k:=eu y m;obtain⟨a0,ca,cb,cc,ce⟩:=X wr m
  by_cases g:d<c.stk.length
  .have j:d<e.stk.length:=(by rw[<-ea ba];exact g);obtain rfl:=d2 (eW g);obtain rfl:=bM (eW j);have R:=ea cz d g;have T:=ea dp d j;have hx:=cf.2 _ (av g);have ar:=cg.2 _ (av j);have HS:=Ou (AP (λc=>eF p c.1 c.2) g j);have Z:=Ou (AO (λc=>eF p c.1 c.2) g j);generalize c.stk[d]=a at *;generalize e.stk[d]=b at *;have a6:=Oq k _ _ R;have a8:=Oq k _ _ T;have d9:=fp d;have b9:(d:Int)<(c.stk.length:Int):=(by omega);go_wp2;refine fk (λh=>h.cell? ⟨f.heap.size,0,U⟩=M (O r p.length s)/\h.cell? ⟨f.heap.size+1,2,U⟩=M (O (M ⟨bn,bo,U⟩) c.stk.length u)/\h.cell? ⟨f.heap.size+1+1,2,U⟩=M (O (M ⟨ac,ad,U⟩) c.stk.length x)/\h.cell? ⟨bn,bo+d,U⟩=M (J I a)/\h.cell? ⟨ac,ad+d,U⟩=M (J I b)) ⟨a0,cb,ce,a6,a8⟩ λhHeld=>?_;refine dZ 34 0 ?_;refine dZ 35 1 ?_;refine dZ 36 2 ?_;refine dZ 37 3 ?_;refine dZ 38 4 ?_;refine dZ 39 5 ?_;refine dZ 40 6 ?_;refine dZ 41 7 ?_;refine dZ 42 8 ?_;refine dZ 43 9 ?_;refine dZ 44 10 ?_;refine el 11 (λds E=>?_);go_simp;refine(t8 p _ a b wr.drew (eA (Oq ((ay _ _).drew)) (eA (Oq k) be)) b7 b8 hx ar).mono ?_;rintro ak a5 ⟨rfl,an⟩;have G:=mA an;have L:=eu m G;have q:=eu k G;obtain⟨Q,a1,a2,a3,a4⟩:=X a5 L;have S:=Oq q _ _ R;have V:=Oq q _ _ T;rw[o,bO]at HS;have aa:=Ou HS
   cases H:eF p a b with
   | false =>
    have i:=Ou (Z H);go_wp2_with fail;refine E.out _ _ ⟨Q,a2,a4,S,V⟩ λhHeld=>?_;refine dZ 8 12 ?_;refine eV ?_;go_wp2;go_ret;exact⟨eC (by rw[ea ab,ea i,cD]),q⟩
   | true =>
    have i:=Ou H;go_wp2_with fail;refine E.out _ _ ⟨Q,a2,a4,S,V⟩ λhHeld=>?_;refine dZ 8 12 ?_;refine eV ?_;go_wp2_with fail;exact⟨⟨d+1,by omega,by go_num,by rw[ea aa];exact ea i,L⟩,by simp[intOf];omega⟩
  .obtain rfl:d=c.stk.length:=by omega
   have ao:((c.stk.zip e.stk).all λc=>eF p c.1 c.2)=K:=by
    rw[bG,ea ba,bG]at o;exact o
   have bf:=Ou ao;have b9:¬(c.stk.length:Int)<(c.stk.length:Int):=(by omega);go_wp2_with fail;obtain⟨cs,rfl⟩:∃cs:World,cs=wr:=⟨_,rfl⟩
   go_loopw [9] (λf wr=>∃d:Nat,d<=c.loc.length/\f=J I d/\(((c.loc.take d).zip (e.loc.take d)).all λc=>eF p c.1 c.2)=K/\Below W.heap.size W wr) (λf _=>c.loc.length-(intOf f).toNat)
   case atStart=>exact ⟨0,az _,rfl,rfl,m⟩
   case round=>
    obtain⟨d,d6,rfl,o,m⟩:=hrel;have k:=eu y m;obtain⟨a0,ca,cb,cc,ce⟩:=X wr m
    by_cases g:d<c.loc.length
    .have j:d<e.loc.length:=(by rw[<-ea bc];exact g);obtain rfl:=d0 (eW g);obtain rfl:=d4 (eW j);have R:=ea cu d g;have T:=ea cA d j;have hx:=cf.1 _ (av g);have ar:=cg.1 _ (av j);have HS:=Ou (AP (λc=>eF p c.1 c.2) g j);have Z:=Ou (AO (λc=>eF p c.1 c.2) g j);generalize c.loc[d]=a at *;generalize e.loc[d]=b at *;have a6:=Oq k _ _ R;have a8:=Oq k _ _ T;have d9:=fp d;have b9:(d:Int)<(c.loc.length:Int):=(by omega);go_wp2;refine fk (λh=>h.cell? ⟨f.heap.size,0,U⟩=M (O r p.length s)/\h.cell? ⟨f.heap.size+1,1,U⟩=M (O (M ⟨bh,bk,U⟩) c.loc.length t)/\h.cell? ⟨f.heap.size+1+1,1,U⟩=M (O (M ⟨br,bs,U⟩) c.loc.length v)/\h.cell? ⟨bh,bk+d,U⟩=M (J I a)/\h.cell? ⟨br,bs+d,U⟩=M (J I b)) ⟨a0,ca,cc,a6,a8⟩ λhHeld=>?_;refine dZ 55 0 ?_;refine dZ 56 1 ?_;refine dZ 57 2 ?_;refine dZ 58 3 ?_;refine dZ 59 4 ?_;refine dZ 60 5 ?_;refine dZ 61 6 ?_;refine dZ 62 7 ?_;refine dZ 63 8 ?_;refine dZ 64 9 ?_;refine dZ 65 10 ?_;refine el 11 (λds E=>?_);go_simp;refine(t8 p _ a b wr.drew (eA (Oq ((ay _ _).drew)) (eA (Oq k) be)) b7 b8 hx ar).mono ?_;rintro ak a5 ⟨rfl,an⟩;have G:=mA an;have L:=eu m G;have q:=eu k G;obtain⟨Q,a1,a2,a3,a4⟩:=X a5 L;have S:=Oq q _ _ R;have V:=Oq q _ _ T;rw[o,bO]at HS;have aa:=Ou HS
     cases H:eF p a b with
     | false =>
      have i:=Ou (Z H);go_wp2_with fail;refine E.out _ _ ⟨Q,a1,a3,S,V⟩ λhHeld=>?_;refine dZ 10 12 ?_;refine eV ?_;go_wp2;go_ret;exact⟨eC (by rw[ea ab,ea i,ea bf,bO]),q⟩
     | true =>
      have i:=Ou H;go_wp2_with fail;refine E.out _ _ ⟨Q,a1,a3,S,V⟩ λhHeld=>?_;refine dZ 10 12 ?_;refine eV ?_;go_wp2_with fail;exact⟨⟨d+1,by omega,by go_num,by rw[ea aa];exact ea i,L⟩,by simp[intOf];omega⟩
    .obtain rfl:d=c.loc.length:=by omega
     have ao:((c.loc.zip e.loc).all λc=>eF p c.1 c.2)=K:=by
      rw[bG,ea bc,bG]at o;exact o
     have i:=Ou ao;have:¬(c.loc.length:Int)<(c.loc.length:Int):=(by omega);go_wp2;go_ret;exact⟨eC (by rw[ea ab,ea bf,ea i];rfl),k⟩
abbrev OU:=@eY.keep
theorem ip:jJ Tryz.prog 149 3:=⟨by kernel_rfl,by kernel_rfl⟩
theorem Bi{w}(f v g m)(o:w.ownsRow f 43 1 v g m)(i a n c)(D:c.length=a)(F:i=U->a=0/\n=0)(E:∀e,i=M e->∀r j,c[r]? =M j->w.cell? (e.add r)=M j)(s:∀j∈c,j.oneCell'=K)(I:g<=4194304)(H:a<=4194304)(C:f<=w.heap.size):
  ∃d h,(Builtin.append_ #[40,40] 40 #[v,O i a n]).run Tryz.prog w= .ok d h/\h.ownsRow f 43 1 d (g+a) (m++c)/\ee (λk=>v.ownBlock=M k) w h/\(d.ownBlock=v.ownBlock\/d.ownBlock=M w.heap.size):=by
 obtain⟨q,p,y,z,A⟩:=info_parts C7
 cases i with
 | none =>
  obtain⟨rfl,rfl⟩:=F rfl;obtain rfl:c= []:=aV D;exact⟨v,w,run_append_owned_none (P:=Tryz.prog) (w:=w) f 40 40 43 q 1 Tryz.underlying40 p v g m o,by simpa using o,Ow _ _,.inl rfl⟩
 | some e =>
  obtain⟨d,h,G,t,u,_,x⟩:=run_append_own_at (P:=Tryz.prog) w f 40 40 43 q _ 1 8 Tryz.underlying40 p y z A rfl (by decide) v g m o e a n c (by omega) (E e rfl) s (by unfold maxLen;omega) (by omega) C;exact⟨d,h,G,t,(Ow _ w).grown u (λk a _=>a),x⟩
structure nW (w V:World)(B b k:Nat)(vs:Oj)(v:Value)(l:Ok):Prop where
 bel:Below w.heap.size w V
 box:ed V b 149 vs
 at_:vs[k]? =M v
 row:V.ownsRow B 43 1 v l.length (l.map (J .i64))
theorem zY{V B b v a e vs}(c:V.ownsRow B 43 1 v a e)(d:ed V b 149 vs):v.ownBlock≠M b:=λa=>by
 obtain⟨e,e⟩:=j8 c a;exact absurd (e.uniq d) (by decide)
section
variable {w V : World} {B b k : Nat} {vs : List Value} {v : Value} {l : List Int}
theorem nW.one(a:nW w V B b k vs v l)(E:w.heap.size<=B)(r:B<=V.heap.size)(G:w.heap.size<=b)(H:b<B)(K:l.length<=100)(x):
  ∃d i e c,(Builtin.append_ #[40,40] 40 #[v,O (M ⟨V.heap.size,0,U⟩) 1 1]).run Tryz.prog (V.alloc (zC #[J I x] 43))= .ok (O d i e) c/\
   c.cell? ⟨b,k,U⟩=M v/\c.frozen? ⟨b,k,U⟩=F/\ee (λf=>v.ownBlock=M f) V c/\(∀g,(O d i e).ownBlock=M g->v.ownBlock=M g\/V.heap.size<=g)/\nW w (c.setCell ⟨b,k,U⟩ (O d i e)) B b k (vs.set k (O d i e)) (O d i e) (l++ [x]):=by
 obtain⟨D,s,t,u,y⟩:=info_parts C7
 obtain⟨i,c,z,n,j,C⟩:=iN (P:=Tryz.prog) (W:=V) 40 40 43 D _ 1 8 Tryz.underlying40 s t u y rfl (by decide) B v l.length _ a.row #[J I x] rfl
  (λc a=>by
    simp only[aE,aF,or_false]at a
    subst a;rfl) V.heap.size rfl (by unfold maxLen;omega) (by omega) r
 obtain⟨d,e,rfl⟩:=fd n;have o:=a.box.mods j (zY a.row a.box);have q:ee (λf=>f=b) c (c.setCell ⟨b,k,U⟩ (O d (l.length+1) e)):=(Ow (λf=>f=b) c).setCell (p:=⟨b,k,U⟩) (λ_=>rfl) _;refine⟨d,_,e,c,z,(o.cell k).trans a.at_,o.frozen k,j,λg h=>?_,(a.bel.trans (j.below a.bel.size (λf d c=>by have:=(a.row.lt f c).1;omega))).trans (q.below (ap a.bel.size j.size) (λf d c=>by omega)),o.setCell k _,?_,?_⟩
 .rcases C with m | ⟨c,A,m⟩
  .exact .inl (by rw[<-m];exact h)
  .rw [m]at h
   cases h
   exact .inr A
 .rw [aA (ag.1 a.at_).1]
 .have:=eX n q (λg h c=>by have:=(n.lt g h).1;omega);simpa using this
theorem nW.more(c:nW w V B b k vs v l)(H:w.heap.size<=B)(z:B<=V.heap.size)(I:w.heap.size<=b)(K:b<B)(L:l.length<=100)(g)(hx:g.length<=4194304)(n t s)(D:t=g.length)(C:n=U->t=0/\s=0)(E:∀u,n=M u->∀a y,(g.map (J .i64))[a]? =M y->V.cell? (u.add a)=M y):
  ∃e j f d,(Builtin.append_ #[40,40] 40 #[v,O n t s]).run Tryz.prog V= .ok (O e j f) d/\
   d.cell? ⟨b,k,U⟩=M v/\d.frozen? ⟨b,k,U⟩=F/\ee (λa=>v.ownBlock=M a) V d/\(∀h,(O e j f).ownBlock=M h->v.ownBlock=M h\/V.heap.size<=h)/\nW w (d.setCell ⟨b,k,U⟩ (O e j f)) B b k (vs.set k (O e j f)) (O e j f) (l++g):=by
 subst D;obtain⟨j,d,A,q,m,G⟩:=Bi B v l.length _ c.row n g.length s (g.map (J .i64)) (by simp) C E (oy _) (by omega) hx z;obtain⟨e,f,rfl⟩:=fd q;have r:=c.box.mods m (zY c.row c.box);have x:ee (λa=>a=b) d (d.setCell ⟨b,k,U⟩ (O e (l.length+g.length) f)):=(Ow (λa=>a=b) d).setCell (p:=⟨b,k,U⟩) (λ_=>rfl) _;refine⟨e,_,f,d,A,(r.cell k).trans c.at_,r.frozen k,m,λh i=>?_,(c.bel.trans (m.below c.bel.size (λa e d=>by have:=(c.row.lt a d).1;omega))).trans (x.below (ap c.bel.size m.size) (λa e d=>by omega)),r.setCell k _,?_,?_⟩
 .rcases G with o | o
  .exact .inl (by rw[<-o];exact i)
  .rw [o]at i
   cases i
   exact .inr (ai _)
 .rw [aA (ag.1 c.at_).1]
 .have:=eX q x (λh i d=>by have:=(q.lt h i).1;omega);simpa using this
end
def rN (B:Nat)(w:World)(s:ef)(vl vs:Value):Prop:=eY (sel (λk=>B<=k) w) s vl vs
theorem ow{a}:eG 1 (gy a) (O U 0 0) []:=⟨U,0,0,0,rfl,ai _,⟨λa=>absurd rfl a,.inl ⟨rfl,rfl⟩⟩,λd e c=>by simp at c⟩
def lC (c:Int)(m:eh)(k:Nat):List Int:=(c+3)::(m.args++List.replicate k 2)
theorem F6{c a}(d:1+(a.args.length:Int)<=a.locals)(e:a.locals<=8):lC c a (a.locals.toNat-(1+a.args.length))=(fm a (fH c a)).loc:=by
 unfold lC fm fH;dsimp only;obtain⟨c,d⟩:∃c,a.locals.toNat=c+1:=⟨a.locals.toNat-1,by omega⟩;rw[d,dz]
 congr 1
 rw[dK,aH (by omega),List.take_replicate]
 congr 2
 omega
theorem En(d a o br bs w)(ar:fK w.cell? a o br bs)(ds:0<=d)(d0:d<=4194304)(ci:1+(a.args.length:Int)<=a.locals)(ck:a.locals<=8):
  Calls Tryz.prog 95 #[J I d,fB a o br bs] w λe bI=>∃bz,e=zR (.agg #[zB K,bz,O U 0 0])/\rN w.heap.size bI (fm a (fH d a)) bz (O U 0 0)/\Below w.heap.size w bI:=by
 unfold fB;obtain⟨i,j,rfl,bf,cp⟩:=mg ar.1;obtain⟨r,_,_,s,rfl,_⟩:=ar.2.1;obtain⟨t,_,_,u,rfl,_⟩:=ar.2.2;obtain⟨g,m⟩:∃g,g=((w.alloc (zC #[J I a.slot,O i a.args.length j,J I a.ret,J I a.locals,J I a.stack,O r a.code.length s,O t a.frames.length u] 63)).alloc (zC #[zB F,O U 0 0,O U 0 0] 149)).alloc (zC #[zB K,O U 0 0,O U 0 0] 149):=⟨_,rfl⟩;have cs:Below w.heap.size w g:=by rw[m];exact(gS _ _ _).alloc (by simp;omega) _
 have bM:ed g w.heap.size 63 [J I a.slot,O i a.args.length j,J I a.ret,J I a.locals,J I a.stack,O r a.code.length s,O t a.frames.length u]:=by rw[m];exact((Oz w _ _).alloc _).alloc _
 have b5:ed g (w.heap.size+1) 149 [zB F,O U 0 0,O U 0 0]:=by
  have:=(Oz (w.alloc (zC #[J I a.slot,O i a.args.length j,J I a.ret,J I a.locals,J I a.stack,O r a.code.length s,O t a.frames.length u] 63)) #[zB F,O U 0 0,O U 0 0] 149).alloc (zC #[zB K,O U 0 0,O U 0 0] 149);rw[World.size_alloc]at this;rw[m];exact this
 have b6:ed g (w.heap.size+1+1) 149 [zB K,O U 0 0,O U 0 0]:=by
  have:=Oz ((w.alloc (zC #[J I a.slot,O i a.args.length j,J I a.ret,J I a.locals,J I a.stack,O r a.code.length s,O t a.frames.length u] 63)).alloc (zC #[zB F,O U 0 0,O U 0 0] 149)) #[zB K,O U 0 0,O U 0 0] 149;rw[World.size_alloc,World.size_alloc]at this;rw[m];exact this
 have cm:g.heap.size=w.heap.size+1+1+1:=by rw[m];simp
 have cb:nW w g (w.heap.size+1+1+1) (w.heap.size+1+1) 1 [zB K,O U 0 0,O U 0 0] (O U 0 0) []:=⟨cs,b6,rfl,World.ownsRow_nil _ _ _ _⟩;obtain⟨C,L,E,Q,ak,g,g,Y,_,h⟩:=cb.one (by omega) (by omega) (by omega) (by omega) (by simp) (3+d);have ab:ee (λc=>c=w.heap.size+1+1) Q (Q.setCell ⟨w.heap.size+1+1,1,U⟩ (O C L E)):=(Ow (λc=>c=w.heap.size+1+1) Q).setCell (p:=⟨w.heap.size+1+1,1,U⟩) (λ_=>rfl) _;have T:=(bM.mods Y (λe=>by cases e)).mods ab (by omega);have a3:=(b5.mods Y (λe=>by cases e)).mods ab (by omega);have cu:=ap Y.size ab.size;obtain⟨W,bc⟩:∃W,W=Q.setCell ⟨w.heap.size+1+1,1,U⟩ (O C L E):=⟨_,rfl⟩;rw[<-bc]at h T a3 cu;obtain⟨D,N,G,R,bh,g,g,Z,_,a6⟩:=h.more (by omega) (by omega) (by omega) (by omega) (by simp) a.args (by omega) i a.args.length j rfl (λe=>⟨by rw[(bf e).1];rfl,(bf e).2⟩) (λa e c d X=>Oq h.bel _ _ (cp a e c d X));have ac:ee (λc=>c=w.heap.size+1+1) R (R.setCell ⟨w.heap.size+1+1,1,U⟩ (O D N G)):=(Ow (λc=>c=w.heap.size+1+1) R).setCell (p:=⟨w.heap.size+1+1,1,U⟩) (λ_=>rfl) _;have y:∀c,c<w.heap.size+1+1+1->¬(O C L E).ownBlock=M c:=λc an e=>by have:=(h.row.lt c e).1;omega
 have a4:=(T.mods Z (y _ (by omega))).mods ac (by omega);have a5:=(a3.mods Z (y _ (by omega))).mods ac (by omega);have cc:W.cell? ⟨w.heap.size+1+1,1,U⟩=M (O C L E):=(h.box.cell 1).trans h.at_;have ce:=T.c1;have cz:=ap Z.size ac.size;obtain⟨A,be⟩:∃A,A=R.setCell ⟨w.heap.size+1+1,1,U⟩ (O D N G):=⟨_,rfl⟩;rw[<-be]at a6 a4 a5 cz;rw[cm]at ak;rw[m]at ak;rw[bc]at bh cc ce;go_in
 go_wp2_with (at_builtin;first
  | refine OA rfl (.tmp 8) (.tmp 11) 40 rfl _ _ rfl rfl ak ?_
  | refine OA rfl (.tmp 15) (.tmp 17) 40 rfl _ _ rfl rfl bh ?_)
 rw[<-be];have H:∀k,(lC d a k).length=1+a.args.length+k:=λk=>by unfold lC;simp;omega
 have b9:Hid (nW w A (w.heap.size+1+1+1) (w.heap.size+1+1) 1 [zB K,O D N G,O U 0 0] (O D N G) (lC d a 0)):=by
  have:lC d a 0= []++ [3+d]++a.args:=by unfold lC;simp;omega
  show nW _ _ _ _ _ _ _ _
  rw[this];exact a6
 go_loopw [25] (λ_ wr=>∃(k:Nat) (v:Value),(k:Int)<=a.locals-(1+(a.args.length:Int))/\A.heap.size<=wr.heap.size/\nW w wr (w.heap.size+1+1+1) (w.heap.size+1+1) 1 [zB K,v,O U 0 0] v (lC d a k)/\ed wr w.heap.size 63 [J I a.slot,O i a.args.length j,J I a.ret,J I a.locals,J I a.stack,O r a.code.length s,O t a.frames.length u]/\ed wr (w.heap.size+1) 149 [zB F,O U 0 0,O U 0 0]) (λ_ wr=>match wr.cell? ⟨w.heap.size+1+1,1,U⟩ with
  | some (O _ n _) => 100 - n
  | _ => 0)
 case atStart=>exact ⟨0,_,by omega,ai _,ea b9,a4,a5⟩
 case round=>
  obtain⟨k,v,g,cA,f,a8,ba⟩:=hrel;obtain⟨o,a2,rfl⟩:=fd f.row;have cf:=f.box.c1;have g:=a8.c3;have ao:=H k
  by_cases g:(k:Int)<a.locals-(1+(a.args.length:Int))
  .obtain⟨a0,P,a1,S,cn,g,g,aa,_,q⟩:=f.one (by omega) (by omega) (by omega) (by omega) (by omega) 2;have y:∀c,c<w.heap.size+1+1+1->¬(O o (lC d a k).length a2).ownBlock=M c:=λc an e=>by have:=(f.row.lt c e).1;omega
   have ad:ee (λc=>c=w.heap.size+1+1) S (S.setCell ⟨w.heap.size+1+1,1,U⟩ (O a0 P a1)):=(Ow (λc=>c=w.heap.size+1+1) S).setCell (p:=⟨w.heap.size+1+1,1,U⟩) (λ_=>rfl) _;have b7:=(a8.mods aa (y _ (by omega))).mods ad (by omega);have b8:=(ba.mods aa (y _ (by omega))).mods ad (by omega);have x:lC d a k++ [2]=lC d a (k+1):=(by unfold lC;rw[cC];simp);rw[x]at q;have cg:(S.setCell ⟨w.heap.size+1+1,1,U⟩ (O a0 P a1)).cell? ⟨w.heap.size+1+1,1,U⟩=M (O a0 P a1):=(q.box.cell 1).trans q.at_
   have bo:P=(lC d a (k+1)).length:=by
    obtain⟨_,_,X⟩:=fd q.row
    injection X
   have bn:=H (k+1);have z:=Ou (aq q (aq b7 (aq b8 (ap aa.size ad.size))));generalize (lC d a k).length=bk at *;have dp:(bk:Int)<a.locals:=(by omega);have ca:=Ou (aq ao (aq bn bo));clear ao bn bo H;go_wp2_with (at_builtin;refine OA rfl (.tmp 27) (.tmp 28) 40 rfl _ _ rfl rfl cn ?_)
   refine⟨⟨k+1,_,by omega,ap cA z.2.2.2,z.1,z.2.1,z.2.2.1⟩,?_⟩;rw[cg,cf];dsimp only;obtain⟨g,g,g⟩:=ca;omega
  .have P:k=a.locals.toNat-(1+a.args.length):=(by omega)
   have S:Hid (rN (w.heap.size+1+1+1) wr (fm a (fH d a)) (O o (lC d a k).length a2) (O U 0 0)):=by
    refine⟨?_,ow⟩;rw[<-F6 ci ck,<-P];exact rt f.row (λa c=>(f.row.lt a c).1)
   have g:=f.box.c0;have g:=f.box.c2;have dp:¬((lC d a k).length:Int)<a.locals:=(by omega);have x:=f.bel;have f:=x.size;generalize (lC d a k).length=bk at *;clear ao H P;go_wp2_with (refine fJ ip ba 0 [zB K,O o bk a2,O U 0 0] rfl (by simp) (λd a=>by simp only[aE,aF,or_false]at a;rcases a with rfl | rfl | rfl <;> rfl) (.tmp 4) (.tmp 31) rfl rfl rfl rfl ?_;intro a q z a;rw[fw (by rfl)]at q)
   refine bodyPost_ret (j9 rfl ip q rfl rfl) rfl ?_;refine⟨_,rfl,?_,x.trans (z.below x.size (λc an e=>by omega))⟩;exact OU (fW z λc _ an=>⟨λe=>by omega,by omega⟩) S
theorem Mf(p k a b d)(j:eQ d k p)(s:ez p p.length)(u:p.length<=4194304)(t:fz p.length a)(q:b= -1\/b= -2\/fz p.length b):
  Calls Tryz.prog 152 #[.agg #[k],J I a,J I b] d λh v=>h=zR (zB (jd p a b))/\Below d.heap.size d v:=by
 have m:=Ou j;obtain⟨n,k,k,o,rfl,_,_,_⟩:=eN j;have f:Below d.heap.size d (d.alloc (zC #[O n p.length o] 24)):=ev _ _;go_in
 by_cases g:b= -1
 .subst g;have e:Hid (jd p a (-1)=iy a):=by show _=_;unfold jd;rw[am rfl]
  by_cases c:a=1
  .subst c;go_wp2;go_ret;exact⟨eC (by rw[ea e];rfl),f⟩
  .have i:(a == 1)=F:=(by simpa using c);have l:Hid (iy a=decide (3<=a)):=(by show _=_;unfold iy;rw[i];rfl);go_wp2_with fail
   all_goals go_ret
   all_goals exact⟨eC (by rw[ea e,ea l]),f⟩
 have:(b == -1)=F:=by simpa using g
 by_cases c:b= -2
 .subst c;have e:Hid (jd p a (-2)= !(a == 2)):=by show _=_;unfold jd;rw[af (by omega),am rfl]
  go_wp2_with fail
  all_goals go_ret
  all_goals exact⟨eC (by rw[ea e];rfl),f⟩
 have i:(b == -2)=F:=by simpa using c
 have r:fz p.length b:=by
  rcases q with e | e | e
  .exact absurd e g
  .exact absurd e c
  .exact e
 have e:Hid (jd p a b=eF p a b):=by show _=_;unfold jd;rw[af g,af c]
 go_wp2_with fail;refine(t8 p _ a b _ (eA (Oq f) m) s u t r).mono ?_;rintro h a ⟨rfl,l⟩;rw[<-ea e];go_wp2;go_ret;exact⟨rfl,eu f l⟩
def jF (x:fG)(i:Nat):List Int:=(if gJ x then [(i:Int)+1] else [])++(if gz x then [x.a] else [])
theorem IT(x a): jF x a = (gU x a).reverse.map (·.1) := by
 unfold jF gU
 cases gJ x <;> cases gz x <;> rfl
theorem Jq:(Tryz.prog.info? 3).map (λa=>(a.zero,a.size,a.bytes))=M (M (J I 0),1,8):=by kernel_rfl
theorem sZ{W}(d f a)(j:W.ownsRow d 3 1 f a.length (a.map (J .i64)))(x g)(k:W.heap.size=g)(u:a.length<=100)(q:d<=W.heap.size):
  ∃c i e b,(Builtin.append_ #[51,51] 51 #[f,O (M ⟨g,0,U⟩) 1 1]).run Tryz.prog (W.alloc (zC #[J I x] 3))= .ok (O c i e) b/\b.ownsRow d 3 1 (O c i e) (a++ [x]).length ((a++ [x]).map (J .i64))/\ee (λt=>f.ownBlock=M t) W b:=by
 obtain⟨s,m,n,o,p⟩:=info_parts Jq
 obtain⟨i,b,r,h,l,_⟩:=iN (P:=Tryz.prog) (W:=W) 51 51 3 s _ 1 8 Tryz.underlying51 m n o p rfl (by decide) d f a.length _ j #[J I x] rfl
  (λb a=>by
    simp only[aE,aF,or_false]at a
    subst a;rfl) g k (by unfold maxLen;omega) (by omega) q
 obtain⟨c,e,rfl⟩:=fd h;exact⟨c,_,e,b,r,by simpa using h,l⟩
theorem Ep(c aa ab ac e d)(T:fK d.cell? c aa ab ac)(Q:e<c.code.length)(ba:c.code.length<=40):
  Calls Tryz.prog 97 #[fB c aa ab ac,J I (e:Int)] d λf ad=>∃Z,f=zR Z/\eG 1 (gy (sel (λh=>d.heap.size<=h) ad)) Z (jF (ey c e) e)/\Below d.heap.size d ad:=by
 unfold fB;obtain⟨o,_,_,p,rfl,_⟩:=T.1;obtain⟨Z,q,u,r,rfl,_,a1,a2⟩:=eN T.2.1;obtain⟨s,_,_,t,rfl,_⟩:=T.2.2;obtain rfl:=a1 (eW Q);obtain⟨ak,a5,a6⟩:=a2 e Q;have a0:ey c e=c.code[e]:=by unfold ey;rw[ae Q];rfl
 rw[a0];generalize c.code[e]=x at *;have n:=gS d (zC #[J I c.slot,O o c.args.length p,J I c.ret,J I c.locals,J I c.stack,O (M ⟨q,u,U⟩) c.code.length r,O s c.frames.length t] 63) (zC #[J I x.op,J I x.a,J I x.b] 60);have B:=Oz (d.alloc (zC #[J I c.slot,O o c.args.length p,J I c.ret,J I c.locals,J I c.stack,O (M ⟨q,u,U⟩) c.code.length r,O s c.frames.length t] 63)) #[J I x.op,J I x.a,J I x.b] 60;have C:((d.alloc (zC #[J I c.slot,O o c.args.length p,J I c.ret,J I c.locals,J I c.stack,O (M ⟨q,u,U⟩) c.code.length r,O s c.frames.length t] 63)).alloc (zC #[J I x.op,J I x.a,J I x.b] 60)).heap.size=d.heap.size+1+1:=by simp
 rw[World.size_alloc]at B;have:=Oq (ev d (zC #[J I c.slot,O o c.args.length p,J I c.ret,J I c.locals,J I c.stack,O (M ⟨q,u,U⟩) c.code.length r,O s c.frames.length t] 63)) _ _ ak;have:=Oq (ev d (zC #[J I c.slot,O o c.args.length p,J I c.ret,J I c.locals,J I c.stack,O (M ⟨q,u,U⟩) c.code.length r,O s c.frames.length t] 63)) _ _ a5;have:=Oq (ev d (zC #[J I c.slot,O o c.args.length p,J I c.ret,J I c.locals,J I c.stack,O (M ⟨q,u,U⟩) c.code.length r,O s c.frames.length t] 63)) _ _ a6;have:=fp e;have:(e:Int)<(c.code.length:Int):=by omega
 have:=Oo ak;obtain⟨k,i,v⟩:=x;dsimp only at *;go_in
 by_cases G:k=13
 .subst G;have g:jF ⟨13,i,v⟩ e= []:=rfl;rw[g];go_wp2;go_ret;exact⟨_,rfl,ow,n⟩
 by_cases H:k=7
 .subst H;have g:jF ⟨7,i,v⟩ e= [i]:=rfl;rw[g];obtain⟨D,V,E,z,y,m,j⟩:=sZ (W:=(d.alloc (zC #[J I c.slot,O o c.args.length p,J I c.ret,J I c.locals,J I c.stack,O (M ⟨q,u,U⟩) c.code.length r,O s c.frames.length t] 63)).alloc (zC #[J I 7,J I i,J I v] 60)) d.heap.size (O U 0 0) [] (World.ownsRow_nil _ _ _ _) i (d.heap.size+1+1) C (by simp) (by omega);have A:=n.trans (j.below n.size (λh c f=>by cases f));have l:=Ou (aq (rt (S:=λh=>d.heap.size<=h) m (λc g=>(m.lt c g).1)) A);go_wp2_with (at_builtin;refine OA rfl (.tmp 38) (.tmp 41) 51 rfl _ _ rfl rfl y ?_)
  go_ret;exact⟨_,rfl,l.1,l.2⟩
 by_cases Y:k=8
 .subst Y;have g:jF ⟨8,i,v⟩ e= [(e:Int)+1,i]:=rfl;rw[g];obtain⟨D,V,E,z,y,m,j⟩:=sZ (W:=(d.alloc (zC #[J I c.slot,O o c.args.length p,J I c.ret,J I c.locals,J I c.stack,O (M ⟨q,u,U⟩) c.code.length r,O s c.frames.length t] 63)).alloc (zC #[J I 8,J I i,J I v] 60)) d.heap.size (O U 0 0) [] (World.ownsRow_nil _ _ _ _) ((e:Int)+1) (d.heap.size+1+1) C (by simp) (by omega);have w:=B.mods j (λf=>by cases f);have R:=j.size;obtain⟨ao,a3,ar,a4,N,A,L⟩:=sZ (W:=z) d.heap.size _ _ m i z.heap.size rfl (by simp) (by omega);have an:=w.c0;have a8:=w.c1;have P:=(n.trans (j.below n.size (λh c f=>by cases f))).trans (L.below (ap n.size R) (λh c f=>by have:=(m.lt h f).1;omega));have l:=Ou (aq (rt (S:=λh=>d.heap.size<=h) A (λc g=>(A.lt c g).1)) P)
  go_wp2_with (at_builtin;first
   | refine OA rfl (.tmp 20) (.tmp 23) 51 rfl _ _ rfl rfl y ?_
   | refine OA rfl (.tmp 38) (.tmp 41) 51 rfl _ _ rfl rfl N ?_)
  go_ret;exact⟨_,rfl,l.1,l.2⟩
 by_cases X:k=18
 .subst X;have g:jF ⟨18,i,v⟩ e= [(e:Int)+1,i]:=rfl;rw[g];obtain⟨D,V,E,z,y,m,j⟩:=sZ (W:=(d.alloc (zC #[J I c.slot,O o c.args.length p,J I c.ret,J I c.locals,J I c.stack,O (M ⟨q,u,U⟩) c.code.length r,O s c.frames.length t] 63)).alloc (zC #[J I 18,J I i,J I v] 60)) d.heap.size (O U 0 0) [] (World.ownsRow_nil _ _ _ _) ((e:Int)+1) (d.heap.size+1+1) C (by simp) (by omega);have w:=B.mods j (λf=>by cases f);have R:=j.size;obtain⟨ao,a3,ar,a4,N,A,L⟩:=sZ (W:=z) d.heap.size _ _ m i z.heap.size rfl (by simp) (by omega);have an:=w.c0;have a8:=w.c1;have P:=(n.trans (j.below n.size (λh c f=>by cases f))).trans (L.below (ap n.size R) (λh c f=>by have:=(m.lt h f).1;omega));have l:=Ou (aq (rt (S:=λh=>d.heap.size<=h) A (λc g=>(A.lt c g).1)) P)
  go_wp2_with (at_builtin;first
   | refine OA rfl (.tmp 20) (.tmp 23) 51 rfl _ _ rfl rfl y ?_
   | refine OA rfl (.tmp 38) (.tmp 41) 51 rfl _ _ rfl rfl N ?_)
  go_ret;exact⟨_,rfl,l.1,l.2⟩
 have P:(k == 7)=F:=by simpa using H
 have R:(k == 8)=F:=by simpa using Y
 have L:(k == 13)=F:=by simpa using G
 have N:(k == 18)=F:=by simpa using X
 have:(k != 7)=K:=by simpa using H
 have:(k != 13)=K:=by simpa using G
 have g:jF ⟨k,i,v⟩ e= [(e:Int)+1]:=by unfold jF gJ gz;dsimp only;rw[P,R,L,N];rfl
 rw[g];obtain⟨D,V,E,z,y,m,j⟩:=sZ (W:=(d.alloc (zC #[J I c.slot,O o c.args.length p,J I c.ret,J I c.locals,J I c.stack,O (M ⟨q,u,U⟩) c.code.length r,O s c.frames.length t] 63)).alloc (zC #[J I k,J I i,J I v] 60)) d.heap.size (O U 0 0) [] (World.ownsRow_nil _ _ _ _) ((e:Int)+1) (d.heap.size+1+1) C (by simp) (by omega);have w:=B.mods j (λf=>by cases f);have an:=w.c0;have A:=n.trans (j.below n.size (λh c f=>by cases f));have l:=Ou (aq (rt (S:=λh=>d.heap.size<=h) m (λc g=>(m.lt c g).1)) A);go_wp2_with (at_builtin;refine OA rfl (.tmp 20) (.tmp 23) 51 rfl _ _ rfl rfl y ?_)
 go_ret;exact⟨_,rfl,l.1,l.2⟩
theorem qP {S:Nat->Prop} [DecidablePred S] {d:World}{a:Nat}{i:TypeId}{l:Ok}(e:ed d a i (l.map (J .i64)))(f:S a)(c:Nat)(h:c=l.length):eG 1 (gy (sel S d)) (O (M ⟨a,0,U⟩) c c) l:=by
 subst h;refine⟨M ⟨a,0,U⟩,a,0,l.length,rfl,ai _,⟨λ_=>rfl,.inr (.inl rfl)⟩,λb c g=>?_⟩;unfold gy;rw[pI (show S (⟨a,0+b*1,U⟩:Addr).block from f),show 0+b*1=b by omega,e.cell,aU,g];rfl
def lV (tk lv:Ok)(w w':World)(e:Ending):Prop:=∃vt vl,e=zR (.tuple #[vt,vl])/\eG 1 (gy (sel (λk=>w.heap.size<=k) w')) vt tk/\eG 1 (gy (sel (λk=>w.heap.size<=k) w')) vl lv/\Below w.heap.size w w'
section
variable {w W : World}
theorem vO(f:Below w.heap.size w W)(c b d a e)(i:W.heap.size=e)(k:d=c.length)(j:a=b.length):
  lV c b w ((W.alloc (zC (c.map (J .i64)).toArray 43)).alloc (zC (b.map (J .i64)).toArray 43)) (zR (.tuple #[O (M ⟨e,0,U⟩) d d,O (M ⟨e+1,0,U⟩) a a])):=by
 subst i;have h:=(Oz W (c.map (J .i64)).toArray 43).alloc (zC (b.map (J .i64)).toArray 43);have g:=Oz (W.alloc (zC (c.map (J .i64)).toArray 43)) (b.map (J .i64)).toArray 43;rw[World.size_alloc]at g;have:=f.size;exact⟨_,_,rfl,qP (S:=λa=>w.heap.size<=a) h (by omega) d k,qP (S:=λa=>w.heap.size<=a) g (by omega) a j,(f.alloc f.size _).alloc (by simp;omega) _⟩
theorem Fq(j:Below w.heap.size w W)(e c d b a)(i:W.heap.size=a)(m:d=e.length)(l:b=c.length):
  lV e c w ((W.alloc (zC (c.map (J .i64)).toArray 43)).alloc (zC (e.map (J .i64)).toArray 43)) (zR (.tuple #[O (M ⟨a+1,0,U⟩) d d,O (M ⟨a,0,U⟩) b b])):=by
 obtain⟨n,n,k,f,g,h⟩:=vO j c e b d a i l m
 cases k
 exact⟨_,_,rfl,g,f,h⟩
theorem Fr(c:Below w.heap.size w W)(b a d)(e:W.heap.size=d)(f:a=b.length):
  lV b [] w (W.alloc (zC (b.map (J .i64)).toArray 43)) (zR (.tuple #[O (M ⟨d,0,U⟩) a a,O U 0 0])):=by
 subst e;have:=c.size;exact⟨_,_,rfl,qP (S:=λd=>w.heap.size<=d) (Oz W (b.map (J .i64)).toArray 43) (by omega) a f,ow,c.alloc c.size _⟩
theorem Fp(c:Below w.heap.size w W)(a b d)(e:W.heap.size=d)(f:b=a.length):
  lV [] a w (W.alloc (zC (a.map (J .i64)).toArray 43)) (zR (.tuple #[O U 0 0,O (M ⟨d,0,U⟩) b b])):=by
 subst e;have:=c.size;exact⟨_,_,rfl,ow,qP (S:=λd=>w.heap.size<=d) (Oz W (a.map (J .i64)).toArray 43) (by omega) b f,c.alloc c.size _⟩
end
end
end Go.Proofs.YtiiokkllmchohaaGreat
