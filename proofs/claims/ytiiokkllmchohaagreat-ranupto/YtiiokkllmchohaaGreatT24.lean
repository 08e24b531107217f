/- The machine in memory: an object more, a frame more. -/
import Derived.Test.YtiiokkllmchohaaGreatT23
set_option maxHeartbeats 0
set_option maxRecDepth 99999
namespace Go.Proofs.YtiiokkllmchohaaGreat
open Go.Value renaming int->J,slice->O,pointer->zP,bool->zB
open Go.IntKind renaming i64->I
open Option renaming none->U,some->M
open Bool renaming true->K,false->F
open Go.Ending renaming returned->zR
open Go.Obj renaming cells->zC
open Go.RowKit Go.Shelf
theorem Ko(vp fuel ask vr c A b a eE d)(e:okV A a):machC vp fuel ask vr c (A++b) a eE d=machC vp fuel ask vr c A a eE d:=by
 unfold machC;rw[DL A b e]
theorem Cx(A a):okV A (fV a):=λb a=>by
 unfold fV at a
 split at a <;> cases a
section
variable {w0 w w' : World} {ρ : Nat -> Nat × Nat} {mb : Nat} {vp : Value} {fuel : Int} {ask : Bool} {st : eJ} {A : List Nat} {X : List gv} {Y : List Value} {vr eE : Value}
theorem fE.lt (a:fE w0 w ρ mb vp fuel ask st A X Y vr eE):mb<w.heap.size:=a.eH.lt
theorem fE.newObj(a:fE w0 w ρ mb vp fuel ask st A X Y vr eE){e c p}{fl:Ok}(h:oE w w' A e c p (fl.map fV))(y:ed w' mb 172 (machC vp fuel ask vr (st.objs.length+1) A st.told eE st.steps))(m:ee (λb=>b=mb) w w'):
  ∃ k,fE w0 w' k mb vp fuel ask { st with objs:=st.objs++ [⟨c,fl.map fV⟩] } (A++ [e]) X (Y++ [p]) vr eE:=by
 obtain⟨k,r⟩:∃ k:Nat->Nat×Nat,k=λb=>if w.heap.size<=b then (if b=e then (3,st.objs.length) else (4,st.objs.length)) else ρ b:=⟨_,rfl⟩
 have j:Same w.heap.size ρ k:=λb g=>by rw[r];show (if _ then _ else _)=_;rw[af (by omega)]
 have i:∀b,b<w.heap.size->b=mb->∀d,d≠(5,0)->ρ b≠d:=λb _ e d f b=>f (b▸e▸a.iv);have u:=a.bel.size;have z:=a.lt;have C:∀d,p.ownBlock=M d->d≠e:=λd f e=>OO h.row h.blk AE (e▸f);refine⟨k,?_⟩;refine⟨?_,a.base,(j _ z).trans a.iv,eX a.run m (λd f e=>i d (a.run.lt d f).2 e (6,0) (by simp) (a.oA d f)),a.oA.same j (λd f=>(a.run.lt d f).2),eX a.io m (λd f e=>i d (a.io.lt d f).2 e (7,0) (by simp) (a.iZ d f)),a.iZ.same j (λd f=>(a.io.lt d f).2),a.lx,λD k E z hx=>((a.fr D k E z hx).mods m j (λb g e=>⟨i b g e _ (by simp),i b g e _ (by simp),i b g e _ (by simp)⟩)).more [e],by simp[a.la],by simp[a.ly],?_,xi [e] a.qu,a.bel.trans (m.below u (λb g e=>by have:=a.base;omega)),λb g=>(j b (by omega)).trans (a.low b g)⟩
 .show ed w' mb _ (machC vp fuel ask vr (st.objs++ [_]).length (A++ [e]) st.told eE st.steps)
  rw[aw,Ko _ _ _ _ _ _ _ _ _ _ a.qu];exact y
 .intro b v t x l n o
  by_cases g:b<st.objs.length
  .rw [aL g]at l;rw[aL (by rw[a.la];exact g)]at n;rw[aL (by rw[a.ly];exact g)]at o;exact((a.ob b v t x l n o).mods m j (λb a e=>⟨i b a e _ (by simp),i b a e _ (by simp)⟩)).more [e]
  .have B:b<(st.objs++ [(⟨c,fl.map fV⟩:fL)]).length:=(ag.1 l).1;obtain rfl:b=st.objs.length:=by simp at B;omega
   rw[aP (ai _),co]at l;rw[aP (by rw[a.la];exact ai _),a.la,co]at n;rw[aP (by rw[a.ly];exact ai _),a.ly,co]at o;obtain rfl:_=v:=by simpa using l
   obtain rfl:e=t:=by simpa using n
   obtain rfl:p=x:=by simpa using o
   refine⟨h.blk,by have:=h.new;omega,?_,?_,λd f=>?_,λa q=>?_⟩
   .rw [tv A [e] (λa q=>by obtain⟨s,_,rfl⟩:=bF.1 q;exact Cx A s)];exact Ov h.row u
   .rw [r];show (if _ then _ else _)=_;rw[am h.new,am rfl]
   .rw [r];show (if _ then _ else _)=_;rw[am (h.row.lt d f).1,af (C d f)]
   .obtain⟨s,_,rfl⟩:=bF.1 q;exact Cx _ s
theorem rE:231≠172:=by decide
theorem fE.xt(c:fE w0 w ρ mb vp fuel ask st A X Y vr eE){H o i I g m s t u loc G h}(L:Below w.heap.size w H)(j:lT H o A g (ng m s t u) loc G)(S:fK w0.cell? m s t u)(ac:∀B∈loc,okV A B)(K:i.ownsRow w0.heap.size 231 1 h (X.length+1) ((X.map λx=>Value.pointer (M ⟨x.fb,0,U⟩))++ [zP (M ⟨g,0,U⟩)]))(C:ee (λa=>vr.ownBlock=M a) o i)(F:h.ownBlock=vr.ownBlock\/∃a,o.heap.size<=a/\h.ownBlock=M a)(V:I=i.setCell ⟨mb,3,U⟩ h):
  ∃ k,fE w0 I k mb vp fuel ask { st with frames:=st.frames++ [⟨m,0,loc,[]⟩] } A (X++ [⟨g,ng m s t u,G,O U 0 0⟩]) Y h eE:=by
 subst V;have ab:=c.bel.size;have I:=L.size;have Q:=c.lt;have E:=L.trans (j.bel.mono I);have:=E.size;have:=j.fr.blk.lt;have:=j.new;obtain⟨k,y⟩:∃ k:Nat->Nat×Nat,k=λa=>if o.heap.size<=a then (6,0) else if w.heap.size<=a then (if a=g then (0,X.length) else (1,X.length)) else ρ a:=⟨_,rfl⟩
 have n:Same w.heap.size ρ k:=λa f=>by rw[y];show (if _ then _ else (if _ then _ else _))=_;rw[af (by omega),af (by omega)]
 have Z:=Ox E;have I:=c.eH.below E Q;have E:¬vr.ownBlock=M mb:=OO c.run c.eH rE;have P:=I.mods C E;have D:ee (λa=>a=mb) i (i.setCell ⟨mb,3,U⟩ h):=(Ow (λa=>a=mb) i).setCell (p:=⟨mb,3,U⟩) (λ_=>rfl) _;have aa:=P.setCell 3 h;have v:ee (λa=>w.heap.size<=a\/a=mb\/vr.ownBlock=M a) w (i.setCell ⟨mb,3,U⟩ h):=((Z.mono (λ_ _ b=>.inl b)).trans C (λ_ _ b=>.inr (.inr b))).trans D (λ_ _ b=>.inr (.inl b))
 have l:∀a,a<w.heap.size->(w.heap.size<=a\/a=mb\/vr.ownBlock=M a)->∀d,d≠(5,0)->d≠(6,0)->ρ a≠d:=λa f b d f g e=>by
  rcases b with b | b | b
  .omega
  .exact f (e▸b▸c.iv)
  .exact g (e▸c.oA a b)
 have T:ee (λa=>a=mb\/vr.ownBlock=M a) o (i.setCell ⟨mb,3,U⟩ h):=(C.mono (λ_ _ b=>.inr b)).trans D (λ_ _ b=>.inl b)
 have R:∀a,w.heap.size<=a->¬(a=mb\/vr.ownBlock=M a):=λa f b=>by
  rcases b with b | b
  .omega
  .have:=(c.run.lt a b).2;omega
 have q:gL (i.setCell ⟨mb,3,U⟩ h) H.heap.size A g (ng m s t u) 0 G loc (O U 0 0) []:=j.fr.mods T (R _ (by omega)) (λe d=>R e (by have:=(j.fr.lo.lt e d).1;omega)) (λe d=>by cases d);refine⟨k,?_⟩;refine⟨aa,c.base,(n _ Q).trans c.iv,?_,λe d=>?_,eX c.io v (λe d b=>l e (c.io.lt e d).2 b (7,0) (by simp) (by simp) (c.iZ e d)),c.iZ.same n (λe d=>(c.io.lt e d).2),by simp[c.lx],?_,c.la,c.ly,λa G h B i C E=>(c.ob a G h B i C E).mods v n (λc a b=>⟨l c a b _ (by simp) (by simp),l c a b _ (by simp) (by simp)⟩),c.qu,?_,λa f=>(n a (by omega)).trans (c.low a f)⟩
 .rw [aw,aM];exact eX K D (λe d b=>OO K P rE (b▸d))
 .rcases F with b | ⟨a,f,b⟩
  .rw [b]at d;exact(n e (c.run.lt e d).2).trans (c.oA e d)
  .rw [b]at d;cases d;rw[y];show (if _ then _ else _)=_;rw[am f]
 .intro z J x r hx
  by_cases N:z<st.frames.length
  .rw [aL N]at r;rw[aL (by rw[c.lx];exact N)]at hx;exact(c.fr z J x r hx).mods v n (λa f b=>⟨l a f b _ (by simp) (by simp),l a f b _ (by simp) (by simp),l a f b _ (by simp) (by simp)⟩)
  .have W:z<(st.frames++ [(⟨m,0,loc,[]⟩:eD)]).length:=(ag.1 r).1;obtain rfl:z=st.frames.length:=by simp at W;omega
   rw[aP (ai _),co]at r;rw[aP (by rw[c.lx];exact ai _),c.lx,co]at hx;obtain rfl:_=J:=by simpa using r
   obtain rfl:_=x:=by simpa using hx
   have h:w0.heap.size<=g:=(by omega);have ad:¬o.heap.size<=g:=(by omega);have ak:w.heap.size<=g:=(by omega);refine⟨⟨q.blk,q.l7,h,Ov q.lo (by omega),Ov q.st (by omega),q.ne⟩,⟨s,t,u,rfl,S⟩,?_,λe d=>?_,λe d=>(by cases d),ac,λB F=>(by cases F)⟩
   .show k g=_
    rw[y];show (if _ then _ else (if _ then (if _ then _ else _) else _))=_;rw[af ad,am ak,am rfl,c.lx]
   .have:=j.fr.lo.lt e d;rw[y];show (if _ then _ else (if _ then (if _ then _ else _) else _))=_;rw[af (by omega),am (by omega),af (λ(b:e=g)=>OO j.fr.lo j.fr.blk mQ (b▸d)),c.lx]
 .refine c.bel.trans (v.below ab (λa f b=>?_))
  rcases b with b | b | b
  .omega
  .have:=c.base;omega
  .have:=(c.run.lt a b).1;omega
end
section
attribute [local go_sem ↓] Go.wp_at_zero Go.wp_at_succ
attribute [local go_sem] eZ
def vS (w0 w:World)(mb:Nat)(vp:Value)(fuel:Int)(ask:Bool)(st:eJ)(A:Ol):Prop:=∃ ρ X Y vr eE,fE w0 w ρ mb vp fuel ask st A X Y vr eE
theorem Jj:(Tryz.prog.info? 231).map (λa=>(a.zero,a.size,a.bytes))=M (M (zP U),1,8):=by kernel_rfl
def ju (c:Int)(k:Nat):LVal:=⟨c+3,0,M k⟩
def qO (p:On)(st:eJ)(k:Nat)(c slot:Int)(args:List LVal):eJ:=
 { st with frames:=st.frames++ [⟨ew p c slot,0,ju c k::args++List.replicate ((ew p c slot).locals.toNat-(1+args.length)) eO,[]⟩] }
def qF (w0:World)(mb:Nat)(vp:Value)(fuel:Int)(ask:Bool)(st:eJ)(A:Ol)(w':World)(e:Ending):Prop:=e=zR (.tuple #[])/\vS w0 w' mb vp fuel ask st A
theorem Dp(p cs l j ρ g a5 a4 a0 o k cA en d9)(d:fE l j ρ g cs a5 a4 a0 o k cA en d9)(d1:eQ l cs p)(d2:ez p p.length)(cg:eM p<=4194304)(e f r)(ec:a0.objs[e]? =M f)(cf:o[e]? =M r)(s q a1 a6)(a8:0<=f.cls)(dp:f.cls<(p.length:Int))(d0:(fy p f.cls s).isSome=K)(bz:a1=U->q.length=0/\a6=0)(bI:∀H,a1=M H->∀z L,(fF o q)[z]? =M L->j.cell? (H.add z)=M L)(bo:1+(q.length:Int)<=(ew p f.cls s).locals)(br:(ew p f.cls s).locals<=8)(eg:∀V∈q,okV o V)(eo:k.length<=4194304):
  Calls Tryz.prog 111 #[zP (M ⟨g,0,U⟩),zP (M ⟨r,0,U⟩),J I s,O a1 q.length a6] j λb cu=>qF l g cs a5 a4 (qO p a0 e f.cls s q) o cu b:=by
 obtain⟨b7,bn,bM,b5,b6⟩:=info_parts Jj;have cz:=Ou d1;have:p.length<=4194304:=ap (fQ p) cg;obtain⟨ca,_,_,cb,rfl,_⟩:=d1;have d3:e<o.length:=(ag.1 cf).1;obtain⟨cs,d1⟩:∃cs,cA[e]? =M cs:=⟨_,ae (by rw[d.ly,<-d.la];exact d3)⟩;have bk:=d.ob e f r cs ec cf d1;have b8:=bk.blk.c0;obtain⟨S,T,rfl⟩:=fd d.run;have x:=d.eH.c3
 have Q:∀a,ee (λe=>j.heap.size<=e\/(O S k.length T).ownBlock=M e) j a->a.cell? ⟨r,0,U⟩=M (J I f.cls):=λa c=>c.cell b8 (λb=>by
  rcases b with b | b
  .have:=bk.blk.lt;dsimp only at b;omega
  .exact OO d.run bk.blk (by decide) b)
 have w:∀a,Below j.heap.size j a->a.cell? ⟨r,0,U⟩=M (J I f.cls):=λa c=>Oq c _ _ b8;have ds:Below l.heap.size l j.drew:=d.bel.drew;have d4:=d.eH.c0
 have bs:¬r=g:=λb=>by
  subst b;exact absurd (bk.blk.uniq d.eH) (by decide)
 have bh:Hid (ff o (ju f.cls e)= [J I (f.cls+3),J I 0,zP (M ⟨r,0,U⟩)]):=by
  show [J .i64 (f.cls+3),J I 0,zP (M ⟨o.getD e 0,0,U⟩)]=_
  rw[aj,cf];rfl
 have b9:∀V∈ju f.cls e::q++List.replicate ((ew p f.cls s).locals.toNat-(1+q.length)) eO,okV o V:=λV v=>by
  rcases aN.1 v with v | v
  .rcases aE.1 v with rfl | v
   .intro z a;cases a;exact d3
   .exact eg V v
  .obtain rfl:=List.eq_of_mem_replicate v;intro z a;cases a
 have d6:j.drew.cell? ⟨r,0,U⟩=M (J I f.cls):=b8;go_in
 go_wp2;refine iY (λcu=>cu.cell? ⟨r,0,U⟩=M (J I f.cls)) b8 λhHeld=>?_;refine dZ 8 0 ?_;refine dZ 9 1 ?_;refine dZ 10 2 ?_;refine dZ 11 3 ?_;refine dZ 13 5 ?_;refine dZ 14 6 ?_;refine dZ 15 7 ?_;refine dZ 16 8 ?_;refine dZ 17 9 ?_;refine dZ 18 10 ?_;refine dZ 20 12 ?_;refine dZ 22 14 ?_;refine iu 4 11 (λh a=>?_) λh a=>?_
 .go_simp;refine a.out _ _ d6 λhHeld=>?_;refine el 11 (λh a=>?_);go_simp;refine(tI p _ f.cls s l _ g cz ds d4 d2 cg a8 dp d0).mono ?_;rintro b ad ⟨bc,be,bf,rfl,ce,F⟩;have ab:Below j.heap.size j ad:=⟨F.os,F.tape,F.output,F.size,F.block⟩;have N:=Ou ce;have ak:=Ou (w ad ab);have ei:=Oq ab _ _ x;unfold fB;go_wp2_with fail;refine a.out _ _ ak λhHeld=>?_;refine el 13 (λh a=>?_);go_simp;refine(wV r f.cls ad ak a8 (by omega)).mono ?_;rintro b X ⟨rfl,ba⟩;have i:=eu ab ba;have a3:=Ou (w X i);have d5:=Oq i _ _ x;go_wp2_with fail;refine a.out _ _ a3 λhHeld=>?_;refine el 15 (λh a=>?_);go_simp;have D:=wU o (ew p f.cls s) bc be bf (ju f.cls e) q a1 a6 X l N bz (λH b z L a=>Oq i _ _ (bI H b z L a)) bo br;rw[ea bh]at D;refine D.mono ?_;rintro b m ⟨t,cp,rfl,A⟩;have c:=i.trans (A.bel.mono i.size);have Z:=Ou (w m c);have ci:=Oq c _ _ x;have ao:=eX d.run (Ox c) (λa c b=>by have:=(d.run.lt a c).2;omega);obtain⟨cn,n,aa,E,u,ar⟩:=iN (P:=Tryz.prog) (W:=m) 167 167 231 b7 _ 1 8 Tryz.underlying167 bn bM b5 b6 rfl (by decide) l.heap.size _ _ _ ao #[zP (M ⟨t,0,U⟩)] rfl (λV v=>by obtain rfl:=aC.1 v;rfl) m.heap.size rfl (by unfold maxLen;omega) (by omega) (ap d.bel.size c.size);obtain⟨B,C,rfl⟩:=fd E;have ck:(m.alloc (zC #[zP (M ⟨t,0,U⟩)] 231)).cell? ⟨g,3,U⟩=M (O S k.length T):=Oq (c.alloc c.size _) _ _ x;have G:=(d.eH.below c d.lt).mods u (OO d.run d.eH rE);have cm:=G.c3;have cc:=G.frozen 3;have y:ee (λe=>j.heap.size<=e\/(O S k.length T).ownBlock=M e) j n:=((Ox c).mono (λ_ _ b=>.inl b)).trans u (λ_ _ b=>.inr b);have R:=w _ (c.alloc c.size (zC #[zP (M ⟨t,0,U⟩)] 231));have ac:(n.setCell ⟨g,3,U⟩ (O B (k.length+1) C)).cell? ⟨r,0,U⟩=M (J I f.cls):=((Ow (λe=>e=g) n).setCell (p:=⟨g,3,U⟩) (λ_=>rfl) _).cell (Q _ y) bs;obtain⟨a2,an⟩:=d.xt i A N b9 E u ar rfl;have Y:Hid (qF l g (O ca p.length cb) a5 a4 (qO p a0 e f.cls s q) o (n.setCell ⟨g,3,U⟩ (O B (k.length+1) C)) (zR (.tuple #[]))):=⟨rfl,a2,_,_,_,_,an⟩;go_wp2_with fail;refine a.out _ _ Z λhHeld=>?_;refine el 16 (λh a=>?_);go_simp;refine a.out _ _ R λhHeld=>?_;refine el 17 (λh a=>?_);refine ON (.tmp 12) (.tmp 24) 167 rfl _ _ rfl rfl aa ?_;go_simp;refine a.out _ _ (Q _ y) λhHeld=>?_;refine dZ 26 18 ?_;refine dZ 27 19 ?_;refine el 20 (λh a=>?_);go_simp;refine a.out _ _ ac λhHeld=>?_;refine ig ?_;go_wp2;go_end0
  exact Y
 .go_simp;refine(tI p _ f.cls s l _ g cz ds d4 d2 cg a8 dp d0).mono ?_;rintro b ad ⟨bc,be,bf,rfl,ce,F⟩;have ab:Below j.heap.size j ad:=⟨F.os,F.tape,F.output,F.size,F.block⟩;have N:=Ou ce;have ak:=Ou (w ad ab);have ei:=Oq ab _ _ x;unfold fB;go_wp2_with fail;refine a.out _ _ ak λhHeld=>?_;refine iu 4 13 (λh a=>?_) λh a=>?_
  .have ej:=ea ak;go_simp;refine a.out _ _ ej λhHeld=>?_;refine el 13 (λh a=>?_);go_simp;refine(wV r f.cls ad ak a8 (by omega)).mono ?_;rintro b X ⟨rfl,ba⟩;have i:=eu ab ba;have a3:=Ou (w X i);have d5:=Oq i _ _ x;go_wp2_with fail;refine a.out _ _ a3 λhHeld=>?_;refine el 15 (λh a=>?_);go_simp;have D:=wU o (ew p f.cls s) bc be bf (ju f.cls e) q a1 a6 X l N bz (λH b z L a=>Oq i _ _ (bI H b z L a)) bo br;rw[ea bh]at D;refine D.mono ?_;rintro b m ⟨t,cp,rfl,A⟩;have c:=i.trans (A.bel.mono i.size);have Z:=Ou (w m c);have ci:=Oq c _ _ x;have ao:=eX d.run (Ox c) (λa c b=>by have:=(d.run.lt a c).2;omega);obtain⟨cn,n,aa,E,u,ar⟩:=iN (P:=Tryz.prog) (W:=m) 167 167 231 b7 _ 1 8 Tryz.underlying167 bn bM b5 b6 rfl (by decide) l.heap.size _ _ _ ao #[zP (M ⟨t,0,U⟩)] rfl (λV v=>by obtain rfl:=aC.1 v;rfl) m.heap.size rfl (by unfold maxLen;omega) (by omega) (ap d.bel.size c.size);obtain⟨B,C,rfl⟩:=fd E;have ck:(m.alloc (zC #[zP (M ⟨t,0,U⟩)] 231)).cell? ⟨g,3,U⟩=M (O S k.length T):=Oq (c.alloc c.size _) _ _ x;have G:=(d.eH.below c d.lt).mods u (OO d.run d.eH rE);have cm:=G.c3;have cc:=G.frozen 3;have y:ee (λe=>j.heap.size<=e\/(O S k.length T).ownBlock=M e) j n:=((Ox c).mono (λ_ _ b=>.inl b)).trans u (λ_ _ b=>.inr b);have R:=w _ (c.alloc c.size (zC #[zP (M ⟨t,0,U⟩)] 231));have ac:(n.setCell ⟨g,3,U⟩ (O B (k.length+1) C)).cell? ⟨r,0,U⟩=M (J I f.cls):=((Ow (λe=>e=g) n).setCell (p:=⟨g,3,U⟩) (λ_=>rfl) _).cell (Q _ y) bs;obtain⟨a2,an⟩:=d.xt i A N b9 E u ar rfl;have Y:Hid (qF l g (O ca p.length cb) a5 a4 (qO p a0 e f.cls s q) o (n.setCell ⟨g,3,U⟩ (O B (k.length+1) C)) (zR (.tuple #[]))):=⟨rfl,a2,_,_,_,_,an⟩;go_wp2_with fail;refine a.out _ _ Z λhHeld=>?_;refine el 16 (λh a=>?_);go_simp;refine a.out _ _ R λhHeld=>?_;refine el 17 (λh a=>?_);refine ON (.tmp 12) (.tmp 24) 167 rfl _ _ rfl rfl aa ?_;go_simp;refine a.out _ _ (Q _ y) λhHeld=>?_;refine dZ 26 18 ?_;refine dZ 27 19 ?_;refine el 20 (λh a=>?_);go_simp;refine a.out _ _ ac λhHeld=>?_;refine ig ?_;go_wp2;go_end0;exact Y
  .go_simp;refine(wV r f.cls ad ak a8 (by omega)).mono ?_;rintro b X ⟨rfl,ba⟩;have i:=eu ab ba;have a3:=Ou (w X i);have d5:=Oq i _ _ x;go_wp2_with fail;refine a.out _ _ a3 λhHeld=>?_;refine iu 4 15 (λh a=>?_) λh a=>?_
   .have ej:=ea a3;go_simp;refine a.out _ _ ej λhHeld=>?_;refine el 15 (λh a=>?_);go_simp;have D:=wU o (ew p f.cls s) bc be bf (ju f.cls e) q a1 a6 X l N bz (λH b z L a=>Oq i _ _ (bI H b z L a)) bo br;rw[ea bh]at D;refine D.mono ?_;rintro b m ⟨t,cp,rfl,A⟩;have c:=i.trans (A.bel.mono i.size);have Z:=Ou (w m c);have ci:=Oq c _ _ x;have ao:=eX d.run (Ox c) (λa c b=>by have:=(d.run.lt a c).2;omega);obtain⟨cn,n,aa,E,u,ar⟩:=iN (P:=Tryz.prog) (W:=m) 167 167 231 b7 _ 1 8 Tryz.underlying167 bn bM b5 b6 rfl (by decide) l.heap.size _ _ _ ao #[zP (M ⟨t,0,U⟩)] rfl (λV v=>by obtain rfl:=aC.1 v;rfl) m.heap.size rfl (by unfold maxLen;omega) (by omega) (ap d.bel.size c.size);obtain⟨B,C,rfl⟩:=fd E;have ck:(m.alloc (zC #[zP (M ⟨t,0,U⟩)] 231)).cell? ⟨g,3,U⟩=M (O S k.length T):=Oq (c.alloc c.size _) _ _ x;have G:=(d.eH.below c d.lt).mods u (OO d.run d.eH rE);have cm:=G.c3;have cc:=G.frozen 3;have y:ee (λe=>j.heap.size<=e\/(O S k.length T).ownBlock=M e) j n:=((Ox c).mono (λ_ _ b=>.inl b)).trans u (λ_ _ b=>.inr b);have R:=w _ (c.alloc c.size (zC #[zP (M ⟨t,0,U⟩)] 231));have ac:(n.setCell ⟨g,3,U⟩ (O B (k.length+1) C)).cell? ⟨r,0,U⟩=M (J I f.cls):=((Ow (λe=>e=g) n).setCell (p:=⟨g,3,U⟩) (λ_=>rfl) _).cell (Q _ y) bs;obtain⟨a2,an⟩:=d.xt i A N b9 E u ar rfl;have Y:Hid (qF l g (O ca p.length cb) a5 a4 (qO p a0 e f.cls s q) o (n.setCell ⟨g,3,U⟩ (O B (k.length+1) C)) (zR (.tuple #[]))):=⟨rfl,a2,_,_,_,_,an⟩;go_wp2_with fail;refine a.out _ _ Z λhHeld=>?_;refine el 16 (λh a=>?_);go_simp;refine a.out _ _ R λhHeld=>?_;refine el 17 (λh a=>?_);refine ON (.tmp 12) (.tmp 24) 167 rfl _ _ rfl rfl aa ?_;go_simp;refine a.out _ _ (Q _ y) λhHeld=>?_;refine dZ 26 18 ?_;refine dZ 27 19 ?_;refine el 20 (λh a=>?_);go_simp;refine a.out _ _ ac λhHeld=>?_;refine ig ?_;go_wp2;go_end0;exact Y
   .go_simp;have D:=wU o (ew p f.cls s) bc be bf (ju f.cls e) q a1 a6 X l N bz (λH b z L a=>Oq i _ _ (bI H b z L a)) bo br;rw[ea bh]at D;refine D.mono ?_;rintro b m ⟨t,cp,rfl,A⟩;have c:=i.trans (A.bel.mono i.size);have Z:=Ou (w m c);have ci:=Oq c _ _ x;have ao:=eX d.run (Ox c) (λa c b=>by have:=(d.run.lt a c).2;omega);obtain⟨cn,n,aa,E,u,ar⟩:=iN (P:=Tryz.prog) (W:=m) 167 167 231 b7 _ 1 8 Tryz.underlying167 bn bM b5 b6 rfl (by decide) l.heap.size _ _ _ ao #[zP (M ⟨t,0,U⟩)] rfl (λV v=>by obtain rfl:=aC.1 v;rfl) m.heap.size rfl (by unfold maxLen;omega) (by omega) (ap d.bel.size c.size);obtain⟨B,C,rfl⟩:=fd E;have ck:(m.alloc (zC #[zP (M ⟨t,0,U⟩)] 231)).cell? ⟨g,3,U⟩=M (O S k.length T):=Oq (c.alloc c.size _) _ _ x;have G:=(d.eH.below c d.lt).mods u (OO d.run d.eH rE);have cm:=G.c3;have cc:=G.frozen 3;have y:ee (λe=>j.heap.size<=e\/(O S k.length T).ownBlock=M e) j n:=((Ox c).mono (λ_ _ b=>.inl b)).trans u (λ_ _ b=>.inr b);have R:=w _ (c.alloc c.size (zC #[zP (M ⟨t,0,U⟩)] 231));have ac:(n.setCell ⟨g,3,U⟩ (O B (k.length+1) C)).cell? ⟨r,0,U⟩=M (J I f.cls):=((Ow (λe=>e=g) n).setCell (p:=⟨g,3,U⟩) (λ_=>rfl) _).cell (Q _ y) bs;obtain⟨a2,an⟩:=d.xt i A N b9 E u ar rfl;have Y:Hid (qF l g (O ca p.length cb) a5 a4 (qO p a0 e f.cls s q) o (n.setCell ⟨g,3,U⟩ (O B (k.length+1) C)) (zR (.tuple #[]))):=⟨rfl,a2,_,_,_,_,an⟩;go_wp2_with fail;refine a.out _ _ Z λhHeld=>?_;refine iu 4 16 (λh a=>?_) λh a=>?_
    .have ej:=ea Z;go_simp;refine a.out _ _ ej λhHeld=>?_;refine el 16 (λh a=>?_);go_simp;refine a.out _ _ R λhHeld=>?_;refine el 17 (λh a=>?_);refine ON (.tmp 12) (.tmp 24) 167 rfl _ _ rfl rfl aa ?_;go_simp;refine a.out _ _ (Q _ y) λhHeld=>?_;refine dZ 26 18 ?_;refine dZ 27 19 ?_;refine el 20 (λh a=>?_);go_simp;refine a.out _ _ ac λhHeld=>?_;refine ig ?_;go_wp2;go_end0;exact Y
    .go_simp;refine a.out _ _ R λhHeld=>?_;refine el 4 (λh a=>?_);go_simp;refine a.out _ _ R λhHeld=>?_;refine el 17 (λh a=>?_);refine ON (.tmp 12) (.tmp 24) 167 rfl _ _ rfl rfl aa ?_;go_simp;refine a.out _ _ (Q _ y) λhHeld=>?_;refine dZ 26 18 ?_;refine dZ 27 19 ?_;refine el 20 (λh a=>?_);go_simp;refine a.out _ _ ac λhHeld=>?_;refine ig ?_;go_wp2;go_end0;exact Y
section
variable {w0 w w' : World} {ρ : Nat -> Nat × Nat} {mb : Nat} {vp : Value} {fuel : Int} {ask : Bool} {st : eJ} {A : List Nat} {X : List gv} {Y : List Value} {vr eE : Value}
theorem fE.own(a:fE w0 w ρ mb vp fuel ask st A X Y vr eE)(i:ee (λb=>b=mb) w w'){frs X' told f steps}(h:ed w' mb 172 (machC vp fuel ask f st.objs.length A told eE steps))(g:w'.ownsRow w0.heap.size 231 1 f X'.length (X'.map λx=>zP (M ⟨x.fb,0,U⟩)))(n:f.ownBlock=vr.ownBlock)(m:X'.length=frs.length)(k:∀(c:Nat) (d:eD) (x:gv),frs[c]? =M d->X'[c]? =M x->st.frames[c]? =M d/\X[c]? =M x)(p:okV A told):
  fE w0 w' ρ mb vp fuel ask { st with frames:=frs,told:=told,steps:=steps } A X' Y f eE:=by
 have e:∀b,b<w.heap.size->b=mb->∀d,d≠(5,0)->ρ b≠d:=λb _ c d g b=>g (b▸c▸a.iv);have l:Same w.heap.size ρ ρ :=λ_ _=>rfl;have o:=a.bel.size;exact⟨h,a.base,a.iv,g,λf j=>a.oA f (n▸j),eX a.io i (λf j c=>e f (a.io.lt f j).2 c (7,0) (by simp) (a.iZ f j)),a.iZ,m,λc d x g h=>(a.fr c d x (k c d x g h).1 (k c d x g h).2).mods i l (λb d c=>⟨e b d c _ (by simp),e b d c _ (by simp),e b d c _ (by simp)⟩),a.la,a.ly,λb n k q g h m=>(a.ob b n k q g h m).mods i l (λb a c=>⟨e b a c _ (by simp),e b a c _ (by simp)⟩),p,a.bel.trans (i.below o (λb d c=>by have:=a.base;omega)),a.low⟩
theorem fE.below{c}(a:fE w0 w ρ mb vp fuel ask st A X Y vr eE)(e:Below c w w')(d:w.heap.size<=c):fE w0 w' ρ mb vp fuel ask st A X Y vr eE:=by
 have b:=Ox e;have g:Same w.heap.size ρ ρ :=λ_ _=>rfl;have:=a.bel.size;have:=a.lt;exact⟨a.eH.below e (by omega),a.base,a.iv,eX a.run b (λc d b=>by have:=(a.run.lt c d).2;omega),a.oA,eX a.io b (λc d b=>by have:=(a.io.lt c d).2;omega),a.iZ,a.lx,λk i n c d=>(a.fr k i n c d).mods b g (λf a b=>by omega),a.la,a.ly,λf l h m c d j=>(a.ob f l h m c d j).mods b g (λe a b=>by omega),a.qu,a.bel.trans (e.mono (by omega)),a.low⟩
theorem fE.drew (a:fE w0 w ρ mb vp fuel ask st A X Y vr eE):fE w0 w.drew ρ mb vp fuel ask st A X Y vr eE:=a.below (ay w.heap.size w).drew (ai _)
end
theorem pM {α :Type}{l:List α}(b:0<l.length):∃a x,l=a++ [x]:=by
 rcases bX l with rfl | ⟨a,x,rfl⟩
 .simp at b
 .exact⟨a,x,by simp⟩
def jE (st:eJ)(v:LVal):eJ:=match st.frames.dropLast.getLast? with
 | none => { st with frames := [], told := v }
 | some g => { st with frames := st.frames.dropLast.dropLast ++ [{ g with stk := g.stk ++ [v] }], told := v }
theorem Cr{st f}(a)(b:st.frames= []++ [f]):jE st a= { st with frames:= [],told:=a } :=by
 unfold jE;rw[b];rfl
theorem Cq{st fs g f}(a)(b:st.frames=fs++ [g]++ [f]):jE st a= { st with frames:=fs++ [{ g with stk:=g.stk++ [a] }],told:=a } :=by
 unfold jE;rw[b,aQ,bu,aQ]
theorem Kc(w0 w ρ mb vp fuel ask st A X Y vr eE)(o:fE w0 w ρ mb vp fuel ask st A X Y vr eE)(a)(ba:okV A a)(q N)(u:st.frames=q++ [N])(F:X.length<=4194304)(b9:∀g∈st.frames,g.stk.length<=4194304):
  Calls Tryz.prog 172 #[zP (M ⟨mb,0,U⟩),.agg (ff A a).toArray] w λc w'=>qF w0 mb vp fuel ask (jE st a) A w' c:=by
 have b5:=oN A a;have a2:=ev w (zC (ff A a).toArray 170);have G:=Oz w (ff A a).toArray 170;have a4:=o.eH.alloc (zC (ff A a).toArray 170);have cc:=o.lt;have a6:X.length=q.length+1:=by rw[o.lx,u];simp
 obtain⟨b,Z,rfl⟩:∃b Z,X=b++ [Z]:=pM (by omega);have T:b.length=q.length:=by simpa using a6
 have a8:(b++ [Z]).length=b.length+1:=by simp
 obtain⟨g,n,rfl,Z,_,b6⟩:=jH o.run (by omega);have R:=uW o.run (m:=b.length) (by omega);rw[cE,aM,cI (by simp),aH (by simp)]at R;go_in
 go_wp2_with (first
  | refine jv jf G 0 (ff A a) rfl (λj a c => by simpa using c) (.tmp 3) rfl rfl rfl ?_
  | (refine fJ jf a4 5 (ff A a) rfl (by simp[machC]) b5 (.tmp 7) (.tmp 5) rfl rfl rfl rfl ?_; intro B ao P b8))
 have E:ed B mb 172 (machC vp fuel ask (O (M ⟨g,0,U⟩) (b.length+1) n) st.objs.length A a eE st.steps):=by
  rw[<-a8];exact ao
 have Z:=E.c3;have Z:=E.frozen 3;have Q:ee (λa=>a=mb) w (B.setCell ⟨mb,3,U⟩ (O (M ⟨g,0,U⟩) b.length n)):=((fX a2).trans P (λ_ _ c=>c)).setCell (p:=⟨mb,3,U⟩) (λ_=>rfl) _;have ar:ed (B.setCell ⟨mb,3,U⟩ (O (M ⟨g,0,U⟩) b.length n)) mb 172 (machC vp fuel ask (O (M ⟨g,0,U⟩) b.length n) st.objs.length A a eE st.steps):=E.setCell 3 _
 have C:Hid (fE w0 (B.setCell ⟨mb,3,U⟩ (O (M ⟨g,0,U⟩) b.length n)) ρ mb vp fuel ask { st with frames:=q,told:=a } A b Y (O (M ⟨g,0,U⟩) b.length n) eE/\ed (B.setCell ⟨mb,3,U⟩ (O (M ⟨g,0,U⟩) b.length n)) w.heap.size 170 (ff A a)):=by
  refine⟨o.own Q ar (eX R Q (λj h c=>?_)) rfl T (λe e e d e=>?_) ba,((G.mods P (by omega)).gP (by dsimp only;omega) _)⟩
  .have:=OO o.run o.eH rE;exact this (c▸h)
  .rw [u];exact⟨by rw[aL (ag.1 d).1];exact d,by rw[aL (ag.1 e).1];exact e⟩
 have L:=Ou T;have bk:=Ou (show b.length<=4194303 by omega);have B:(0:Int)<=(b.length:Int):=by omega
 have B:(b.length:Int)<=(n:Int):=by omega
 have B:IntKind.i64.wrap (b.length:Int)=(b.length:Int):=by rw[IntKind.wrap_i64];omega
 have B:((b.length:Int)+1)-1=(b.length:Int):=by omega
 clear ao P b8 E Q ar R a4 G a2 T a6 a8 F
 go_cut [] (λc=>fE w0 c ρ mb vp fuel ask { st with frames:=q,told:=a } A b Y (O (M ⟨g,0,U⟩) b.length n) eE/\ed c w.heap.size 170 (ff A a))
 case first=>
  refine iY (λ_=>True) trivial λhHeld=>?_;refine dZ 8 0 ?_;refine dZ 9 1 ?_;refine dZ 10 2 ?_;refine dZ 11 3 ?_;refine dZ 13 5 ?_;refine dZ 14 6 ?_;refine dZ 15 7 ?_;refine iu 4 8 (λt j=>?_) λt j=>?_
  .go_simp;refine j.out _ _ trivial λhHeld=>?_;refine el 8 (λt j=>?_);go_simp;refine j.out _ _ trivial λhHeld=>?_;refine dZ 17 9 ?_;refine dZ 18 10 ?_;refine dZ 19 11 ?_;refine dZ 20 12 ?_;refine dZ 21 13 ?_;refine el 14 (λt j=>?_);go_simp;refine j.out _ _ trivial λhHeld=>?_;refine ig ?_;go_wp2
   go_meet
   case rel=>exact ⟨C.1.drew,C.2.drew⟩
  .go_simp;refine j.out _ _ trivial λhHeld=>?_;refine dZ 17 9 ?_;refine dZ 18 10 ?_;refine el 4 (λt j=>?_);go_simp;refine j.out _ _ trivial λhHeld=>?_;refine dZ 19 11 ?_;refine dZ 20 12 ?_;refine dZ 21 13 ?_;refine el 14 (λt j=>?_);go_simp;refine j.out _ _ trivial λhHeld=>?_;refine ig ?_;go_wp2
   go_meet
   case rel=>exact ⟨C.1.drew,C.2.drew⟩
 case rest=>
  obtain⟨k,D⟩:=hcut;have W:=k.eH.c3;have bf:=Ou k
  by_cases an:b.length=0
  .have e:q= []:=aV (by rw[<-ea L];exact an)
   have K:Hid (qF w0 mb vp fuel ask (jE st a) A wc (zR (.tuple #[]))):=by
    refine⟨rfl,ρ,b,Y,O (M ⟨g,0,U⟩) b.length n,eE,?_⟩;rw[Cr (f:=N) a (by rw[u,e])];rw[e]at k;exact k
   have d:¬(0:Int)<(b.length:Int):=(by omega);go_wp2;go_end0;exact K
  .obtain⟨e,d,rfl⟩:=pM (l:=b) (by omega);obtain⟨v,h,rfl⟩:=pM (l:=q) (by rw[<-ea L];omega);have r:e.length=v.length:=(by simpa using ea L);have V:(e++ [d]).length=e.length+1:=(by simp);have ca:=ea bk;obtain⟨b,b,a3,_,_,a5⟩:=jH k.run (by omega);simp only[Value.slice.injEq,aX,Addr.mk.injEq,and_true,true_and]at a3;obtain⟨rfl,rfl⟩:=a3
   have bc:wc.cell? ⟨g,e.length,U⟩=M (zP (M ⟨d.fb,0,U⟩)):=by
    rw[a5 _ (by omega),aM,aP (by simp)];simp
   have s:=k.fr e.length h d (by show (v++ [h])[e.length]? =_;rw[r];simp) (by simp);have ab:=Ou s;rw[V]at W;have ac:=D.c0;have ad:=D.c1;have ak:=D.c2;have bz:ff A a= [J I a.kind,J I a.num,ic A a.obj]:=rfl;have b:IntKind.i64.wrap (e.length:Int)=(e.length:Int):=(by rw[IntKind.wrap_i64];omega);have b:(0:Int)<=(e.length:Int):=(by omega);have b:(e.length:Int)<(e.length:Int)+1:=(by omega);have b:(0:Int)<(e.length:Int)+1:=(by omega);have bh:=Ou r;have b:=Ou V;have bI:h.stk.length<=4194304:=b9 h (by rw[u];simp);have br:=k.bel.size
   have b7:¬(g=d.fb\/d.vs.ownBlock=M g):=λc=>by
    rcases c with c | c
    .exact OO k.run s.fr.blk (by decide) (show _=M d.fb from c▸rfl)
    .exact z8 k.run s.fr.st (by decide) g rfl c
   have bM:¬(mb=d.fb\/d.vs.ownBlock=M mb):=λc=>by
    rcases c with c | c
    .exact absurd (s.fr.blk.uniq (c▸k.eH)) (by decide)
    .exact OO s.fr.st k.eH (by decide) c
   have H:=o.fr e.length h d (by rw[u,r];simp) (by simp)
   have S:¬(w.heap.size=d.fb\/d.vs.ownBlock=M w.heap.size):=λc=>by
    rcases c with c | c
    .have:=H.fr.blk.lt;omega
    .have:=(H.fr.st.lt _ c).2;omega
   clear k s D a5 r V ca an b6 H;go_wp2;refine iY (λw'=>w'.cell? ⟨mb,3,U⟩=M (O (M ⟨g,0,U⟩) (e.length+1) n)/\w'.cell? ⟨g,e.length,U⟩=M (zP (M ⟨d.fb,0,U⟩))/\w'.cell? ⟨w.heap.size,0,U⟩=M (J I a.kind)/\w'.cell? ⟨w.heap.size,1,U⟩=M (J I a.num)/\w'.cell? ⟨w.heap.size,2,U⟩=M (ic A a.obj)) ⟨W,bc,ac,ad,ak⟩ λhHeld=>?_;refine dZ 28 0 ?_;refine dZ 29 1 ?_;refine dZ 30 2 ?_;refine dZ 31 3 ?_;refine dZ 32 4 ?_;refine dZ 33 5 ?_;refine dZ 34 6 ?_;refine dZ 35 7 ?_;refine dZ 36 8 ?_;refine dZ 37 9 ?_;refine dZ 38 10 ?_;refine dZ 39 11 ?_;refine dZ 40 12 ?_;refine el 13 (λt j=>?_);go_simp;have a1:=nf w0.heap.size A d.fb d.mc (h.pc:Int) d.vl h.loc d.vs h.stk a wc.drew (ab.fr.below (ay wc.heap.size wc).drew (ai _)) br bI;rw[bz]at a1;refine a1.mono ?_;rintro c be a0;have b:ee (λa=>a=d.fb\/d.vs.ownBlock=M a\/d.vl.ownBlock=M a) wc wc.drew:=(Ow _ wc).drew;have bo:=a0.move b (.inl rfl);have y:=a0.choose_spec.2.2.1;have r:=ea bh;have aa:=ab
   obtain⟨rfl,cb,b,bn⟩:=bf.move (i:=e.length) (f:=h) (x:=d) (by show (v++ [h])[e.length]? =_;rw[r];simp) (by simp) bo aa.lI (λa z=>by
    rcases aN.1 z with z | z
    .exact aa.oks a z
    .obtain rfl:=aC.1 z;exact ba)
   have K:Hid (qF w0 mb vp fuel ask (jE st a) A be (zR (.tuple #[]))):=by
    have F:=(show vS w0 be mb vp fuel ask _ A from ⟨cb,_,_,_,_,bn⟩)
    have bs:(v++ [h]).set e.length { h with loc:=h.loc,stk:=h.stk++ [a] } =v++ [{ h with stk:=h.stk++ [a] }]:=by
     rw[r,bS _ _ (ai _),co];rfl
    simp only[bs]at F;refine⟨rfl,?_⟩;rw[Cq (f:=N) a u];exact F
   go_wp2_with fail;refine j.out _ _ ⟨y.cell (w:=wc.drew) W bM,y.cell (w:=wc.drew) bc b7,y.cell (w:=wc.drew) ac S,y.cell (w:=wc.drew) ad S,y.cell (w:=wc.drew) ak S⟩ λhHeld=>?_;refine ig ?_;go_wp2;go_end0;exact K
def gN (p:On)(ret op a b:Int):List Int:=
 if op=2\/op=14\/op=15 then [2]
 else if op=20 then [2,2]
 else if op=3\/op=4\/op=5\/op=6 then [0,0]
 else if op=8\/op=19 then [0]
 else if op=18\/op=17 then [3]
 else if op=10 then [a+3]
 else if op=11 then [a+3,gi p a b]
 else if op=12 then (a+3)::(ew p a b).args
 else if op=13 then [ret]
 else []
def ja (l:Ok)(w w':World)(e:Ending):Prop:=∃v,e=zR v/\w'.ownsRow w.heap.size 43 1 v l.length (l.map (J .i64))/\Below w.heap.size w w'
theorem xl(d:World)(e c)(f:c.length<=4194304):(d.alloc (zC c.toArray e)).ownsRow d.heap.size e 1 (O (M ⟨d.heap.size,0,U⟩) c.length c.length) c.length c:=by
 refine⟨by omega,.inr ⟨d.heap.size,c.length,c.toArray,rfl,ai _,World.alloc_heap_new d _,ai _,by unfold maxLen;omega,by simp,by simp⟩⟩
theorem nz(w e c)(f:c.length<=4194304):ja c w ((w.alloc e).alloc (zC (c.map (J .i64)).toArray 43)) (zR (O (M ⟨w.heap.size+1,0,U⟩) c.length c.length)):=by
 have d:=xl (w.alloc e) 43 (c.map (J .i64)) (by simpa using f);rw[aZ,World.size_alloc]at d;exact⟨_,rfl,Ov d (by omega),gS _ _ _⟩
theorem vN(w c):ja [] w (w.alloc c) (zR (O U 0 0)):=⟨_,rfl,World.ownsRow_nil _ _ _ _,ev _ _⟩
section
variable (p : List eb) (vp : Value) (w0 w : World) (mb fb : Nat) (a b : Int)
theorem NW:Calls Tryz.prog 229 #[zP (M ⟨mb,0,U⟩),zP (M ⟨fb,0,U⟩),.agg #[J I 2,J I a,J I b]] w λc d=>ja [2] w d c:=by
 go_in
 go_wp2;go_ret;exact nz w _ [2] (by decide)
theorem NQ:Calls Tryz.prog 229 #[zP (M ⟨mb,0,U⟩),zP (M ⟨fb,0,U⟩),.agg #[J I 14,J I a,J I b]] w λc d=>ja [2] w d c:=by
 go_in
 go_wp2;go_ret;exact nz w _ [2] (by decide)
theorem NR:Calls Tryz.prog 229 #[zP (M ⟨mb,0,U⟩),zP (M ⟨fb,0,U⟩),.agg #[J I 15,J I a,J I b]] w λc d=>ja [2] w d c:=by
 go_in
 go_wp2;go_ret;exact nz w _ [2] (by decide)
theorem NX:Calls Tryz.prog 229 #[zP (M ⟨mb,0,U⟩),zP (M ⟨fb,0,U⟩),.agg #[J I 20,J I a,J I b]] w λc d=>ja [2,2] w d c:=by
 go_in
 go_wp2;go_ret;exact nz w _ [2,2] (by decide)
theorem NY:Calls Tryz.prog 229 #[zP (M ⟨mb,0,U⟩),zP (M ⟨fb,0,U⟩),.agg #[J I 3,J I a,J I b]] w λc d=>ja [0,0] w d c:=by
 go_in
 go_wp2;go_ret;exact nz w _ [0,0] (by decide)
theorem NZ:Calls Tryz.prog 229 #[zP (M ⟨mb,0,U⟩),zP (M ⟨fb,0,U⟩),.agg #[J I 4,J I a,J I b]] w λc d=>ja [0,0] w d c:=by
 go_in
 go_wp2;go_ret;exact nz w _ [0,0] (by decide)
theorem N3:Calls Tryz.prog 229 #[zP (M ⟨mb,0,U⟩),zP (M ⟨fb,0,U⟩),.agg #[J I 5,J I a,J I b]] w λc d=>ja [0,0] w d c:=by
 go_in
 go_wp2;go_ret;exact nz w _ [0,0] (by decide)
theorem N4:Calls Tryz.prog 229 #[zP (M ⟨mb,0,U⟩),zP (M ⟨fb,0,U⟩),.agg #[J I 6,J I a,J I b]] w λc d=>ja [0,0] w d c:=by
 go_in
 go_wp2;go_ret;exact nz w _ [0,0] (by decide)
theorem N7:Calls Tryz.prog 229 #[zP (M ⟨mb,0,U⟩),zP (M ⟨fb,0,U⟩),.agg #[J I 8,J I a,J I b]] w λc d=>ja [0] w d c:=by
 go_in
 go_wp2;go_ret;exact nz w _ [0] (by decide)
theorem NV:Calls Tryz.prog 229 #[zP (M ⟨mb,0,U⟩),zP (M ⟨fb,0,U⟩),.agg #[J I 19,J I a,J I b]] w λc d=>ja [0] w d c:=by
 go_in
 go_wp2;go_ret;exact nz w _ [0] (by decide)
theorem NK:Calls Tryz.prog 229 #[zP (M ⟨mb,0,U⟩),zP (M ⟨fb,0,U⟩),.agg #[J I 0,J I a,J I b]] w λc d=>ja [] w d c:=by
 go_in
 go_wp2;go_ret;exact vN w _
theorem NL:Calls Tryz.prog 229 #[zP (M ⟨mb,0,U⟩),zP (M ⟨fb,0,U⟩),.agg #[J I 1,J I a,J I b]] w λc d=>ja [] w d c:=by
 go_in
 go_wp2;go_ret;exact vN w _
theorem N5:Calls Tryz.prog 229 #[zP (M ⟨mb,0,U⟩),zP (M ⟨fb,0,U⟩),.agg #[J I 7,J I a,J I b]] w λc d=>ja [] w d c:=by
 go_in
 go_wp2;go_ret;exact vN w _
theorem N8:Calls Tryz.prog 229 #[zP (M ⟨mb,0,U⟩),zP (M ⟨fb,0,U⟩),.agg #[J I 9,J I a,J I b]] w λc d=>ja [] w d c:=by
 go_in
 go_wp2;go_ret;exact vN w _
theorem NS:Calls Tryz.prog 229 #[zP (M ⟨mb,0,U⟩),zP (M ⟨fb,0,U⟩),.agg #[J I 16,J I a,J I b]] w λc d=>ja [] w d c:=by
 go_in
 go_wp2;go_ret;exact vN w _
theorem NT:Calls Tryz.prog 229 #[zP (M ⟨mb,0,U⟩),zP (M ⟨fb,0,U⟩),.agg #[J I 17,J I a,J I b]] w λc d=>ja [3] w d c:=by
 go_in
 go_wp2_with fail;refine(og 0 (by omega) (by omega) _).mono ?_;rintro c d ⟨rfl,rfl⟩;go_wp2;go_ret;exact nz w _ [3] (by decide)
theorem NU:Calls Tryz.prog 229 #[zP (M ⟨mb,0,U⟩),zP (M ⟨fb,0,U⟩),.agg #[J I 18,J I a,J I b]] w λc d=>ja [3] w d c:=by
 go_in
 go_wp2_with fail;refine(og 0 (by omega) (by omega) _).mono ?_;rintro c d ⟨rfl,rfl⟩;go_wp2;go_ret;exact nz w _ [3] (by decide)
theorem NM (e:0<=a)(f:a<=4194304):Calls Tryz.prog 229 #[zP (M ⟨mb,0,U⟩),zP (M ⟨fb,0,U⟩),.agg #[J I 10,J I a,J I b]] w λc d=>ja [a+3] w d c:=by
 go_in
 go_wp2_with fail;refine(og a (by omega) (by omega) _).mono ?_;rintro c d ⟨rfl,rfl⟩;go_wp2;go_ret;exact nz w _ [a+3] (by simp)
theorem NP(c)(e:w.cell? ⟨fb,2,U⟩=M (J I c)):Calls Tryz.prog 229 #[zP (M ⟨mb,0,U⟩),zP (M ⟨fb,0,U⟩),.agg #[J I 13,J I a,J I b]] w λd f=>ja [c] w f d:=by
 have:=Oq (ev w (zC #[J I 13,J I a,J I b] 60)) _ _ e;go_in
 go_wp2;go_ret;exact nz w _ [c] (by simp)
end
theorem zj(f e d c x g h w):(Instr.field 63 (.agg #[J I f,x,J I e,J I d,J I c,g,h]) 1).run Tryz.prog w= .ok x w:=by kernel_rfl
attribute [local go_sem] zj
section
variable (p : List eb) (vp : Value) (w0 w : World) (mb fb : Nat) (a b : Int)
theorem NN (r:eQ w0 vp p)(z:Below w0.heap.size w0 w)(C:w.cell? ⟨mb,0,U⟩=M vp)(G:ez p p.length)(s:eM p<=4194304)(L:0<=a)(x:a<(p.length:Int))(N:0<=b)(P:b<((OE p a).length:Int)) :
  Calls Tryz.prog 229 #[zP (M ⟨mb,0,U⟩),zP (M ⟨fb,0,U⟩),.agg #[J I 11,J I a,J I b]] w λl e=>ja [a+3,gi p a b] w e l:=by
 have v:=Ou r;have:=ap (fQ p) s;obtain⟨H,_,_,K,rfl,_⟩:=r;have m:=ev w (zC #[J I 11,J I a,J I b] 60);have o:=Oz w #[J I 11,J I a,J I b] 60;have h:=Oq m _ _ C;go_in
 go_wp2_with fail;generalize w.alloc _=W at *;have i:=o.c1;have j:=o.c2;have A:=eu z m;refine fk (λe=>e.cell? ⟨mb,0,U⟩=M (O H p.length K)/\e.cell? ⟨w.heap.size,1,U⟩=M (J I a)/\e.cell? ⟨w.heap.size,2,U⟩=M (J I b)) ⟨h,i,j⟩ λhHeld=>?_;refine dZ 40 0 ?_;refine dZ 41 1 ?_;refine dZ 43 3 ?_;refine dZ 44 4 ?_;refine dZ 45 5 ?_;refine dZ 46 6 ?_;refine dZ 47 7 ?_;refine dZ 48 8 ?_;refine dZ 50 10 ?_;refine dZ 51 11 ?_;refine el 2 (λk c=>?_);go_simp;refine(og a (by omega) (by omega) _).mono ?_;rintro l e ⟨rfl,rfl⟩;go_wp2_with fail;refine c.out _ _ ⟨h,i,j⟩ λhHeld=>?_;refine el 9 (λk c=>?_);go_simp;refine(wy p G s (a+1).toNat a _ _ (eA (Oq A.drew) v) (by omega) x (ai _)).mono ?_;rintro l f ⟨e,rfl,E,e⟩;have g:Below W.heap.size W f:=⟨e.os,e.tape,e.output,e.size,e.block⟩;obtain⟨d,rfl⟩:∃d:Nat,b=(d:Int):=⟨b.toNat,by omega⟩;have B:d<(OE p a).length:=by omega
 obtain⟨y,e,rfl,e,_,e⟩:=jH E (by omega)
 have:f.cell? ⟨y,d,U⟩=M (J I (gi p a (d:Int))):=by
  rw[e _ (by omega),aU];unfold gi;rw[aK,aj,ae B];rfl
 have e:=Oq g;have q:=Ou (aq (e _ _ h) (aq (e _ _ i) (e _ _ j)));generalize D:gi p a (d:Int)=ft at *;have u:=Ou D;generalize d:OE p a=F at *;go_wp2_with fail;refine c.out _ _ q λhHeld=>?_;refine dZ 52 12 ?_;refine el 13 (λk c=>?_);go_simp;refine c.out _ _ q λhHeld=>?_;refine el 14 (λk c=>?_);go_simp;have d:=Oq (g.alloc g.size (zC #[J I (a+3),J I ft] 43));refine c.out _ _ ⟨d _ _ h,d _ _ i,d _ _ j⟩ λhHeld=>?_;refine dZ 6 15 ?_;refine eV ?_;have n:=eu m g
 have t:Hid (ja [a+3,ft] w (f.alloc (zC #[J I (a+3),J I ft] 43)) (zR (O (M ⟨f.heap.size,0,U⟩) 2 2))):=
  ⟨_,rfl,Ov (xl f 43 [J I (a+3),J I ft] (by simp)) n.size,n.alloc n.size _⟩
 go_wp2;go_ret;rw[ea u];exact t
theorem NO (bn:eQ w0 vp p)(N:Below w0.heap.size w0 w)(bk:w.cell? ⟨mb,0,U⟩=M vp)(a2:ez p p.length)(X:eM p<=4194304)(ad:0<=a)(ak:a<(p.length:Int))(a1:(fy p a b).isSome=K)(bM:(ew p a b).args.length<=4194303) :
  Calls Tryz.prog 229 #[zP (M ⟨mb,0,U⟩),zP (M ⟨fb,0,U⟩),.agg #[J I 12,J I a,J I b]] w λc r=>ja ((a+3)::(ew p a b).args) w r c:=by
 obtain⟨a6,a0,a3,a4,a5⟩:=info_parts infoType;have ac:=Ou bn;have bn:=ap (fQ p) X;have t:=ev w (zC #[J I 12,J I a,J I b] 60);have D:=Oz w #[J I 12,J I a,J I b] 60;have ar:=Oq t _ _ bk;go_in
 go_wp2_with fail;generalize w.alloc _=W at *;have m:=D.c1;have n:=D.c2;have ao:=eu N t;have bk:w.heap.size<W.heap.size:=D.lt;refine fk (λr=>r.cell? ⟨w.heap.size,1,U⟩=M (J I a)/\r.cell? ⟨w.heap.size,2,U⟩=M (J I b)) ⟨m,n⟩ λhHeld=>?_;refine dZ 57 0 ?_;refine dZ 58 1 ?_;refine dZ 61 4 ?_;refine dZ 62 5 ?_;refine dZ 63 6 ?_;refine dZ 64 7 ?_;refine dZ 65 8 ?_;refine el 2 (λk g=>?_);go_simp;refine(og a (by omega) (by omega) _).mono ?_;rintro c r ⟨rfl,rfl⟩;go_wp2_with fail;refine g.out _ _ ⟨m,n⟩ λhHeld=>?_;refine iu 3 9 (λk g=>?_) λk g=>?_
 .go_simp;have C:Below W.heap.size W (W.drew.alloc (zC #[J I (a+3)] 43)):=⟨rfl,rfl,rfl,by simp,λd c=>cO W.drew _ d c⟩;have V:=Oq C;have B:=xl W.drew 43 [J I (a+3)] (by simp);refine g.out _ _ ⟨V _ _ m,V _ _ n⟩ λhHeld=>?_;refine el 9 (λk g=>?_);go_simp;refine(tI p vp a b w0 (W.drew.alloc (zC #[J I (a+3)] 43)) mb ac (eu ao C) (V _ _ ar) a2 X ad ak a1).mono ?_;rintro c f ⟨bs,bz,bI,rfl,L,an⟩;have i:Below W.heap.size W f:=C.trans (an.mono (by simp));have h:=eu t i;have P:=eu N h;obtain⟨d,l⟩:∃d,d=W.heap.size:=⟨_,rfl⟩
  have y:f.ownsRow w.heap.size 43 1 (O (M ⟨d,0,U⟩) 1 1) 1 [J I (a+3)]:=by
   have:=eX (w':=f) B (Ox an) (λe d c=>by have:=(B.lt e d).2;omega);rw[l];exact Ov this t.size
  have bh:w.heap.size<d:=by omega
  rw[<-l];clear l B;obtain⟨R,S,T⟩:=L;obtain⟨aa,ab,rfl,u,Q⟩:=mg R;obtain⟨bc,_,_,be,rfl,_⟩:=T;obtain⟨a8,_,_,ba,rfl,_⟩:=S;have z:f.cell? ⟨w.heap.size,1,U⟩=M (J I a):=Oq i _ _ m;have A:f.cell? ⟨w.heap.size,2,U⟩=M (J I b):=Oq i _ _ n;have q:∀e,f.grownBy e (O (M ⟨d,0,U⟩) 1 1).ownBlock->ee (λe=>(O (M ⟨d,0,U⟩) 1 1).ownBlock=M e) f e:=λe d=>(Ow _ f).grown d (λe c _=>c);unfold fB;generalize v:ew p a b=o at *;have F:=Ou v;clear v;go_wp2_with fail;refine g.out _ _ ⟨z,A⟩ λhHeld=>?_;refine dZ 67 10 ?_;refine el 11 (λk g=>?_);refine ye (.tmp 60) (.tmp 67) 40 rfl w.heap.size 43 a6 (J I 0) 1 8 Tryz.underlying40 a0 a3 a4 a5 rfl (by decide) (O (M ⟨d,0,U⟩) 1 1) 1 [J I (a+3)] rfl y aa o.args.length ab (o.args.map (J .i64)) rfl (by simp) (λc=>⟨by rw[(u c).1];rfl,(u c).2⟩) (λd c f g e=>Oq P _ _ (Q d c f g e)) (oy _) (by unfold maxLen;omega) (by omega) h.size ?_;intro br e x j bf;obtain⟨G,H,rfl⟩:=fd x;have s:Below w.heap.size w e:=h.trans ((Ow (λe=>(O (M ⟨d,0,U⟩) 1 1).ownBlock=M e) f).grown j (λe c _=>c) |>.below h.size (λe d c=>by have:=(y.lt e c).1;omega));have bo:=Oq s;have Y:e.cell? ⟨w.heap.size,1,U⟩=M (J I a):=(q e j).cell z (λc=>by have:=aT (show M d=M w.heap.size from c);omega);have Z:e.cell? ⟨w.heap.size,2,U⟩=M (J I b):=(q e j).cell A (λc=>by have:=aT (show M d=M w.heap.size from c);omega);go_simp;refine g.out _ _ ⟨Y,Z⟩ λhHeld=>?_;refine dZ 6 12 ?_;refine eV ?_;have E:Hid (ja ((a+3)::o.args) w e (zR (O G (1+o.args.length) H))):=⟨_,rfl,by rw[show ((a+3)::o.args).length=1+o.args.length by simp;omega];exact x,s⟩;go_wp2;go_ret;rw[ea F];exact E
 .go_simp;refine(tI p vp a b w0 W.drew mb ac ao.drew ar a2 X ad ak a1).mono ?_;rintro c C ⟨bs,bz,bI,rfl,L,r⟩;have B:Below W.heap.size W C:=⟨r.os,r.tape,r.output,r.size,r.block⟩;have an:=Oq B;have r:=B.size;obtain⟨f,V⟩:∃f,f=C.alloc (zC #[J I (a+3)] 43):=⟨_,rfl⟩;have i:Below W.heap.size W f:=by rw[V];exact B.alloc B.size _
  have h:=eu t i;have P:=eu N h;obtain⟨d,l⟩:∃d,d=C.heap.size:=⟨_,rfl⟩
  have y:f.ownsRow w.heap.size 43 1 (O (M ⟨d,0,U⟩) 1 1) 1 [J I (a+3)]:=by
   rw[l,V];exact Ov (xl C 43 [J I (a+3)] (by simp)) (by omega)
  have bh:w.heap.size<d:=by omega
  obtain⟨R,S,T⟩:=L;obtain⟨aa,ab,rfl,u,Q⟩:=mg R;obtain⟨bc,_,_,be,rfl,_⟩:=T;obtain⟨a8,_,_,ba,rfl,_⟩:=S;have z:f.cell? ⟨w.heap.size,1,U⟩=M (J I a):=Oq i _ _ m;have A:f.cell? ⟨w.heap.size,2,U⟩=M (J I b):=Oq i _ _ n;have q:∀e,f.grownBy e (O (M ⟨d,0,U⟩) 1 1).ownBlock->ee (λe=>(O (M ⟨d,0,U⟩) 1 1).ownBlock=M e) f e:=λe d=>(Ow _ f).grown d (λe c _=>c);unfold fB;generalize v:ew p a b=o at *;have F:=Ou v;clear v;go_wp2_with fail;refine g.out _ _ ⟨an _ _ m,an _ _ n⟩ λhHeld=>?_;refine dZ 67 10 ?_;refine el 3 (λk g=>?_);go_simp;rw[<-l,<-V];refine g.out _ _ ⟨z,A⟩ λhHeld=>?_;refine el 11 (λk g=>?_);refine ye (.tmp 60) (.tmp 67) 40 rfl w.heap.size 43 a6 (J I 0) 1 8 Tryz.underlying40 a0 a3 a4 a5 rfl (by decide) (O (M ⟨d,0,U⟩) 1 1) 1 [J I (a+3)] rfl y aa o.args.length ab (o.args.map (J .i64)) rfl (by simp) (λc=>⟨by rw[(u c).1];rfl,(u c).2⟩) (λd c f g e=>Oq P _ _ (Q d c f g e)) (oy _) (by unfold maxLen;omega) (by omega) h.size ?_;intro br e x j bf;obtain⟨G,H,rfl⟩:=fd x;have s:Below w.heap.size w e:=h.trans ((Ow (λe=>(O (M ⟨d,0,U⟩) 1 1).ownBlock=M e) f).grown j (λe c _=>c) |>.below h.size (λe d c=>by have:=(y.lt e c).1;omega));have bo:=Oq s;have Y:e.cell? ⟨w.heap.size,1,U⟩=M (J I a):=(q e j).cell z (λc=>by have:=aT (show M d=M w.heap.size from c);omega);have Z:e.cell? ⟨w.heap.size,2,U⟩=M (J I b):=(q e j).cell A (λc=>by have:=aT (show M d=M w.heap.size from c);omega);go_simp;refine g.out _ _ ⟨Y,Z⟩ λhHeld=>?_;refine dZ 6 12 ?_;refine eV ?_;have E:Hid (ja ((a+3)::o.args) w e (zR (O G (1+o.args.length) H))):=⟨_,rfl,by rw[show ((a+3)::o.args).length=1+o.args.length by simp;omega];exact x,s⟩;go_wp2;go_ret;rw[ea F];exact E
end
structure lP (p:On)(m:eh)(op a b:Int):Prop where
 rq:0<=op
 op1:op<=20
 cls:(op=9\/op=17\/op=10\/op=11\/op=12)->0<=a/\a<(p.length:Int)
 loc:(op=1\/op=2)->0<=a/\a<m.locals
 im:(op=10\/op=11)->0<=b/\b<((OE p a).length:Int)
 call:op=12->(fy p a b).isSome=K
 jmp:(op=7\/op=8\/op=18)->0<=a/\a<(m.code.length:Int)
theorem kM{p m op a b}(c:eU p m ⟨op,a,b⟩=K):lP p m op a b:=by
 have e:0<=op/\op<=20:=by
  unfold eU at c;dsimp only at c
  repeat' split at c
  all_goals first | omega | (simp only[aD,lh]at c;omega)
 refine⟨e.1,e.2,λd=>?_,λd=>?_,λd=>?_,λd=>?_,λd=>?_⟩
 .unfold eU at c;dsimp only at c
  rcases d with rfl | rfl | rfl | rfl | rfl <;> simp[lh]at c <;> exact c.1
 .unfold eU at c;dsimp only at c
  rcases d with rfl | rfl <;> simp[lh]at c <;> exact c.1
 .unfold eU at c;dsimp only at c
  rcases d with rfl | rfl <;> simp[lh]at c <;> exact c.2
 .subst d;unfold eU at c;dsimp only at c;simp[lh]at c;exact c.2
 .unfold eU at c;dsimp only at c
  rcases d with rfl | rfl | rfl <;> simp[lh]at c <;> exact c.1
theorem Km(p m k c f e l d a b)(h:lP p l d a b)(i:Good p)(q:eQ k m p)(n:Below k.heap.size k c)(o:c.cell? ⟨f,0,U⟩=M m)(t:c.cell? ⟨e,2,U⟩=M (J I l.ret))(s:∀a b,(fy p a b).isSome=K->0<=a->a<(p.length:Int)->(ew p a b).args.length<=4194303):
  Calls Tryz.prog 229 #[zP (M ⟨f,0,U⟩),zP (M ⟨e,0,U⟩),.agg #[J I d,J I a,J I b]] c λr u=>ja (gN p l.ret d a b) c u r:=by
 have:=h.rq;have:=h.op1;have:=ap (fQ p) i.sz;obtain rfl | rfl | rfl | rfl | rfl | rfl | rfl | rfl | rfl | rfl | rfl | rfl | rfl | rfl | rfl | rfl | rfl | rfl | rfl | rfl | rfl:d=0\/d=1\/d=2\/d=3\/d=4\/d=5\/d=6\/d=7\/d=8\/d=9\/d=10\/d=11\/d=12\/d=13\/d=14\/d=15\/d=16\/d=17\/d=18\/d=19\/d=20:=by omega
 .exact NK c f e a b
 .exact NL c f e a b
 .exact NW c f e a b
 .exact NY c f e a b
 .exact NZ c f e a b
 .exact N3 c f e a b
 .exact N4 c f e a b
 .exact N5 c f e a b
 .exact N7 c f e a b
 .exact N8 c f e a b
 .have g:=h.cls (by omega);exact NM c f e a b g.1 (by omega)
 .have g:=h.cls (by omega);have j:=h.im (by omega);exact NN p m k c f e a b q n o i.sup i.sz g.1 g.2 j.1 j.2
 .have g:=h.cls (by omega);have j:=h.call rfl;exact NO p m k c f e a b q n o i.sup i.sz g.1 g.2 j (s a b j g.1 g.2)
 .exact NP c f e a b l.ret t
 .exact NQ c f e a b
 .exact NR c f e a b
 .exact NS c f e a b
 .exact NT c f e a b
 .exact NU c f e a b
 .exact NV c f e a b
 .exact NX c f e a b
def kg (op:Int):Bool:=op == 0 || op == 1 || op == 9 || op == 16 || op == 15
theorem Du(a b):Calls Tryz.prog 230 #[J I a] b λc d=>c=zR (zB (kg a))/\d=b:=by
 unfold kg
 cases b:a == 0 with
 | true =>
  go_in
  go_wp2;go_ret;exact⟨rfl,rfl⟩
 | false =>
  cases b:a == 1 with
  | true =>
   go_in
   go_wp2;go_ret;exact⟨rfl,rfl⟩
  | false =>
   cases b:a == 9 with
   | true =>
    go_in
    go_wp2;go_ret;exact⟨rfl,rfl⟩
   | false =>
    cases b:a == 16 with
    | true =>
     go_in
     go_wp2;go_ret;exact⟨rfl,rfl⟩
    | false =>
     cases b:a == 15 with
     | true =>
      go_in
      go_wp2;go_ret;exact⟨rfl,rfl⟩
     | false =>
      go_in
      go_wp2;go_ret;exact⟨rfl,rfl⟩
def mR (p:On)(ws:Ok)(stk:List LVal)(k:Nat):Bool:=(List.range k).all λj=>eF p (stk.getD (stk.length-ws.length+j) eO).kind (ws.getD j 0)
def ie (p:On)(m:eh)(loc stk:List LVal)(op a b:Int):Bool:=
 decide ((gN p m.ret op a b).length<=stk.length) && mR p (gN p m.ret op a b) stk (gN p m.ret op a b).length && !(op == 1 && (loc.getD a.toNat eO).kind == 2) && (!kg op || decide ((stk.length:Int)<m.stack))
def qM (b:Bool)(w w':World)(e:Ending):Prop:=e=zR (zB b)/\Below w.heap.size w w'
theorem NC{p a c b}(d:mR p a c (b+1)=F)(e:b<a.length):mR p a c a.length=F:=by
 unfold mR at *;rw[cx]at *;obtain⟨c,b,a⟩:=d;exact⟨c,bw.2 (by have:=bw.1 b;omega),a⟩
theorem ND(p c b a):mR p c b (a+1)=(mR p c b a && eF p (b.getD (b.length-c.length+a) eO).kind (c.getD a 0)):=by
 unfold mR;rw[dl,bR];simp
theorem Kd(p ca H f R m S e ej en eo ec ep i er a b d g)(w:gL f H.heap.size S m (ng e ej en eo) ec ep i er a)(a1:lP p e b d g)(T:Good p)(bo:eQ H ca p)(bc:Below H.heap.size H f)(aa:f.cell? ⟨R,0,U⟩=M ca)(cu:∀d g,(fy p d g).isSome=K->0<=d->d<(p.length:Int)->(ew p d g).args.length<=4194303)(b6:∀r∈gN p e.ret b d g,fz p.length r)(eP:(gN p e.ret b d g).length<=4194304)(bn:∀ei∈a,fz p.length ei.kind)(eK:a.length<=4194304)(es:i.length<=4194304)(et:e.locals=(i.length:Int)):
  Calls Tryz.prog 212 #[zP (M ⟨R,0,U⟩),zP (M ⟨m,0,U⟩),.agg #[J I b,J I d,J I g]] f λB c=>qM (ie p e i a b d g) f c B:=by
 have a0:=Ou bo;have d3:=ap (fQ p) T.sz;have Y:=ev f (zC #[J I b,J I d,J I g] 60);have L:=Oz f #[J I b,J I d,J I g] 60;have br:=w.blk.c2;have cA:=w.blk.c4;have N:Hid (ie p e i a b d g=(decide ((gN p e.ret b d g).length<=a.length) && mR p (gN p e.ret b d g) a (gN p e.ret b d g).length && !(b == 1 && (i.getD d.toNat eO).kind == 2) && (!kg b || decide ((a.length:Int)<e.stack)))):=rfl;obtain⟨k,bz⟩:∃k,k=ie p e i a b d g:=⟨_,rfl⟩;rw[<-bz]at N ⊢;clear bz;obtain⟨d9,_,_,eg,rfl,_⟩:=bo;obtain⟨b9,an,rfl⟩:=fd w.st;have a4:=w.c7.2.2;have a3:=w.c7.2.1;have Q:=Oq Y;have cz:=eu bc Y;go_in
 have b7:=L.c0;have b8:=L.c1;have d4:=L.c2;go_wp2_with fail;have bf:=Q _ _ aa;have bs:=Q _ _ br;generalize f.alloc _=W at *;refine(Km p _ H W R m e b d g a1 T a0 cz bf bs cu).mono ?_;rintro B z ⟨H,rfl,ad,P⟩;have C:=eu Y P;have D:=Oq C;have ak:=Oq P;have cn:=D _ _ a4;have cm:=D _ _ a3;have ck:=D _ _ cA;have cp:=D _ _ aa;have d5:=ak _ _ b7;have d6:=ak _ _ b8;obtain⟨H,H,rfl⟩:=fd ad;have ba:=w.below C (ai _);generalize d2:gN p e.ret b d g=ws at *;clear d2;have HS:=Ou ba;have cf:=Ou ad;have ci:=Ou b6;have ce:=Ou bn;have:=Ou P;clear b7 b8 d4 Q D ak a4 a3 br bs aa bf w ba ad b6 bn L P
 by_cases v:ws.length<=a.length
 .have:(a.length:Int)-(ws.length:Int)=((a.length-ws.length:Nat):Int):=by omega
  have:¬((a.length-ws.length:Nat):Int)<0:=by omega
  have d1:IntKind.i64.wrap ((a.length-ws.length:Nat):Int)=((a.length-ws.length:Nat):Int):=by rw[IntKind.wrap_i64];omega
  have ar:=Ou v;clear v;go_wp2
  go_loopw [27] (λb wr=>∃(h:Nat),h<=ws.length/\b=J I h/\mR p ws a h=K/\Below z.heap.size z wr) (λb _=>ws.length-(intOf b).toNat)
  case atStart=>exact ⟨0,az _,rfl,rfl,ay _ _⟩
  case round=>
   obtain⟨h,g,rfl,b5,Z⟩:=hrel;have X:=Ou b5;clear b5;have v:=ea ar;have n:=Oq Z;have t:=n _ _ cn;have a5:=n _ _ cm;have x:=n _ _ ck;have a6:=n _ _ cp;have o:=n _ _ d5;have a8:=n _ _ d6;have y:=eu C Z;have cg:=Ou (eA (Oq (eu bc y)) a0)
   by_cases ab:h<ws.length
   .obtain⟨cs,g,bh,g,_,bI⟩:=jH cf (by omega);simp only[Value.slice.injEq,true_and]at bh;obtain⟨rfl,rfl⟩:=bh;obtain⟨ac,g,bk,g,_,bM⟩:=jH HS.st (by omega);simp only[Value.slice.injEq,true_and]at bk;obtain⟨rfl,rfl⟩:=bk;obtain⟨r,A⟩:∃r,ws[h]? =M r:=⟨_,ae ab⟩;obtain⟨l,V⟩:∃l,l=a.length-ws.length+h:=⟨_,rfl⟩;have dp:l<a.length:=(by omega);obtain⟨q,E⟩:∃q,a[l]? =M q:=⟨_,ae dp⟩;have:=n _ _ (show z.cell? ⟨cs,h,U⟩=M (J I r) by rw[bI _ (by omega),aU,A];rfl);have G:=n _ _ (show z.cell? ⟨ac,l*3,U⟩=M (J I q.kind) by rw[bM _ (by omega)];exact oh S _ _ q E 0 (by omega));have ds:fz p.length r:=ci r (aB A);have d0:fz p.length q.kind:=ce q (aB E)
    have cc:Hid (mR p ws a (h+1)=eF p q.kind r):=by
     show _=_
     rw[ND,ea X,<-V,aj,E,aj,A];rfl
    have:=fp h;have Q:(h:Int)<(ws.length:Int):=(by omega);have:((a.length-ws.length:Nat):Int)+(h:Int)=(l:Int):=(by omega);have:IntKind.i64.wrap (l:Int)=(l:Int):=(by rw[IntKind.wrap_i64];omega);have:=fp l;have:(l:Int)<(a.length:Int):=(by omega);have:=Ou V;clear bI bM A E V v n;go_wp2;refine fk (λc=>c.cell? ⟨R,0,U⟩=M (O d9 p.length eg)/\c.cell? ⟨m,9,U⟩=M (O (M ⟨ac,0,U⟩) a.length an)/\c.cell? ⟨ac,l*3,U⟩=M (J I q.kind)) ⟨a6,t,G⟩ λhHeld=>?_;refine dZ 32 0 ?_;refine dZ 33 1 ?_;refine dZ 34 2 ?_;refine dZ 35 3 ?_;refine dZ 36 4 ?_;refine dZ 37 5 ?_;refine dZ 38 6 ?_;refine dZ 39 7 ?_;refine dZ 40 8 ?_;refine dZ 41 9 ?_;refine dZ 42 10 ?_;refine dZ 43 11 ?_;refine dZ 44 12 ?_;refine dZ 45 13 ?_;refine dZ 46 14 ?_;refine el 15 (λa2 u=>?_);go_simp;refine(wA p _ q.kind r _ (eA (Oq (ay wr.heap.size wr).drew) cg) T.sup d3 d0 ds).mono ?_;rintro B cb ⟨rfl,g⟩;have l:Below wr.heap.size wr cb:=⟨g.os,g.tape,g.output,g.size,g.block⟩;have g:=Oq l;rw[<-ea cc];have ao:=Ou (aq (g _ _ a6) (aq (g _ _ t) (g _ _ G)));have be:=eu Z l
    cases s:mR p ws a (h+1) with
    | true =>
     have j:=Ou s;clear s;go_wp2_with fail;refine u.out _ _ ao λhHeld=>?_;refine dZ 48 16 ?_;refine eV ?_;go_wp2_with fail;refine⟨⟨h+1,by omega,by go_num,ea j,be⟩,by simp[intOf];omega⟩
    | false =>
     have j:Hid (qM k f cb (zR (zB F))):=by
      refine⟨?_,eu C be⟩;rw[ea N,NC s ab];simp
     clear s;go_wp2_with fail;refine u.out _ _ ao λhHeld=>?_;refine dZ 48 16 ?_;refine eV ?_;go_wp2;go_ret;exact j
   .obtain rfl:h=ws.length:=by omega
    have V:Hid (k=(!(b == 1 && (i.getD d.toNat eO).kind == 2) && (!kg b || decide ((a.length:Int)<e.stack)))):=by
     show _=_
     rw[ea N,decide_eq_true v,ea X];simp
    clear v ar X
    cases ac:b == 1 with
    | false =>
     have A:Hid (k=(!kg b || decide ((a.length:Int)<e.stack))):=by
      show _=_
      rw[ea V,ac];simp
     go_wp2;refine fk (λc=>c.cell? ⟨f.heap.size,0,U⟩=M (J I b)) o λhHeld=>?_;refine dZ 50 0 ?_;refine dZ 51 1 ?_;refine dZ 52 2 ?_;refine dZ 53 3 ?_;refine eL 54 4 ?_;refine eL 55 5 ?_;refine eL 56 6 ?_;refine eL 57 7 ?_;refine eL 58 8 ?_;refine eL 59 9 ?_;refine eL 60 10 ?_;refine eL 61 11 ?_;refine eL 62 12 ?_;refine eL 63 13 ?_;refine dZ 64 14 ?_;refine eV ?_;go_wp2;refine fk (λc=>c.cell? ⟨f.heap.size,0,U⟩=M (J I b)/\c.cell? ⟨m,9,U⟩=M (O b9 a.length an)/\c.cell? ⟨m,4,U⟩=M (J I e.stack)) ⟨o,t,x⟩ λhHeld=>?_;refine dZ 65 0 ?_;refine dZ 66 1 ?_;refine el 2 (λa2 u=>?_);go_simp;refine(Du b _).mono ?_;rintro B cb ⟨rfl,rfl⟩
     cases q:kg b with
     | true =>
      have j:Hid (qM k f wr.drew.drew (zR (zB (decide ((a.length:Int)<e.stack))))):=by
       refine⟨?_,y.drew.drew⟩;rw[ea A,q];simp
      clear q;go_wp2_with fail;refine u.out _ _ ⟨o,t,x⟩ λhHeld=>?_;refine dZ 68 3 ?_;refine dZ 69 4 ?_;refine dZ 70 5 ?_;refine dZ 71 6 ?_;refine dZ 72 7 ?_;refine dZ 73 8 ?_;refine dZ 74 9 ?_;refine dZ 75 10 ?_;refine dZ 76 11 ?_;refine dZ 77 12 ?_;refine dZ 78 13 ?_;refine dZ 79 14 ?_;refine dZ 80 15 ?_;refine dZ 81 16 ?_;refine dZ 6 17 ?_;refine eV ?_;go_wp2;go_ret;exact j
     | false =>
      have j:Hid (qM k f wr.drew.drew (zR (zB K))):=by
       refine⟨?_,y.drew.drew⟩;rw[ea A,q];simp
      clear q;go_wp2_with fail;refine u.out _ _ ⟨o,t,x⟩ λhHeld=>?_;refine dZ 68 3 ?_;refine dZ 69 4 ?_;refine eL 70 5 ?_;refine eL 71 6 ?_;refine eL 72 7 ?_;refine eL 73 8 ?_;refine eL 74 9 ?_;refine eL 75 10 ?_;refine eL 76 11 ?_;refine eL 77 12 ?_;refine eL 78 13 ?_;refine eL 79 14 ?_;refine eL 80 15 ?_;refine dZ 81 16 ?_;refine dZ 6 17 ?_;refine eV ?_;go_wp2;go_ret;exact j
    | true =>
     obtain rfl:b=1:=by simpa using ac
     obtain⟨b,b⟩:=a1.loc (.inl rfl);obtain⟨l,rfl⟩:∃l:Nat,d=(l:Int):=⟨d.toNat,by omega⟩;have bh:l<i.length:=(by omega);obtain⟨E,bM,rfl,b,_,bk⟩:=jH HS.lo (by omega);obtain⟨s,hx⟩:∃s,i[l]? =M s:=⟨_,ae bh⟩;have G:=n _ _ (show z.cell? ⟨E,l*3,U⟩=M (J I s.kind) by rw[bk _ (by omega)];exact oh S _ _ s hx 0 (by omega));have be:i.getD (l:Int).toNat eO=s:=(by rw[aK,aj,hx];rfl)
     have ao:Hid (k=(!(s.kind == 2) && (!kg 1 || decide ((a.length:Int)<e.stack)))):=by
      show _=_
      rw[ea V,be];simp
     have:=fp l;have:(l:Int)<(i.length:Int):=(by omega);clear be hx bk V ac bh
     cases bI:s.kind == 2 with
     | true =>
      have j:Hid (qM k f wr.drew (zR (zB F))):=by
       refine⟨?_,y.drew⟩;rw[ea ao,bI];simp
      go_wp2;refine fk (λc=>c.cell? ⟨f.heap.size,0,U⟩=M (J I 1)/\c.cell? ⟨f.heap.size,1,U⟩=M (J I (l:Int))/\c.cell? ⟨m,8,U⟩=M (O (M ⟨E,0,U⟩) i.length bM)/\c.cell? ⟨E,l*3,U⟩=M (J I s.kind)) ⟨o,a8,a5,G⟩ λhHeld=>?_;refine dZ 50 0 ?_;refine dZ 51 1 ?_;refine dZ 52 2 ?_;refine dZ 53 3 ?_;refine dZ 54 4 ?_;refine dZ 55 5 ?_;refine dZ 56 6 ?_;refine dZ 57 7 ?_;refine dZ 58 8 ?_;refine dZ 59 9 ?_;refine dZ 60 10 ?_;refine dZ 61 11 ?_;refine dZ 62 12 ?_;refine dZ 63 13 ?_;refine dZ 64 14 ?_;refine eV ?_;go_wp2;go_ret;exact j
     | false =>
      have A:Hid (k=(!kg 1 || decide ((a.length:Int)<e.stack))):=by
       show _=_
       rw[ea ao,bI];simp
      go_wp2;refine fk (λc=>c.cell? ⟨f.heap.size,0,U⟩=M (J I 1)/\c.cell? ⟨f.heap.size,1,U⟩=M (J I (l:Int))/\c.cell? ⟨m,8,U⟩=M (O (M ⟨E,0,U⟩) i.length bM)/\c.cell? ⟨E,l*3,U⟩=M (J I s.kind)) ⟨o,a8,a5,G⟩ λhHeld=>?_;refine dZ 50 0 ?_;refine dZ 51 1 ?_;refine dZ 52 2 ?_;refine dZ 53 3 ?_;refine dZ 54 4 ?_;refine dZ 55 5 ?_;refine dZ 56 6 ?_;refine dZ 57 7 ?_;refine dZ 58 8 ?_;refine dZ 59 9 ?_;refine dZ 60 10 ?_;refine dZ 61 11 ?_;refine dZ 62 12 ?_;refine dZ 63 13 ?_;refine dZ 64 14 ?_;refine eV ?_;go_wp2;refine fk (λc=>c.cell? ⟨f.heap.size,0,U⟩=M (J I 1)/\c.cell? ⟨m,9,U⟩=M (O b9 a.length an)/\c.cell? ⟨m,4,U⟩=M (J I e.stack)) ⟨o,t,x⟩ λhHeld=>?_;refine dZ 65 0 ?_;refine dZ 66 1 ?_;refine el 2 (λa2 u=>?_);go_simp;refine(Du 1 _).mono ?_;rintro B cb ⟨rfl,rfl⟩
      cases q:kg 1 with
      | true =>
       have j:Hid (qM k f wr.drew.drew (zR (zB (decide ((a.length:Int)<e.stack))))):=by
        refine⟨?_,y.drew.drew⟩;rw[ea A,q];simp
       clear q;go_wp2_with fail;refine u.out _ _ ⟨o,t,x⟩ λhHeld=>?_;refine dZ 68 3 ?_;refine dZ 69 4 ?_;refine dZ 70 5 ?_;refine dZ 71 6 ?_;refine dZ 72 7 ?_;refine dZ 73 8 ?_;refine dZ 74 9 ?_;refine dZ 75 10 ?_;refine dZ 76 11 ?_;refine dZ 77 12 ?_;refine dZ 78 13 ?_;refine dZ 79 14 ?_;refine dZ 80 15 ?_;refine dZ 81 16 ?_;refine dZ 6 17 ?_;refine eV ?_;go_wp2;go_ret;exact j
      | false =>
       have j:Hid (qM k f wr.drew.drew (zR (zB K))):=by
        refine⟨?_,y.drew.drew⟩;rw[ea A,q];simp
       clear q;go_wp2_with fail;refine u.out _ _ ⟨o,t,x⟩ λhHeld=>?_;refine dZ 68 3 ?_;refine dZ 69 4 ?_;refine eL 70 5 ?_;refine eL 71 6 ?_;refine eL 72 7 ?_;refine eL 73 8 ?_;refine eL 74 9 ?_;refine eL 75 10 ?_;refine eL 76 11 ?_;refine eL 77 12 ?_;refine eL 78 13 ?_;refine eL 79 14 ?_;refine eL 80 15 ?_;refine dZ 81 16 ?_;refine dZ 6 17 ?_;refine eV ?_;go_wp2;go_ret;exact j
 .have ab:(a.length:Int)-(ws.length:Int)<0:=by omega
  have d1:IntKind.i64.wrap ((a.length:Int)-(ws.length:Int))=(a.length:Int)-(ws.length:Int):=by rw[IntKind.wrap_i64];omega
  have j:Hid (qM k f z (zR (zB F))):=by
   refine⟨?_,C⟩;rw[ea N,decide_eq_false v];simp
  clear v;go_wp2;go_ret;exact j
end
end Go.Proofs.YtiiokkllmchohaaGreat
