/- What Form says of a program, as the pass wants it (pure). -/
import Derived.Test.YtiiokkllmchohaaGreatT22
set_option maxHeartbeats 0
set_option maxRecDepth 99999
namespace Go.Proofs.YtiiokkllmchohaaGreat
open Go.Value renaming int->J,slice->O,pointer->zP,bool->zB
open Go.IntKind renaming i64->I
open Option renaming none->U,some->M
open Bool renaming true->K,false->F
open Go.Ending renaming returned->zR
open Go.Obj renaming cells->zC
open Go.RowKit Go.Shelf
theorem kY{p}(a:fi p=0):(1<=p.length/\p.length<=6)/\(∀(b:Nat) (x:eb),p[b]? =M x->kC b x=K/\lr p b x=K)/\∀x∈p,∀c∈x.ek,gY p c=K:=by
 unfold fi at a
 split at a
 .cases a
 .rename_i g
  split at a
  .rename_i d
   split at a
   .rename_i e;refine⟨by omega,λb x hx=>?_,λx hx c f=>?_⟩
    .have:=aJ.1 d b (bw.2 (ag.1 hx).1);unfold nI at this;rw[hx]at this;simpa using this
    .exact aJ.1 (aJ.1 e x hx) c f
   .cases a
  .cases a
theorem tr{b:Nat}{c}(a:gd b c=K):fz b c:=by
 unfold gd at a;simp at a
 rcases a with rfl | a
 .exact⟨by omega,by omega⟩
 .exact⟨by omega,by omega⟩
theorem CK{b:Nat}{c}(a:gT b c=K):fz b c:=by
 unfold gT at a;simp only[bB,beq_iff_eq]at a
 rcases a with (a | rfl) | rfl
 .exact tr a
 .exact⟨by omega,by omega⟩
 .exact⟨by omega,by omega⟩
theorem iA{p}(b:fi p=0):ez p p.length:=λa c _ hx=>((kY b).2.1 a c hx).1
theorem tD{p}(g:fi p=0){c e:Nat}{x f}(hx:p[c]? =M x)(d:x.ek[e]? =M f):lX p.length f=K:=by
 have b:=((kY g).2.1 c x hx).2;unfold lr at b;simp only[aD]at b;have a:=aJ.1 b.2 e (bw.2 (ag.1 d).1);rw[d]at a;unfold OF at a;simp only[aD]at a;exact a.1.1
theorem oj{p}(c:fi p=0)(d:eM p<=4194304):Good p:=by
 refine⟨iA c,d,λd j g m i=>?_,λd e g m o=>?_⟩
 .have h:gi p d j∈OE p d:=by
   unfold gi;rw[aK,aj,ae i];exact av i
  unfold OE at h;obtain⟨d,k,a⟩:=List.mem_flatten.1 h;obtain⟨f,_,rfl⟩:=bF.1 k;unfold uV at a
  cases hx:p[f]? with
  | none => rw[hx]at a; simp at a
  | some l =>
   rw[hx]at a;have b:=((kY c).2.1 f l hx).2;unfold lr at b;simp only[aD]at b;exact tr (aJ.1 b.1.1.1 _ (by simpa using a))
 .obtain⟨k,rfl⟩:=ax g;obtain⟨l,h⟩:=bQ.1 o;obtain⟨d,j⟩:=l;obtain⟨d,r,q⟩:=wX p (iA c) e k (by omega) h;obtain⟨b,f,_,_⟩:=q;have n:ew p (k:Int) e=r:=qX h (by unfold mh;rw[b];exact f);rw[n];have d:=jw.1 (tD c b f);exact⟨λb a=>tr (aJ.1 d.2.2.2.1 b a),tr d.2.2.2.2.1⟩
structure vU (p:On)(c:Int)(m:eh):Prop where
 ok:mU p m
 ins:∀i∈m.code,eU p m i=K
 c40:m.code.length<=40
 c1:1<=m.code.length
 fr:sR p m
 f40:m.frames.length<=40
 a7:m.args.length<=7
 bg:kT p.length m.stack (fH c m)
theorem CP{f e}:∀(d:List fT) (c:Int),gK f e c d=K->∀b∈d,m9 f e b=K
 | [], _, _, b, a => by cases a
 | g :: r, c, h, b, a => by
  unfold gK at h;simp only[aD]at h
  rcases aE.1 a with rfl | a
  .exact h.1.2
  .exact CP r _ h.2 b a
theorem kZ{p}(i:fi p=0){e D h}(b:gh p e D=M h):0<=e/\e<(p.length:Int)/\vU p e h:=by
 unfold gh at b
 split at b
 .rename_i t
  cases hx:p[e.toNat]? with
  | none => rw[hx]at b; cases b
  | some E =>
   rw[hx,au]at b;have I:=(ag.1 hx).1;have s:=jw.1 (tD i hx b);have f:=(kY i).2.2 E (aB hx) h (aB b);unfold gY at f;simp only[aD,decide_eq_true_eq]at f;obtain⟨⟨⟨⟨j,k⟩,q⟩,x⟩,v⟩:=f;obtain⟨_,_,F,r,z,H,y,A,B⟩:=s;refine⟨t.1,by omega,⟨B,y,tr z⟩,λC w=>aJ.1 x C w,k,j,λo u=>?_,q,by omega,?_⟩
   .have g:=CP _ _ v o u;unfold m9 at g;simp only[aD,decide_eq_true_eq]at g;obtain⟨⟨⟨⟨_,G⟩,l⟩,m⟩,n⟩:=g;refine⟨by omega,by omega,λd c=>?_,λd c=>CK (aJ.1 n d c),l⟩
    rcases aN.1 c with a | a
    .exact CK (aJ.1 m d a)
    .obtain⟨_,rfl⟩:=cJ.1 a;exact⟨by omega,by omega⟩
   .refine⟨λd c=>?_,λd c=>(by cases c),by simpa[fH]using A⟩
    rcases aE.1 c with rfl | a
    .exact⟨by omega,by omega⟩
    .rcases aN.1 a with a | a
     .exact tr (aJ.1 r d a)
     .obtain⟨_,rfl⟩:=cJ.1 a;exact⟨by omega,by omega⟩
 .cases b
section
attribute [local go_sem ↓] Go.wp_at_zero Go.wp_at_succ
attribute [local go_sem] eZ
end
theorem uC{p}(c:ez p p.length){a:Nat}{x}(hx:p[a]? =M x)(b):fD p a b=((a:Int) == b || fD p x.sup b):=by grind [fD,sd]
theorem wF{p a}(c:a<0\/(p.length:Int)<=a)(b):fD p a b=F:=by grind [OC,OD,fD]
theorem wE{p}(g:ez p p.length){e}(d:Int->Prop)(i:∀(a:Nat) (x:eb),p[a]? =M x->(a:Int)=e->d a)(j:∀(a:Nat) (x:eb),p[a]? =M x->fD p x.sup e=K->d x.sup->d a)(a)(h:fD p a e=K):d a:=by
 have:∀c:Nat,fD p c e=K->d c:=by
  intro c
  induction c using Nat.strongRecOn with
  | ind c ih =>
   intro b
   cases hx:p[c]? with
   | none => rw[wF (.inr (by have := List.getElem?_eq_none_iff.1 hx; omega))]at b; cases b
   | some x =>
    rw[uC g hx]at b;simp only[bB,beq_iff_eq]at b
    rcases b with b | b
    .grind
    .have:=my (g c x (ag.1 hx).1 hx)
     rcases bV x.sup 0 with f | f
     .grind [wF]
     .grind [Int.eq_ofNat_of_zero_le]
 rcases bV a 0 with f | f
 .grind [wF]
 .grind [Int.eq_ofNat_of_zero_le]
theorem za{p}(c:ez p p.length){a}(b:0<=a)(e:a<(p.length:Int)):fD p a a=K:=by
 obtain⟨d,rfl⟩:=ax b;rw[uC c (ae (i:=d) (by omega))];simp
theorem Hg{p}(d:ez p p.length){a c b}(e:fD p a c=K)(f:fD p c b=K):fD p a b=K:=by
 refine wE d (λa=>fD p a b=K) (λb c hx a=>by rw[a];exact f) (λb c hx _ b=>?_) a e;rw[uC d hx,b];simp
theorem Hf{p a b}(c:fD p a b=K):0<=a/\a<(p.length:Int):=by grind [wF]
theorem zb{p}(c:ez p p.length){b}(d:0<=b)(g:b<(p.length:Int)):fD p b 0=K:=by
 obtain⟨a,rfl⟩:=ax d
 induction a using Nat.strongRecOn with
 | ind a ih =>
  have hx:=ae (l:=p) (i:=a) (by omega);rw[uC c hx]
  rcases dc a with rfl | f
  .rfl
  .have e:=vG f (c a _ (by omega) hx);obtain⟨b,a⟩:=ax e.1;rw[a,ih b (by omega) (by omega) (by omega)];simp
theorem uD{p}(c:ez p p.length){a b}(d:fD p a b=K):OE p b <+:OE p a:=by
 refine wE c (λa=>OE p b <+:OE p a) (λb e hx a=>by rw[a];exact List.prefix_refl _) (λb e hx _ b=>?_) a d;rw[tz p c (ag.1 hx).1 hx];exact b.trans (List.prefix_append _ _)
theorem Cg{p}(g:ez p p.length){c b a}(d:fD p c b=K)(e:a.toNat<(OE p b).length):gi p c a=gi p b a:=by
 obtain⟨a,f⟩:=uD g d;unfold gi;rw[<-f,aj,aj,aL e]
theorem sh{p}(i:ez p p.length){d b}(e:(fy p d b).isSome=K):∃c g:Nat,fy p d b=M (c,g)/\gh p c g=M (ew p d b)/\(c:Int)<=d/\fD p d c=K/\(ew p d b).slot=b:=by
 obtain⟨⟨c,g⟩,h⟩:=bQ.1 e;have o:0<=d:=Int.not_lt.1 λj=>by rw[sw p b j]at e;cases e
 obtain⟨a,rfl⟩:=ax o;have f:a<p.length:=by grind [OC,OD,fy]
 have q:∀a:Nat,a<p.length->fy p a b=M (c,g)->fD p a c=K:=by
  intro a
  induction a using Nat.strongRecOn with
  | ind a ih =>
   intro f e;have hx:=ae f;rw[sx p i b f hx]at e;rw[uC i hx]
   cases k:kQ p[a].ek b with
   | some d => grind
   | none =>
    rw[k]at e;simp only at e;have:=my (i a _ f hx)
    rcases bV p[a].sup 0 with j | j
    .grind [sw]
    .grind [Int.eq_ofNat_of_zero_le]
 obtain⟨d,d,k,l,e,n⟩:=wX p i b a f h;have m:ew p (a:Int) b=d:=qX h (by unfold mh;rw[k];exact l);refine⟨c,g,h,?_,by omega,q a f h,by rw[m];exact n⟩;rw[m];unfold gh;rw[am ⟨by omega,by omega⟩,aK,aK,k];exact l
theorem y8{p}(n:fi p=0){b d a}(r:fD p b d=K)(u:(fy p d a).isSome=K):(fy p b a).isSome=K/\(ew p b a).args=(ew p d a).args/\(ew p b a).ret=(ew p d a).ret:=by
 have k:=iA n;refine wE k (λb=>(fy p b a).isSome=K/\(ew p b a).args=(ew p d a).args/\(ew p b a).ret=(ew p d a).ret) (λm g hx a=>by rw[a];exact⟨u,rfl,rfl⟩) (λm g hx _ l=>?_) b r;have b:=(ag.1 hx).1;have f:=sx p k a b hx
 cases o:kQ g.ek a with
 | none => grind [ew]
 | some y =>
  rw[o]at f;simp only at f;obtain⟨b,i,s⟩:=ED o;have t:ew p m a=b:=qX f (by unfold mh;rw[hx];exact i);rw[f,t];refine⟨rfl,?_⟩;have j:=((kY n).2.1 m g hx).2;unfold lr at j;simp only[aD]at j;have e:=aJ.1 j.2 y (bw.2 (ag.1 i).1);rw[i]at e;unfold OF at e;simp only[aD]at e;have c:=e.2;obtain⟨⟨b,b⟩,b⟩:=bQ.1 l.1;obtain⟨w,x,q,h,_,_,_⟩:=sh k l.1;unfold ky at c;rw[s,q]at c
  have v:mh p (w,x)=M (ew p g.sup a):=by
   unfold gh at h;rw[am ⟨by omega,by omega⟩,aK,aK]at h;exact h
  simp only at c;rw[v]at c;simp only[aD,beq_iff_eq]at c;rw[<-c.1,<-c.2];exact l.2
theorem nL{p}(c:fi p=0){b a}(d:(fy p b a).isSome=K):lX p.length (ew p b a)=K:=by grind [gh,sh,tD,iA]
theorem zk{p}(d:fi p=0){c}(b:0<=c)(f:c<(p.length:Int)):(OE p c).length<=8:=by
 obtain⟨e,rfl⟩:=ax b;have a:=((kY d).2.1 e _ (ae (by omega))).2;unfold lr at a;simp only[aD,decide_eq_true_eq]at a;exact a.1.1.2
end Go.Proofs.YtiiokkllmchohaaGreat
