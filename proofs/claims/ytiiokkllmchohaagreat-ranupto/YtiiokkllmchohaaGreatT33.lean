/- States are joined likewise; what falls when one is raised (pure). -/
import Derived.Test.YtiiokkllmchohaaGreatT31
set_option maxHeartbeats 0
set_option maxRecDepth 99999
namespace Go.Proofs.YtiiokkllmchohaaGreat
open Go.Value renaming int->J,slice->O,pointer->zP,bool->zB
open Go.IntKind renaming i64->I
open Option renaming none->U,some->M
open Bool renaming true->K,false->F
open Go.Ending renaming returned->zR
open Go.Obj renaming cells->zC
open Go.RowKit Go.Shelf
structure mE (p:On)(s t:ef):Prop where
 n:s.stk.length=t.stk.length
 l:∀i,i<8->eF p (s.loc.getD i 0) (t.loc.getD i 0)=K
 k:∀i,i<s.stk.length->eF p (s.stk.getD i 0) (t.stk.getD i 0)=K
theorem sO{p}:∀ {e f:Ok},e.length=f.length->(((e.zip f).all λx=>eF p x.1 x.2)=K↔∀d,d<e.length->eF p (e.getD d 0) (f.getD d 0)=K)
 | [], [], _ => ⟨λ_ d c => by simp at c, λ_ => rfl⟩
 | a :: e, b :: f, c => by
  rw[List.zip_cons_cons,cX,aD,sO (by simpa using c)]
  constructor
  .grind
  .intro c;exact⟨c 0 (by simp),λd e=>c (d+1) (by simpa using e)⟩
 | [], _ :: _, c => by simp at c
 | _ :: _, [], c => by simp at c
theorem le_iff{p d e}(hs:d.loc.length=8)(f:e.loc.length=8):gA p d e=K↔mE p d e:=by
 unfold gA;simp only[aD,beq_iff_eq]
 constructor
 .rintro ⟨⟨a,b⟩,c⟩;rw[sO (by rw[hs,f])]at b;rw[sO a]at c;exact⟨a,λa d=>b a (by omega),c⟩
 .rintro ⟨a,b,c⟩;exact⟨⟨a,(sO (by rw[hs,f])).2 (λa d=>b a (by omega))⟩,(sO a).2 c⟩
theorem mE.refl(p a):mE p a a:=⟨rfl,λ_ _=>kU _ _,λ_ _=>kU _ _⟩
theorem mE.trans{p}(hs:ez p p.length){a b e}(c:mE p a b)(d:mE p b e):mE p a e:=
 ⟨c.n.trans d.n,λb a=>kt hs (c.l b a) (d.l b a),λb a=>kt hs (c.k b a) (d.k b (by rw[<-c.n];exact a))⟩
theorem Db(p c d)(e:c.loc.length=8):∀(b a:Nat),a<b->b<=8->(qq p c d b).loc.getD a 0=gZ p (c.loc.getD a 0) (d.loc.getD a 0)
 | 0, a, h, _ => by omega
 | b + 1, a, h, h8 => by
  show ((qq p c d b).loc.set b _).getD a 0=_
  rw[aj]
  by_cases f:a=b
  .grind [zx]
  .rw [ah (by omega),<-aj];exact Db p c d e b a (by omega) (by omega)
theorem zz(p b c):∀a,(ss p b c a).loc=(qq p b c 8).loc
 | 0 => rfl
 | a + 1 => zz p b c a
theorem Dd(p c d):∀(b a:Nat),a<b->b<=c.stk.length->(ss p c d b).stk.getD a 0=gZ p (c.stk.getD a 0) (d.stk.getD a 0)
 | 0, a, h, _ => by omega
 | b + 1, a, h, h8 => by
  show ((ss p c d b).stk.set b _).getD a 0=_
  rw[aj]
  by_cases e:a=b
  .grind [zy]
  .rw [ah (by omega),<-aj];exact Dd p c d b a (by omega) (by omega)
theorem om(p a b):(jz p a b).stk.length=a.stk.length/\(jz p a b).loc.length=a.loc.length:=by grind [jz,zx,zy,zz]
theorem tG(p b c)(e:b.loc.length=8){a}(d:a<8):(jz p b c).loc.getD a 0=gZ p (b.loc.getD a 0) (c.loc.getD a 0):=by grind [jz,Db,zz]
theorem uL(p b c){a}(d:a<b.stk.length):(jz p b c).stk.getD a 0=gZ p (b.stk.getD a 0) (c.stk.getD a 0):=Dd p b c _ a d (ai _)
theorem Dg{p s t}(b:s.loc.length=8):mE p s (jz p s t):=
 ⟨(om p s t).1.symm,λc a=>by rw[tG p s t b a];exact zE _ _,λc a=>by rw[uL p s t a];exact zE _ _⟩
theorem zG{p s t}(b:s.loc.length=8)(a:s.stk.length=t.stk.length):mE p t (jz p s t):=
 ⟨by rw[(om p s t).1,a],λc a=>by rw[tG p s t b a];exact zF _ _,λc a=>by rw[uL p s t (by omega)];exact zF _ _⟩
def Bf (p:On)(s:ef):Prop:=(∀i,i<8->3<=s.loc.getD i 0->s.loc.getD i 0-3<(p.length:Int))/\∀i,i<s.stk.length->3<=s.stk.getD i 0->s.stk.getD i 0-3<(p.length:Int)
theorem De{p}(hs:ez p p.length){b d a}(h:b.loc.length=8)(g:Bf p b)(e:mE p b a)(f:mE p d a):mE p (jz p b d) a:=
 ⟨by rw[(om p b d).1,e.n],λc a=>by rw[tG p b d h a];exact zA hs (e.l c a) (f.l c a) (g.1 c a),λc a=>by
  rw[(om p b d).1]at a;rw[uL p b d a];exact zA hs (e.k c a) (f.k c (by rw[f.n,<-e.n];exact a)) (g.2 c a)⟩
def nl (p:On)(s:ef):Nat:=(s.loc.map (rank p)).sum+(s.stk.map (rank p)).sum
theorem Ay {f:Int->Nat} :∀ {l l':Ok},l.length=l'.length->(∀c,c<l.length->f (l'.getD c 0)<=f (l.getD c 0))->(l'.map f).sum<=(l.map f).sum/\((∃c,c<l.length/\f (l'.getD c 0)<f (l.getD c 0))->(l'.map f).sum<(l.map f).sum)
 | [], [], _, _ => ⟨ai _, λ⟨c, d, _⟩ => by simp at d⟩
 | a :: l, b :: l', d, hp => by
  have:f b<=f a:=hp 0 (by simp);obtain⟨i,g⟩:=Ay (f:=f) (l:=l) (l':=l') (by simpa using d) (λc e=>hp (c+1) (by simpa using e));simp only[bC,dk];refine⟨by omega,?_⟩;rintro ⟨c,e,h⟩
  cases c with
  | zero => grind
  | succ c =>
   have:=g ⟨c,by simpa using e,h⟩;omega
 | [], _ :: _, d, _ => by simp at d
 | _ :: _, [], d, _ => by simp at d
theorem D7{p}(hs:ez p p.length)(h6:p.length<=6){b c}(h:b.loc.length=8)(r:c.loc.length=8)(j:b.stk.length=c.stk.length)(i:¬gA p c b=K):nl p (jz p b c)<nl p b:=by
 have e:=Dg (p:=p) (s:=b) (t:=c) h;have n:=zG (p:=p) (s:=b) (t:=c) h j;obtain⟨u,v⟩:=om p b c;obtain⟨w,o⟩:=Ay (f:=rank p) (l:=b.loc) (l':=(jz p b c).loc) v.symm (λa d=>(rx hs h6 (e.l a (by omega))).1);obtain⟨v,q⟩:=Ay (f:=rank p) (l:=b.stk) (l':=(jz p b c).stk) u.symm (λa d=>(rx hs h6 (e.k a d)).1);unfold nl;rw[le_iff r h]at i
 have:(∃a,a<8/\eF p (c.loc.getD a 0) (b.loc.getD a 0)=F)\/∃a,a<b.stk.length/\eF p (c.stk.getD a 0) (b.stk.getD a 0)=F:=by
  apply dA
  intro b
  apply i
  refine⟨j.symm,λa d=>?_,λa d=>?_⟩
  .grind
  .grind
 rcases this with ⟨a,d,g⟩ | ⟨a,d,g⟩
 .have:=o ⟨a,by omega,(rx hs h6 (e.l a d)).2 (λb=>by
   have:=n.l a d;rw[<-b,g]at this
   cases this)⟩
  omega
 .have:=q ⟨a,d,(rx hs h6 (e.k a d)).2 (λb=>by
   have:=n.k a (by omega);rw[<-b,g]at this
   cases this)⟩
  omega
theorem D8{p}(hs:ez p p.length)(h6:p.length<=6){b}(e:b.loc.length=8)(d:b.stk.length<=8):nl p b<=320:=by
 have c:∀a:List Int,(a.map (rank p)).sum<=20*a.length:=by
  intro a
  induction a with
  | nil => simp
  | cons d a a => grind [LN]
 have:=c b.loc;have:=c b.stk;unfold nl;omega
def oZ (f:Nat->Nat):Nat->Nat
 | 0 => 0
 | n + 1 => oZ f n + f n
theorem xS{f g i}(c:∀b,b≠i->f b=g b):∀a,(i<a->oZ f a+g i=oZ g a+f i)/\(a<=i->oZ f a=oZ g a)
 | 0 => ⟨λc => by omega, λ_ => rfl⟩
 | a + 1 => by
  obtain⟨b,b⟩:=xS c a;refine⟨λa=>?_,λa=>?_⟩
  .grind [oZ]
  .grind [oZ]
def mu (p:On)(s:eT):Nat:=oZ (λi=>if s.re.getD i F then nl p (s.st.getD i OM) else 400) 40
def cnt (s:eT):Nat:=oZ (λi=>if s.ra.getD i F then 1 else 0) 40
structure gM (p:On)(m:eh)(s:eT):Prop where
 l1:s.st.length=40
 l2:s.re.length=40
 l3:s.ra.length=40
 ok:∀i,i<40->(s.st.getD i OM).loc.length=8/\((s.st.getD i OM).stk.length:Int)<=m.stack
theorem jq{α :Type}{b:List α}{a}(d:a<b.length)(x c):(b.set a x).getD a c=x:=by grind
theorem OS{α :Type}{d:List α}{c a}(e:a≠c)(x b):(d.set c x).getD a b=d.getD a b:=by grind
theorem gM.put{p m b}(d:gM p m b){c}(j:c<40){g}(i:g.loc.length=8)(h:(g.stk.length:Int)<=m.stack):gM p m (gH b c g):=by
 refine⟨by simpa[gH]using d.l1,by simpa[gH]using d.l2,by simpa[gH]using d.l3,λa f=>?_⟩
 show ((b.st.set c g).getD a OM).loc.length=8/\_
 by_cases e:a=c
 .subst e
  show ((b.st.set a g).getD a OM).loc.length=8/\(((b.st.set a g).getD a OM).stk.length:Int)<=m.stack
  rw[jq (by rw[d.l1];exact f)];exact⟨i,h⟩
 .show ((b.st.set c g).getD a OM).loc.length=8/\(((b.st.set c g).getD a OM).stk.length:Int)<=m.stack
  rw[OS e];exact d.ok a f
theorem xw{p m b}(e:gM p m b){a}(c:a<40){g}(h:nl p g<(if b.re.getD a F then nl p (b.st.getD a OM) else 400)):mu p (gH b a g)<mu p b/\cnt (gH b a g)<=cnt b+1:=by
 constructor
 .unfold mu
  have:=(xS (i:=a) (f:=λc=>if (gH b a g).re.getD c F then nl p ((gH b a g).st.getD c OM) else 400) (g:=λc=>if b.re.getD c F then nl p (b.st.getD c OM) else 400) (λc d=>by
   show (if (b.re.set a K).getD c F then nl p ((b.st.set a g).getD c OM) else 400)=_
   rw[OS d,OS d]) 40).1 c
  have d:(if (gH b a g).re.getD a F then nl p ((gH b a g).st.getD a OM) else 400)=nl p g:=by
   show (if (b.re.set a K).getD a F then nl p ((b.st.set a g).getD a OM) else 400)=_
   rw[jq (by rw[e.l2];exact c),jq (by rw[e.l1];exact c),am rfl]
  rw[d]at this;omega
 .unfold cnt
  have:=(xS (i:=a) (f:=λc=>if (gH b a g).ra.getD c F then 1 else 0) (g:=λc=>if b.ra.getD c F then 1 else 0) (λc d=>by
   show (if (b.ra.set a K).getD c F then 1 else 0)=_
   rw[OS d]) 40).1 c
  have d:(if (gH b a g).ra.getD a F then 1 else 0)<=1:=by split <;> omega
  omega
def j7 (p:On)(s:eT):Nat:=mu p s*41+cnt s
section
variable {p : List eb} {m : eh} (hs : ez p p.length) (h6 : p.length <= 6) (h8 : m.stack <= 8)
include hs h6 h8
theorem uZ{d k}(e:gM p m d){c}(f:c<40){b}(h:b.loc.length=8)(o:(b.stk.length:Int)<=m.stack)(a:mo p c b d=M k):gM p m k/\j7 p k<=j7 p d:=by
 unfold mo at a
 split at a
 .rename_i j
  split at a
  .grind
  .rename_i n
   split at a
   .rename_i q
    cases a
    have i:=e.ok c f;obtain⟨r,s⟩:=om p (d.st.getD c OM) b;have l:=e.put f (g:=jz p (d.st.getD c OM) b) (by rw[s];exact i.1) (by rw[r];exact i.2);refine⟨l,?_⟩;have:=xw e f (g:=jz p (d.st.getD c OM) b) (by rw[am j];exact D7 hs h6 i.1 h q n);unfold j7;omega
   .cases a
 .rename_i j
  cases a
  refine⟨e.put f h o,?_⟩;have:=xw e f (g:=b) (by rw[af j];have:=D8 hs h6 h (by omega);omega);unfold j7;omega
theorem xz{d}(i:d.loc.length=8)(g:(d.stk.length:Int)<=m.stack):∀(c:List (Int×Bool)) (b a:eT),gM p m b->(∀f∈c,f.1.toNat<40)->np p d c b=M a->gM p m a/\j7 p a<=j7 p b
 | [], b, a, h, _, e => by cases e; exact ⟨h, ai _⟩
 | f :: c, b, a, h, hy, e => by
  unfold np at e;obtain⟨n,j,k⟩:=fg e;obtain⟨l,b⟩:=uZ hs h6 h8 h (hy f (by simp)) i g j;obtain⟨b,d⟩:=xz i g c n a l (λb a=>hy b (by simp[a])) k;exact⟨b,by omega⟩
end
section
variable {p : List eb} {m : eh}
theorem jA{d a b}(c:fj m d a=M b)(e:(a.stk.length:Int)<=m.stack):(b.stk.length:Int)<=m.stack/\b.loc=a.loc:=by
 obtain⟨a,a,b⟩:=mK c;refine⟨?_,b⟩;rw[a,aw,aS];omega
theorem lN{c a b}(d:fC p c a=M b)(e:(a.stk.length:Int)<=m.stack):(b.stk.length:Int)<=m.stack/\b.loc=a.loc:=by grind [oC]
theorem ya{a b}(c:iU a=M b)(d:(a.stk.length:Int)<=m.stack):(b.stk.length:Int)<=m.stack/\b.loc=a.loc:=by grind [x8]
theorem OT{a b e}(c:fS a=M (e,b))(d:(a.stk.length:Int)<=m.stack):(b.stk.length:Int)<=m.stack/\b.loc=a.loc:=by
 obtain⟨a,b⟩:=pN c;refine⟨?_,b⟩;rw[a,aw]at d;omega
theorem yb:∀(c:Ok) {a b:ef},gC p c a=M b->(a.stk.length:Int)<=m.stack->(b.stk.length:Int)<=m.stack/\b.loc=a.loc
 | [], a, b, h, hk => by cases h; exact ⟨hk, rfl⟩
 | t :: c, a, b, h, hk => by
  unfold gC at h;obtain⟨a,f,g⟩:=fg h;obtain⟨d,e⟩:=lN f hk;obtain⟨a,b⟩:=yb c g d;exact⟨a,b.trans e⟩
theorem Ci{i t u}(b:fe p m i t=M u)(g:t.loc.length=8)(f:(t.stk.length:Int)<=m.stack):u.loc.length=8/\(u.stk.length:Int)<=m.stack:=by
 unfold fe at b
 by_cases a:i.op=0
 .rw [am a]at b;obtain⟨c,d⟩:=jA b f;exact⟨by rw[d];exact g,c⟩
 rw[af a]at b;clear a
 by_cases a:i.op=1
 .rw [am a]at b;obtain⟨s,_,b⟩:=fg b;obtain⟨c,d⟩:=jA b f;exact⟨by rw[d];exact g,c⟩
 rw[af a]at b;clear a
 by_cases a:i.op=2
 .rw [am a]at b;obtain⟨⟨s,n⟩,e,h⟩:=fg b;obtain⟨c,d⟩:=OT e f;obtain⟨z,_,rfl⟩:=aW.1 h;exact⟨by dsimp only;rw[aO,d];exact g,c⟩
 rw[af a]at b;clear a
 by_cases a:i.op=3\/i.op=4\/i.op=5\/i.op=6
 .rw [am a]at b;obtain⟨n,e,h⟩:=fg b;obtain⟨v,q,r⟩:=fg h;obtain⟨c,d⟩:=lN e f;obtain⟨o,l⟩:=lN q c;obtain⟨k,j⟩:=jA r o;exact⟨by rw[j,l,d];exact g,k⟩
 rw[af a]at b;clear a
 by_cases a:i.op=8\/i.op=19
 .rw [am a]at b;obtain⟨c,d⟩:=lN b f;exact⟨by rw[d];exact g,c⟩
 rw[af a]at b;clear a
 by_cases a:i.op=9
 .rw [am a]at b;obtain⟨c,d⟩:=jA b f;exact⟨by rw[d];exact g,c⟩
 rw[af a]at b;clear a
 by_cases a:i.op=10
 .rw [am a]at b;obtain⟨n,e,h⟩:=fg b;obtain⟨c,d⟩:=lN e f;obtain⟨k,j⟩:=jA h c;exact⟨by rw[j,d];exact g,k⟩
 rw[af a]at b;clear a
 by_cases a:i.op=11
 .rw [am a]at b;obtain⟨n,e,h⟩:=fg b;obtain⟨c,d⟩:=lN e f;obtain⟨k,j⟩:=lN h c;exact⟨by rw[j,d];exact g,k⟩
 rw[af a]at b;clear a
 by_cases a:i.op=12
 .rw [am a]at b;obtain⟨n,e,h⟩:=fg b;obtain⟨v,q,r⟩:=fg h;obtain⟨c,d⟩:=yb _ e f;obtain⟨o,l⟩:=lN q c;obtain⟨k,j⟩:=jA r o;exact⟨by rw[j,l,d];exact g,k⟩
 rw[af a]at b;clear a
 by_cases a:i.op=13
 .rw [am a]at b;obtain⟨c,d⟩:=lN b f;exact⟨by rw[d];exact g,c⟩
 rw[af a]at b;clear a
 by_cases a:i.op=14
 .rw [am a]at b;obtain⟨⟨s,n⟩,e,rfl⟩:=aW.1 b;obtain⟨c,d⟩:=OT e f;exact⟨by dsimp only;rw[d];exact g,c⟩
 rw[af a]at b;clear a
 by_cases a:i.op=15
 .rw [am a]at b;obtain⟨⟨s,n⟩,e,h⟩:=fg b;obtain⟨v,q,r⟩:=fg h;obtain⟨c,d⟩:=OT e f;obtain⟨o,l⟩:=jA q c;obtain⟨k,j⟩:=jA r o;exact⟨by rw[j,l,d];exact g,k⟩
 rw[af a]at b;clear a
 by_cases a:i.op=16
 .rw [am a]at b;obtain⟨c,d⟩:=jA b f;exact⟨by rw[d];exact g,c⟩
 rw[af a]at b;clear a
 by_cases a:i.op=17
 .rw [am a]at b;obtain⟨n,e,h⟩:=fg b;obtain⟨c,d⟩:=ya (m:=m) e f;obtain⟨k,j⟩:=jA h c;exact⟨by rw[j,d];exact g,k⟩
 rw[af a]at b;clear a
 by_cases a:i.op=18
 .grind [ya]
 rw[af a]at b;clear a
 by_cases a:i.op=20
 .rw [am a]at b;obtain⟨⟨s,n⟩,e,h⟩:=fg b;obtain⟨⟨z,v⟩,q,r⟩:=fg h;obtain⟨t,y,h6⟩:=fg r;obtain⟨c,d⟩:=OT e f;obtain⟨o,l⟩:=OT q c;obtain⟨k,j⟩:=jA y o;obtain⟨w,x⟩:=jA h6 k;dsimp only at l j;exact⟨by rw[x,j,l,d];exact g,w⟩
 rw[af a]at b
 cases b
 exact⟨g,f⟩
theorem rk{h b c}(d:iq p m h b=M c)(g:b.loc.length=8)(f:(b.stk.length:Int)<=m.stack):c.loc.length=8/\(c.stk.length:Int)<=m.stack:=by
 unfold iq at d;obtain⟨b,e,a⟩:=fg d
 split at a
 .cases a
 .cases a
  exact Ci e g f
theorem ww{a}(b:gM p m a){i}(c:i<40)(d:a.ra.getD i F=K):gM p m { a with ra:=a.ra.set i F }/\j7 p { a with ra:=a.ra.set i F } + 1=j7 p a:=by
 refine⟨⟨b.l1,b.l2,by simpa using b.l3,b.ok⟩,?_⟩
 have:=(xS (i:=i) (f:=λb=>if (a.ra.set i F).getD b F then 1 else 0) (g:=λb=>if a.ra.getD b F then 1 else 0) (λb c=>by
  show (if (a.ra.set i F).getD b F then 1 else 0)=_
  rw[OS c]) 40).1 c
 have:(if (a.ra.set i F).getD i F then 1 else 0)=0:=by rw[jq (by rw[b.l3];exact c)];rfl
 have:(if a.ra.getD i F then 1 else 0)=1:=by rw[d];rfl
 unfold j7
 show mu p a*41+oZ (λb=>if (a.ra.set i F).getD b F then 1 else 0) 40+1=mu p a*41+oZ (λb=>if a.ra.getD b F then 1 else 0) 40
 omega
variable (hs : ez p p.length) (h6 : p.length <= 6) (h8 : m.stack <= 8) (hi40 : m.code.length <= 40) (hins : ∀ i ∈ m.code, eU p m i = K)
include hs h6 h8 hi40 hins
theorem FX{c}(n:c<m.code.length){b a}(k:gM p m b.1)(d:oG p m c b=M a):gM p m a.1/\j7 p a.1<=j7 p b.1/\(a≠b->j7 p a.1<j7 p b.1)/\(a.2=b.2\/(a.2=K/\j7 p a.1<j7 p b.1)):=by
 unfold oG at d
 split at d
 .rename_i o;obtain⟨y,g,rfl⟩:=aW.1 d;obtain⟨e,v⟩:=ww k (show c<40 by omega) o;unfold uK at g;obtain⟨w,f,j⟩:=fg g;have h:=e.ok c (by omega);obtain⟨r,s⟩:=rk f h.1 h.2;have l:=ro n hins f;obtain⟨t,x⟩:=xz hs h6 h8 r s _ _ _ e (λu q=>by have:=l u q;omega) j;exact⟨t,by dsimp only;omega,λ_=>by dsimp only;omega,.inr ⟨rfl,by dsimp only;omega⟩⟩
 .grind
theorem Ek{c}(e:gM p m c):∀(d:Nat) (a:eT×Bool),d<=m.code.length->nP p m c d=M a->gM p m a.1/\j7 p a.1<=j7 p c/\(a.2=K->j7 p a.1<j7 p c)/\(a.2=F->a.1=c)
 | 0, a, _, b => by cases b; exact ⟨e, ai _, λb => (by cases b), λ_ => rfl⟩
 | d + 1, a, hk, b => by
  unfold nP at b;obtain⟨j,g,h⟩:=fg b;obtain⟨f,a,a,a⟩:=Ek e d j (by omega) g;obtain⟨a,b,b,b⟩:=FX hs h6 h8 hi40 hins (by omega) f h;refine⟨a,by omega,λa=>?_,λa=>?_⟩
  .grind
  .grind [oG,Option.map_eq_some_iff]
theorem EH:∀(b:Nat) (a:eT),gM p m a->j7 p a<b->∃j,mq p m b a=M j
 | 0, a, _, h => by omega
 | b + 1, a, h, hn => by
  unfold mq
  cases g:nP p m a m.code.length with
  | none => exact ⟨U, rfl⟩
  | some k =>
   obtain⟨c,f⟩:=k;obtain⟨d,a,e,a⟩:=Ek hs h6 h8 hi40 hins h _ _ (ai _) g
   cases f with
   | true =>
    have:=e rfl;exact EH b c d (by dsimp only at this;omega)
   | false => exact ⟨M c, rfl⟩
end
def iL (p:On):List Int->List Int->Prop
 | [], [] => True
 | a :: l, b :: u => eF p a b = K /\ iL p l u
 | _, _ => False
theorem iL.len{p}:∀ {a b:Ok},iL p a b->a.length=b.length
 | [], [], _ => rfl
 | _ :: _, _ :: _, h => by simp only[bA]; rw[iL.len h.2]
 | [], _ :: _, h => h.elim
 | _ :: _, [], h => h.elim
theorem iL.app{p}:∀ {a c b d:Ok},iL p a c->iL p b d->iL p (a++b) (c++d)
 | [], [], _, _, _, h => h
 | _ :: _, _ :: _, _, _, h, h' => ⟨h.1, iL.app h.2 h'⟩
 | [], _ :: _, _, _, h, _ => h.elim
 | _ :: _, [], _, _, h, _ => h.elim
theorem iL.snoc{p}:∀ {u d:Ok} {t:Int},iL p d (u++ [t])->∃c x,d=c++ [x]/\iL p c u/\eF p x t=K
 | [], [x], _, h => ⟨[], x, rfl, trivial, h.1⟩
 | [], [], _, h => h.elim
 | [], _ :: _ :: _, _, h => h.2.elim
 | b :: u, [], _, h => h.elim
 | b :: u, a :: d, t, h => by
  obtain⟨c,x,rfl,e,f⟩:=iL.snoc (u:=u) h.2;exact⟨a::c,x,rfl,⟨h.1,e⟩,f⟩
theorem iL.iff{p}:∀ {e f:Ok},e.length=f.length->(iL p e f↔∀d,d<e.length->eF p (e.getD d 0) (f.getD d 0)=K)
 | [], [], _ => ⟨λ_ d c => by simp at c, λ_ => trivial⟩
 | a :: e, b :: f, c => by
  show (eF p a b=K/\iL p e f)↔_
  rw[iL.iff (by simpa using c)]
  constructor
  .grind
  .intro c;exact⟨c 0 (by simp),λd e=>c (d+1) (by simpa using e)⟩
 | [], _ :: _, c => by simp at c
 | _ :: _, [], c => by simp at c
structure fU (p:On)(s t:ef):Prop where
 l:∀i,i<8->eF p (s.loc.getD i 0) (t.loc.getD i 0)=K
 k:iL p s.stk t.stk
 sl:s.loc.length=8
 tl:t.loc.length=8
theorem fU.iff{p s t}(b:s.loc.length=8)(c:t.loc.length=8):fU p s t↔mE p s t:=
 ⟨λa=>⟨a.k.len,a.l,(iL.iff a.k.len).1 a.k⟩,λa=>⟨a.l,(iL.iff a.n).2 a.k,b,c⟩⟩
theorem take_mk{s a x}(b:s.stk=a++ [x]):fS s=M (x,{ s with stk:=a }):=by grind [fS]
section
variable {p : List eb} {m : eh} {s t t' : ef}
theorem sL(a:fU p s t){e}(g:fS t=M (e,t')):∃f d,fS s=M (f,d)/\fU p d t'/\eF p f e=K:=by
 obtain⟨d,b⟩:=pN g;have c:=a.k;rw[d]at c;obtain⟨g,h,f,d,e⟩:=c.snoc;exact⟨h,{ s with stk:=g },take_mk f,⟨λf c=>by rw[b];exact a.l f c,d,a.sl,by rw[b];exact a.tl⟩,e⟩
theorem rG(f:ez p p.length)(e:fU p s t){x}(c:fC p x t=M t'):∃b,fC p x s=M b/\fU p b t':=by
 unfold fC at c;obtain⟨⟨f,f⟩,d,a⟩:=fg c;obtain⟨c,b,b,b,b⟩:=sL e d;dsimp only at a
 split at a
 .grind [fC,kt]
 .cases a
theorem KT{a b}(c:eF p b a=K)(d:iy a=K):iy b=K:=by grind [iy,kJ]
theorem Fm (e:fU p s t)(c:iU t=M t'):∃b,iU s=M b/\fU p b t':=by
 unfold iU at c;obtain⟨⟨f,f⟩,d,a⟩:=fg c;obtain⟨c,b,b,b,b⟩:=sL e d;dsimp only at a
 split at a
 .grind [iU,KT]
 .cases a
theorem or(a:fU p s t){x b}(hx:eF p b x=K)(d:fj m x t=M t'):∃c,fj m b s=M c/\fU p c t':=by
 obtain⟨e,f,c⟩:=mK d;refine⟨{ s with stk:=s.stk++ [b] },?_,⟨λd b=>by rw[c];exact a.l d b,by rw[f];exact a.k.app ⟨hx,trivial⟩,a.sl,by rw[c];exact a.tl⟩⟩;unfold fj;rw[a.k.len,af e]
theorem Fu (b:ez p p.length):∀(a:Ok) {s t t':ef},fU p s t->gC p a t=M t'->∃c,gC p a s=M c/\fU p c t'
 | [], s, t, t', h, e => by cases e; exact ⟨s, rfl, h⟩
 | x :: a, s, t, t', h, e => by
  unfold gC at e;obtain⟨c,d,f⟩:=fg e;obtain⟨c,g,i⟩:=rG b h d;obtain⟨d,j,c⟩:=Fu b a i f;refine⟨d,?_,c⟩;unfold gC;rw[g,au,j]
theorem Di{a b}(e:eF p b a=K){x}(d:jj a=M x):∃c,jj b=M c/\eF p c x=K:=by grind [jj,kJ,uN]
theorem H7(w:ez p p.length){d}(F:(d.op=1\/d.op=2)->d.a.toNat<8)(g:fU p s t)(c:fe p m d t=M t'):∃x,fe p m d s=M x/\fU p x t':=by
 unfold fe at c ⊢
 by_cases b:d.op=0
 .rw [am b]at c ⊢;exact or g (kU _ _) c
 rw[af b]at c ⊢;clear b
 by_cases b:d.op=1
 .rw [am b]at c ⊢;obtain⟨A,e,f⟩:=fg c;obtain⟨B,h,i⟩:=Di (g.l d.a.toNat (F (.inl b))) e;rw[h,au];exact or g i f
 rw[af b]at c ⊢
 by_cases z:d.op=2
 .rw [am z]at c ⊢;obtain⟨⟨C,u⟩,e,f⟩:=fg c;obtain⟨D,x,v,j,r⟩:=sL g e;obtain⟨A,n,rfl⟩:=aW.1 f;obtain⟨B,h,i⟩:=Di r n;rw[v,au];dsimp only;rw[h];refine⟨_,rfl,⟨λy q=>?_,j.k,by dsimp only;rw[aO];exact j.sl,by dsimp only;rw[aO];exact j.tl⟩⟩;dsimp only
  by_cases o:y=d.a.toNat
  .subst o;rw[jq (by rw[j.sl];exact q),jq (by rw[j.tl];exact q)];exact i
  .rw [OS o,OS o];exact j.l y q
 rw[af z]at c ⊢;clear b z
 by_cases b:d.op=3\/d.op=4\/d.op=5\/d.op=6
 .rw [am b]at c ⊢;obtain⟨u,e,f⟩:=fg c;obtain⟨B,n,o⟩:=fg f;obtain⟨y,h,j⟩:=rG w g e;obtain⟨A,i,q⟩:=rG w j n;rw[h,au,i,au];exact or q (kU _ _) o
 rw[af b]at c ⊢;clear b
 by_cases b:d.op=8\/d.op=19
 .grind [rG]
 rw[af b]at c ⊢;clear b
 by_cases b:d.op=9
 .rw [am b]at c ⊢;exact or g (kU _ _) c
 rw[af b]at c ⊢;clear b
 by_cases b:d.op=10
 .rw [am b]at c ⊢;obtain⟨u,e,f⟩:=fg c;obtain⟨y,h,j⟩:=rG w g e;rw[h,au];exact or j (kU _ _) f
 rw[af b]at c ⊢;clear b
 by_cases b:d.op=11
 .grind [fg,rG]
 rw[af b]at c ⊢;clear b
 by_cases b:d.op=12
 .rw [am b]at c ⊢;obtain⟨u,e,f⟩:=fg c;obtain⟨B,n,o⟩:=fg f;obtain⟨y,h,j⟩:=Fu w _ g e;obtain⟨A,i,q⟩:=rG w j n;rw[h,au,i,au];exact or q (kU _ _) o
 rw[af b]at c ⊢;clear b
 by_cases b:d.op=13
 .grind [rG]
 rw[af b]at c ⊢;clear b
 by_cases b:d.op=14
 .grind [sL,Option.map_eq_some_iff]
 rw[af b]at c ⊢;clear b
 by_cases b:d.op=15
 .rw [am b]at c ⊢;obtain⟨⟨C,u⟩,e,f⟩:=fg c;obtain⟨B,n,o⟩:=fg f;obtain⟨D,x,v,j,r⟩:=sL g e;obtain⟨A,i,q⟩:=or j r n;rw[v,au];dsimp only;rw[i,au];exact or q r o
 rw[af b]at c ⊢;clear b
 by_cases b:d.op=16
 .rw [am b]at c ⊢;exact or g (kU _ _) c
 rw[af b]at c ⊢;clear b
 by_cases b:d.op=17
 .rw [am b]at c ⊢;obtain⟨u,e,f⟩:=fg c;obtain⟨y,h,j⟩:=Fm g e;rw[h,au];exact or j (kU _ _) f
 rw[af b]at c ⊢;clear b
 by_cases b:d.op=18
 .grind [Fm]
 rw[af b]at c ⊢;clear b
 by_cases b:d.op=20
 .rw [am b]at c ⊢;obtain⟨⟨C,u⟩,e,f⟩:=fg c;obtain⟨⟨d,B⟩,n,o⟩:=fg f;obtain⟨t3,h,E⟩:=fg o;obtain⟨D,y,v,j,r⟩:=sL g e;obtain⟨d,A,G,H,I⟩:=sL j n;obtain⟨d,i,q⟩:=or H r h;rw[v,au];dsimp only;rw[G,au];dsimp only;rw[i,au];exact or q I E
 rw[af b]at c ⊢
 cases c
 exact⟨s,rfl,g⟩
theorem DI(u:ez p p.length)(l:∀v∈m.code,eU p m v=K)(x:m.locals<=8){c}(r:c<m.code.length)(k:fU p s t)(e:iq p m c t=M t'):∃f,iq p m c s=M f/\fU p f t':=by
 unfold iq at e ⊢;obtain⟨y,h,d⟩:=fg e
 have n:ey m c∈m.code:=by
  unfold ey;rw[ae r];exact av _
 have g:=kM (p:=p) (m:=m) (op:=(ey m c).op) (a:=(ey m c).a) (b:=(ey m c).b) (l _ n);obtain⟨w,i,j⟩:=H7 u (λq=>by have:=g.loc q;omega) k h;rw[i,au]
 split at d
 .cases d
 .rename_i o
  cases d
  rw[af o];exact⟨w,rfl,j⟩
end
def gO (p:On)(s:ef):Prop:=(∀x∈s.loc,fz p.length x)/\∀x∈s.stk,fz p.length x
theorem vI{d}{a:Ok}(f:∀x∈a,fz d x)(b):fz d (a.getD b 0):=by
 rw[aj]
 cases e:a[b]? with
 | none => exact ⟨by simp, by simp; omega⟩
 | some x => exact f x (aB e)
theorem gO.Fg{p s}(b:gO p s):Bf p s:=
 ⟨λa _ _=>by have:=(vI b.1 a).2;omega,λa _ _=>by have:=(vI b.2 a).2;omega⟩
section
variable {p : List eb} {m : eh} {s s' : ef}
theorem vH(a:gO p s){b}(e:fS s=M (b,s')):gO p s'/\fz p.length b:=by
 obtain⟨d,f⟩:=pN e;refine⟨⟨by rw[f];exact a.1,λe hx=>a.2 e (by rw[d];simp[hx])⟩,a.2 b (by rw[d];simp)⟩
theorem qE(a:gO p s){x}(b:fC p x s=M s'):gO p s':=by
 obtain⟨d,d,e,_⟩:=oC b;exact⟨by rw[e];exact a.1,λx hx=>a.2 x (by rw[d];simp[hx])⟩
theorem Fo (a:gO p s)(b:iU s=M s'):gO p s':=by
 obtain⟨d,d,e,_⟩:=x8 b;exact⟨by rw[e];exact a.1,λb hx=>a.2 b (by rw[d];simp[hx])⟩
theorem ot(b:gO p s){x}(hx:fz p.length x)(d:fj m x s=M s'):gO p s':=by
 obtain⟨_,e,f⟩:=mK d;refine⟨by rw[f];exact b.1,λg a=>?_⟩;rw[e]at a
 rcases aN.1 a with a | a
 .exact b.2 g a
 .grind
theorem Fv:∀(a:Ok) {s s':ef},gO p s->gC p a s=M s'->gO p s'
 | [], s, s', h, e => by cases e; exact h
 | x :: a, s, s', h, e => by
  unfold gC at e;obtain⟨b,b,d⟩:=fg e;exact Fv a (qE h b) d
theorem Ck(t:Good p){e}(l:lP p m e.op e.a e.b)(h:gO p s)(d:fe p m e s=M s'):gO p s':=by
 have x:fz p.length 0:=⟨by omega,by omega⟩;have:fz p.length 1:=⟨by omega,by omega⟩;unfold fe at d
 by_cases c:e.op=0
 .grind [ot]
 rw[af c]at d;clear c
 by_cases c:e.op=1
 .rw [am c]at d;obtain⟨q,f,g⟩:=fg d;obtain⟨rfl,_⟩:=uN f;exact ot h (vI h.1 _) g
 rw[af c]at d;clear c
 by_cases c:e.op=2
 .rw [am c]at d;obtain⟨⟨q,j⟩,f,g⟩:=fg d;obtain⟨n,o⟩:=vH h f;obtain⟨w,i,rfl⟩:=aW.1 g;obtain⟨rfl,_⟩:=uN i;refine⟨λk hx=>?_,n.2⟩
  rcases bE hx with hx | rfl
  .exact n.1 k hx
  .exact o
 rw[af c]at d;clear c
 by_cases c:e.op=3\/e.op=4\/e.op=5\/e.op=6
 .rw [am c]at d;obtain⟨j,f,g⟩:=fg d;obtain⟨r,i,k⟩:=fg g;exact ot (qE (qE h f) i) x k
 rw[af c]at d;clear c
 by_cases c:e.op=8\/e.op=19
 .grind [qE]
 rw[af c]at d;clear c
 by_cases c:e.op=9
 .rw [am c]at d;have:=l.cls (by omega);exact ot h ⟨by omega,by omega⟩ d
 rw[af c]at d;clear c
 by_cases c:e.op=10
 .rw [am c]at d;obtain⟨j,f,g⟩:=fg d;have n:=l.cls (by omega);have i:=l.im (by omega);obtain⟨o,k⟩:=ax i.1;refine ot (qE h f) ?_ g;rw[k];exact t.im e.a o n.1 n.2 (by omega)
 rw[af c]at d;clear c
 by_cases c:e.op=11
 .rw [am c]at d;obtain⟨j,f,g⟩:=fg d;exact qE (qE h f) g
 rw[af c]at d;clear c
 by_cases c:e.op=12
 .rw [am c]at d;obtain⟨j,f,g⟩:=fg d;obtain⟨r,i,k⟩:=fg g;have n:=l.cls (by omega);exact ot (qE (Fv _ h f) i) (t.arg e.a e.b n.1 n.2 (l.call c)).2 k
 rw[af c]at d;clear c
 by_cases c:e.op=13
 .grind [qE]
 rw[af c]at d;clear c
 by_cases c:e.op=14
 .rw [am c]at d;obtain⟨⟨q,j⟩,f,rfl⟩:=aW.1 d;exact(vH h f).1
 rw[af c]at d;clear c
 by_cases c:e.op=15
 .rw [am c]at d;obtain⟨⟨q,j⟩,f,g⟩:=fg d;obtain⟨r,i,k⟩:=fg g;obtain⟨n,o⟩:=vH h f;exact ot (ot n o i) o k
 rw[af c]at d;clear c
 by_cases c:e.op=16
 .grind [ot]
 rw[af c]at d;clear c
 by_cases c:e.op=17
 .rw [am c]at d;obtain⟨j,f,g⟩:=fg d;have:=l.cls (by omega);exact ot (Fo h f) ⟨by omega,by omega⟩ g
 rw[af c]at d;clear c
 by_cases c:e.op=18
 .grind [Fo]
 rw[af c]at d;clear c
 by_cases c:e.op=20
 .rw [am c]at d;obtain⟨⟨q,j⟩,f,g⟩:=fg d;obtain⟨⟨w,r⟩,i,k⟩:=fg g;obtain⟨e,u,v⟩:=fg k;obtain⟨n,o⟩:=vH h f;obtain⟨e,l⟩:=vH n i;exact ot (ot e o u) l v
 rw[af c]at d
 cases d
 exact h
theorem uT(g:Good p)(j:∀n∈m.code,eU p m n=K){d}(l:d<m.code.length)(i:gO p s)(f:iq p m d s=M s'):gO p s':=by
 unfold iq at f;obtain⟨n,h,e⟩:=fg f
 have k:ey m d∈m.code:=by
  unfold ey;rw[ae l];exact av _
 split at e
 .cases e
 .cases e
  exact Ck g (kM (p:=p) (m:=m) (op:=(ey m d).op) (a:=(ey m d).a) (b:=(ey m d).b) (j _ k)) i h
end
structure rS (p:On)(c:Int)(m:eh)(σ :Nat->Option ef):Prop where
 oH:∃s,σ 0=M s/\fU p (fH c m) s
 go:∀i s,i<m.code.length->σ i=M s->∃n,iq p m i s=M n/\∀y∈gU (ey m i) i,∃t,σ y.1.toNat=M t/\fU p n t
structure jY (p:On)(σ :Nat->Option ef)(s:eT):Prop where
 le:∀i,i<40->s.re.getD i F=K->∃t,σ i=M t/\fU p (s.st.getD i OM) t
 ty:∀i,i<40->s.re.getD i F=K->gO p (s.st.getD i OM)
section
variable {p : List eb} {m : eh} {c : Int} {σ : Nat -> Option ef}
theorem zD{s a}(n:s.loc.length=8)(_hs:gO p s)(k:gO p a):gO p (jz p s a):=by
 have i:∀a e:Int,fz p.length e->fz p.length (gZ p a e):=λa e i=>by
  unfold gZ
  split
  .exact i
  .split
   .rcases uf p e (OD p (a-3)) with ⟨g,_⟩ | ⟨h,h,l,g,l,_,_⟩
    .rw [g];exact⟨by omega,by omega⟩
    .rw [l];have l:fD p (a-3) (h:Int)=K:=y9.2 (by rw[g];simp)
     have l:h<p.length:=by
      have j:h∈OD p (a-3):=(by rw[g];simp);unfold OD at j
      have o:∀(f:Nat) (c:Int) (d:Nat),d∈OC p f c->d<p.length:=by
       intro f
       induction f with
       | zero => intro c d b; cases b
       | succ f f =>
        intro c d b;unfold OC at b
        split at b
        .cases b
        .grind
      exact o _ _ _ j
     exact⟨by omega,by omega⟩
   .exact⟨by omega,by omega⟩
 obtain⟨f,f⟩:=om p s a;refine⟨λd hx=>?_,λd hx=>?_⟩
 .obtain⟨b,e,rfl⟩:=bT hx;have:(jz p s a).loc[b]=(jz p s a).loc.getD b 0:=by rw[aj,ae e];rfl
  rw[this,tG p s a n (by omega)];exact i _ _ (vI k.1 b)
 .obtain⟨b,e,rfl⟩:=bT hx;have:(jz p s a).stk[b]=(jz p s a).stk.getD b 0:=by rw[aj,ae e];rfl
  rw[this,uL p s a (by omega)];exact i _ _ (vI k.2 b)
theorem fU.trans(f:ez p p.length){s d e}(a:fU p s d)(b:fU p d e):fU p s e:=
 (fU.iff a.sl b.tl).2 (((fU.iff a.sl a.tl).1 a).trans f ((fU.iff b.sl b.tl).1 b))
theorem fU.refl{s}(a:s.loc.length=8):fU p s s:=(fU.iff a a).2 (mE.refl p s)
theorem jY.put{s}(j:gM p m s)(i:jY p σ s){b}(n:b<40){x e}(l : σ b=M e)(hx:fU p x e)(k:gO p x):jY p σ (gH s b x):=by
 refine⟨λa f h=>?_,λa f h=>?_⟩
 .by_cases d:a=b
  .subst d;refine⟨e,l,?_⟩
   show fU p ((s.st.set a x).getD a OM) e
   rw[jq (by rw[j.l1];exact f)];exact hx
  .have g:(s.re.set b K).getD a F=K:=h;rw[OS d]at g
   show ∃e,σ a=M e/\fU p ((s.st.set b x).getD a OM) e
   rw[OS d];exact i.le a f g
 .by_cases d:a=b
  .subst d
   show gO p ((s.st.set a x).getD a OM)
   rw[jq (by rw[j.l1];exact f)];exact k
  .have g:(s.re.set b K).getD a F=K:=h;rw[OS d]at g
   show gO p ((s.st.set b x).getD a OM)
   rw[OS d];exact i.ty a f g
theorem LO(r:ez p p.length){s}(i:gM p m s)(b:jY p σ s){a}(e:a<40){d q}(l : σ a=M q)(f:fU p d q)(o:gO p d):∃s',mo p a d s=M s'/\jY p σ s':=by
 unfold mo
 cases j:s.re.getD a F with
 | false => exact ⟨_, rfl, b.put i e l f o⟩
 | true =>
  rw[am rfl];obtain⟨q,n,g⟩:=b.le a e j;rw[l]at n
  cases n
  have h:=i.ok a e
  cases n:gA p d (s.st.getD a OM) with
  | true => exact ⟨s, rfl, b⟩
  | false =>
   have n:(s.st.getD a OM).stk.length=d.stk.length:=(by rw[g.k.len,f.k.len]);rw[af (by simp),am n];refine⟨_,rfl,b.put i e l ?_ (zD h.1 (b.ty a e j) o)⟩;have i:=om p (s.st.getD a OM) d;exact(fU.iff (by rw[i.2];exact h.1) g.tl).2 (De r h.1 (b.ty a e j).Fg ((fU.iff h.1 g.tl).1 g) ((fU.iff f.sl f.tl).1 f))
theorem Af(e:ez p p.length)(i:p.length<=6)(j:m.stack<=8){a}(n:a.loc.length=8)(l:(a.stk.length:Int)<=m.stack)(k:gO p a):∀(b:List (Int×Bool)) (s:eT),gM p m s->jY p σ s->(∀d∈b,d.1.toNat<40/\∃f,σ d.1.toNat=M f/\fU p a f)->∃s',np p a b s=M s'/\jY p σ s'/\gM p m s'
 | [], s, c, B, _ => ⟨s, rfl, B, c⟩
 | d :: b, s, c, B, hy => by
  obtain⟨h,f,t,u⟩:=hy d (by simp);obtain⟨v,g,o⟩:=LO e c B h t u k;obtain⟨q,_⟩:=uZ e i j c h n l g;obtain⟨f,r,a,d⟩:=Af e i j n l k b v q o (λb a=>hy b (by simp[a]));refine⟨f,?_,a,d⟩;unfold np;rw[g,au,r]
theorem FW(f:fi p=0)(L:eM p<=4194304){N}(I:gh p c N=M m)(w:rS p c m σ){a}(g:a<m.code.length){s}(i:gM p m s.1)(d:jY p σ s.1)(J:∀o,s.1.ra.getD o F=K->s.1.re.getD o F=K):∃s',oG p m a s=M s'/\jY p σ s'.1/\gM p m s'.1:=by
 have h:=iA f;have u:=oj f L;obtain⟨_,_,b⟩:=kZ f I;have E:=(kY f).1.2;have U:=b.c40;unfold oG
 split
 .rename_i k;obtain⟨x,_⟩:=ww i (show a<40 by omega) k;have r:jY p σ { s.1 with ra:=s.1.ra.set a F } :=⟨d.le,d.ty⟩;have l:=J a k;obtain⟨S,C,D⟩:=d.le a (by omega) l;obtain⟨W,A,B⟩:=w.go a S g C;obtain⟨V,e,z⟩:=DI h b.ins b.ok.loc g D A;have j:=i.ok a (by omega);obtain⟨Q,R⟩:=rk e j.1 j.2;have H:=ro g b.ins e;have G:=uT u b.ins g (d.ty a (by omega) l) e
  obtain⟨s',y,t,v⟩:=Af (σ := σ) h E b.ok.stk Q R G (gU (ey m a) a) _ x r (λq n=>by
   obtain⟨T,O,P⟩:=B q n
   exact⟨by have:=H q n;omega,T,O,z.trans h P⟩)
  refine⟨(s',K),?_,t,v⟩;unfold uK
  show ((iq p m a (s.1.st.getD a OM)).bind _).map _=_
  rw[e,au,y]
  rfl
 .grind
end
structure Up (p:On)(s s':eT):Prop where
 re:∀i,i<40->s.re.getD i F=K->s'.re.getD i F=K
 le:∀i,i<40->s.re.getD i F=K->fU p (s.st.getD i OM) (s'.st.getD i OM)
 ch:∀i,i<40->s'.re.getD i F=K->s'.ra.getD i F=K\/(s.re.getD i F=K/\s'.st.getD i OM=s.st.getD i OM/\s'.ra.getD i F=s.ra.getD i F)
 ra:∀i,i<40->s'.ra.getD i F=K->s'.re.getD i F=K\/s.ra.getD i F=K
section
variable {p : List eb} {m : eh}
theorem Up.refl{a}(b:gM p m a):Up p a a:=⟨λ_ _ a=>a,λd c _=>fU.refl (b.ok d c).1,λ_ _ a=>.inr ⟨a,rfl,rfl⟩,λ_ _ a=>.inr a⟩
theorem Up.trans(k:ez p p.length){g h i}(e:Up p g h)(f:Up p h i):Up p g i:=by
 refine⟨λb a c=>f.re b a (e.re b a c),λb a c=>(e.le b a c).trans k (f.le b a (e.re b a c)),λb a c=>?_,λb a c=>?_⟩
 .rcases f.ch b a c with d | ⟨j,g,g⟩
  .grind
  .rcases e.ch b a j with d | ⟨g,g,g⟩
   .grind
   .grind
 .rcases f.ra b a c with d | d
  .grind
  .rcases e.ra b a d with d | d
   .exact .inl (f.re b a d)
   .grind
theorem DU{c}(g:gM p m c){b}(k:b<40){x}(hx:c.re.getD b F=K->fU p (c.st.getD b OM) x):Up p c (gH c b x):=by
 have h:∀a,(gH c b x).re.getD a F=(c.re.set b K).getD a F:=λ_=>rfl;have i:∀a,(gH c b x).st.getD a OM=(c.st.set b x).getD a OM:=λ_=>rfl;have j:∀a,(gH c b x).ra.getD a F=(c.ra.set b K).getD a F:=λ_=>rfl;refine⟨λa d f=>?_,λa d f=>?_,λa d f=>?_,λa d f=>?_⟩
 .grind
 .rw [i]
  by_cases e:a=b
  .subst e;rw[jq (by rw[g.l1];exact d)];exact hx f
  .rw [OS e];exact fU.refl (g.ok a d).1
 .rw [h]at f;rw[i,j]
  by_cases e:a=b
  .subst e;left;rw[jq (by rw[g.l3];exact d)]
  .grind
 .rw [j]at f;rw[h]
  by_cases e:a=b
  .subst e;left;rw[jq (by rw[g.l2];exact d)]
  .grind
theorem LR(_hs:ez p p.length){c b}(d:gM p m c){a}(f:a<40){e}(h:e.loc.length=8)(g:mo p a e c=M b):Up p c b/\b.re.getD a F=K/\fU p e (b.st.getD a OM):=by
 have:=d.ok a f
 have:∀b,(gH c a b).re.getD a F=K:=λb=>by
  show (c.re.set a K).getD a F=K
  rw[jq (by rw[d.l2];exact f)]
 have:∀b,(gH c a b).st.getD a OM=b:=λb=>by
  show (c.st.set a b).getD a OM=b
  rw[jq (by rw[d.l1];exact f)]
 unfold mo at g
 split at g
 .grind [OM,fU.iff,Up.refl,om,Dg,zG,le_iff,DU]
 .grind [fU.refl,DU]
theorem Ag(c:ez p p.length)(n:p.length<=6)(o:m.stack<=8){h}(j:h.loc.length=8)(q:(h.stk.length:Int)<=m.stack):∀(d:List (Int×Bool)) (f b:eT),gM p m f->(∀a∈d,a.1.toNat<40)->np p h d f=M b->Up p f b/\∀a∈d,b.re.getD a.1.toNat F=K/\fU p h (b.st.getD a.1.toNat OM)
 | [], f, b, x, _, e => by cases e; exact ⟨Up.refl x, λa a => by cases a⟩
 | a :: d, f, b, x, hy, e => by
  unfold np at e;obtain⟨u,l,t⟩:=fg e;obtain⟨v,r,w⟩:=LR c x (hy a (by simp)) j l;obtain⟨s,_⟩:=uZ c n o x (hy a (by simp)) j q l;obtain⟨k,a⟩:=Ag c n o j q d u b s (λi g=>hy i (by simp[g])) t;refine⟨v.trans c k,λi g=>?_⟩
  rcases aE.1 g with rfl | g
  .exact⟨k.re _ (hy i (by simp)) r,w.trans c (k.le _ (hy i (by simp)) r)⟩
  .grind
def Done (p:On)(m:eh)(s:eT)(i:Nat):Prop:=∃n,iq p m i (s.st.getD i OM)=M n/\∀y∈gU (ey m i) i,s.re.getD y.1.toNat F=K/\fU p n (s.st.getD y.1.toNat OM)
structure nD (p:On)(c:Int)(m:eh)(s:eT):Prop where
 ok:gM p m s
 oH:s.re.getD 0 F=K/\fU p (fH c m) (s.st.getD 0 OM)
 dn:∀i,i<m.code.length->s.re.getD i F=K->s.ra.getD i F=F->Done p m s i
 ra:∀i,i<40->s.ra.getD i F=K->s.re.getD i F=K
theorem Bl{q}(k:ez p p.length)(w:p.length<=6)(x:m.stack<=8)(Y:m.code.length<=40)(y:∀b∈m.code,eU p m b=K){b}(O:b<m.code.length){f G}(d:nD p q m f.1)(c:oG p m b f=M G):nD p q m G.1:=by
 unfold oG at c
 split at c
 .rename_i Q;obtain⟨aa,v,rfl⟩:=aW.1 c;obtain⟨r,_⟩:=ww d.ok (show b<40 by omega) Q;unfold uK at v;obtain⟨C,N,u⟩:=fg v;have n:iq p m b (f.1.st.getD b OM)=M C:=N;have z:=d.ok.ok b (by omega);obtain⟨D,E⟩:=rk n z.1 z.2;have P:=ro O y n;have A:∀h∈gU (ey m b) b,h.1.toNat<40:=λh l=>by have:=P h l;omega
  obtain⟨g,X⟩:=Ag k w x D E _ _ _ r A u;obtain⟨H,_⟩:=xz k w x D E _ _ _ r A u;have T:∀a,a≠b->(f.1.ra.set b F).getD a F=f.1.ra.getD a F:=λa e=>OS e _ _;refine⟨H,⟨g.re 0 (by omega) d.oH.1,d.oH.2.trans k (g.le 0 (by omega) d.oH.1)⟩,λa e U o=>?_,λa e R=>?_⟩
  .rcases g.ch a (by omega) U with c | ⟨J,t,L⟩
   .dsimp only at o;rw[o]at c;cases c
   .by_cases i:a=b
    .subst i;refine⟨C,?_,X⟩;dsimp only;rw[t];exact n
    .have S:f.1.ra.getD a F=F:=by
      rw[<-T a i];exact L.symm.trans o
     obtain⟨W,s,I⟩:=d.dn a e J S;refine⟨W,?_,λh l=>?_⟩
     .dsimp only;rw[t];exact s
     .have Z:=ro e y s h l;obtain⟨B,V⟩:=I h l;exact⟨g.re _ (by omega) B,V.trans k (g.le _ (by omega) B)⟩
  .rcases g.ra a e R with c | c
   .exact c
   .have j:(f.1.ra.set b F).getD a F=K:=c
    by_cases i:a=b
    .subst i;rw[jq (by rw[d.ok.l3];omega)]at j
     cases j
    .rw [OS i]at j;exact g.re a e (d.ra a e j)
 .cases c
  exact d
theorem xE{h}(n:ez p p.length)(j:p.length<=6)(k:m.stack<=8)(i:m.code.length<=40)(l:∀b∈m.code,eU p m b=K){d}(g:nD p h m d):∀(c:Nat) (a:eT×Bool),c<=m.code.length->nP p m d c=M a->nD p h m a.1/\(a.2=F->a.1=d/\∀b,b<c->d.ra.getD b F=F)
 | 0, a, _, e => by cases e; exact ⟨g, λ_ => ⟨rfl, λb a => by omega⟩⟩
 | c + 1, a, hk, e => by
  unfold nP at e;obtain⟨q,o,f⟩:=fg e;obtain⟨a,b⟩:=xE n j k i l g c q (by omega) o;refine⟨Bl n j k i l (by omega) a f,λa=>?_⟩;unfold oG at f
  split at f
  .grind [Option.map_eq_some_iff]
  .grind
theorem Au{g}(l:ez p p.length)(i:p.length<=6)(j:m.stack<=8)(h:m.code.length<=40)(k:∀c∈m.code,eU p m c=K):∀(f:Nat) (b a:eT),nD p g m b->mq p m f b=M (M a)->nD p g m a/\∀c,c<m.code.length->a.ra.getD c F=F
 | 0, b, a, _, e => by cases e
 | f + 1, b, a, s, e => by
  unfold mq at e
  cases d:nP p m b m.code.length with
  | none => rw[d]at e; cases e
  | some r =>
   obtain⟨q,o⟩:=r;rw[d]at e;obtain⟨n,b⟩:=xE l i j h k s _ _ (ai _) d
   cases o with
   | true => exact Au l i j h k f q a n e
   | false => grind
theorem vC{c}(k:m.args.length<=7)(i:0<=m.stack):nD p c m (gH sv0 0 (fH c m)):=by
 have l:∀a,a<40->(sv0.st.getD a OM)=OM:=λa f=>by
  show (List.replicate 40 OM).getD a OM=OM
  rw[aj,cL]
  split <;> rfl
 have h:∀a,(List.replicate 40 F).getD a F=F:=λa=>by grind
 have d:gM p m sv0:=⟨by simp[sv0],by simp[sv0],by simp[sv0],λa f=>by rw[l a f];exact⟨rfl,i⟩⟩;have i:=(xg (c:=c) k).1;refine⟨d.put (by omega) i (by show ((0:Nat):Int)<=m.stack;omega),⟨?_,?_⟩,λa f g k=>?_,λa f g=>?_⟩
 .show (sv0.re.set 0 K).getD 0 F=K
  rw[jq (by rw[d.l2];omega)]
 .show fU p _ ((sv0.st.set 0 (fH c m)).getD 0 OM)
  rw[jq (by rw[d.l1];omega)];exact fU.refl i
 .have b:(sv0.re.set 0 K).getD a F=K:=g;have j:(sv0.ra.set 0 K).getD a F=F:=k
  by_cases e:a=0
  .subst e;rw[jq (by rw[d.l3];omega)]at j
   cases j
  .rw [OS e]at b;have:=h a;rw[show sv0.re=List.replicate 40 F from rfl,this]at b
   cases b
 .have b:(sv0.ra.set 0 K).getD a F=K:=g
  show (sv0.re.set 0 K).getD a F=K
  by_cases e:a=0
  .subst e;rw[jq (by rw[d.l2];omega)]
  .rw [OS e]at b;rw[show sv0.ra=List.replicate 40 F from rfl,h a]at b
   cases b
end
section
variable {p : List eb} {m : eh} {c : Int} {σ : Nat -> Option ef}
theorem Ej(a:fi p=0)(o:eM p<=4194304){t}(h:gh p c t=M m)(l:rS p c m σ){e}(k:nD p c m e)(j:jY p σ e):∀(b:Nat),b<=m.code.length->∃i,nP p m e b=M i/\jY p σ i.1/\nD p c m i.1
 | 0, _ => ⟨(e, F), rfl, j, k⟩
 | b + 1, hn => by
  obtain⟨_,_,f⟩:=kZ a h;obtain⟨e,s,q,d⟩:=Ej a o h l k j b (by omega)
  obtain⟨u,n,r,_⟩:=FW a o h l (show b<m.code.length by omega) d.ok q (λb a=>by
   rcases bt b 40 with g | g
   .exact d.ra b g a
   .rw [aj,cH (by rw[d.ok.l3];exact g)]at a
    cases a)
  refine⟨u,?_,r,Bl (iA a) (kY a).1.2 f.ok.stk f.c40 f.ins (by omega) d n⟩;unfold nP;rw[s,au,n]
theorem At(g:fi p=0)(i:eM p<=4194304){q}(h:gh p c q=M m)(f:rS p c m σ):∀(d:Nat) (b:eT) (a:Option eT),nD p c m b->jY p σ b->mq p m d b=M a->∃j,a=M j/\jY p σ j
 | 0, b, a, _, _, e => by cases e
 | d + 1, b, a, t, B, e => by
  obtain⟨s,o,k,l⟩:=Ej g i h f t B m.code.length (ai _);unfold mq at e;rw[o]at e;obtain⟨r,n⟩:=s
  cases n with
  | true => exact At g i h f d r a l k e
  | false => grind
theorem yI (a:vU p c m):gO p (fH c m):=⟨a.bg.1,a.bg.2.1⟩
theorem xP (b:vU p c m)(g:0<=m.stack)(d:rS p c m σ):jY p σ (gH sv0 0 (fH c m)):=by
 have f:∀a,(List.replicate 40 F).getD a F=F:=λa=>by grind
 have:=vC (p:=p) (c:=c) b.a7 g
 have:∀a,a≠0->(gH sv0 0 (fH c m)).re.getD a F=F:=λa b=>by
  show ((List.replicate 40 F).set 0 K).getD a F=F
  rw[OS b,f]
 have h:(gH sv0 0 (fH c m)).st.getD 0 OM=fH c m:=by
  show ((List.replicate 40 OM).set 0 (fH c m)).getD 0 OM=fH c m
  rw[jq (by simp)]
 refine⟨λa b f=>?_,λa b f=>?_⟩
 .by_cases e:a=0
  .subst e;obtain⟨e,a,b⟩:=d.oH;exact⟨e,a,by rw[h];exact b⟩
  .grind
 .grind [yI]
theorem Jf(b:fi p=0){i}(h:gh p c i=M m):∃f d,mq p m f (gH sv0 0 (fH c m))=M d:=by
 obtain⟨_,_,a⟩:=kZ b h;have g:0<=m.stack:=by have:=a.bg.2.2;have:((fH c m).stk.length:Int)=0:=rfl;omega
 have e:=vC (p:=p) (c:=c) a.a7 g;obtain⟨d,f⟩:=EH (iA b) (kY b).1.2 a.ok.stk a.c40 a.ins (j7 p (gH sv0 0 (fH c m))+1) _ e.ok (by omega);exact⟨_,d,f⟩
end
section
variable {p : List eb} {m : eh} {c : Int}
end
section
variable {p : List eb} {m : eh} {c : Int}
theorem Cj{d t u}(b:fe p m d t=M u)(i:(t.stk.length:Int)<=m.stack):u.loc=t.loc\/(d.op=2/\∃s,u.loc=t.loc.set d.a.toNat s):=by
 unfold fe at b
 by_cases c:d.op=0
 .rw [am c]at b;obtain⟨g,e⟩:=jA b i;exact .inl (by rw[e])
 rw[af c]at b;clear c
 by_cases c:d.op=1
 .rw [am c]at b;obtain⟨s,_,b⟩:=fg b;obtain⟨g,e⟩:=jA b i;exact .inl (by rw[e])
 rw[af c]at b;clear c
 by_cases c:d.op=2
 .rw [am c]at b;obtain⟨⟨s,l⟩,f,h⟩:=fg b;obtain⟨g,e⟩:=OT f i;obtain⟨w,_,rfl⟩:=aW.1 h;exact .inr ⟨c,w,by dsimp only;rw[e]⟩
 rw[af c]at b;clear c
 by_cases c:d.op=3\/d.op=4\/d.op=5\/d.op=6
 .rw [am c]at b;obtain⟨l,f,h⟩:=fg b;obtain⟨v,q,r⟩:=fg h;obtain⟨g,e⟩:=lN f i;obtain⟨n,k⟩:=lN q g;obtain⟨o,j⟩:=jA r n;exact .inl (by rw[j,k,e])
 rw[af c]at b;clear c
 by_cases c:d.op=8\/d.op=19
 .rw [am c]at b;obtain⟨g,e⟩:=lN b i;exact .inl (by rw[e])
 rw[af c]at b;clear c
 by_cases c:d.op=9
 .rw [am c]at b;obtain⟨g,e⟩:=jA b i;exact .inl (by rw[e])
 rw[af c]at b;clear c
 by_cases c:d.op=10
 .rw [am c]at b;obtain⟨l,f,h⟩:=fg b;obtain⟨g,e⟩:=lN f i;obtain⟨o,j⟩:=jA h g;exact .inl (by rw[j,e])
 rw[af c]at b;clear c
 by_cases c:d.op=11
 .rw [am c]at b;obtain⟨l,f,h⟩:=fg b;obtain⟨g,e⟩:=lN f i;obtain⟨o,j⟩:=lN h g;exact .inl (by rw[j,e])
 rw[af c]at b;clear c
 by_cases c:d.op=12
 .rw [am c]at b;obtain⟨l,f,h⟩:=fg b;obtain⟨v,q,r⟩:=fg h;obtain⟨g,e⟩:=yb _ f i;obtain⟨n,k⟩:=lN q g;obtain⟨o,j⟩:=jA r n;exact .inl (by rw[j,k,e])
 rw[af c]at b;clear c
 by_cases c:d.op=13
 .rw [am c]at b;obtain⟨g,e⟩:=lN b i;exact .inl (by rw[e])
 rw[af c]at b;clear c
 by_cases c:d.op=14
 .rw [am c]at b;obtain⟨⟨s,l⟩,f,rfl⟩:=aW.1 b;obtain⟨g,e⟩:=OT f i;exact .inl (by dsimp only;rw[e])
 rw[af c]at b;clear c
 by_cases c:d.op=15
 .rw [am c]at b;obtain⟨⟨s,l⟩,f,h⟩:=fg b;obtain⟨v,q,r⟩:=fg h;obtain⟨g,e⟩:=OT f i;obtain⟨n,k⟩:=jA q g;obtain⟨o,j⟩:=jA r n;exact .inl (by rw[j,k,e])
 rw[af c]at b;clear c
 by_cases c:d.op=16
 .rw [am c]at b;obtain⟨g,e⟩:=jA b i;exact .inl (by rw[e])
 rw[af c]at b;clear c
 by_cases c:d.op=17
 .rw [am c]at b;obtain⟨l,f,h⟩:=fg b;obtain⟨g,e⟩:=ya (m:=m) f i;obtain⟨o,j⟩:=jA h g;exact .inl (by rw[j,e])
 rw[af c]at b;clear c
 by_cases c:d.op=18
 .grind [ya]
 rw[af c]at b;clear c
 by_cases c:d.op=20
 .rw [am c]at b;obtain⟨⟨s,l⟩,f,h⟩:=fg b;obtain⟨⟨w,v⟩,q,r⟩:=fg h;obtain⟨d,y,z⟩:=fg r;obtain⟨g,e⟩:=OT f i;obtain⟨n,k⟩:=OT q g;obtain⟨o,j⟩:=jA y n;obtain⟨d,x⟩:=jA z o;dsimp only at k j;exact .inl (by rw[x,j,k,e])
 rw[af c]at b
 cases b
 exact .inl rfl
structure Kept (p:On)(m:eh)(Q:ef->Prop):Prop where
 nx:∀i s n,i<m.code.length->Q s->s.loc.length=8->(s.stk.length:Int)<=m.stack->iq p m i s=M n->Q n
 jn:∀s t,Q s->Q t->s.loc.length=8->Q (jz p s t)
variable {Q : ef -> Prop}
def mS (Q:ef->Prop)(s:eT):Prop:=∀i,i<40->s.re.getD i F=K->Q (s.st.getD i OM)
theorem Ab{b}(i:gM p m b)(h:mS Q b){d x}(hx:Q x):mS Q (gH b d x):=λa f j=>by
 by_cases e:a=d
 .subst e
  show Q ((b.st.set a x).getD a OM)
  rw[jq (by rw[i.l1];exact f)];exact hx
 .have g:(b.re.set d K).getD a F=K:=j;rw[OS e]at g
  show Q ((b.st.set d x).getD a OM)
  rw[OS e];exact h a f g
theorem LQ(K:Kept p m Q){d i}(f:gM p m d)(e:mS Q d){b}(h:b<40){g}(j:Q g)(a:mo p b g d=M i):mS Q i:=by
 unfold mo at a
 split at a
 .rename_i k
  split at a
  .grind
  .split at a
   .cases a
    exact Ab f e (K.jn _ _ (e b h k) j (f.ok b h).1)
   .cases a
 .grind [Ab]
theorem D9(o:ez p p.length)(i:p.length<=6)(j:m.stack<=8)(K:Kept p m Q){f}(l:f.loc.length=8)(k:(f.stk.length:Int)<=m.stack)(n:Q f):∀(d:List (Int×Bool)) (a b:eT),gM p m a->mS Q a->(∀g∈d,g.1.toNat<40)->np p f d a=M b->mS Q b
 | [], a, b, _, A, _, e => by cases e; exact A
 | g :: d, a, b, c, A, hy, e => by
  unfold np at e;obtain⟨r,h,q⟩:=fg e;obtain⟨a,_⟩:=uZ o i j c (hy g (by simp)) l k h;exact D9 o i j K l k n d r b a (LQ K c A (hy g (by simp)) n h) (λb a=>hy b (by simp[a])) q
theorem FY(x:ez p p.length)(s:p.length<=6)(t:m.stack<=8)(C:m.code.length<=40)(v:∀a∈m.code,eU p m a=true)(K:Kept p m Q){a}(j:a<m.code.length){d n}(e:nD p c m d.1)(h:mS Q d.1)(f:oG p m a d=M n):mS Q n.1:=by
 unfold oG at f
 split at f
 .rename_i k;obtain⟨D,i,rfl⟩:=aW.1 f;obtain⟨o,_⟩:=ww e.ok (show a<40 by omega) k;unfold uK at i;obtain⟨l,q,r⟩:=fg i;have g:iq p m a (d.1.st.getD a OM)=M l:=q;have b:=e.ok.ok a (by omega);obtain⟨z,A⟩:=rk g b.1 b.2;have u:=ro j v g;have w:=e.ra a (by omega) k;exact D9 x s t K z A (K.nx a _ l j (h a (by omega) w) b.1 b.2 g) _ _ _ o h (λB y=>by have:=u B y;omega) r
 .grind
theorem El(i:ez p p.length)(f:p.length<=6)(g:m.stack<=8)(d:m.code.length<=40)(h:∀n∈m.code,eU p m n=true)(K:Kept p m Q){j}(l:nD p c m j)(k:mS Q j):∀(a:Nat) (b:eT×Bool),a<=m.code.length->nP p m j a=M b->mS Q b.1
 | 0, b, _, e => by cases e; exact k
 | a + 1, b, hk, e => by
  unfold nP at e;obtain⟨j,b,n⟩:=fg e;exact FY i f g d h K (by omega) (xE i f g d h l a j (by omega) b).1 (El i f g d h K l k a j (by omega) b) n
theorem EI (j:ez p p.length)(g:p.length<=6)(h:m.stack<=8)(f:m.code.length<=40)(i:∀q∈m.code,eU p m q=true)(K:Kept p m Q):∀(k:Nat) (a b:eT),nD p c m a->mS Q a->mq p m k a=M (M b)->mS Q b
 | 0, a, b, _, _, e => by cases e
 | k + 1, a, b, t, A, e => by
  unfold mq at e
  cases d:nP p m a m.code.length with
  | none => rw[d]at e; cases e
  | some s =>
   obtain⟨r,o⟩:=s;rw[d]at e;have l:=El j g h f i K t A _ _ (ai _) d;have n:=(xE j g h f i t _ _ (ai _) d).1
   cases o with
   | true => exact EI j g h f i K k r b n l e
   | false => cases e; exact l
def Hi (m:eh)(s:ef):Prop:=∀i:Nat,m.locals<=(i:Int)->i<8->s.loc.getD i 0=2
theorem zu (t:∀f∈m.code,eU p m f=K):Kept p m (Hi m):=by
 refine⟨λf n y s h l u k=>?_,λn o h x l g e d=>?_⟩
 .unfold iq at k;obtain⟨y,r,i⟩:=fg k
  split at i
  .cases i
  .cases i
   have v:ey m f∈m.code:=by
    unfold ey;rw[ae s];exact av _
   have q:=kM (p:=p) (m:=m) (op:=(ey m f).op) (a:=(ey m f).a) (b:=(ey m f).b) (t _ v)
   rcases Cj r u with j | ⟨w,o,j⟩
   .intro g e d;rw[j];exact h g e d
   .intro g e d;have:=q.loc (.inr w);rw[j,OS (by omega)];exact h g e d
 .rw [tG p n o l d,h g e d,x g e d];unfold gZ;rw[am (kU _ _)]
theorem F9 (a:1+(m.args.length:Int)<=m.locals)(_:m.args.length<=7):Hi m (fH c m):=λd b a=>by grind [fH]
end
def uH (m:eh)(r:eT)(k:Nat):fT:=⟨(k:Int),(r.st.getD k OM).loc.take m.locals.toNat,(r.st.getD k OM).stk⟩
def uY (m:eh)(r:eT)(k:Nat):Bool:=(List.range m.code.length).any λi=>r.re.getD i F && gz (ey m i) && ((ey m i).a.toNat == k)
def py (m:eh)(r:eT):List fT:=(kL m r m.code.length).filter λf=>uY m r f.pc.toNat
section
variable {p : List eb} {m : eh} {c : Int}
end
structure yB (m m':eh):Prop where
 slot:m'.slot=m.slot
 args:m'.args=m.args
 ret:m'.ret=m.ret
 locals:m'.locals=m.locals
 stack:m'.stack=m.stack
 code:m'.code=m.code
structure Bb (x x':eb):Prop where
 sup:x'.sup=x.sup
 fields:x'.fields=x.fields
 len:x'.ek.length=x.ek.length
 meth:∀(k:Nat) (m m':eh),x.ek[k]? =M m->x'.ek[k]? =M m'->yB m m'
structure yC (p p':On):Prop where
 len:p'.length=p.length
 cls:∀(j:Nat) (x x':eb),p[j]? =M x->p'[j]? =M x'->Bb x x'
theorem qj {α β :Type}{b:List α}{c:List β}(e:c.length=b.length)(a:Nat):(b[a]? =U/\c[a]? =U)\/∃x d,b[a]? =M x/\c[a]? =M d:=by grind
section
variable {p p' : List eb} (S : yC p p')
include S
theorem BE:∀(b:Nat) (a:Int),OC p' b a=OC p b a
 | 0, _ => rfl
 | b + 1, a => by
  unfold OC
  split
  .rfl
  .rcases qj S.len a.toNat with ⟨c,d⟩ | ⟨a,e,c,d⟩
   .grind
   .rw [c,d];dsimp only;rw[(S.cls _ a e c d).sup,BE b a.sup]
theorem BC(a):OD p' a=OD p a:=BE S _ _
theorem Cv(c):OE p' c=OE p c:=by
 unfold OE;rw[BC S]
 congr 2
 funext k
 unfold uV
 rcases qj S.len k with ⟨a,b⟩ | ⟨c,d,a,b⟩
 .grind
 .rw [a,b];exact(S.cls _ c d a b).fields
omit S in
theorem M7{x d}(e:Bb x d)(a):kQ d.ek a=kQ x.ek a:=by
 have g : d.ek.map (·.slot) = x.ek.map (·.slot) := by
  apply cM
  intro f;rw[aU,aU]
  rcases qj e.len f with ⟨b,c⟩ | ⟨d,h,b,c⟩
  .grind
  .rw [b,c];exact cP M (e.meth f d h b c).slot
 have c : ∀ b : List eh, kQ b a = (b.map (·.slot)).findIdx? (λb => b == a) := λb => by
  unfold kQ;rw[List.findIdx?_map]
  rfl
 rw[c,c,g]
theorem DC(d a):fy p' d a=fy p d a:=by
 unfold fy;rw[BC S]
 congr 1
 funext k
 unfold xk
 rcases qj S.len k with ⟨b,c⟩ | ⟨d,e,b,c⟩
 .grind
 .rw [b,c]
  show (kQ e.ek a).map _=(kQ d.ek a).map _
  rw[M7 (S.cls _ d e b c)]
omit S in
end
theorem uG{b m}:∀ {l:List fT} {last:Int},gK b m last l=K↔(∀a∈l,last<a.pc)/\l.Pairwise (λa d=>a.pc<d.pc)/\∀a∈l,m9 b m a=K
 | [], _ => ⟨λ_ => ⟨λa b => (by cases b), List.Pairwise.nil, λa b => (by cases b)⟩, λ_ => rfl⟩
 | a :: l, last => by
  unfold gK;simp only[aD,decide_eq_true_eq];rw[uG (l:=l) (last:=a.pc),List.pairwise_cons]
  constructor
  .grind
  .grind
theorem wP{m d}:∀ {b:Nat} {f:fT},f∈kL m d b->∃e,e<b/\d.re.getD e F=K/\f=uH m d e
 | 0, f, a => by cases a
 | b + 1, f, a => by
  have g:kL m d (b+1)=kL m d b++(if d.re.getD b F then [uH m d b] else []):=rfl;rw[g]at a
  rcases aN.1 a with a | a
  .obtain⟨e,b,b,d⟩:=wP a;exact⟨e,by omega,b,d⟩
  .grind
theorem CS(m b):∀a,(kL m b a).Pairwise (λe f=>e.pc<f.pc)
 | 0 => List.Pairwise.nil
 | a + 1 => by
  have h:kL m b (a+1)=kL m b a++(if b.re.getD a F then [uH m b a] else []):=rfl;rw[h,List.pairwise_append];refine⟨CS m b a,?_,λe g f d=>?_⟩
  .split
   .grind
   .simp_all
  .obtain⟨i,b,_,rfl⟩:=wP g
   split at d
   .obtain rfl:=aC.1 d
    show (i:Int)<(a:Int)
    omega
   .cases d
theorem Fh{a b}(d:fz a b):gT a b=K:=by
 obtain⟨a,a⟩:=d;unfold gT gd;simp only[bB,aD,beq_iff_eq,decide_eq_true_eq];omega
section
variable {p : List eb} {m : eh} {c : Int}
theorem Nq (b:Good p)(f:∀a∈m.code,eU p m a=K):Kept p m (gO p):=
 ⟨λ_ _ _ e a _ _ d=>uT b f e a d,λ_ _ a f b=>zD b a f⟩
theorem Bz(f:fi p=0)(x:eM p<=4194304){y}(r:gh p c y=M m){g d}(k:mq p m g (gH sv0 0 (fH c m))=M (M d)):gK p.length m (-1) (py m d)=K/\(py m d).length<=40:=by
 obtain⟨_,_,a⟩:=kZ f r;have s:=iA f;have n:=(kY f).1.2
 have h:=jw.1 (show lX p.length m=K by
  have b:=r;unfold gh at b
  split at b
  .grind [tD]
  .cases b)
 have r:=h.2.2.2.2.2.2.2.1;have j:=vC (p:=p) (c:=c) a.a7 r;obtain⟨v,_⟩:=Au s n a.ok.stk a.c40 a.ins g _ d j k
 have u:mS (gO p) (gH sv0 0 (fH c m)):=λb f d=>by
  by_cases i:b=0
  .subst i
   show gO p (((List.replicate 40 OM).set 0 (fH c m)).getD 0 OM)
   rw[jq (by simp)];exact yI a
  .have e:((List.replicate 40 F).set 0 K).getD b F=K:=d;rw[OS i,aj,cL]at e
   split at e <;> cases e
 have t:=EI s n a.ok.stk a.c40 a.ins (Nq (oj f x) a.ins) g _ d j u k;have:=h.2.2.2.2.2.2.1;have:=h.2.2.2.2.2.1;have:=a.c40
 have:∀e,(kL m d e).length<=e:=λe=>by
  induction e with
  | zero => exact ai _
  | succ e a => grind [uH, kL]
 refine⟨uG.2 ⟨λa i=>?_,(CS m d _).filter _,λa i=>?_⟩,?_⟩
 .obtain⟨b,w,l,rfl⟩:=wP (List.mem_filter.1 i).1
  show (-1:Int)<(b:Int)
  omega
 .obtain⟨b,w,l,rfl⟩:=wP (List.mem_filter.1 i).1;have q:=v.ok.ok b (by omega);have o:=t b (by omega) l;unfold m9 uH;simp only[aD,decide_eq_true_eq,aJ];refine⟨⟨⟨⟨by omega,?_⟩,q.2⟩,λb a=>Fh (o.1 b (dL _ _ a))⟩,λb a=>Fh (o.2 b a)⟩;rw[aR,q.1];omega
 .grind [py,kL]
end
theorem ID{p s}(e:yC p s)(J:fi p=0)(P:∀(c g:Nat) (b:eh),gh s c g=M b->gK s.length b (-1) b.frames=K/\b.frames.length<=40):fi s=0:=by
 obtain⟨⟨W,W⟩,N,O⟩:=kY J;have A:=e.len
 have Q:∀(m b:eh),yB m b->∀f,eU s b f=eU p m f:=λm b a f=>by
  unfold eU;rw[a.locals,a.code,A,Cv e,DC e]
 unfold fi;rw[af (by omega),am,am]
 .rw [aJ];intro y n;obtain⟨k,v⟩:=cK n;obtain⟨j,hx⟩:∃j,p[k]? =M j:=⟨_,ae (by have:=(ag.1 v).1;omega)⟩;have d:=e.cls k j y hx v;rw[aJ];intro b l;obtain⟨g,q⟩:=cK l;obtain⟨m,l⟩:∃m,j.ek[g]? =M m:=⟨_,ae (by have:=(ag.1 q).1;have:=d.len;omega)⟩;have a:=d.meth g m b l q;have h:=O j (aB hx) m (aB l)
  obtain⟨t,u⟩:=P k g b (by
   unfold gh;rw[am ⟨by omega,by omega⟩,aK,aK,v]
   exact q)
  unfold gY at h ⊢;simp only[aD,decide_eq_true_eq]at h ⊢;obtain⟨⟨⟨⟨l,n⟩,_⟩,r⟩,_⟩:=h;refine⟨⟨⟨⟨by rw[a.code];exact l,by rw[a.code];exact n⟩,u⟩,?_⟩,t⟩;rw[a.code,aJ];intro f o;rw[Q m b a];exact aJ.1 r f o
 .rw [aJ];intro k v;unfold nI
  rcases qj e.len k with ⟨z,u⟩ | ⟨j,y,z,u⟩
  .rw [u]
  .rw [u];dsimp only;have d:=e.cls k j y z u;obtain⟨I,D⟩:=N k j z
   have S:kC k y=K:=by
    unfold kC at I ⊢;rw[d.sup];exact I
   rw[S,bO];unfold lr at D ⊢;simp only[aD,decide_eq_true_eq]at D ⊢;obtain⟨⟨⟨s,u⟩,z⟩,T⟩:=D;refine⟨⟨⟨by rw[d.fields,A];exact s,by rw[Cv e];exact u⟩,by rw[d.len];exact z⟩,?_⟩;rw[d.len,aJ];intro g q;have r:=aJ.1 T g q
   rcases qj d.len g with ⟨C,x⟩ | ⟨m,b,C,x⟩
   .rw [x]
   .rw [x];rw[C]at r;dsimp only at r ⊢;have a:=d.meth g m b C x;unfold OF at r ⊢;simp only[aD]at r ⊢;obtain⟨⟨G,H⟩,h⟩:=r;refine⟨⟨?_,?_⟩,?_⟩
    .unfold lX at G ⊢;rw[a.slot,a.args,a.ret,a.locals,a.stack,A];exact G
    .rw [aJ]at H ⊢;intro B F;obtain⟨f,o⟩:=cK F;have E:f<g:=(by grind);rw[dC E]at o
     rcases qj d.len f with ⟨l,n⟩ | ⟨w,b,l,n⟩
     .grind
     .rw [n]at o
      cases o
      have t:=d.meth f w B l n;rw[t.slot,a.slot]
      exact H w (by
       apply aB (i:=f)
       rw[dC E]
       exact l)
    .unfold ky at h ⊢;rw[d.sup,a.slot,DC e]
     cases R:fy p j.sup m.slot with
     | none => rfl
     | some L =>
      rw[R]at h;dsimp only at h ⊢;unfold mh at h ⊢
      rcases qj e.len L.1 with ⟨l,n⟩ | ⟨U,V,l,n⟩
      .grind
      .rw [l]at h;rw[n];rw[au]at h ⊢;have F:=e.cls _ U V l n
       rcases qj F.len L.2 with ⟨E,o⟩ | ⟨w,B,E,o⟩
       .rw [o]
       .rw [E]at h;rw[o];dsimp only at h ⊢;have t:=F.meth _ w B E o;rw[t.args,t.ret,a.args,a.ret];exact h
def pz (m:eh)(r:eT):eh:= { m with frames:=py m r }
def mY (p:On)(R:Nat->Nat->eT):List eb:=p.mapIdx λc x=> { x with ek:=x.ek.mapIdx λk m=>pz m (R c k) }
theorem Gq(a b):yB a (pz a b):=⟨rfl,rfl,rfl,rfl,rfl,rfl⟩
section
variable {p : List eb} {R : Nat -> Nat -> eT}
theorem wv (a:Nat):(mY p R)[a]? =(p[a]?).map λx=> { x with ek:=x.ek.mapIdx λb c=>pz c (R a b) } :=by grind [mY]
theorem BB:yC p (mY p R):=by
 refine⟨by unfold mY;simp,λc c c c b=>?_⟩;rw[wv,c]at b
 cases b
 refine⟨rfl,rfl,by simp,λb b b b a=>?_⟩;rw[dR,b]at a
 cases a
 exact Gq _ _
theorem Gt{a b:Nat}{d}(e:gh (mY p R) a b=M d):∃c,gh p a b=M c/\d=pz c (R a b):=by grind [pz,gh,wv]
def yD (p:On)(R:Nat->Nat->eT):Prop:=∀(c k:Nat) (m:eh),gh p c k=M m->∃N,mq p m N (gH sv0 0 (fH c m))=M (M (R c k))
theorem Gs (c:fi p=0)(h:eM p<=4194304)(e:yD p R):fi (mY p R)=0:=by
 refine ID BB c (λd i k g=>?_);obtain⟨j,b,rfl⟩:=Gt g;obtain⟨g,f⟩:=e d i j b;obtain⟨a,d⟩:=Bz c h b f;refine⟨?_,d⟩;rw[BB.len];rw[uG]at a ⊢;exact a
end
def Ends (p:On)(Q:Nat->Nat->Option eT):Prop:=∀(c k:Nat) (m:eh),gh p c k=M m->∃N,mq p m N (gH sv0 0 (fH c m))=M (Q c k)
def uk (p:On)(Q:Nat->Nat->Option eT):Prop:=∀(c k:Nat) (m:eh),gh p c k=M m->Q c k≠U
def nc (Q:Nat->Nat->Option eT)(c k:Nat):eT:=(Q c k).getD sv0
section
variable {p : List eb} {Q : Nat -> Nat -> Option eT} {R : Nat -> Nat -> eT}
theorem Ig (g:fi p=0):∃Q,Ends p Q:=by
 have f:∀a b:Nat,∃f:Option eT,∀c,gh p a b=M c->∃d,mq p c d (gH sv0 0 (fH a c))=M f:=λa b=>by
  cases e:gh p a b with
  | none => exact ⟨U, λc c => (by cases c)⟩
  | some c =>
   obtain⟨d,i,h⟩:=Jf g e;exact⟨i,λe c=>by cases c;exact⟨d,h⟩⟩
 exact⟨λa b=>(f a b).choose,λa b c e=>(f a b).choose_spec c e⟩
theorem Ih (g:Ends p Q)(f:uk p Q):yD p (nc Q):=λa b d c=>by
 obtain⟨e,h⟩:=g a b d c;refine⟨e,?_⟩;rw[h];have:=f a b d c;unfold nc
 cases i:Q a b with
 | none => exact absurd i this
 | some a => rfl
theorem CJ{a b}(d:a<=4194304)(c:gT a b=K):I64 b:=by grind [I64,gd,gT]
theorem Gu (o:je p)(h:fi p=0)(l:eM p<=4194304)(r:yD p R):je (mY p R):=by
 intro x q;obtain⟨d,a⟩:=cK q;rw[wv]at a
 cases hx:p[d]? with
 | none => rw[hx]at a; cases a
 | some m =>
  rw[hx]at a
  cases a
  have u:=aB hx;obtain⟨a,q,w⟩:=o m u;refine⟨a,q,λv n=>?_⟩;obtain⟨b,a⟩:=cK n;have j:(m.ek.mapIdx λb c=>pz c (R d b))[b]? =M v:=a;rw[dR]at j;obtain⟨c,s,rfl⟩:=aW.1 j;obtain⟨a,j,m,n,o,q,_⟩:=w c (aB s);refine⟨a,j,m,n,o,q,λg i=>?_⟩;have f:gh p (d:Int) (b:Int)=M c:=by grind [gh]
  obtain⟨a,t⟩:=r d b c f;have k:(p.length:Int)<=4194304:=by have:=ap (fQ p) l;omega
  obtain⟨a,_,b⟩:=uG.1 (Bz h l f t).1;have:=a g i;have e:=b g i;unfold m9 at e;simp only[aD,decide_eq_true_eq,aJ]at e;obtain⟨⟨⟨⟨a,_⟩,_⟩,c⟩,d⟩:=e;have:=(kZ h f).2.2.c40;exact⟨⟨by omega,by omega⟩,λb a=>CJ k (c b a),λb a=>CJ k (d b a)⟩
end
section
attribute [local go_sem ↓] Go.wp_at_zero Go.wp_at_succ
attribute [local go_sem] eZ
attribute [local go_sem] Oper.semAt_some
section
variable {w V V' : World} {bp : Nat} {ds : List Nat} {f f' : Nat -> Bool}
end
def FD (B:Nat)(l:List fT)(w w':World)(e:Ending):Prop:=∃v,e=zR v/\eG 3 (pk (sel (λk=>B<=k) w')) v l/\Below w.heap.size w w'
def rK (w V:World)(B:Nat)(v:Value)(l:List fT):Prop:=∃cs,V.ownsRow w.heap.size 42 3 v l.length cs/\lA 3 (sS (sel (λk=>B<=k) w)) cs l
section
variable {w V V' : World} {B bp : Nat} {ds : List Nat} {f : Nat -> Bool} {v : Value} {l : List fT}
theorem rK.below (b:rK w V B v l)(c:Below V.heap.size V V'):rK w V' B v l:=by
 obtain⟨d,a,e⟩:=b;exact⟨d,eX a (Ox c) (λb c d=>by have:=(a.lt b c).2;omega),e⟩
end
end
section
attribute [local go_sem ↓] Go.wp_at_zero Go.wp_at_succ
attribute [local go_sem] eZ
end
section
variable {w V W : World} {vp v : Value} {q : List eb}
theorem Ji:(Tryz.prog.info? 66).map (λa=>(a.zero,a.size,a.bytes))=M (M (.agg #[J I 0,O U 0 0,O U 0 0]),3,56):=by kernel_rfl
end
section
attribute [local go_sem ↓] Go.wp_at_zero Go.wp_at_succ
attribute [local go_sem] eZ
theorem yH:jJ Tryz.prog 24 1:=⟨by kernel_rfl,by kernel_rfl⟩
end
end Go.Proofs.YtiiokkllmchohaaGreat
