/- Walk of the code: a type below another one. -/
import Derived.Test.YtiiokkllmchohaaGreatT12
import Derived.Test.YtiiokkllmchohaaGreatT14
set_option maxHeartbeats 0
set_option maxRecDepth 99999
namespace Go.Proofs.YtiiokkllmchohaaGreat
open Go.Value renaming int->J,slice->O,pointer->zP,bool->zB
open Go.IntKind renaming i64->I
open Option renaming none->U,some->M
open Bool renaming true->K,false->F
open Go.Ending renaming returned->zR
open Go.Obj renaming cells->zC
open Go.RowKit
section
attribute [local go_sem ↓] Go.wp_at_zero Go.wp_at_succ
theorem wb{p b a}(c:b=a\/a=2):eF p b a=K:=by
 unfold eF
 rcases c with rfl | rfl <;> simp
theorem Bp{p b a}(c:b≠a)(d:a≠2)(e:a<3):eF p b a=F:=by
 unfold eF;rw[beq_eq_false_iff_ne.2 c,beq_eq_false_iff_ne.2 d,decide_eq_false (by omega)];rfl
theorem Bq{p o}(a:3<=o):eF p 1 o=K:=by
 unfold eF;simp[a]
theorem yJ{p a b}(c:a≠b)(d:b≠2)(e:a≠1)(f:a<3):eF p a b=F:=by
 unfold eF;rw[beq_eq_false_iff_ne.2 c,beq_eq_false_iff_ne.2 d,beq_eq_false_iff_ne.2 e,decide_eq_false (p:=3<=a) (by omega)];simp
theorem Bo{p b a}(c:b≠a)(e:3<=b)(d:3<=a):eF p b a=fD p (b-3) (a-3):=by
 unfold eF;rw[beq_eq_false_iff_ne.2 c,beq_eq_false_iff_ne.2 (show a≠2 by omega),beq_eq_false_iff_ne.2 (show b≠1 by omega),decide_eq_true e,decide_eq_true d];rfl
theorem Gc{a b c d}(e:a.cell? c=M d)(f:Below a.heap.size a b):b.cell? c=M d:=Oq f _ _ e
theorem wA(p x a b c)(r:eQ c x p)(B:ez p p.length)(D:p.length<=4194304)(C:fz p.length a)(A:fz p.length b):
  Calls Tryz.prog 198 #[.agg #[x],J I a,J I b] c λg d=>g=zR (zB (eF p a b))/\Below c.heap.size c d:=by
 have y:=Ou r;obtain⟨i,x,x,j,rfl,_,_,_⟩:=eN r;clear r;obtain⟨G,r⟩:=C;obtain⟨E,r⟩:=A;go_in
 have f:Below c.heap.size c (c.alloc (zC #[O i p.length j] 24)):=ev _ _;have h:(c.alloc (zC #[O i p.length j] 24)).cell? ⟨c.heap.size,0,U⟩=M (O i p.length j):=jM _ _ _ 0
 by_cases k:a=b
 .subst k;go_wp2;go_ret;exact⟨eC (wb (.inl rfl)).symm,f⟩
 by_cases l:b=2
 .subst l;have z:(a == 2)=F:=by simpa using k
  go_wp2;go_ret;exact⟨eC (wb (.inr rfl)).symm,f⟩
 have z:(a == b)=F:=by simpa using k
 have:(b == 2)=F:=by simpa using l
 by_cases m:3<=b
 .have q:decide (3<=b)=K:=decide_eq_true m;go_wp2_with fail;generalize c.alloc _=W at *;refine Calls.mono (wz b W) ?_;rintro g d ⟨rfl,rfl⟩;rw[q];go_wp2_with fail;have n:Below d.heap.size d d.drew:=(ay _ _).drew
  by_cases s:a=1
  .subst s;refine fk (λd=>d.cell? ⟨c.heap.size,0,U⟩=M (O i p.length j)) h λhHeld=>?_;refine iz 17 0 (J I 1) ?_;refine iz 18 1 (zB K) ?_;refine iz 19 2 (zB K) ?_;refine eL 20 3 ?_;refine eL 21 4 ?_;refine eL 22 5 ?_;refine eL 23 6 ?_;refine eL 24 7 ?_;refine eL 25 8 ?_;refine eL 26 9 ?_;refine eL 27 10 ?_;refine eL 28 11 ?_;refine eL 29 12 ?_;refine iz 30 13 (zB K) ?_;refine iz 6 14 (zB K) ?_;refine eV ?_;go_wp2;go_ret;exact⟨eC (Bq m).symm,eu f n⟩
  .have:(a == 1)=F:=(by simpa using s);refine fk (λd=>d.cell? ⟨c.heap.size,0,U⟩=M (O i p.length j)) h λhHeld=>?_;refine iz 17 0 (J I a) ?_;refine iz 18 1 (zB F) ?_;refine iz 19 2 (zB F) ?_;refine iz 20 3 (J I a) ?_;refine el 4 (λo e=>?_);go_simp;refine(wz a _).mono ?_;rintro g r ⟨rfl,rfl⟩
   by_cases t:3<=a
   .have u:decide (3<=a)=K:=decide_eq_true t;rw[u];go_wp2_with fail;refine e.out _ _ h λhHeld=>?_;refine iz 22 5 (zB K) ?_;refine iz 23 6 (.agg #[O i p.length j]) ?_;refine iz 24 7 (J I a) ?_;refine iz 26 9 (J I b) ?_;refine el 8 (λo e=>?_);go_simp;refine(BL a G (by omega) _).mono ?_;rintro g H ⟨rfl,rfl⟩;go_wp2_with fail;refine e.out _ _ h λhHeld=>?_;refine el 10 (λo e=>?_);go_simp;refine(BL b E (by omega) _).mono ?_;rintro g H ⟨rfl,rfl⟩;go_wp2_with fail;refine e.out _ _ h λhHeld=>?_;refine el 11 (λo e=>?_);go_simp;refine(BO p _ (a-3) (b-3) _ (eA (Oq (eu f n)) y) B (by omega) (by omega) D).mono ?_;rintro g i ⟨rfl,w⟩;have v:=Ou (eu n w);clear w;go_wp2_with fail;refine e.out _ _ (Gc h v.out) λhHeld=>?_;refine iz 29 12 (zB (fD p (a-3) (b-3))) ?_;refine iz 30 13 (zB (fD p (a-3) (b-3))) ?_;refine iz 6 14 (zB (fD p (a-3) (b-3))) ?_;refine eV ?_;go_wp2;go_ret;exact⟨eC (Bo k t m).symm,f.trans (v.out.mono f.size)⟩
   .have u:decide (3<=a)=F:=decide_eq_false t;rw[u];go_wp2_with fail;refine e.out _ _ h λhHeld=>?_;refine iz 22 5 (zB F) ?_;refine eL 23 6 ?_;refine eL 24 7 ?_;refine eL 25 8 ?_;refine eL 26 9 ?_;refine eL 27 10 ?_;refine eL 28 11 ?_;refine iz 29 12 (zB F) ?_;refine iz 30 13 (zB F) ?_;refine iz 6 14 (zB F) ?_;refine eV ?_;go_wp2;go_ret;exact⟨eC (yJ k l s (by omega)).symm,eu f n⟩
 .have q:decide (3<=b)=F:=decide_eq_false m;go_wp2_with fail;generalize c.alloc _=W at *;refine Calls.mono (wz b W) ?_;rintro g d ⟨rfl,rfl⟩;rw[q];go_wp2;go_ret;exact⟨eC (Bp k l (by omega)).symm,f⟩
structure ir (s:ef)(cs:Oj):Prop where
 ok:okS s
 len:cs.length=17
 ints:∀v∈cs,∃x,v=J I x
 loc:∀(i:Nat) (x:Int),s.loc[i]? =M x->cs[i]? =M (J I x)
 stk:∀(i:Nat) (x:Int),s.stk[i]? =M x->cs[8+i]? =M (J I x)
 ht:cs[16]? =M (J I (s.stk.length:Int))
theorem ir.one{d b}(c:ir d b):∀a∈b,a.oneCell'=K:=λa b=>by
 obtain⟨d,rfl⟩:=c.ints a b
 rfl
theorem ints_set{c:Oj}(d:∀a∈c,∃x,a=J I x)(e x):∀a∈c.set e (J I x),∃x,a=J I x:=λa c=>by
 rcases bE c with b | b
 .exact d a b
 .exact⟨x,b⟩
def oU (s:ef)(t:Int):ef:= { s with stk:=s.stk++ [t] }
def ru (s:ef):ef:= { s with stk:=s.stk.dropLast }
def pK (s:ef)(i:Nat)(t:Int):ef:= { s with loc:=s.loc.set i t }
theorem ir.push{b f}(c:ir b f)(h)(k:b.stk.length<8):ir (oU b h) ((f.set (8+b.stk.length) (J I h)).set 16 (J I ((b.stk.length:Int)+1))):=by
 have g:=c.len;refine⟨⟨c.ok.1,by simp[oU];omega⟩,by simp[g],ints_set (ints_set c.ints _ _) _ _,λd e a=>?_,λd e a=>?_,?_⟩
 .have i:d<8:=by have:=(ag.1 a).1;have f:=c.ok.1;simp only[oU]at this;omega
  rw[ah (by omega),ah (by omega)];exact c.loc d e a
 .have i:d<b.stk.length+1:=by have:=(ag.1 a).1;simpa[oU]using this
  rw[ah (by omega)]
  by_cases j:d=b.stk.length
  .subst j;rw[aA (by omega)];simp[oU]at a;rw[a]
  .rw [ah (by omega)];refine c.stk d e ?_;simp only[oU]at a;rw[aL (by omega)]at a;exact a
 .rw [aA (by simp[g])];simp[oU]
theorem ir.pop{d f}(b:ir d f)(h:0<d.stk.length):ir (ru d) (f.set 16 (J I ((d.stk.length:Int)-1))):=by
 have f:=b.len;have h:=b.ok.2;refine⟨⟨b.ok.1,by simp[ru];omega⟩,by simp[f],ints_set b.ints _ _,λc e a=>?_,λc e a=>?_,?_⟩
 .have g:c<8:=by have:=(ag.1 a).1;have f:=b.ok.1;simp only[ru]at this;omega
  rw[ah (by omega)];exact b.loc c e a
 .have g:c<d.stk.length-1:=by have:=(ag.1 a).1;simpa[ru]using this
  rw[ah (by omega)];refine b.stk c e ?_;simp only[ru]at a;rw[List.getElem?_dropLast,am (by omega)]at a;exact a
 .rw [aA (by omega)];simp only[ru,aI,aX,Value.int.injEq,true_and];omega
theorem ir.set{h f}(b:ir h f)(c i)(j:c<8):ir (pK h c i) (f.set c (J I i)):=by
 have i:=b.len;have f:=b.ok.1;have h:=b.ok.2;refine⟨⟨by simp[pK,f],h⟩,by simp[i],ints_set b.ints _ _,λd e a=>?_,λd e a=>?_,?_⟩
 .simp only [pK,List.getElem?_set]at a;rw[List.getElem?_set]
  by_cases g:c=d
  .subst g;rw[am rfl]at a ⊢;rw[am (by omega)]at a;rw[am (by omega)];simp only[aX]at a;rw[a]
  .rw [af g]at a ⊢;exact b.loc d e a
 .have:=(ag.1 a).1;simp only[pK]at this;rw[ah (by omega)];exact b.stk d e a
 .rw [ah (by omega)];exact b.ht
theorem ir.CT{d b}(c:ir d b){a}(e:a<8):b[a]? =M (J I (d.loc.getD a 0)):=by
 have:=c.ok.1;refine c.loc a _ ?_;rw[aj,ae (by omega)]
 rfl
theorem ir.getTop{a b}(c:ir a b){x}(hx:a.stk.getLast? =M x):b[8+(a.stk.length-1)]? =M (J I x):=by
 refine c.stk _ x ?_;rw[List.getLast?_eq_getElem?]at hx;exact hx
theorem ir.has{d a}(b:ir d a){i}(c:i<17):∃e,a[i]? =M e:=⟨a[i]'(by rw[b.len];exact c),ae _⟩
theorem EK(c b a)(e:ir c b):Calls Tryz.prog 225 #[.agg b.toArray] a λd f=>d=zR (J I (c.stk.length:Int))/\Below a.heap.size a f:=by
 have:(a.alloc (zC b.toArray 130)).cell? ⟨a.heap.size,16,U⟩=M (J I (c.stk.length:Int)):=by rw[jM];simpa using e.ht
 go_in
 go_wp2;go_ret;exact⟨rfl,ev _ _⟩
theorem Nf(c d)(a:Nat)(b)(f:ir c d)(g:a<8):Calls Tryz.prog 204 #[.agg d.toArray,J I (a:Int)] b λe h=>e=zR (J I (c.loc.getD a 0))/\Below b.heap.size b h:=by
 have:(b.alloc (zC d.toArray 130)).cell? ⟨b.heap.size,a,U⟩=M (J I (c.loc.getD a 0)):=by rw[jM];simpa using f.CT g
 have:=fp a;have:(a:Int)<8:=by omega
 generalize c.loc.getD a 0=x at *;go_in
 go_wp2;go_ret;exact⟨rfl,ev _ _⟩
def kI (w:World)(bl:Nat)(pre:Oj)(s:ef):Prop:=pre.length=8/\∃cs,ir s cs/\ed w bl 222 (pre++cs)
theorem kI.lt{b a d e}(c:kI b a d e):a<b.heap.size:=by
 obtain⟨a,a,a,a⟩:=c;exact a.lt
theorem kI.below{w d a b c}(e:kI w a b c)(f:Below w.heap.size w d):kI d a b c:=by
 obtain⟨b,a,c,d⟩:=e;exact⟨b,a,c,d.bl f⟩
theorem xL{a b:Oj}(e:a.length=8)(c d):(a++b).set (8+c) d=a++b.set c d:=by
 rw[List.set_append,af (by omega),e]
 congr 2
 omega
theorem qi{c a:Oj}(d:c.length=8)(b):(c++a)[8+b]? =a[b]? :=by
 rw[aP (by omega),d]
 congr 1
 omega
theorem Kv(c a d e x f):ee (λb=>b=a) c ((c.setCell ⟨a,d,U⟩ x).setCell ⟨a,e,U⟩ f):=
 ((Ow (λb=>b=a) c).setCell (p:=⟨a,d,U⟩) (λ_=>rfl) x).setCell (p:=⟨a,e,U⟩) (λ_=>rfl) f
theorem Ng(a c d b l)(v:kI d b l a)(w:a.stk.length<8):
  Calls Tryz.prog 226 #[zP (M ⟨b,8,U⟩),J I c] d λt h=>t=zR (.tuple #[])/\kI h b l (oU a c)/\ee (λy=>y=b) d h:=by
 obtain⟨e,A,g,f⟩:=v;obtain⟨z,x⟩:=g.has (i:=8+a.stk.length) (by omega);have s:d.cell? ⟨b,24,U⟩=M (J I (a.stk.length:Int)):=by rw[f.cell,show 24=8+16 from rfl,qi e];exact g.ht
 have:d.cell? ⟨b,16+a.stk.length,U⟩=M z:=by rw[f.cell,show 16+a.stk.length=8+(8+a.stk.length) by omega,qi e];exact x
 have:=f.frozen 24;have:=f.frozen (16+a.stk.length);have:=fp a.stk.length;have:(a.stk.length:Int)<8:=by omega
 have j:=f.setCell (16+a.stk.length) (J I c)
 have u:(d.setCell ⟨b,16+a.stk.length,U⟩ (J I c)).cell? ⟨b,24,U⟩=M (J I (a.stk.length:Int)):=by
  rw[j.cell,ah (by omega),show 24=8+16 from rfl,qi e];exact g.ht
 have:=j.frozen 24;have k:=j.setCell 24 (J I ((a.stk.length:Int)+1));have q:=g.push c w;have r:=Kv d b (16+a.stk.length) 24 (J I c) (J I ((a.stk.length:Int)+1));rw[show 16+a.stk.length=8+(8+a.stk.length) by omega,xL e,show 24=8+16 from rfl,xL e]at k;rw[show 8+(8+a.stk.length)=16+a.stk.length by omega]at k;have m:=Ou k;have o:=Ou q;have p:=Ou r;have:Hid (oU a c=oU a c):=rfl;generalize B:a.stk.length=n at *;go_in
 go_wp2
 go_region_held3 (λh=>h.cell? ⟨b,24,U⟩=M (J I (n:Int)))
  (first | (exact s) | (exact u) | go_keep)
  (fail)
 go_wp2;go_end0;exact⟨rfl,⟨e,_,ea o,m.drew⟩,p.drew⟩
theorem st_pop(a x d b s)(w:kI d b s a)(hx:a.stk.getLast? =M x):
  Calls Tryz.prog 227 #[zP (M ⟨b,8,U⟩)] d λe h=>e=zR (J I x)/\kI h b s (ru a)/\ee (λl=>l=b) d h:=by
 obtain⟨f,A,g,k⟩:=w
 have y:0<a.stk.length:=by
  rcases dc a.stk.length with e | e
  .rw [aV e]at hx;cases hx
  .exact e
 have C:=g.ok.2;have z:d.cell? ⟨b,24,U⟩=M (J I (a.stk.length:Int)):=by rw[k.cell,show 24=8+16 from rfl,qi f];exact g.ht
 have B:=k.frozen 24;have i:=k.setCell 24 (J I ((a.stk.length:Int)-1));rw[show 24=8+16 from rfl,xL f]at i;have t:=g.pop y
 have r:(d.setCell ⟨b,24,U⟩ (J I ((a.stk.length:Int)-1))).cell? ⟨b,24,U⟩=M (J I ((a.stk.length:Int)-1)):=by
  have:=i.cell (8+16);rw[qi f]at this;rw[show (24:Nat)=8+16 from rfl,this,aA (by rw[g.len];omega)]
 have j:(d.setCell ⟨b,24,U⟩ (J I ((a.stk.length:Int)-1))).cell? ⟨b,16+(a.stk.length-1),U⟩=M (J I x):=by
  have:=i.cell (8+(8+(a.stk.length-1)));rw[qi f,ah (by omega),g.getTop hx]at this;rw[show 16+(a.stk.length-1)=8+(8+(a.stk.length-1)) by omega];exact this
 have u:=(Ow (λl=>l=b) d).setCell (p:=⟨b,24,U⟩) (λ_=>rfl) (J I ((a.stk.length:Int)-1));have m:=Ou i;have o:=Ou t;have q:=Ou u;generalize a.stk.length=n at *;obtain⟨c,rfl⟩:∃c,n=c+1:=⟨n-1,by omega⟩;have v:((c+1:Nat):Int)-1=(c:Int):=by omega
 rw[v]at r j m o q;rw[show c+1-1=c from rfl]at j;have D:=fp c;have E:(c:Int)<8:=by omega
 go_in
 go_wp2
 go_region_held3 (λh=>h.cell? ⟨b,24,U⟩=M (J I (c:Int))/\h.cell? ⟨b,16+c,U⟩=M (J I x))
  (first | (exact⟨r,j⟩) | go_keep)
  (fail)
 go_wp2;go_ret;exact⟨rfl,⟨f,_,ea o,m.drew⟩,q.drew⟩
theorem xG(p n)(d a:Int)(b)(w:eQ b n p)(k:ez p p.length)(t: -1<=d)(u:d<p.length)(_hz:p.length<=4194304):
  Calls Tryz.prog 201 #[.agg #[n],J I d,J I a] b λr A=>r=zR (zB (fD p d a))/\Below b.heap.size b A:=by
 obtain⟨l,n,n,m,rfl,n,s,z⟩:=eN w;go_in
 go_wp2
 generalize n:b.alloc _=W;have i:Below b.heap.size b W:=n▸ev _ _;have:W.cell? ⟨b.heap.size,0,U⟩=M (O l p.length m):=n▸jM b #[O l p.length m] 24 0
 go_loop [1] (λb=>∃e:Int,-1<=e/\e<p.length/\b=J I e/\fD p d a=fD p e a) (λb=>(intOf b+1).toNat)
 case atStart=>exact ⟨d,t,u,rfl,rfl⟩
 case round=>
  obtain⟨e,b,b,rfl,o⟩:=hrel;have g:=Ou o;clear o
  rcases bV e 0 with v | y
  .go_wp2
   go_ret;exact⟨eC (by rw[ea g,Cf p a v]),i⟩
  .obtain⟨c,rfl⟩:=ax y;have f:c<p.length:=(by omega);obtain rfl:=s (eW f);obtain⟨b,b,b,b,b,b,b⟩:=(z c f).keep (Oq i);have h:=Ou (ae f);generalize p[c]=x at *
   by_cases q:(c:Int)=a
   .have j:((c:Int) == a)=K:=(by simpa using q);go_wp2;go_ret;exact⟨eC (by rw[ea g,wD p k a f h.out,j];rfl),i⟩
   .have j:((c:Int) == a)=F:=(by simpa using q);go_wp2_with fail;have b:=my (k c x (by omega) h);exact⟨⟨x.sup,b.1,by omega,rfl,by rw[ea g,wD p k a f h.out,j];rfl⟩,by simp[intOf];omega⟩
theorem t8(p m a b e)(i:eQ e m p)(u:ez p p.length)(w:p.length<=4194304)(v:fz p.length a)(t:fz p.length b):
  Calls Tryz.prog 154 #[.agg #[m],J I a,J I b] e λh x=>h=zR (zB (eF p a b))/\Below e.heap.size e x:=by
 have n:=Ou i;obtain⟨q,m,m,r,rfl,_,_,_⟩:=eN i;obtain⟨i,i⟩:=v;obtain⟨i,i⟩:=t;have d:Below e.heap.size e (e.alloc (zC #[O q p.length r] 24)):=ev _ _;go_in
 by_cases f:a=b
 .subst f;go_wp2;go_ret;exact⟨eC (wb (.inl rfl)).symm,d⟩
 have:(a == b)=F:=by simpa using f
 by_cases g:b=2
 .subst g;go_wp2;go_ret;exact⟨eC (wb (.inr rfl)).symm,d⟩
 have:(b == 2)=F:=by simpa using g
 by_cases e:b<3
 .have c:=Ou (Bp (p:=p) f g e);go_wp2;go_ret;exact⟨eC c.symm,d⟩
 by_cases j:a=0
 .subst j;have c:=Ou (yJ (p:=p) f g (by omega) (by omega));go_wp2;go_ret;exact⟨eC c.symm,d⟩
 have:(a == 0)=F:=by simpa using j
 by_cases l:a=2
 .subst l;have c:=Ou (yJ (p:=p) f g (by omega) (by omega));go_wp2;go_ret;exact⟨eC c.symm,d⟩
 have:(a == 2)=F:=by simpa using l
 by_cases k:a=1
 .subst k;have c:=Ou (Bq (p:=p) (o:=b) (by omega));go_wp2;go_ret;exact⟨eC c.symm,d⟩
 have:(a == 1)=F:=by simpa using k
 have c:=Ou (Bo (p:=p) f (show 3<=a by omega) (show 3<=b by omega));go_wp2_with fail;refine(xG p _ (a-3) (b-3) _ (eA (Oq d) n) u (by omega) (by omega) w).mono ?_;rintro h a ⟨rfl,s⟩;rw[<-ea c];go_wp2;go_ret;exact⟨rfl,eu d s⟩
end
end Go.Proofs.YtiiokkllmchohaaGreat
