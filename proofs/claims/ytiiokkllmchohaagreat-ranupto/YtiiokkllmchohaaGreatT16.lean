/- Walks of the code's own tests: frames, code, and Form. -/
import Derived.Laws.DeepNot64
import Derived.Test.YtiiokkllmchohaaGreatT06
import Derived.Test.YtiiokkllmchohaaGreatT09
import Derived.Test.YtiiokkllmchohaaGreatT10
import Derived.Test.YtiiokkllmchohaaGreatT13
import Derived.Test.YtiiokkllmchohaaGreatT15
set_option maxHeartbeats 0
set_option maxRecDepth 99999
namespace Go.Proofs.YtiiokkllmchohaaGreat
open Go.Value renaming int->J,slice->O,pointer->zP,bool->zB
open Go.IntKind renaming i64->I
open Option renaming none->U,some->M
open Bool renaming true->K,false->F
open Go.Ending renaming returned->zR
open Go.Obj renaming cells->zC
open Go.RowKit
section
attribute [local go_sem ↓] Go.wp_at_zero Go.wp_at_succ
theorem yW{p b e}(g:b.all (gT p.length)=e)(d c a)(i:eQ a d p)(j:p.length<=4194304)(h:eG 1 (gF a) c b)(l:∀x∈b,I64 x)(k:b.length<=4194304):
  Calls Tryz.prog 222 #[.agg #[d],c] a λf m=>f=zR (zB e)/\Below a.heap.size a m:=g▸GV p d b c a i j h l k
def oO (n:Nat)(m:eh)(f:fT):Bool:=
 decide ((f.locals.length:Int)=m.locals) && decide ((f.stack.length:Int)<=m.stack) && f.locals.all (gT n) && f.stack.all (gT n)
theorem GI(p z c y A B a C D b)(u:eQ b z p)(G:lR b c y A B)(l:eG 1 (gF b) C a.locals)(r:eG 1 (gF b) D a.stack)(L:eM p<=4194304)(s:iB a<=4194304)(o:ug a):
  Calls Tryz.prog 189 #[.agg #[z],fB c y A B,.agg #[J I a.pc,C,D]] b λf N=>f=zR (zB (oO p.length c a))/\Below b.heap.size b N:=by
 have n:p.length<=4194304:=ap (fQ p) L;have t:a.locals.length<=4194304:=by unfold iB at s;omega
 have H:a.stack.length<=4194304:=by unfold iB at s;omega
 have i:=Ou u;have q:=Ou l;have HS:=Ou r;obtain⟨s,_,_,s,rfl,_⟩:=u;obtain⟨⟨s,_,_,s,rfl,_⟩,⟨s,_,_,s,rfl,_⟩,⟨s,_,_,s,rfl,_⟩⟩:=G;obtain⟨s,_,_,s,rfl,_⟩:=l;obtain⟨l,_,_,l,rfl,_⟩:=r;unfold fB
 by_cases g:(a.locals.length:Int)=c.locals
 .have M:((a.locals.length:Int) == c.locals)=K:=by simpa using g
  have j:=Ou (decide_eq_true g)
  by_cases x:(a.stack.length:Int)<=c.stack
  .have k:=Ou (decide_eq_true x);go_in
   go_wp2_with fail;generalize l:((b.alloc _).alloc _).alloc _=W;have d:=qR l;have v:=(p8 l).c0;have w:=(nH l).c2
   cases h:a.locals.all (gT p.length)
   .refine (yW h _ _ _ (eA (Oq d) i) n (fu (Oq d) q) o.2.1 t).mono ?_;rintro f O ⟨rfl,e⟩;go_wp2;go_ret;exact⟨eC (by unfold oO;rw[h,bv,cD]),eu d e⟩
   .refine (yW h _ _ _ (eA (Oq d) i) n (fu (Oq d) q) o.2.1 t).mono ?_;rintro f O ⟨rfl,e⟩;replace v:=Oq e _ _ v;replace w:=Oq e _ _ w;have m:=eu d e;go_wp2_with fail;refine(yW rfl _ _ _ (eA (Oq m) i) n (fu (Oq m) HS) o.2.2 H).mono ?_;rintro f b ⟨rfl,E⟩;go_wp2;go_ret;exact⟨eC (by unfold oO;rw[ea j,ea k,h];rfl),eu m E⟩
  .have k:=Ou (decide_eq_false x);go_in
   go_wp2;go_ret;exact⟨eC (by unfold oO;rw[ea k,bv,cD,cD]),jg _ _ _ _⟩
 .have M:((a.locals.length:Int) == c.locals)=F:=by simpa using g
  have j:=Ou (decide_eq_false g);go_in
  go_wp2;go_ret;exact⟨eC (by unfold oO;rw[ea j,cD,cD,cD]),jg _ _ _ _⟩
theorem wN{c b d a e}:gK c b d (a::e)=(decide (d<a.pc) && (decide (a.pc<b.code.length) && oO c b a) && gK c b a.pc e):=by
 have f:m9 c b a=(decide (a.pc<b.code.length) && oO c b a):=by
  unfold m9 oO
  cases decide (a.pc<b.code.length) <;> cases decide ((a.locals.length:Int)=b.locals) <;> cases decide ((a.stack.length:Int)<=b.stack) <;> cases a.locals.all (gT c) <;> rfl
 rw[gK,f]
theorem BR{p c b j}(l:oO p.length c b=j)(e d f g h i a)(r:eQ a e p)(q:lR a c d f g)(m:eG 1 (gF a) h b.locals)(n:eG 1 (gF a) i b.stack)(t:eM p<=4194304)(o:iB b<=4194304)(s:ug b):
  Calls Tryz.prog 189 #[.agg #[e],fB c d f g,.agg #[J I b.pc,h,i]] a λk u=>k=zR (zB j)/\Below a.heap.size a u:=l▸GI p e c d f g b h i a r q m n t o s
theorem GJ(p S a R T V g)(L:eQ g S p)(c:lR g a R T V)(Q:eM p<=4194304)(u:fI a<=4194304)(ar:pQ a):
  Calls Tryz.prog 132 #[.agg #[S],fB a R T V] g λt ba=>t=zR (zB (gK p.length a (-1) a.frames))/\Below g.heap.size g ba:=by
 have R:a.code.length<=4194304:=by unfold fI at u;omega
 have R:a.frames.length<=4194304:=ap (AC a) u;have ao:=ar.2.2.2.2.2.2;have ab:=Ou L;have aa:=Ou c;obtain⟨R,_,_,R,rfl,_⟩:=L;obtain⟨⟨L,_,_,L,rfl,_⟩,⟨L,_,_,L,rfl,_⟩,ak⟩:=c;obtain⟨c,c,c,c,rfl,_,an,c⟩:=eN ak;have X:=Ou c;unfold fB;go_in
 go_wp2_with fail;generalize c:(g.alloc _).alloc _=W;have C:=oK c;have a0:=(lD c).c0;have a1:=(gI c).c0;have a2:=(gI c).c1;have a3:=(gI c).c2;have a4:=(gI c).c3;have a5:=(gI c).c4;have a6:=(gI c).c5;have a8:=(gI c).c6
 go_loopw [5,11] (λd c wr=>∃(b:Nat) (e:Int),b<=a.frames.length/\c=J I b/\d=J I e/\0<=e/\e<=a.code.length/\gK p.length a (-1) a.frames=gK p.length a (e-1) (a.frames.drop b)/\Below W.heap.size W wr) (λ_ c _=>a.frames.length-(intOf c).toNat)
 case atStart=>exact ⟨0,0,az _,rfl,rfl,by omega,by omega,by rw[List.drop_zero];rfl,ay _ _⟩
 case round=>
  obtain⟨b,e,c,rfl,rfl,c,c,H,k⟩:=hrel;have x:=Ou H;clear H;have E:Below g.heap.size g wr:=eu C k
  by_cases i:b<a.frames.length
  .obtain rfl:=an (eW i);obtain⟨c,c,ad,c,c,K,N⟩:=(X b i).keep (Oq E);have s:=Ou (show gK p.length a (-1) a.frames=gK p.length a (e-1) (a.frames[b]::a.frames.drop (b+1)) by rw[ea x,dg i]);have P:=ao _ (av i);have G:iB a.frames[b]<=4194304:=ap (AB (av i)) u;have Y:=Ou K;have ac:=Ou N;obtain⟨m,_,_,n,rfl,_⟩:=K;obtain⟨o,_,_,q,rfl,_⟩:=N;generalize a.frames[b]=f at *;have c:=Oo ad;have d:=Oq k;have c:=d _ _ a0;have g:=d _ _ a1;have i:=d _ _ a2;have i:=d _ _ a3;have i:=d _ _ a4;have i:=d _ _ a5;have i:=d _ _ a6;have i:=d _ _ a8;have i:=Oo g;have g:=Oo c;clear d;have D:=k.trans ((ev wr (zC #[J I f.pc,O m f.locals.length n,O o f.stack.length q] 42)).mono k.size);have h:=eu C D
   by_cases c:f.pc<e
   .have j:=Ou (show gK p.length a (-1) a.frames=F by rw[ea s,wN,decide_eq_false (by omega)];rfl);go_wp2;go_ret;exact⟨eC j.symm,h⟩
   by_cases c:(a.code.length:Int)<=f.pc
   .have j:=Ou (show gK p.length a (-1) a.frames=F by rw[ea s,wN,decide_eq_false (show ¬f.pc<(a.code.length:Int) by omega),cD,bv];rfl);go_wp2;go_ret;exact⟨eC j.symm,h⟩
   have c:=decide_eq_true (show e-1<f.pc by omega);have d:=decide_eq_true (show f.pc<(a.code.length:Int) by omega);have w:=Ou (show gK p.length a (-1) a.frames=(oO p.length a f && gK p.length a f.pc (a.frames.drop (b+1))) by rw[ea s,wN,c,d];rfl);go_wp2_with fail;have A:=Ou (eA (Oq h) ab);have z:=Ou (aa.keep (Oq h));have y:=Ou (fu (kK wr (zC #[J I f.pc,O m f.locals.length n,O o f.stack.length q] 42)) Y);have B:=Ou (fu (kK wr (zC #[J I f.pc,O m f.locals.length n,O o f.stack.length q] 42)) ac);have v:=jM wr #[J I f.pc,O m f.locals.length n,O o f.stack.length q] 42 0;obtain⟨r,rfl⟩:∃r:World,r=wr:=⟨_,rfl⟩;generalize r.alloc _=Z at *;replace v:Z.cell? ⟨r.heap.size,0,U⟩=M (J I f.pc):=v
   cases l:oO p.length a f
   .refine (BR l _ _ _ _ _ _ _ A z y B Q G P).mono ?_;rintro t bc ⟨rfl,j⟩;go_wp2;go_ret;exact⟨eC (by rw[ea w,l];rfl),eu h j⟩
   .refine (BR l _ _ _ _ _ _ _ A z y B Q G P).mono ?_;rintro t bc ⟨rfl,j⟩;have c:=Oq j _ _ v;go_wp2_with fail;exact⟨⟨b+1,f.pc+1,by omega,by go_num,by go_num,by omega,by omega,by rw[ea w,l,bO,Int.add_sub_cancel],eu D j⟩,by simp[intOf];omega⟩
  .go_wp2
   go_ret;have:a.frames.drop b= []:=ct (by omega);exact⟨eC (by rw[ea x,this];rfl),E⟩
def oM (p:On)(m:eh):Bool:= !(decide (m.code.length<1) || decide (40<m.code.length)) && m.code.all (eU p m)
theorem CQ{e d}:∀(b:List fT) (a:Int),-1<=a->gK e d a b=K->a+b.length<d.code.length\/b= []
 | [], _, _, _ => .inr rfl
 | f :: r, a, hl, h => by
  rw[wN]at h;simp only[aD,decide_eq_true_eq]at h
  rcases CQ r f.pc (by omega) h.2 with c | c
  .left
   simp only[bA];omega
  .subst c
   left
   simp only[bA,cT];omega
theorem Gy(p a):gY p a=(oM p a && gK p.length a (-1) a.frames):=by
 unfold gY oM
 by_cases c:a.code.length<1
 .rw [decide_eq_true c,decide_eq_false (by omega:¬1<=a.code.length)];rfl
 by_cases d:40<a.code.length
 .rw [decide_eq_true d,Bool.or_true,decide_eq_false (by omega:¬a.code.length<=40),bv];rfl
 rw[decide_eq_false c,decide_eq_false d,decide_eq_true (by omega:1<=a.code.length),decide_eq_true (by omega:a.code.length<=40)]
 cases e:gK p.length a (-1) a.frames
 .rw [bv,bv]
 .have:a.frames.length<=40:=by
   rcases CQ a.frames (-1) (by omega) e with b | b
   .omega
   .rw [b];simp
  rw[decide_eq_true this];simp
theorem BU{p e c o}(r:eU p e c=o)(f g j l i h k n m d)(t:eQ d f p)(u:ez p p.length)(v:eM p<=4194304)(s:e.code.length<=4194304):
  Calls Tryz.prog 188 (mJ f e g j l i h k n m c.op c.a c.b) d λq w=>q=zR (zB o)/\Below d.heap.size d w:=r▸GO p f e g j l i h k n m c d t u v s
theorem GD(p P c O Q R g)(H:eQ g P p)(ad:lR g c O Q R)(L:ez p p.length)(N:eM p<=4194304)(ak:fI c<=4194304):
  Calls Tryz.prog 131 #[.agg #[P],fB c O Q R] g λl a5=>l=zR (zB (oM p c))/\Below g.heap.size g a5:=by
 have D:c.code.length<=4194304:=by unfold fI at ak;omega
 have Y:=Ou H;obtain⟨O,_,_,O,rfl,_⟩:=H;obtain⟨⟨r,_,_,s,rfl,_⟩,ab,⟨w,_,_,x,rfl,_⟩⟩:=ad;obtain⟨H,t,v,u,rfl,_,ac,H,O,P⟩:=GY ab;have S:=Ou H;have T:=Ou O;have V:=Ou P;unfold fB
 by_cases e:c.code.length<1
 .have y:(c.code.length:Int)<1:=by omega
  have d:=Ou (show oM p c=F by unfold oM;rw[decide_eq_true e];rfl);go_in
  go_wp2;go_ret;exact⟨eC d.symm,gS _ _ _⟩
 by_cases z:40<c.code.length
 .have y:¬(c.code.length:Int)<1:=by omega
  have aa:(40:Int)<c.code.length:=by omega
  have d:=Ou (show oM p c=F by unfold oM;rw[decide_eq_true z,Bool.or_true];rfl);go_in
  go_wp2;go_ret;exact⟨eC d.symm,gS _ _ _⟩
 have y:¬(c.code.length:Int)<1:=by omega
 have aa:¬(40:Int)<c.code.length:=by omega
 have o:=Ou (show oM p c=c.code.all (eU p c) by unfold oM;rw[decide_eq_false e,decide_eq_false z];rfl);go_in
 go_wp2_with fail;generalize e:(g.alloc _).alloc _=W;have B:=oK e;have an:=(lD e).c0;have ao:=(gI e).c0;have ar:=(gI e).c1;have a0:=(gI e).c2;have a1:=(gI e).c3;have a2:=(gI e).c4;have a3:=(gI e).c5;have a4:=(gI e).c6
 go_loopw [20] (λe wr=>∃d:Nat,d<=c.code.length/\e=J I d/\(c.code.take d).all (eU p c)=K/\Below W.heap.size W wr) (λe _=>c.code.length-(intOf e).toNat)
 case atStart=>exact ⟨0,az _,rfl,rfl,ay _ _⟩
 case round=>
  obtain⟨d,e,rfl,e,j⟩:=hrel;have n:=Ou e;have E:Below g.heap.size g wr:=eu B j
  by_cases h:d<c.code.length
  .obtain rfl:=ac (eW h);have e:=Oq E;have Z:=e _ _ (S d h);have g:=e _ _ (T d h);have g:=e _ _ (V d h);have X:=Ou (λe:eU p c c.code[d]=F=>rU (f:=eU p c) h e);have A:=mH (f:=eU p c) h;rw[n.out]at A;have HS:=Ou A;generalize c.code[d]=i at *;have e:=Oq j;have g:=e _ _ an;have h:=e _ _ ao;have:=e _ _ ar;have:=e _ _ a0;have:=e _ _ a1;have:=e _ _ a2;have:=e _ _ a3;have:=e _ _ a4;have:=Oo h;have:=Oo g;have:=Oo Z;have C:=j.trans ((ev wr (zC #[J I i.op,J I i.a,J I i.b] 60)).mono j.size);have G:=eu B C;have q:=Ou (eA (Oq G) Y);go_wp2_with fail
   cases k:eU p c i
   .refine Calls.mono (BU k _ r (M ⟨t,v,U⟩) w c.args.length s u c.frames.length x _ q L N D) ?_;rintro l a6 ⟨rfl,m⟩;go_wp2;go_ret;exact⟨eC (by rw[ea o,ea X k]),eu G m⟩
   .refine Calls.mono (BU k _ r (M ⟨t,v,U⟩) w c.args.length s u c.frames.length x _ q L N D) ?_;rintro l a6 ⟨rfl,m⟩;go_wp2_with fail;exact⟨⟨d+1,by omega,by go_num,by rw[ea HS,k];rfl,eu C m⟩,by simp[intOf];omega⟩
  .go_wp2
   go_ret;exact⟨eC (by rw[ea o,<-n.out,aH (by omega)]),E⟩
theorem BN{p b g}(i:oM p b=g)(d c e f a)(l:eQ a d p)(j:lR a b c e f)(m:ez p p.length)(n:eM p<=4194304)(k:fI b<=4194304):
  Calls Tryz.prog 131 #[.agg #[d],fB b c e f] a λh o=>h=zR (zB g)/\Below a.heap.size a o:=i▸GD p d b c e f a l j m n k
theorem BS{p a g}(i:gK p.length a (-1) a.frames=g)(d c e f b)(l:eQ b d p)(j:lR b a c e f)(n:eM p<=4194304)(k:fI a<=4194304)(m:pQ a):
  Calls Tryz.prog 132 #[.agg #[d],fB a c e f] b λh o=>h=zR (zB g)/\Below b.heap.size b o:=i▸GJ p d a c e f b l j n k m
theorem GA(p a3 c)(V:eQ c a3 p)(ao:ez p p.length)(b5:je p)(h:eM p<=4194304):
  Calls Tryz.prog 69 #[.agg #[a3]] c λj b8=>j=zR (zB (p.all λx=>x.ek.all (gY p)))/\Below c.heap.size c b8:=by
 have:p.length<=4194304:=ap (fQ p) h;have a6:=Ou V;obtain⟨a3,a3,a3,a3,rfl,_,bM,a3⟩:=eN V;have a8:=Ou a3;go_in
 go_wp2_with fail;generalize V:c.alloc _=W;have X:=qQ V;have bn:=(bx1 V).c0
 go_loopw [10] (λc wr=>∃a:Nat,a<=p.length/\c=J I a/\(p.take a).all (λx=>x.ek.all (gY p))=K/\Below W.heap.size W wr) (λc _=>p.length-(intOf c).toNat)
 case atStart=>exact ⟨0,az _,rfl,rfl,ay _ _⟩
 case round=>
  obtain⟨a,V,rfl,V,l⟩:=hrel;have G:=Ou V;obtain⟨i,rfl⟩:∃i:World,i=wr:=⟨_,rfl⟩;have ac:Below c.heap.size c i:=eu X l
  by_cases g:a<p.length
  .obtain rfl:=bM (eW g);obtain⟨V,V,bf,V,V,br,bI⟩:=(a8 a g).keep (Oq ac);have b6:=(b5 _ (av g)).2.2;have a0:gV p[a]<=4194304:=ap (kE (av g)) h;have M:=Ou (λc:p[a].ek.all (gY p)=F=>rU (f:=λx:eb=>x.ek.all (gY p)) g c);have T:=mH (f:=λx:eb=>x.ek.all (gY p)) g;rw[G.out]at T;have HS:=Ou T;generalize p[a]=x at *;obtain⟨R,_,_,S,rfl,_⟩:=br;obtain⟨a1,g,g,a2,rfl,g,bz,g⟩:=eN bI;have a5:=Ou g;have:x.ek.length<=4194304:=ap (mO x) a0;have:=Oo bf;have bh:=Oq l _ _ bn;go_wp2_with fail;have ab:=l.trans ((ev i (zC #[J I x.sup,O R x.fields.length S,O a1 x.ek.length a2] 66)).mono l.size);have ak:=kK i (zC #[J I x.sup,O R x.fields.length S,O a1 x.ek.length a2] 66);generalize i.alloc _=Z at *;have a4:=Ou ak;have be:=ak _ _ bh;have ad:=eu X ab
   go_loopw [17] (λc wr=>∃b:Nat,b<=x.ek.length/\c=J I b/\(x.ek.take b).all (gY p)=K/\Below Z.heap.size Z wr) (λc _=>x.ek.length-(intOf c).toNat)
   case atStart=>exact ⟨0,az _,rfl,rfl,ay _ _⟩
   case round=>
    obtain⟨b,g,rfl,g,e⟩:=hrel;have H:=Ou g;have:Below c.heap.size c wr:=eu ad e
    by_cases k:b<x.ek.length
    .obtain rfl:=bz (eW k);obtain⟨c,c,c,r,b7,c,c,c,c,c,c⟩:=((a5 b k).keep a4).keep (Oq e);have c:=av k;have ar:=b6 _ c;have n:fI x.ek[b]<=4194304:=ap (qz c) a0;have L:=Ou (λc:gY p x.ek[b]=F=>rU (f:=gY p) k c);have U:=mH (f:=gY p) k;rw[H.out]at U;have ba:=Ou U;generalize x.ek[b]=m at *;have bc:=Ou r;obtain⟨v,_,_,w,rfl,_⟩:=r.1;obtain⟨y,_,_,z,rfl,_⟩:=r.2.1;obtain⟨A,_,_,B,rfl,_⟩:=r.2.2;have:=Oo b7;have Q:=Oq e _ _ be;have:=Oo Q;go_wp2_with fail;have aa:=e.trans ((ev wr (zC #[J I m.slot,O v m.args.length w,J I m.ret,J I m.locals,J I m.stack,O y m.code.length z,O A m.frames.length B] 63)).mono e.size);have an:=kK wr (zC #[J I m.slot,O v m.args.length w,J I m.ret,J I m.locals,J I m.stack,O y m.code.length z,O A m.frames.length B] 63);have bk:=Oz wr #[J I m.slot,O v m.args.length w,J I m.ret,J I m.locals,J I m.stack,O y m.code.length z,O A m.frames.length B] 63;obtain⟨E,rfl⟩:∃E:World,E=wr:=⟨_,rfl⟩;generalize E.alloc _=Y at *;have u:=Ou (bc.keep an);have D:=eu ad aa;have s:=Ou (eA (Oq D) a6);have cb:=an _ _ Q;have t:=Ou (Gy p m)
     cases o:oM p m
     .refine Calls.mono (BN o _ _ _ _ _ s u ao h n) ?_;rintro j b9 ⟨rfl,d⟩;go_wp2;go_ret;exact⟨eC (M (L (by rw[ea t,o];rfl))).symm,eu D d⟩
     .refine Calls.mono (BN o _ _ _ _ _ s u ao h n) ?_;rintro j b9 ⟨rfl,d⟩;obtain⟨⟨c,c,c,c,c,c,c⟩,_⟩:=yO (bk.bl d);have:=Oq d _ _ cb;have bo:=eu aa d;have bs:=eu D d;have N:=Ou (eA (Oq d) s);have P:=Ou (u.keep (Oq d));go_wp2_with fail
      cases q:gK p.length m (-1) m.frames
      .refine Calls.mono (BS q _ _ _ _ _ N P h n ar) ?_;rintro j ca ⟨rfl,C⟩;go_wp2;go_ret;exact⟨eC (M (L (by rw[ea t,q,bv]))).symm,eu bs C⟩
      .refine Calls.mono (BS q _ _ _ _ _ N P h n ar) ?_;rintro j ca ⟨rfl,C⟩;go_wp2_with fail;exact⟨⟨b+1,by omega,by go_num,by rw[ea ba,ea t,o,q];rfl,eu bo C⟩,by simp[intOf];omega⟩
    .go_wp2
     have d:x.ek.all (gY p)=K:=(by rw[<-H.out,aH (by omega)]);exact⟨⟨a+1,by omega,by go_num,by rw[ea HS,d];rfl,eu ab e⟩,by simp[intOf];omega⟩
  .go_wp2
   go_ret;exact⟨eC (by rw[<-G.out,aH (by omega)]),ac⟩
theorem BK{p c}(e:nK p=c)(b a)(f:eQ a b p)(g:je p)(h:eM p<=4194304):
  Calls Tryz.prog 68 #[.agg #[b]] a λd i=>d=zR (zB c)/\Below a.heap.size a i:=e▸GC p b a f g h
theorem BH{p c}(e:(p.all λx=>x.ek.all (gY p))=c)(b a)(f:eQ a b p)(g:ez p p.length)(h:je p)(i:eM p<=4194304):
  Calls Tryz.prog 69 #[.agg #[b]] a λd j=>d=zR (zB c)/\Below a.heap.size a j:=e▸GA p b a f g h i
theorem BF{p}(a:nK p=K):ez p p.length:=by
 unfold nK at a;simp only[aD]at a;exact E9 a.2.1
theorem BJ(p n c)(m:eQ c n p)(i:je p)(j:eM p<=4194304):
  Calls Tryz.prog 34 #[.agg #[n]] c λb q=>b=zR (J I (fi p))/\Below c.heap.size c q:=by
 have d:=Ou m;have k:=Ou (IB p);obtain⟨n,_,_,n,rfl,_⟩:=m;go_in
 go_wp2_with fail;generalize m:c.alloc _=W;have f:=qQ m;have o:=(bx1 m).c0
 cases a:nK p
 .refine Calls.mono (BK a _ _ (eA (Oq f) d) i j) ?_;rintro b r ⟨rfl,e⟩;go_wp2;go_ret;exact⟨iQ (by rw[ea k,a];rfl),eu f e⟩
 refine Calls.mono (BK a _ _ (eA (Oq f) d) i j) ?_;rintro b r ⟨rfl,e⟩;have:=Oq e _ _ o;have g:=eu f e;go_wp2_with fail
 cases h:(p.all λa=>a.ek.all (gY p))
 .refine Calls.mono (BH h _ _ (eA (Oq g) d) (BF a) i j) ?_;rintro b s ⟨rfl,l⟩;go_wp2;go_ret;exact⟨iQ (by rw[ea k,a,h];rfl),eu g l⟩
 .refine Calls.mono (BH h _ _ (eA (Oq g) d) (BF a) i j) ?_;rintro b s ⟨rfl,l⟩;go_wp2;go_ret;exact⟨iQ (by rw[ea k,a,h];rfl),eu g l⟩
def lJ (why:Int):List PanicEntry:= [{ v:=.iface 119 (.agg #[J I why]),recovered:=F }]
theorem yT(b a):Calls Tryz.prog 140 #[J I b] a λc d=>c= .panicked (lJ b)/\d=a:=by
 go_in
 go_wp2
 exact⟨rfl,rfl,rfl⟩
abbrev yt (α :Type):=World->Nat->Nat->List Value->α->Prop
section
variable {α : Type} {sz : Nat} {R : yt α} {t : TypeId}
end
end
theorem FV{P W}(m y a f z d A)(J:P.underlying m=M (.slice a))(E:P.info? a=M f)(Y:f.zero=M z)(q:f.size=d)(V:f.bytes=A)(ak:z.cells.size=d)(ad:0<d)(u o n t)(G:W.ownsRow u a d o n t)(b)(ac:b.size=d)(Q:∀s∈b.toList,s.oneCell'=K)(h)(T:W.heap.size=h)(S:n+1<=maxLen)(X:(n+1)*A<=140737488355328)(an:u<=W.heap.size):
  ∃p k,(Builtin.append_ #[m,m] y #[o,O (M ⟨h,0,U⟩) 1 1]).run P (W.alloc (zC b a))= .ok p k/\k.ownsRow u a d p (n+1) (t++b.toList)/\
   ee (λr=>o.ownBlock=M r) W k/\(p.ownBlock=o.ownBlock\/∃r,h<=r/\p.ownBlock=M r)/\
   ∀i N,o.ownBlock=M i->ed W i a N->∃l,ed k i a l/\l.take (n*d)=t:=by
 have H:=eX G ((Ow (λ_=>False) W).alloc (zC b a)) (λ_ _ a=>a)
 have F:∀c s,b.toList[c]? =M s->(W.alloc (zC b a)).cell? ((⟨h,0,U⟩:Addr).add c)=M s:=λc s d=>by
  subst T;have:=(Oz W b a).cell c;rw[show (⟨W.heap.size,0,U⟩:Addr).add c=⟨W.heap.size,c,U⟩ by unfold Addr.add;split <;> simp_all,this];exact d
 have x:b.toList.length=1*d:=by simpa using ac
 obtain⟨p,k,I,R,s,_,c⟩:=run_append_own_at (P:=P) (W.alloc (zC b a)) u m y a f z d A J E Y q V ak ad o n t H ⟨h,0,U⟩ 1 1 b.toList x F Q S X (by simp;omega);refine⟨p,k,I,R,((Ow _ W).alloc _).grown s (λr a _=>a),?_,λi N C Z=>?_⟩
 .rcases c with c | c
  .exact .inl c
  .exact .inr ⟨_,by simp[T],c⟩
 .rcases c with c | c
  .rw [C]at c
   rcases R.2 with ⟨rfl,_⟩ | ⟨e,v,l,rfl,_,j,_,_,_,L⟩
   .cases c
   .obtain rfl:e=i:=by simpa[Value.ownBlock]using c
    refine⟨l.toList,by unfold ed;simpa using j,?_⟩;have j:l.toList.take (n*d)=(l.toList.take ((n+1)*d)).take (n*d):=(by rw[dv,cN (bP _ (by omega))]);rw[j,L,<-G.1];exact List.take_left
  .have ab:i≠(W.alloc (zC b a)).heap.size:=by have:=Z.lt;simp;omega
   rcases H.2 with ⟨rfl,_⟩ | ⟨e,v,B,rfl,_,D,d,_,aa,L⟩
   .cases C
   .obtain rfl:e=i:=by simpa[Value.ownBlock]using C
    by_cases d:n+1<=v
    .have i:n*f.size+b.toList.length<=B.size:=(by rw[x,aa,q,<-Nat.add_mul];exact bP _ d);have j:=run_append_room (P:=P) (W.alloc (zC b a)) m y a f J E e n v B D ⟨h,0,U⟩ 1 1 b.toList (by rw[q];exact x) F Q d i;rw[I]at j;simp only[Result.ok.injEq]at j;rw[j.1]at c;simp[Value.ownBlock]at c;exact absurd c (by simpa using ab)
    .have j:=run_append_grow (P:=P) (W.alloc (zC b a)) m y a f z J E Y ⟨e,0,U⟩ n v t (by rw[q];exact G.1) (H.cells (g:=e) rfl) ⟨h,0,U⟩ 1 1 b.toList (by rw[q];exact x) F (by omega) (by simp only[maxLen]at S;omega) (growslice_fits (by omega) (by rw[V];exact X));rw[I]at j;simp only[Result.ok.injEq]at j;refine⟨B.toList,?_,L⟩;rw[j.2];unfold ed;rw[cO _ _ _ (by show e<(W.alloc (zC b a)).heap.size;exact(aY.1 D).1)]
     show (W.alloc (zC b a)).heap[e]? =_
     simpa using D
def j5 (p:Oj)(n:Nat):List Value:=(List.replicate n ()).flatMap λ_=>p
theorem wK(p n):j5 p (n+1)=j5 p n++p:=by
 unfold j5;rw[cC,cG];simp
theorem wJ{p a}(b:p.length=a)(n):(j5 p n).length=n*a:=by
 induction n with
 | zero => simp[j5]
 | succ n a => rw[wK, aw, a, b, cq]
theorem In{p b}(d:p.length=b){n c a}(e:c<n)(g:a<b):(j5 p n)[c*b+a]? =p[a]? :=by
 unfold j5;rw[OG (f:=λ(_:Unit)=>p) (s:=b) (λ_=>d) _ c a g];simp[e]
structure fZ where
 a:Option Nat
 len:Nat
 cap:Nat
 m:Int
def fZ.sl (e:fZ):Value:=O (e.a.map λg=>⟨g,0,U⟩) e.len e.cap
def fZ.mv (e:fZ):Value:=J I e.m
def sQ (w:World)(ei:TypeId)(sz:Nat)(pat:Int->List Value)(e:fZ):Prop:=(e.a=U->e.len=0)/\e.len<=1048576/\∀g,e.a=M g->∃cs,ed w g ei cs/\cs.take (e.len*sz)=j5 (pat e.m) e.len
theorem sQ.mods{w w' f h g c e}(d:sQ w f h g c)(j:ee e w w')(i:∀b,c.a=M b->¬e b):sQ w' f h g c:=
 ⟨d.1,d.2.1,λb c=>by obtain⟨cs,e,f⟩:=d.2.2 b c;exact⟨cs,e.mods j (i b c),f⟩⟩
def oq:Nat->TypeId
 | 0 => 40
 | 1 => 61
 | 2 => 36
 | 3 => 64
 | 4 => 22
 | _ => 51
def oQ:Nat->TypeId
 | 0 => 43
 | 1 => 60
 | 2 => 42
 | 3 => 63
 | 4 => 66
 | _ => 3
def iW:Nat->Nat
 | 0 => 1
 | 1 => 3
 | 2 => 3
 | 3 => 7
 | 4 => 3
 | _ => 1
def jS:Nat->Int->List Value
 | 0, m => [J I m]
 | 1, m => [J I m,J I 0,J I 0]
 | 2, m => [J I m,O U 0 0,O U 0 0]
 | 3, m => [J I m,O U 0 0,J I 0,J I 0,J I 0,O U 0 0,O U 0 0]
 | 4, m => [J I m,O U 0 0,O U 0 0]
 | _, m => [J I m]
def OK (cs:Oj)(f k:Nat):Prop:=∃v,cs[f]? =M v/\v.ownBlock=M k
def fty (f:Nat):TypeId:=if f % 2=1 then oq ((f-7) / 2) else 3
structure iK (w:World)(bh:Nat)(cs:Oj)(n:Nat)(es:Nat->List fZ)(rs:Nat->List Value):Prop where
 hands:mD w bh cs
 nil:∀j,j<6->cs[j]? =M (O U 0 0)
 c6:cs[6]? =M (J I (n:Int))
 row:∀f,7<=f->f<19->∃v,cs[f]? =M v/\w.ownsRow (bh+1) (fty f) 1 v (rs f).length (rs f)
 apart:∀f f' k,OK cs f k->OK cs f' k->f=f'
 ent:∀i,i<6->∀e∈es i,sQ w (oQ i) (iW i) (jS i) e
 off:∀i,i<6->∀e∈es i,∀g,e.a=M g->g≠bh/\∀f,¬OK cs f g
def jl (es:Nat->List fZ)(f:Nat):List Value:=if f % 2=1 then (es ((f-7) / 2)).map fZ.sl else (es ((f-8) / 2)).map fZ.mv
abbrev km (w:World)(bh:Nat)(cs:Oj)(n:Nat)(es:Nat->List fZ):Prop:=iK w bh cs n es (jl es)
def upd {α :Type}(g:Nat->α)(i:Nat)(x: α):Nat->α :=λj=>if j=i then x else g j
theorem qD{α}(b a)(x: α):upd b a x a=x:=by unfold upd;rw[am rfl]
theorem upd_ne{α}(b){c a}(x: α)(d:a≠c):upd b c x a=b a:=by unfold upd;rw[af d]
section
variable {w w' : World} {bh : Nat} {cs : List Value} {n : Nat} {es : Nat -> List fZ} {rs : Nat -> List Value}
theorem iK.own(d:iK w bh cs n es rs){a e}(h:OK cs a e):(7<=a/\a<19)/\bh<e/\e<w.heap.size:=by
 obtain⟨j,c,f⟩:=h;have:=d.hands.2;have:a<cs.length:=(ag.1 c).1
 rcases bt a 6 with b | b
 .rw [d.nil a b]at c;cases c;cases f
 rcases Nat.eq_or_lt_of_le b with b | b
 .subst b;rw[d.c6]at c;cases c;cases f
 .obtain⟨h,g,i⟩:=d.row a b (by omega);rw[c]at g
  cases g
  have:=i.lt e f;omega
theorem iK.mods{d}(b:iK w bh cs n es rs)(g:ee d w w')(j:¬d bh)(m:∀i h,OK cs i h->¬d h)(l:∀c,c<6->∀e∈es c,∀f,e.a=M f->¬d f):iK w' bh cs n es rs:=
 ⟨⟨b.hands.1.mods g j,b.hands.2⟩,b.nil,b.c6,λc k i=>by obtain⟨h,d,j⟩:=b.row c k i;exact⟨h,d,eX j g (λf b=>m _ f ⟨h,d,b⟩)⟩,b.apart,λc d e f=>(b.ent c d e f).mods g (l c d e f),b.off⟩
theorem iK.congr{rs'}(b:iK w bh cs n es rs)(e:∀a,7<=a->a<19->rs a=rs' a):iK w bh cs n es rs':=
 ⟨b.hands,b.nil,b.c6,λa d c=>by rw[<-e a d c];exact b.row a d c,b.apart,b.ent,b.off⟩
theorem iK.mark (d:iK w bh cs n es rs)(f:Nat)(l:mD w' bh (cs.set 6 (J I (f:Int))))(j:ee (λb=>b=bh) w w'):iK w' bh (cs.set 6 (J I (f:Int))) f es rs/\∀a b,OK (cs.set 6 (J I (f:Int))) a b->OK cs a b:=by
 have:=d.hands.2
 have i:∀a b,OK (cs.set 6 (J I (f:Int))) a b->OK cs a b:=λa b j=>by
  obtain⟨g,e,h⟩:=j
  by_cases c:a=6
  .subst c;rw[aA (by omega)]at e
   cases e;cases h
  .rw [ah (λa=>c a.symm)]at e;exact⟨g,e,h⟩
 refine⟨⟨l,λl f=>by rw[ah (by omega)];exact d.nil l f,aA (by omega),λa k h=>?_,λa m b k l=>d.apart a m b (i _ _ k) (i _ _ l),λh g c f=>(d.ent h g c f).mods j (λb e=>(d.off h g c f b e).1),λh g c f b e=>⟨(d.off h g c f b e).1,λa j=>(d.off h g c f b e).2 a (i _ _ j)⟩⟩,i⟩;obtain⟨g,e,f⟩:=d.row a k h;exact⟨g,by rw[ah (by omega)];exact e,eX f j (λb e=>by have:=f.lt b e;omega)⟩
theorem iK.push(c:iK w bh cs n es rs){f}(V:7<=f)(R:f<19){tt i0 z bytes}(ao:Tryz.prog.underlying tt=M (.slice (fty f)))(j:Tryz.prog.info? (fty f)=M i0)(ar:i0.zero=M z)(an:i0.size=1)(ac:i0.bytes=bytes)(a0:z.cells.size=1)(ad:bytes<=24)(x)(hx:x.oneCell'=K)(a1:(rs f).length+1<=268435456){H}(Y:w.heap.size=H){s}(B:cs[f]? =M s):
  ∃m o l,(Builtin.append_ #[tt,tt] tt #[s,O (M ⟨H,0,U⟩) 1 1]).run Tryz.prog (w.alloc (zC #[x] (fty f)))= .ok (O m ((rs f).length+1) o) l/\ed l bh 53 cs/\
   iK (l.setCell ⟨bh,f,U⟩ (O m ((rs f).length+1) o)) bh (cs.set f (O m ((rs f).length+1) o)) n es (upd rs f (rs f++ [x]))/\
   ee (λk=>k=bh\/s.ownBlock=M k) w (l.setCell ⟨bh,f,U⟩ (O m ((rs f).length+1) o))/\w.heap.size<=l.heap.size/\
   ∀e k,OK (cs.set f (O m ((rs f).length+1) o)) e k->OK cs e k\/w.heap.size<=k:=by
 have ak:=c.hands.2;have:=c.hands.1.lt;obtain⟨a1,Q,N⟩:=c.row f V R;rw[B]at Q
 cases Q
 have:((rs f).length+1)*bytes<=((rs f).length+1)*24:=Nat.mul_le_mul_left _ ad;obtain⟨Q,l,ab,I,G,F⟩:=iN (P:=Tryz.prog) (W:=w) tt tt (fty f) i0 z 1 bytes ao j ar an ac a0 (by decide) (bh+1) s (rs f).length (rs f) N #[x] rfl (by simpa using hx) H Y (by unfold maxLen;omega) (by omega) (by omega);obtain⟨m,o,rfl⟩:=fd I;have Q:∀k,s.ownBlock=M k->k≠bh:=λk h=>by have:=N.lt k h;omega
 have L:ed l bh 53 cs:=c.hands.1.mods G (λb=>Q bh b rfl);have E:ee (λk=>k=bh\/s.ownBlock=M k) w (l.setCell ⟨bh,f,U⟩ (O m ((rs f).length+1) o)):=(G.mono (λ_ _ b=>.inr b)).setCell (p:=⟨bh,f,U⟩) (λ_=>.inl rfl) _;have Z:ee (λk=>k=bh) l (l.setCell ⟨bh,f,U⟩ (O m ((rs f).length+1) o)):=(Ow (λk=>k=bh) l).setCell (p:=⟨bh,f,U⟩) (λ_=>rfl) _
 have A:∀e k,OK (cs.set f (O m ((rs f).length+1) o)) e k->(e≠f/\OK cs e k)\/(e=f/\(OK cs f k\/w.heap.size<=k)):=λe k u=>by
  obtain⟨t,d,h⟩:=u
  by_cases b:e=f
  .subst b;rw[aA (by omega)]at d;simp only[aX]at d;subst d;refine .inr ⟨rfl,?_⟩
   rcases F with F | ⟨g,J,D⟩
   .exact .inl ⟨s,B,F▸h⟩
   .rw [D]at h
    cases h
    exact .inr (by omega)
  .rw [ah (λx=>b x.symm)]at d;exact .inl ⟨b,t,d,h⟩
 have aa:∀i,i<6->∀b∈es i,∀g,b.a=M g->¬(g=bh\/s.ownBlock=M g):=λi j b q g r h=>by
  rcases h with h | h
  .exact (c.off i j b q g r).1 h
  .exact (c.off i j b q g r).2 f ⟨s,B,h⟩
 refine⟨m,o,l,ab,L,⟨⟨L.setCell f _,by rw[aO];exact ak⟩,λm l=>by rw[ah (by omega)];exact c.nil m l,by rw[ah (by omega)];exact c.c6,λe X T=>?_,λv y k J D=>?_,λi j b q=>(c.ent i j b q).mods E (aa i j b q),λi j b q g r=>⟨(c.off i j b q g r).1,λe u=>?_⟩⟩,E,G.size,λe k u=>?_⟩
 .by_cases b:e=f
  .subst b;refine⟨_,aA (by omega),?_⟩;rw[qD,aw];exact eX (S:=λk=>k=bh) I Z (λg b=>by have:=I.lt g b;omega)
  .obtain⟨t,d,C⟩:=c.row e X T;rw[upd_ne _ _ b];refine⟨t,by rw[ah (λx=>b x.symm)];exact d,eX C E (λg r h=>?_)⟩
   rcases h with h | h
   .have:=C.lt g r;omega
   .exact b (c.apart e f g ⟨t,d,r⟩ ⟨s,B,h⟩)
 .rcases A v k J with ⟨h,d⟩ | ⟨rfl,d⟩ <;> rcases A y k D with ⟨C,t⟩ | ⟨C,t⟩
  .exact c.apart v y k d t
  .subst C
   rcases t with t | t
   .exact c.apart v y k d t
   .have:=c.own d;omega
  .rcases d with d | d
   .exact c.apart v y k d t
   .have:=c.own t;omega
  .exact C.symm
 .rcases A e g u with ⟨_,d⟩ | ⟨_,d | d⟩
  .exact (c.off i j b q g r).2 e d
  .exact (c.off i j b q g r).2 f d
  .obtain⟨h,h,_⟩:=(c.ent i j b q).2.2 g r;have:=h.lt;omega
 .rcases A e k u with ⟨_,d⟩ | ⟨rfl,d | d⟩
  .exact .inl d
  .exact .inl d
  .exact .inr d
end
theorem Io{p d}(c:p.length=d){a n}(e:a<=n):(j5 p n).take (a*d)=j5 p a:=by
 induction n with
 | zero => obtain rfl : a = 0 := by omega
           simp[j5]
 | succ n f =>
  rcases Nat.eq_or_lt_of_le e with b | b
  .subst b;rw[aH (by rw[wJ c];exact ai _)]
  .rw [wK,cI (by rw[wJ c];exact bP _ (by omega))];exact f (by omega)
def KS (bh:Nat)(cs:Oj)(lo hi k:Nat):Prop:=k=bh\/(∃f,OK cs f k)\/(lo<=k/\k<hi)
structure yq (i:Nat)(tO:TypeId)(zI:Value)(bI:Nat):Prop where
 lt:i<6
 uO:Tryz.prog.underlying tO=M (.slice (oq i))
 uI:Tryz.prog.underlying (oq i)=M (.slice (oQ i))
 iO:∃x,Tryz.prog.info? (oq i)=M x/\x.zero=M (O U 0 0)/\x.size=1/\x.bytes=24
 iI:∃x,Tryz.prog.info? (oQ i)=M x/\x.zero=M zI/\x.size=iW i/\x.bytes=bI
 zc:zI.cells.size=iW i
 zp:0<iW i
 bb:bI<=104
 pl:∀m,(jS i m).length=iW i
 po:∀m,∀u∈jS i m,u.oneCell'=K
theorem Jn:(Tryz.prog.info? 3).map (λi=>(i.zero,i.size,i.bytes))=M (M (J I 0),1,8):=by kernel_rfl
structure oD (w wr:World)(bh:Nat)(cs:Oj)(n:Nat)(es:Nat->List fZ)(lo hi i:Nat)(m:Int)(L kk:Nat)(vl:Value)(cs':Oj)(es':Nat->List fZ):Prop where
 inv:km wr bh cs' n es'
 own:wr.ownsRow lo (oQ i) (iW i) vl (L+kk) (j5 (jS i m) (L+kk))
 off:∀g,vl.ownBlock=M g->g≠bh/\∀f,¬OK cs' f g
 same:∀j,j<6->∀e∈es' j,∀g,e.a=M g->vl.ownBlock=M g->j=i/\e.m=m/\e.len<=L+kk
 mods:ee (KS bh cs lo hi) w wr
 rows:∀f k,OK cs' f k->OK cs f k\/w.heap.size<=k
 ents:∀j,j<6->∀e∈es' j,∀g,e.a=M g->(∃e0∈es j,e0.a=M g)\/(lo<=g/\g<hi)\/w.heap.size<=g
 lies:∀g,vl.ownBlock=M g->(lo<=g/\g<hi)\/w.heap.size<=g
 cnt:∀j,j<6->(es' j).length<=(es j).length+kk
 low:lo<=wr.heap.size
theorem Mq(es){i}(b a)(e:7<=a):
  upd (upd (jl es) (7+2*i) (jl es (7+2*i)++ [b.sl])) (8+2*i) (upd (jl es) (7+2*i) (jl es (7+2*i)++ [b.sl]) (8+2*i)++ [b.mv]) a=jl (upd es i (es i++ [b])) a:=by
 by_cases c:a=8+2*i
 .subst c;rw[qD,upd_ne _ _ (by omega)];unfold jl;rw[af (by omega),af (by omega),show (8+2*i-8) / 2=i by omega,qD,aM]
  rfl
 .rw [upd_ne _ _ c]
  by_cases d:a=7+2*i
  .subst d;rw[qD];unfold jl;rw[am (by omega),am (by omega),show (7+2*i-7) / 2=i by omega,qD,aM]
   rfl
  .rw [upd_ne _ _ d];unfold jl
   by_cases b:a % 2=1
   .rw [am b,am b,upd_ne _ _ (by omega)]
   .rw [af b,af b,upd_ne _ _ (by omega)]
theorem zt(i):fty (7+2*i)=oq i:=by unfold fty;rw[am (by omega),show (7+2*i-7) / 2=i by omega]
theorem zr(i):fty (8+2*i)=3:=by unfold fty;rw[af (by omega)]
section
variable {w wr : World} {bh : Nat} {cs : List Value} {n : Nat} {es : Nat -> List fZ} {lo hi i : Nat} {m : Int} {L kk : Nat} {vl : Value} {cs' : List Value} {es' : Nat -> List fZ}
theorem oD.entry (j:oD w wr bh cs n es lo hi i m L kk vl cs' es')(f:L+kk<=1048576):∃b:fZ,b.sl=vl/\b.mv=J I m/\b.len=L+kk/\b.m=m/\b.a=vl.ownBlock/\sQ wr (oQ i) (iW i) (jS i) b:=by
 rcases j.own.2 with ⟨rfl,e⟩ | ⟨d,g,h,rfl,b,c,b,b,b,o⟩
 .refine⟨⟨U,L+kk,0,m⟩,by rw[e];rfl,rfl,rfl,rfl,rfl,λ_=>e,f,λd c=>by cases c⟩
 .refine⟨⟨M d,L+kk,g,m⟩,rfl,rfl,rfl,rfl,rfl,λl=>(by cases l),f,λb k=>?_⟩
  cases k
  exact⟨h.toList,by unfold ed;simpa using c,o⟩
theorem iK.add{j}(b:iK w bh cs n es j){i g}(l:sQ w (oQ i) (iW i) (jS i) g)(o:∀h,g.a=M h->h≠bh/\∀k,¬OK cs k h):iK w bh cs n (upd es i (es i++ [g])) j:=by
 refine⟨b.hands,b.nil,b.c6,b.row,b.apart,λc d f hx=>?_,λc d f hx=>?_⟩
 .by_cases e:c=i
  .subst e;rw[qD]at hx
   rcases aN.1 hx with hx | hx
   .exact b.ent c d f hx
   .rw [aC.1 hx];exact l
  .rw [upd_ne _ _ e]at hx;exact b.ent c d f hx
 .by_cases e:c=i
  .subst e;rw[qD]at hx
   rcases aN.1 hx with hx | hx
   .exact b.off c d f hx
   .rw [aC.1 hx];exact o
  .rw [upd_ne _ _ e]at hx;exact b.off c d f hx
theorem wW{α es i a}{b x: α}(hx:x∈upd es i (es i++ [b]) a):x∈es a\/(a=i/\x=b):=by
 by_cases c:a=i
 .subst c;rw[qD]at hx
  rcases aN.1 hx with hx | hx
  .exact .inl hx
  .exact .inr ⟨rfl,aC.1 hx⟩
 .rw [upd_ne _ _ c]at hx;exact .inl hx
structure FG (w wr:World)(bh:Nat)(cs:Oj)(n:Nat)(es:Nat->List fZ)(lo hi i:Nat)(m:Int)(L kk:Nat)(vl:Value)(tO:TypeId)(cs':Oj)(rn:Nat)(ra ma ra' ma' la':Om)(rc mc rc' mc' lc':Nat)(w1 w3 w5:World):Prop where
 c7:wr.cell? ⟨bh,7+2*i,U⟩=M (O ra rn rc)
 app1:(Builtin.append_ #[tO,tO] tO #[O ra rn rc,O (M ⟨wr.heap.size,0,U⟩) 1 1]).run Tryz.prog (wr.alloc (zC #[vl] (oq i)))= .ok (O ra' (rn+1) rc') w1
 d7:w1.cell? ⟨bh,7+2*i,U⟩=M (O ra rn rc)
 f7:w1.frozen? ⟨bh,7+2*i,U⟩=F
 d8:w1.cell? ⟨bh,8+2*i,U⟩=M (O ma rn mc)
 Oh:(Builtin.append_ #[51,51] 51 #[O ma rn mc,O (M ⟨w1.heap.size,0,U⟩) 1 1]).run Tryz.prog ((w1.setCell ⟨bh,7+2*i,U⟩ (O ra' (rn+1) rc')).alloc (zC #[J I m] 3))= .ok (O ma' (rn+1) mc') w3
 e8:w3.cell? ⟨bh,8+2*i,U⟩=M (O ma rn mc)
 f8:w3.frozen? ⟨bh,8+2*i,U⟩=F
 Oi:(Builtin.append_ #[oq i,oq i] (oq i) #[vl,O (M ⟨w3.heap.size,0,U⟩) 1 1]).run Tryz.prog ((w3.setCell ⟨bh,8+2*i,U⟩ (O ma' (rn+1) mc')).alloc (zC (jS i m).toArray (oQ i)))= .ok (O la' (L+kk+1) lc') w5
 next:∃cs2 es2,oD w w5 bh cs n es lo hi i m L (kk+1) (O la' (L+kk+1) lc') cs2 es2
theorem oD.Ma(e:oD w wr bh cs n es lo hi i m L kk vl cs' es'){a8 b6 ac}(l:yq i a8 b6 ac)(g:kk<4)(eo:L<=1000000)(ce:∀j,j<6->(es j).length<=16777216):
  ∃d5 a5 X u p D a6 Y v q E ab o A,FG w wr bh cs n es lo hi i m L kk vl a8 cs' d5 a5 X u p D a6 Y v q E ab o A:=by
 have be:=l.lt;obtain⟨B,N,ca,ba,bc,ak,cb⟩:=e.entry (by omega);obtain⟨en,ds,d0,d1,d2⟩:=l.iO;obtain⟨ei,ck,cm,cn,cp⟩:=l.iI;obtain⟨ej,cu,cz,cA,dp⟩:=info_parts Jn;have d5:=e.cnt i be;have d5:=ce i be;have b7:=e.inv.add cb (λa c=>e.off a (ak▸c));obtain⟨be,y,bM⟩:=e.inv.row (7+2*i) (by omega) (by omega);obtain⟨be,a1,bk⟩:=e.inv.row (8+2*i) (by omega) (by omega);obtain⟨a5,a6,rfl⟩:=fd bM;obtain⟨X,Y,rfl⟩:=fd bk;have R:(jl es' (7+2*i)).length=(es' i).length:=by unfold jl;rw[am (by omega),show (7+2*i-7) / 2=i by omega,aZ]
 have S:(jl es' (8+2*i)).length=(es' i).length:=by unfold jl;rw[af (by omega),show (8+2*i-8) / 2=i by omega,aZ]
 rw[R]at y bM;rw[S]at a1 bk;have ci:vl.oneCell'=K:=by rw[<-N];rfl
 obtain⟨u,v,ab,br,a2,bs,x,be,Z⟩:=b7.push (f:=7+2*i) (by omega) (by omega) (tt:=a8) (i0:=en) (z:=O U 0 0) (bytes:=24) (by rw[zt];exact l.uO) (by rw[zt];exact ds) d0 d1 d2 rfl (by omega) vl ci (by rw[R];omega) rfl y;rw[zt,R]at br;rw[R]at bs x Z;have R:=e.inv.hands.2;have V:(cs'.set (7+2*i) (O u ((es' i).length+1) v))[8+2*i]? =M (O X (es' i).length Y):=by rw[ah (by omega)];exact a1
 have Q:upd (jl es') (7+2*i) (jl es' (7+2*i)++ [vl]) (8+2*i)=jl es' (8+2*i):=upd_ne _ _ (by omega);obtain⟨p,q,o,bz,bI,a3,aa,R,a4⟩:=bs.push (f:=8+2*i) (by omega) (by omega) (tt:=51) (i0:=ej) (z:=J I 0) (bytes:=8) (by rw[zr];exact Tryz.underlying51) (by rw[zr];exact cu) cz cA dp rfl (by omega) (J I m) rfl (by rw[Q,S];omega) (H:=ab.heap.size) (by simp[World.setCell]) V;rw[zr,Q,S]at bz;rw[Q,S]at a3 aa a4
 -- the list's own row
 have ar:∀a,vl.ownBlock=M a->a<wr.heap.size:=λa c=>(e.own.lt a c).2
 have d3:=eX e.own x (λa c g=>by
  rcases g with g | g
  .exact (e.off a c).1 g
  .exact (e.off a c).2 (7+2*i) ⟨_,y,g⟩)
 have bn:∀a,vl.ownBlock=M a->∀d,¬OK (cs'.set (7+2*i) (O u ((es' i).length+1) v)) d a:=λa c d r=>by
  rcases Z d a r with b | b
  .exact (e.off a c).2 d b
  .have:=ar a c;omega
 have d4:=eX d3 aa (λa c g=>by
  rcases g with g | g
  .exact (e.off a c).1 g
  .exact bn a c (8+2*i) ⟨_,V,g⟩)
 have bo:∀a,vl.ownBlock=M a->∀d,¬OK ((cs'.set (7+2*i) (O u ((es' i).length+1) v)).set (8+2*i) (O p ((es' i).length+1) q)) d a:=λa c d r=>by
  rcases a4 d a r with b | b
  .exact bn a c d b
  .have:=ar a c;have:=x.size;omega
 have bf:wr.heap.size<=(o.setCell ⟨bh,8+2*i,U⟩ (O p ((es' i).length+1) q)).heap.size:=ap x.size aa.size;have R:(L+kk+1)*ac<=(L+kk+1)*104:=Nat.mul_le_mul_left _ l.bb;obtain⟨R,A,d6,b5,F,ec,eg⟩:=FV (P:=Tryz.prog) (W:=o.setCell ⟨bh,8+2*i,U⟩ (O p ((es' i).length+1) q)) (oq i) (oq i) (oQ i) ei b6 (iW i) ac l.uI ck cm cn cp l.zc l.zp lo vl (L+kk) (j5 (jS i m) (L+kk)) d4 (jS i m).toArray (by simpa using l.pl m) (by simpa using l.po m) o.heap.size (by simp[World.setCell]) (by unfold maxLen;omega) (by omega) (ap e.low bf);obtain⟨D,E,rfl⟩:=fd b5
 have d9:A.ownsRow lo (oQ i) (iW i) (O D (L+kk+1) E) (L+(kk+1)) (j5 (jS i m) (L+(kk+1))):=by
  rw[show L+(kk+1)=L+kk+1 from rfl,wK];exact b5
 have cf:∀h,vl.ownBlock=M h->h≠bh:=λh g=>(e.off h g).1
 -- the entries behind the list's own append
 have b8:iK A bh ((cs'.set (7+2*i) (O u ((es' i).length+1) v)).set (8+2*i) (O p ((es' i).length+1) q)) n (upd es' i (es' i++ [B])) (jl (upd es' i (es' i++ [B]))):=by
  have k:=a3.congr (rs':=jl (upd es' i (es' i++ [B]))) (λd an _=>by
   have:=Mq es' (i:=i) B d an;rw[N,ca,Q]at this
   exact this)
  refine⟨⟨k.hands.1.mods F (λg=>cf bh g rfl),k.hands.2⟩,k.nil,k.c6,λd an cc=>?_,k.apart,λj s b hx=>?_,k.off⟩
  .obtain⟨t,C,G⟩:=k.row d an cc;exact⟨t,C,eX G F (λa c g=>bo a g d ⟨t,C,c⟩)⟩
  .have a0:=k.ent j s b hx;refine⟨a0.1,a0.2.1,λa c=>?_⟩;obtain⟨ad,G,b9⟩:=a0.2.2 a c
   by_cases ao:vl.ownBlock=M a
   .have cg:j=i/\b.m=m/\b.len<=L+kk:=by
     rcases wW hx with hx | ⟨C,t⟩
     .exact e.same j s b hx a c ao
     .exact⟨C,by rw[t];exact bc,by rw[t,ba];exact ai _⟩
    obtain⟨rfl,C,t⟩:=cg;obtain⟨k,Q,R⟩:=eg a ad ao G;refine⟨k,Q,?_⟩;have N:k.take (b.len*iW j)=(k.take ((L+kk)*iW j)).take (b.len*iW j):=(by rw[dv,cN (bP _ t)]);rw[N,R,Io (l.pl m) t,C]
   .exact⟨ad,G.mods F (λg=>ao g),b9⟩
 have an:∀a,(O D (L+kk+1) E).ownBlock=M a->vl.ownBlock=M a\/(wr.heap.size<=a/\o.heap.size<=a):=λa c=>by
  rcases ec with b | ⟨h,k,k⟩
  .exact .inl (b▸c)
  .rw [k]at c
   cases c
   have:o.heap.size=(o.setCell ⟨bh,8+2*i,U⟩ (O p ((es' i).length+1) q)).heap.size:=by simp[World.setCell]
   exact .inr ⟨by omega,by omega⟩
 have cc:∀d h,OK ((cs'.set (7+2*i) (O u ((es' i).length+1) v)).set (8+2*i) (O p ((es' i).length+1) q)) d h->OK cs' d h\/wr.heap.size<=h:=λd h r=>by
  rcases a4 d h r with b | b
  .exact Z d h b
  .have:=x.size;exact .inr (by omega)
 have a0:ee (λh=>h=bh\/(∃d,OK cs' d h)\/vl.ownBlock=M h) wr A:=by
  refine((x.mono (T:=λh=>h=bh\/(∃d,OK cs' d h)\/vl.ownBlock=M h) (λh _ g=>?_)).trans aa (λh g k=>?_)).trans F (λh _ g=>.inr (.inr g))
  .rcases g with g | g
   .exact .inl g
   .exact .inr (.inl ⟨_,_,y,g⟩)
  .rcases k with k | k
   .exact .inl k
   .rcases Z (8+2*i) h ⟨_,V,k⟩ with b | b
    .exact .inr (.inl ⟨_,b⟩)
    .omega
 have l:=e.mods.size;refine⟨(es' i).length,a5,X,u,p,D,a6,Y,v,q,E,ab,o,A,⟨by rw[e.inv.hands.1.cell,y],br,by rw[a2.cell,y],a2.frozen _,by rw[a2.cell,a1],bz,by rw[bI.cell,V],bI.frozen _,d6,_,_,b8,d9,λa c=>?_,λj s b hx a c b9=>?_,e.mods.trans a0 (λh g k=>?_),λd h r=>?_,λj s b hx a c=>?_,λa c=>?_,λj s=>?_,ap e.low (ap bf F.size)⟩⟩
 .rcases an a c with b | b
  .exact⟨(e.off a b).1,bo a b⟩
  .refine⟨λB=>by have:=e.inv.hands.1.lt;omega,λd r=>?_⟩;have:=(a3.own r).2.2;have:o.heap.size=(o.setCell ⟨bh,8+2*i,U⟩ (O p ((es' i).length+1) q)).heap.size:=by simp[World.setCell]
   omega
 .rcases an a b9 with ao | ao
  .rcases wW hx with hx | ⟨C,t⟩
   .have:=e.same j s b hx a c ao;exact⟨this.1,this.2.1,by omega⟩
   .exact⟨C,by rw[t];exact bc,by rw[t,ba];omega⟩
  .rcases wW hx with hx | ⟨C,t⟩
   .obtain⟨ad,G,_⟩:=(e.inv.ent j s b hx).2.2 a c;have:=G.lt;omega
   .rw [t,ak]at c;have:=ar a c;omega
 .rcases k with k | ⟨d,k⟩ | k
  .exact .inl k
  .rcases e.rows d h k with b | b
   .exact .inr (.inl ⟨d,b⟩)
   .omega
  .rcases e.lies h k with b | b
   .exact .inr (.inr b)
   .omega
 .rcases cc d h r with b | b
  .exact e.rows d h b
  .exact .inr (by omega)
 .rcases wW hx with hx | ⟨C,t⟩
  .exact e.ents j s b hx a c
  .rw [t,ak]at c;exact .inr (e.lies a c)
 .rcases an a c with b | b
  .exact e.lies a b
  .exact .inr (by omega)
 .have a:=e.cnt j s
  by_cases t:j=i
  .subst t;rw[qD,aw,aS];omega
  .rw [upd_ne _ _ t];omega
end
section
attribute [local go_sem ↓] Go.wp_at_zero Go.wp_at_succ
theorem Iq{p e c:Oj}{sz a}(h:p.length=sz)(k:e.take (a*sz)=j5 p a)(j:∀b,b<a*sz->c[b]? =e[b]?)(i:∀d,d<sz->c[a*sz+d]? =p[d]?):c.take ((a+1)*sz)=j5 p (a+1):=by
 have:(a+1)*sz=a*sz+sz:=by rw[cq]
 apply cM
 intro b;rw[bj,wK];have g:=wJ h a
 by_cases f:b<(a+1)*sz
 .rw [am f]
  by_cases c:b<a*sz
  .rw [j b c,aL (by omega),<-k,bj,am c]
  .rw [aP (by omega),g,<-i (b-a*sz) (by omega)]
   congr 1
   omega
 .rw [af f,cH (by rw[aw,g,h];omega)]
theorem Ir{x}{b:Oj}{a}(d:b.take (a*1)=j5 [x] a)(c:a<b.length):(b.set a x).take ((a+1)*1)=j5 [x] (a+1):=by
 refine Iq (p:= [x]) (sz:=1) rfl d (λb a=>ah (by omega)) (λe a=>?_);obtain rfl:e=0:=by omega
 rw[cE,bK,aA c]
 rfl
structure lQ (w w':World)(bh:Nat)(cs cs':Oj)(es es':Nat->List fZ)(lo hi c:Nat):Prop where
 mods:ee (KS bh cs lo hi) w w'
 rows:∀f k,OK cs' f k->OK cs f k\/w.heap.size<=k
 ents:∀j,j<6->∀e∈es' j,∀g,e.a=M g->(∃e0∈es j,e0.a=M g)\/(lo<=g/\g<hi)\/w.heap.size<=g
 cnt:∀j,j<6->(es' j).length<=(es j).length+4*c
theorem lQ.trans{z A B j n o p r s t l k x v y w m q}(c:lQ z A j n o r s x v m)(i:lQ A B j o p s t y w q)(J:l<=x)(K:v<=k)(L:l<=y)(M:w<=k):lQ z B j n p r t l k (m+q):=by
 have:=c.mods.size;refine⟨(c.mods.mono (λh _ b=>?_)).trans i.mods (λh b d=>?_),λe h G=>?_,λg f C F u H=>?_,λg f=>?_⟩
 .rcases b with b | b | b
  .exact .inl b
  .exact .inr (.inl b)
  .exact .inr (.inr (by omega))
 .rcases d with d | ⟨e,d⟩ | d
  .exact .inl d
  .rcases c.rows e h d with a | a
   .exact .inr (.inl ⟨e,a⟩)
   .omega
  .exact .inr (.inr (by omega))
 .rcases i.rows e h G with a | a
  .exact c.rows e h a
  .exact .inr (by omega)
 .rcases i.ents g f C F u H with ⟨D,I,E⟩ | a | a
  .rcases c.ents g f D I u E with a | a | a
   .exact .inl a
   .exact .inr (.inl (by omega))
   .exact .inr (.inr a)
  .exact .inr (.inl (by omega))
  .exact .inr (.inr (by omega))
 .have:=c.cnt g f;have:=i.cnt g f;omega
structure qH (bh:Nat)(cs:Oj)(es:Nat->List fZ)(lo hi:Nat):Prop where
 hb:¬(lo<=bh/\bh<hi)
 rows:∀f k,OK cs f k->¬(lo<=k/\k<hi)
 ents:∀j,j<6->∀e∈es j,∀g,e.a=M g->¬(lo<=g/\g<hi)
theorem qH.step{s C e i j k l h d q n t}(g:qH e i k h d)(r:lQ s C e i j k l q n t)(x:∀a,h<=a->a<d->¬(q<=a/\a<n))(D:d<=s.heap.size):qH e j l h d:=by
 refine⟨g.hb,λm a z b=>?_,λp o u y f A b=>?_⟩
 .rcases r.rows m a z with c | c
  .exact g.rows m a c b
  .omega
 .rcases r.ents p o u y f A with ⟨v,B,w⟩ | c | c
  .exact g.ents p o v B f w b
  .exact x f b.1 b.2 c
  .omega
theorem iK.Je{j k a b h c i g e}(l:iK j a b h c i)(d:qH a b c g e)(m:ee (λf=>g<=f/\f<e) j k):iK k a b h c i:=
 l.mods m d.hb d.rows d.ents
theorem lQ.fill{d e bh cs es c a}(f:ee (λb=>c<=b/\b<a) d e):lQ d e bh cs cs es es c a 0:=
 ⟨f.mono (λ_ _ a=>.inr (.inr a)),λ_ _ b=>.inl b,λ_ _ a c e d=>.inl ⟨a,c,d⟩,λ_ _=>by omega⟩
theorem lQ.mark{f g c d e es}(k:ee (λa=>a=c) f g)(i:∀b a,OK e b a->OK d b a)(j h):lQ f g c d e es es j h 0:=
 ⟨k.mono (λ_ _ a=>.inl a),λb a c=>.inl (i b a c),λ_ _ a b e d=>.inl ⟨a,b,d⟩,λ_ _=>by omega⟩
theorem oD.fin{j wr b c n e i g l m k h o d f}(a:oD j wr b c n e i g l m k h o d f)(p:h<=4):lQ j wr b c d e f i g 1:=
 ⟨a.mods,a.rows,a.ents,λc b=>by have:=a.cnt c b;omega⟩
def nV (w:World)(ei:TypeId)(sz lo hi:Nat)(v:Value)(L:Nat)(p:Oj)(k:Nat):Prop:=
 (v=O U 0 0/\L=0)\/∃g cap cur,lo<=g/\g<hi/\v=O (M ⟨g,0,U⟩) L cap/\L<=cap/\cap<=maxLen/\ed w g ei cur/\cur.length=cap*sz/\cur.take (k*sz)=j5 p k
theorem nV.own{w e b lo hi f a p}(j:nV w e b lo hi f a p a)(r:p.length=b):w.ownsRow lo e b f a (j5 p a):=by
 rcases j with ⟨rfl,rfl⟩ | ⟨i,g,h,k,b,rfl,o,q,l,m,n⟩
 .exact World.ownsRow_nil _ _ _ _
 .exact⟨wJ r a,.inr ⟨i,g,h.toArray,rfl,k,l,o,q,by simpa using m,by simpa using n⟩⟩
theorem nV.block{w g l lo hi e f p k}(h:nV w g l lo hi e f p k){a}(b:e.ownBlock=M a):lo<=a/\a<hi:=by
 rcases h with ⟨rfl,rfl⟩ | ⟨a,a,a,i,j,rfl,_⟩
 .cases b
 .cases b;exact⟨i,j⟩
theorem nV.start{g f w B lo hi b e s}(l:w.ownsRow B g f b e s)(r:∀a,b.ownBlock=M a->lo<=a/\a<hi)(p):nV w g f lo hi b e p 0:=by
 rcases l.2 with ⟨rfl,rfl⟩ | ⟨a,j,k,rfl,b,m,n,o,q,b⟩
 .exact .inl ⟨rfl,rfl⟩
 .obtain⟨h,i⟩:=r a rfl;exact .inr ⟨a,j,k.toList,h,i,rfl,n,o,by unfold ed;simpa using m,by simpa using q,by simp[j5]⟩
theorem nV.mods{w w' h j lo hi e f p i g}(b:nV w h j lo hi e f p i)(u:ee g w w')(r:∀a,e.ownBlock=M a->¬g a):nV w' h j lo hi e f p i:=by
 rcases b with b | ⟨a,k,l,m,n,rfl,s,t,o,q⟩
 .exact .inl b
 .exact .inr ⟨a,k,l,m,n,rfl,s,t,o.mods u (r a rfl),q⟩
theorem oD.Nj{w bh cs g es lo hi a m b}{v tO zI bI}(i:yq a tO zI bI)(h:km w bh cs g es)(f:qH bh cs es lo hi)(e:nV w (oQ a) (iW a) lo hi v b (jS a m) b)(n:lo<=w.heap.size):oD w w bh cs g es lo hi a m b 0 v cs es:=
 ⟨h,e.own (i.pl m),λg a=>⟨λb=>f.hb (b▸e.block a),λj k=>f.rows j g k (e.block a)⟩,λp l b i g a o=>absurd (e.block o) (f.ents p l b i g a),Ow _ _,λ_ _ h=>.inl h,λ_ _ b i _ a=>.inl ⟨b,i,a⟩,λ_ a=>.inl (e.block a),λ_ _=>ai _,n⟩
structure vR (bh:Nat)(cs:Oj)(es:Nat->List fZ)(D:Nat->Prop):Prop where
 hb:¬D bh
 rows:∀f k,OK cs f k->¬D k
 ents:∀j,j<6->∀e∈es j,∀g,e.a=M g->¬D g
structure AY (w w':World)(bh:Nat)(cs cs':Oj)(es es':Nat->List fZ)(D:Nat->Prop)(c:Nat):Prop where
 mods:ee (λk=>k=bh\/(∃f,OK cs f k)\/D k) w w'
 rows:∀f k,OK cs' f k->OK cs f k\/w.heap.size<=k
 ents:∀j,j<6->∀e∈es' j,∀g,e.a=M g->(∃e0∈es j,e0.a=M g)\/D g\/w.heap.size<=g
 cnt:∀j,j<6->(es' j).length<=(es j).length+4*c
section
variable {w w' w2 : World} {bh : Nat} {cs cs' cs2 : List Value} {es es' es2 : Nat -> List fZ} {D D1 D2 : Nat -> Prop} {c d lo hi : Nat}
theorem lQ.toS (e:lQ w w' bh cs cs' es es' lo hi c)(g:∀b,lo<=b->b<hi->D b):AY w w' bh cs cs' es es' D c:=
 ⟨e.mods.mono λb _ a=>by
  rcases a with a | a | a
  .exact .inl a
  .exact .inr (.inl a)
  .exact .inr (.inr (g b a.1 a.2)),e.rows,λl k h i f j=>by
  rcases e.ents l k h i f j with a | a | a
  .exact .inl a
  .exact .inr (.inl (g f a.1 a.2))
  .exact .inr (.inr a),e.cnt⟩
theorem vR.free (e:vR bh cs es D)(f:∀b,lo<=b->b<hi->D b):qH bh cs es lo hi:=
 ⟨λa=>e.hb (f _ a.1 a.2),λg b j a=>e.rows g b j (f _ a.1 a.2),λm l b i h k a=>e.ents m l b i h k (f _ a.1 a.2)⟩
end
theorem Ll{w:World}{f k j g e l}(h:w.ownsRow f k j e g l):∃lo hi,lo<=hi/\hi<=w.heap.size/\(∀a,e.ownBlock=M a->lo<=a/\a<hi)/\∀b,lo<=b->b<hi->e.ownBlock=M b:=by
 rcases h.2 with ⟨rfl,rfl⟩ | ⟨a,e,e,rfl,e,i,e⟩
 .exact⟨0,0,ai _,az _,λ_ e=>(by cases e),λb _ a=>by omega⟩
 .have:=(aY.1 i).1;exact⟨a,a+1,by omega,by omega,λ_ e=>(by cases e;exact⟨ai _,Nat.lt_succ_self _⟩),λb (f:a<=b) (g:b<a+1)=>cP M (show a=b by omega)⟩
theorem Dj:yq 5 50 (J I 0) 8:=
 ⟨by decide,Tryz.underlying50,Tryz.underlying51,info_parts C6,info_parts C5,rfl,by decide,by decide,λ_=>rfl,λb c a=>by rw[aC.1 a];rfl⟩
theorem JD(b y l f k i d h e)(s:km l f k i d)(S bM)(K:l.ownsRow S 3 1 y b bM)(a4:h<=e)(ba:∀j,y.ownBlock=M j->h<=j/\j<e)(G:qH f k d h e)(H:e<=l.heap.size)(a3:b<=1000000)(b5:i<=1000000)(a0:∀L,L<6->(d L).length<=16777216):
  Calls Tryz.prog 65 #[zP (M ⟨f,0,U⟩),y] l λq R=>q=zR (.tuple #[])/\∃o r,km R f o (i+1) r/\lQ l R f k o d r h e 1:=by
 have a5:=a4;have D:=Ou (nV.start K ba (jS 5 (-77000001-(i:Int))));obtain⟨B,C,rfl⟩:=fd K;go_in
 go_wp2_with fail;refine Calls.mono (JO i l f k s.hands s.c6 (by omega)) ?_;rintro q bI ⟨rfl,a1,n⟩;obtain⟨y,l⟩:=s.mark (i+1) a1 n;have Z:=Ou (lQ.mark (es:=d) n l h e);have T:=Ou (D.mods n (λj a q=>G.hb (q▸D.block a)));have q:qH f (k.set 6 (J I ((i+1:Nat):Int))) d h e:=G.step (lQ.mark (es:=d) n l 0 0) (λa _ _ a=>by omega) H;have a8:=n.size;have W:=Ou y;have A:=Ou q;generalize k.set 6 _=cs1 at *;go_wp2_with fail;generalize k: -77000001-(i:Int)=m at *
 go_loopw [5] (λg wr=>∃a:Nat,a<=b/\g=J I a/\km wr f cs1 (i+1) d/\nV wr 3 1 h e (O B b C) b (jS 5 m) a/\ee (λa=>h<=a/\a<e) bI wr) (λg _=>b-(intOf g).toNat)
 case atStart=>exact ⟨0,az _,rfl,ea W,ea T,Ow _ _⟩
 case round=>
  obtain⟨a,k,rfl,F,E,t⟩:=hrel
  by_cases k:a<b
  .have a6:(a:Int)<(b:Int):=(by omega);have V:=Ou F;have X:=Ou t
   rcases E with ⟨_,k⟩ | ⟨j,k,u,v,w,z,ab,ac,g,Y,aa⟩
   .omega
   .simp only [Value.slice.injEq]at z;obtain⟨rfl,_,rfl⟩:=z;have:wr.cell? ⟨j,a,U⟩=M (u[a]'(by omega)):=(by rw[g.cell];exact ae _);have:=g.frozen a;have P:=Ou (g.setCell a (J I m));have Q:=Ou (Ir (x:=J I m) aa (by omega));generalize u[a]'_=c at *;go_wp2_with fail;have N:ee (λa=>h<=a/\a<e) wr (wr.setCell ⟨j,a,U⟩ (J I m)):=(Ow _ wr).setCell (p:=⟨j,a,U⟩) (λ_=>⟨v,w⟩) _;refine⟨⟨a+1,by omega,by go_num,V.Je A N,.inr ⟨j,_,_,v,w,rfl,ab,ac,ea P,by rw[aO];exact Y,ea Q⟩,X.trans N (λ_ _ a=>a)⟩,by simp[intOf];omega⟩
  .have a6:¬(a:Int)<(b:Int):=(by omega);obtain rfl:b=a:=by omega
   have V:=Ou (oD.Nj (m:=m) Dj F A E (ap (ap a5 H) (ap a8 t.size)));have aa:=Ou (Z.trans (lQ.fill (bh:=f) (cs:=cs1) (es:=d) t) (ai _) (ai _) (ai _) (ai _));obtain⟨z,rfl⟩:∃z:World,z=wr:=⟨_,rfl⟩;go_wp2
   go_loopw [1,6] (λj a wr=>∃(g:Nat) (v:Om) (w:Nat),g<=4/\a=J I g/\j=O v (b+g) w/\∃o r,oD z wr f cs1 (i+1) d h e 5 m b g (O v (b+g) w) o r) (λ_ a _=>4-(intOf a).toNat)
   case atStart=>exact ⟨0,B,C,by omega,rfl,rfl,cs1,d,ea V⟩
   case round=>
    obtain⟨g,v,w,a2,rfl,rfl,ab,ad,u⟩:=hrel
    by_cases ao:g<4
    .have ar:(g:Int)<4:=(by omega);obtain⟨a,a,a,a,a,bc,a,a,a,a,be,a,a,a,X⟩:=u.Ma Dj ao a3 a0;obtain⟨bf,N,bn,bo,br,P,bs,bz,Q,bk⟩:=X;simp only[oq,oQ,jS,Nat.reduceMul,Nat.reduceAdd]at bf N bn bo br P bs bz Q;have Y:=Ou bk
     go_wp2_with (at_builtin;first
      | refine OA rfl (.tmp 27) (.tmp 29) 50 rfl _ _ rfl rfl N ?_
      | refine OA rfl (.tmp 37) (.tmp 39) 51 rfl _ _ rfl rfl P ?_
      | refine OA rfl (.tmp 43) (.tmp 45) 51 rfl _ _ rfl rfl Q ?_)
     obtain⟨ac,ak,an⟩:=Y;refine⟨⟨g+1,bc,be,by omega,by go_num,rfl,ac,ak,an⟩,by simp[intOf];omega⟩
    .have ar:¬(g:Int)<4:=(by omega);go_wp2;go_end0;have N:=aa.trans (u.fin a2) (ai _) (ai _) (ai _) (ai _);exact⟨rfl,ab,ad,u.inv,N⟩
theorem JE(i c d a e h b)(t:km d a e h b)(l q)(o:d.ownsRow l 3 1 c i q)(w:vR a e b λj=>c.ownBlock=M j)(y:i<=1000000)(z:h<=1000000)(v:∀p,p<6->(b p).length<=16777216):
  Calls Tryz.prog 65 #[zP (M ⟨a,0,U⟩),c] d λm k=>m=zR (.tuple #[])/\∃f g,km k a f (h+1) g/\AY d k a e f b g (λj=>c.ownBlock=M j) 1:=by
 obtain⟨A,x,j,p,u,n⟩:=Ll o;refine(JD i c d a e h b A x t l q o j u (w.free n) p y z v).mono ?_;rintro m k ⟨rfl,f,g,r,s⟩;exact⟨rfl,f,g,r,s.toS n⟩
theorem fX{a b S}(c:Below a.heap.size a b):ee S a b:=(Ox c).mono (λc b a=>absurd a (by omega))
theorem gR:jJ Tryz.prog 130 17:=⟨by kernel_rfl,by kernel_rfl⟩
theorem tC(b):Calls Tryz.prog 157 #[] b λa c=>a= .panicked (lJ 5)/\c=b:=by
 go_in
 go_wp2_with (go_at_call 140;refine(yT _ _).mono ?_;rintro a c ⟨rfl,rfl⟩)
 exact⟨rfl,rfl,rfl⟩
theorem kI.state{g e c f}(h:kI g e c f):∃a,ir f a/\a.length=17/\ed g e 222 (c++a)/\∀b d,a[b]? =M d->(c++a)[8+b]? =M d:=by
 obtain⟨e,a,c,f⟩:=h;exact⟨a,c,c.len,f,λb d a=>by rw[qi e];exact a⟩
theorem Nh(h)(a:Nat)(d c b f)(q:kI c b f h)(k:a<8):
  Calls Tryz.prog 205 #[zP (M ⟨b,8,U⟩),J I (a:Int),J I d] c λo l=>o=zR (.tuple #[])/\kI l b f (pK h a d)/\ee (λg=>g=b) c l:=by
 obtain⟨e,f,j,f⟩:=q;have:c.cell? ⟨b,8+a,U⟩=M (J I (h.loc.getD a 0)):=by rw[f.cell,qi e];exact j.CT k
 have:=f.frozen (8+a);have i:=f.setCell (8+a) (J I d);rw[xL e]at i;have m:=Ou i;have n:=Ou (j.set a d k);have:=fp a;have:(a:Int)<8:=by omega
 go_in
 go_wp2;go_end0;exact⟨rfl,⟨e,_,ea n,ea m⟩,(Ow (λg=>g=b) c).setCell (p:=⟨b,8+a,U⟩) (λ_=>rfl) _⟩
theorem su(b d c i)(l:kI d c i b):
  Calls Tryz.prog 206 #[zP (M ⟨c,0,U⟩)] d λa j=>(∀x f,fS b=M (x,f)->a=zR (J I x)/\kI j c i f)/\(fS b=U->a= .panicked (lJ 5))/\ee (λh=>h=c) d j:=by
 obtain⟨k,s,u,r,t⟩:=l.state;go_in
 go_wp2_with (refine jv gR r 8 k u t (.tmp 5) rfl rfl rfl ?_)
 refine Calls.mono (EK b k d s) ?_;rintro a n ⟨rfl,k⟩;have p:=l.below k;have m:ee (λh=>h=c) d n:=fX k
 cases hx:b.stk.getLast? with
 | none =>
  have g:b.stk.length=0:=by
   rw[List.getLast?_eq_none_iff]at hx;rw[hx];rfl
  have e:Hid (fS b=U):=by show _=_;unfold fS;rw[hx];rfl
  rw[g];go_wp2_with (go_at_call 157;refine(tC _).mono ?_;rintro a j ⟨rfl,rfl⟩)
  exact⟨rfl,λx f a=>(by rw[ea e]at a;cases a),λ_=>rfl,m⟩
 | some x =>
  have g:¬(b.stk.length:Int)=0:=by
   intro a;rw[aV (by omega:b.stk.length=0)]at hx;cases hx
  have:((b.stk.length:Int) == 0)=F:=by simpa using g
  have e:Hid (fS b=M (x,ru b)):=by show _=_;unfold fS;rw[hx];rfl
  have o:=Ou hx;go_wp2_with fail;refine Calls.mono (st_pop b x n c i p o) ?_;rintro a b ⟨rfl,q,v⟩;go_wp2;go_ret;refine⟨λb f a=>?_,λa=>(by rw[ea e]at a;cases a),m.trans v (λ_ _ a=>a)⟩;rw[ea e]at a;simp only[aX,Prod.mk.injEq]at a;obtain⟨rfl,rfl⟩:=a;exact⟨rfl,q⟩
theorem CA(b d):Calls Tryz.prog 203 #[J I b] d λa e=>(∀x,jj b=M x->a=zR (J I x))/\(jj b=U->a= .panicked (lJ 5))/\e=d:=by
 by_cases c:b=2
 .subst c;go_in
  go_wp2_with (go_at_call 157;refine(tC _).mono ?_;rintro a e ⟨rfl,rfl⟩)
  exact⟨rfl,λx a=>(by simp[jj]at a),λ_=>rfl,rfl⟩
 .have:(b == 2)=F:=by simpa using c
  go_in
  go_wp2;go_ret;refine⟨λx a=>?_,λa=>?_,rfl⟩
  .simp [jj,c]at a;subst a;rfl
  .simp [jj,c]at a
theorem ee.Fi{b c w'}(a:ee b c.drew w'):ee b c w':=⟨a.os,a.tape,a.output,a.size,a.block⟩
def kT (n:Nat)(k:Int)(s:ef):Prop:=(∀x∈s.loc,fz n x)/\(∀x∈s.stk,fz n x)/\(s.stk.length:Int)<=k
structure gQ (w0 w:World)(bl:Nat)(p:On)(vc:Value)(m:eh)(pre:Oj)(s:ef):Prop where
 lk:kI w bl pre s
 pr:eQ w0 vc p
 b0:Below w0.heap.size w0 w
 le:w0.heap.size<=bl
 p0:pre[0]? =M vc
 p3:pre[3]? =M (J I m.ret)
 p5:pre[5]? =M (J I m.stack)
 ty:kT p.length m.stack s
section
variable {w0 w w' : World} {bl : Nat} {p : List eb} {vc : Value} {m : eh} {pre : List Value} {s s' : ef}
theorem gQ.next (a:gQ w0 w bl p vc m pre s)(c:kI w' bl pre s')(e:ee (λb=>b=bl) w w')(f:kT p.length m.stack s'):gQ w0 w' bl p vc m pre s':=
 have d:=a.le
 ⟨c,a.pr,a.b0.trans (e.below a.b0.size (λb b a=>by omega)),d,a.p0,a.p3,a.p5,f⟩
theorem gQ.below (a:gQ w0 w bl p vc m pre s)(b:Below w.heap.size w w'):gQ w0 w' bl p vc m pre s:=a.next (a.lk.below b) (fX b) a.ty
theorem gQ.cell(c:gQ w0 w bl p vc m pre s){a b}(e:a<8)(d:pre[a]? =M b):w.cell? ⟨bl,a,U⟩=M b:=by
 obtain⟨a,a,_,a⟩:=c.lk;rw[a.cell,aL (by omega)];exact d
theorem gQ.rp (a:gQ w0 w bl p vc m pre s):eQ w vc p:=eA (Oq a.b0) a.pr
end
theorem sJ{d e s s' x}(a:fS s=M (x,s'))(b:kT d e s):fz d x/\kT d e s':=by
 unfold fS at a
 cases c:s.stk.getLast? with
 | none => rw[c]at a; cases a
 | some f =>
  rw[c]at a;simp only[bD,aX,Prod.mk.injEq]at a;obtain⟨rfl,rfl⟩:=a;exact⟨b.2.1 f (cU c),b.1,λx hx=>b.2.1 x (cj _ hx),by have:=b.2.2;simp only[aI];omega⟩
theorem JS{d m e s s'}(a:fj m e s=M s')(c:kT d m.stack s)(hx:fz d e):kT d m.stack s':=by
 unfold fj at a
 split at a
 .cases a
 .rename_i h
  cases a
  refine⟨c.1,λg f=>?_,?_⟩
  .rcases aN.1 f with b | b
   .exact c.2.1 g b
   .rw [aC.1 b];exact hx
  .have:=c.2.2;simp only[aw,aS];omega
theorem qs(b p vc m s w0 w bl pre)(f:gQ w0 w bl p vc m pre s)(F:ez p p.length)(H:p.length<=4194304)(G:fz p.length b):
  Calls Tryz.prog 207 #[zP (M ⟨bl,0,U⟩),J I b] w λa w'=>(∀s',fC p b s=M s'->a=zR (.tuple #[])/\gQ w0 w' bl p vc m pre s')/\(fC p b s=U->a= .panicked (lJ 5))/\ee (λe=>e=bl) w w':=by
 have z:=f.cell (by omega) f.p0;have h:=Ou f;obtain⟨L,_,_,N,rfl,_⟩:=f.pr;go_in
 go_wp2;refine iY (λw'=>w'.cell? ⟨bl,0,U⟩=M (O L p.length N)) z λhHeld=>?_;refine dZ 4 0 ?_;refine dZ 5 1 ?_;refine dZ 6 2 ?_;refine dZ 7 3 ?_;refine dZ 8 4 ?_;refine dZ 10 6 ?_;refine el 5 (λy k=>?_);go_simp;refine(su s _ bl pre (h.below ((ay _ _).drew)).lk).mono ?_;rintro a P ⟨C,D,K⟩;have l:ee (λe=>e=bl) w P:=K.Fi
 cases d:fS s with
 | none =>
  obtain rfl:=D d;have c:Hid (fC p b s=U):=by show _=_;unfold fC;rw[d];rfl
  go_wp2_with fail;exact⟨rfl,λs' a=>(by rw[ea c]at a;cases a),λ_=>rfl,l⟩
 | some Q =>
  obtain⟨g,n⟩:=Q;obtain⟨rfl,E⟩:=C g n d;have v:=sJ d h.ty;have i:=h.next E l v.2;have o:=Ou i;have hx:=v.1;have A:=i.cell (by omega) i.p0;have r:Hid (fC p b s=if eF p g b then M n else U):=by show _=_;unfold fC;rw[d];rfl
  have x:=Ou l;go_wp2_with fail;refine k.out _ _ A λhHeld=>?_;refine el 7 (λy k=>?_);go_simp;refine(wA p _ g b _ o.rp F H hx G).mono ?_;rintro a R ⟨rfl,t⟩;have j:=Ou (o.below t);have q:=Ou (x.trans (fX (S:=λe=>e=bl) t) (λ_ _ a=>a));have B:=j.cell (by omega) j.p0;go_wp2_with fail;refine k.out _ _ B λhHeld=>?_;refine dZ 12 8 ?_;refine ig ?_
  cases u:eF p g b with
  | false =>
   have c:Hid (fC p b s=U):=(by show _=_;rw[ea r,u];rfl);go_wp2_with (go_at_call 157;refine(tC _).mono ?_;rintro a w' ⟨rfl,rfl⟩)
   exact⟨rfl,λs' a=>(by rw[ea c]at a;cases a),λ_=>rfl,ea q⟩
  | true =>
   have c:Hid (fC p b s=M n):=(by show _=_;rw[ea r,u];rfl);go_wp2;go_end0;refine⟨λs' a=>?_,λa=>(by rw[ea c]at a;cases a),ea q⟩;rw[ea c]at a;simp only[aX]at a;subst a;exact⟨rfl,ea j⟩
theorem Do(p vc m s w0 w bl pre)(f:gQ w0 w bl p vc m pre s):
  Calls Tryz.prog 209 #[zP (M ⟨bl,0,U⟩)] w λa w'=>(∀s',iU s=M s'->a=zR (.tuple #[])/\gQ w0 w' bl p vc m pre s')/\(iU s=U->a= .panicked (lJ 5))/\ee (λq=>q=bl) w w':=by
 go_in
 go_wp2_with fail;refine(su s _ bl pre f.lk).mono ?_;rintro a t ⟨k,l,d⟩
 cases c:fS s with
 | none =>
  obtain rfl:=l c;have b:Hid (iU s=U):=by show _=_;unfold iU;rw[c];rfl
  go_wp2_with fail;exact⟨rfl,λs' a=>(by rw[ea b]at a;cases a),λ_=>rfl,d⟩
 | some r =>
  obtain⟨e,g⟩:=r;obtain⟨rfl,n⟩:=k e g c;have o:=sJ c f.ty;have j:=Ou (f.next n d o.2);have h:Hid (iU s=if iy e then M g else U):=by show _=_;unfold iU;rw[c];rfl
  go_wp2_with fail;refine(GU e _).mono ?_;rintro a u ⟨rfl,rfl⟩
  cases i:iy e with
  | false =>
   have b:Hid (iU s=U):=(by show _=_;rw[ea h,i];rfl);go_wp2_with (go_at_call 157;refine(tC _).mono ?_;rintro a w' ⟨rfl,rfl⟩)
   exact⟨rfl,λs' a=>(by rw[ea b]at a;cases a),λ_=>rfl,d⟩
  | true =>
   have b:Hid (iU s=M g):=(by show _=_;rw[ea h,i];rfl);go_wp2;go_end0;refine⟨λs' a=>?_,λa=>(by rw[ea b]at a;cases a),d⟩;rw[ea b]at a;simp only[aX]at a;subst a;exact⟨rfl,ea j⟩
theorem ov(c p vc m s w0 w bl pre)(b:gQ w0 w bl p vc m pre s)(D:fz p.length c)(E:m.stack<=8):
  Calls Tryz.prog 202 #[zP (M ⟨bl,0,U⟩),J I c] w λa w'=>(∀s',fj m c s=M s'->a=zR (.tuple #[])/\gQ w0 w' bl p vc m pre s')/\(fj m c s=U->a= .panicked (lJ 5))/\ee (λh=>h=bl) w w':=by
 obtain⟨f,y,A,j,z⟩:=b.lk.state;have r:=b.cell (by omega) b.p5;go_in
 go_wp2;refine iY (λw'=>w'.cell? ⟨bl,5,U⟩=M (J I m.stack)/\ed w' bl 222 (pre++f)) (aq r j) λhHeld=>?_;refine dZ 4 0 ?_;refine dZ 5 1 ?_;refine dZ 6 2 ?_;refine jm (M 7) (i:=3) (v:=.agg f.toArray) rfl rfl (by kernel_rfl) (by kernel_rfl) (by kernel_rfl) (λ_ _ _ b=>b) (dd ⟨by rfl,λw' r=>wI gR r.2 8 f A z rfl rfl⟩) (by assumption) ?_;refine dZ 9 5 ?_;refine dZ 10 6 ?_;refine dZ 11 7 ?_;refine dZ 12 8 ?_;refine dZ 13 9 ?_;refine el 4 (λr x=>?_);go_simp;refine(EK s f _ y).mono ?_;rintro a n ⟨rfl,r⟩;have f:=mA r;have e:=Ou (b.below f);have t:=e.cell (by omega) e.p5;have u:=j.bl f;have k:ee (λh=>h=bl) w n:=fX f;go_wp2_with fail;refine x.out _ _ (aq t u) λhHeld=>?_;refine dZ 14 10 ?_;refine ig ?_
 by_cases g:(s.stk.length:Int)=m.stack
 .have d:Hid (fj m c s=U):=by show _=_;unfold fj;rw[am g]
  have C:((s.stk.length:Int) == m.stack)=K:=by simpa using g
  go_wp2_with (go_at_call 157;refine(tC _).mono ?_;rintro a w' ⟨rfl,rfl⟩)
  exact⟨rfl,λs' a=>(by rw[ea d]at a;cases a),λ_=>rfl,k⟩
 .have d:Hid (fj m c s=M (oU s c)):=by show _=_;unfold fj;rw[af g];rfl
  have C:((s.stk.length:Int) == m.stack)=F:=by simpa using g
  have B:s.stk.length<8:=by have:=b.ty.2.2;omega
  have o:=Ou (JS d b.ty D);go_wp2_with fail;refine(Ng s c n bl pre e.lk B).mono ?_;rintro a b ⟨rfl,b,l⟩;have q:=Ou (e.next b l o);go_wp2;go_end0;refine⟨λs' a=>?_,λa=>(by rw[ea d]at a;cases a),k.trans l (λ_ _ a=>a)⟩;rw[ea d]at a;simp only[aX]at a;subst a;exact⟨rfl,ea q⟩
section
variable {α : Type} {sz : Nat} {R : yt α} {p : List UInt8 -> Option (α × List UInt8)} {ty : TypeId} {n : Nat} {s : List UInt8} {br g : Nat} {w wr : World} {k : Nat} {t : List UInt8} {cs : List Value} {done : List α}
end
end
end Go.Proofs.YtiiokkllmchohaaGreat
