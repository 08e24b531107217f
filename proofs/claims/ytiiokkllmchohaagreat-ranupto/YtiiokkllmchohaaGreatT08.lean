/- Walks of the code's own tests: numbers within a bound, classes that are there, declared types, types in frames. -/
import Derived.Test.YtiiokkllmchohaaGreatT01
set_option maxHeartbeats 0
set_option maxRecDepth 99999
namespace Go.Proofs.YtiiokkllmchohaaGreat
open Go.Value renaming int->J,slice->O,pointer->zP,bool->zB
open Go.IntKind renaming i64->I
open Option renaming none->U,some->M
open Bool renaming true->K,false->F
open Go.Ending renaming returned->zR
open Go.Obj renaming cells->zC
open Go.RowKit
section
attribute [local go_sem ↓] Go.wp_at_zero Go.wp_at_succ
theorem G9(b a c):
  Calls Tryz.prog 182 #[J I b,J I a] c λd e=>d=zR (zB (fR b a))/\e=c:=by
 go_in
 go_wp2
 all_goals go_ret
 all_goals exact⟨eC (by simp[fR, *] <;> omega),rfl⟩
theorem yU(p c b a)(e:eQ a c p)(_hl:p.length<=4194304):
  Calls Tryz.prog 108 #[.agg #[c],J I b] a λd f=>d=zR (zB (fR b p.length))/\Below a.heap.size a f:=by
 obtain⟨a,a,a,a,rfl,a,a,a⟩:=eN e;go_in
 go_wp2
 all_goals go_ret
 all_goals exact⟨eC (by simp[fR, *] <;> omega),ev _ _⟩
theorem GS(p c b a)(e:eQ a c p)(f:I64 b)(_hl:p.length<=4194304):
  Calls Tryz.prog 219 #[.agg #[c],J I b] a λd g=>d=zR (zB (gd p.length b))/\Below a.heap.size a g:=by
 obtain⟨a,a,a,a,rfl,a,a,a⟩:=eN e;obtain⟨a,a⟩:=f;go_in
 go_wp2
 all_goals go_ret
 all_goals exact⟨eC (by simp[gd, *] <;> omega),ev _ _⟩
theorem tq{p b d}(f:gd p.length b=d)(c a)(h:eQ a c p)(i:I64 b)(g:p.length<=4194304):
  Calls Tryz.prog 219 #[.agg #[c],J I b] a λe j=>e=zR (zB d)/\Below a.heap.size a j:=f▸GS p c b a h i g
theorem GB(p w b v a)(q:eQ a w p)(s:p.length<=4194304)(B:eG 1 (gF a) v b)(C:∀x∈b,I64 x)(D:b.length<=4194304):
  Calls Tryz.prog 184 #[.agg #[w],v] a λi l=>i=zR (zB (b.all (gd p.length)))/\Below a.heap.size a l:=by
 have n:=Ou q;obtain⟨t,v,v,u,rfl,_,_,_⟩:=eN q;obtain⟨q,q,q,q,rfl,q,z,q⟩:=it B;have y:=Ou q;go_in
 go_wp2
 generalize q:a.alloc _=W;have r:Below a.heap.size a W:=q▸ev _ _;have A:W.cell? ⟨a.heap.size,0,U⟩=M (O t p.length u):=q▸jM a #[O t p.length u] 24 0
 go_loopw [9] (λa wr=>∃c:Nat,c<=b.length/\a=J I c/\(b.take c).all (gd p.length)=K/\Below W.heap.size W wr) (λa _=>b.length-(intOf a).toNat)
 case atStart=>exact ⟨0,az _,rfl,rfl,ay _ _⟩
 case round=>
  obtain⟨c,q,rfl,q,g⟩:=hrel;have m:Hid ((b.take c).all (gd p.length)=K):=q;have d:Below a.heap.size a wr:=r.trans (g.mono r.size)
  by_cases h:c<b.length
  .obtain rfl:=z (eW h);have hx:=C _ (av h);have o:=mH (f:=gd p.length) h;rw[m.out]at o;have HS:=Ou o;have:=Oq g _ _ A;have:=Oq d _ _ (y c h)
   cases e:gd p.length b[c]
   .have j:=tq e _ wr (eA (Oq d) n) hx s;go_wp2_with (go_at_call 219;refine j.mono ?_;rintro i l ⟨rfl,k⟩)
    go_ret;exact⟨eC (by rw[<-bH (c+1) b,bR,ea HS,e];rfl),d.trans (k.mono d.size)⟩
   .have j:=tq e _ wr (eA (Oq d) n) hx s;go_wp2_with (go_at_call 219;refine j.mono ?_;rintro i l ⟨rfl,k⟩)
    exact⟨⟨c+1,by omega,by go_num,by rw[ea HS,e];rfl,g.trans (k.mono g.size)⟩,by simp[intOf];omega⟩
  .go_wp2
   go_ret;exact⟨eC (by rw[<-m.out,aH (by omega)]),d⟩
theorem GV(p B b A c)(u:eQ c B p)(w:p.length<=4194304)(G:eG 1 (gF c) A b)(H:∀x∈b,I64 x)(L:b.length<=4194304):
  Calls Tryz.prog 222 #[.agg #[B],A] c λk n=>k=zR (zB (b.all (gT p.length)))/\Below c.heap.size c n:=by
 have r:=Ou u;obtain⟨y,A,A,z,rfl,_,_,_⟩:=eN u;obtain⟨u,u,u,u,rfl,u,E,u⟩:=it G;have C:=Ou u;go_in
 go_wp2
 generalize u:c.alloc _=W;have v:Below c.heap.size c W:=u▸ev _ _;have F:W.cell? ⟨c.heap.size,0,U⟩=M (O y p.length z):=u▸jM c #[O y p.length z] 24 0
 go_loopw [9] (λc wr=>∃a:Nat,a<=b.length/\c=J I a/\(b.take a).all (gT p.length)=K/\Below W.heap.size W wr) (λc _=>b.length-(intOf c).toNat)
 case atStart=>exact ⟨0,az _,rfl,rfl,ay _ _⟩
 case round=>
  obtain⟨a,u,rfl,u,d⟩:=hrel;have o:Hid ((b.take a).all (gT p.length)=K):=u;have e:Below c.heap.size c wr:=v.trans (d.mono v.size)
  by_cases j:a<b.length
  .obtain rfl:=E (eW j);have hx:=H _ (av j);have t:=mH (f:=gT p.length) j;rw[o.out]at t;have HS:=Ou t;have:=Oq d _ _ F;have s:=Oq e _ _ (C a j)
   by_cases g:b[a]=1
   .have i:Hid (gT p.length b[a]=K):=Ou (by simp[gT,g]);rw[g]at s;go_wp2_with fail;exact⟨⟨a+1,by omega,by go_num,by rw[ea HS,ea i];rfl,d⟩,by simp[intOf];omega⟩
   by_cases h:b[a]=2
   .have i:Hid (gT p.length b[a]=K):=Ou (by simp[gT,h]);rw[h]at s;go_wp2_with fail;exact⟨⟨a+1,by omega,by go_num,by rw[ea HS,ea i];rfl,d⟩,by simp[intOf];omega⟩
   have:(b[a] != 1)=K:=(by simpa using g);have:(b[a] != 2)=K:=(by simpa using h);have D:gT p.length b[a]=gd p.length b[a]:=(by unfold gT;rw[beq_eq_false_iff_ne.2 g,beq_eq_false_iff_ne.2 h,dY,dY]);have q:=Ou D
   cases i:gd p.length b[a]
   .have l:=tq i _ wr (eA (Oq e) r) hx w;go_wp2_with (go_at_call 219;refine l.mono ?_;rintro k n ⟨rfl,m⟩)
    go_ret;exact⟨eC (by rw[<-bH (a+1) b,bR,ea HS,ea q,i];rfl),e.trans (m.mono e.size)⟩
   .have l:=tq i _ wr (eA (Oq e) r) hx w;go_wp2_with (go_at_call 219;refine l.mono ?_;rintro k n ⟨rfl,m⟩)
    exact⟨⟨a+1,by omega,by go_num,by rw[ea HS,ea q,i];rfl,d.trans (m.mono d.size)⟩,by simp[intOf];omega⟩
  .go_wp2
   go_ret;exact⟨eC (by rw[<-o.out,aH (by omega)]),e⟩
theorem BP(b c n m e)(r:eG 1 (gF e) n b)(t:eG 1 (gF e) m c)(w:b.length<=4194304)(x:c.length<=4194304):
  Calls Tryz.prog 220 #[n,m] e λd v=>d=zR (zB (b == c))/\∃j,v=e.drewN j:=by
 obtain⟨m,m,m,m,rfl,m,p,m⟩:=it r;obtain⟨m,m,m,m,rfl,m,q,m⟩:=it t
 by_cases g:b.length=c.length
 .have s:((b.length:Int) == (c.length:Int))=K:=by rw[g];simp
  go_in
  go_wp2
  go_loopw [13] (λd wr=>∃a:Nat,a<=b.length/\d=J I a/\b.take a=c.take a/\∃j,wr=e.drewN j) (λd _=>b.length-(intOf d).toNat)
  case atStart=>exact ⟨0,az _,rfl,rfl,0,rfl⟩
  case round=>
   obtain⟨a,e,rfl,l,u,rfl⟩:=hrel;have k:=Ou l;have h:=Ou g;clear l g
   by_cases f:a<b.length
   .have i:a<c.length:=(by rw[<-ea h];exact f);obtain rfl:=p (eW f);obtain rfl:=q (eW i);have o:=Ou (Fa f i)
    go_wp2
    go_quiet (fail)
    go_wp2
    .go_ret;have hx:b[a]≠c[a]:=(by simp_all);exact⟨eC (by rw[eq_comm,beq_eq_false_iff_ne];intro d;subst d;exact hx rfl),u+nq,by rw[World.drewN_drewN]⟩
    .have hx:b[a]=c[a]:=(by simp_all);exact⟨⟨a+1,by omega,by go_num,o.2 ⟨ea k,hx⟩,_,rfl⟩,by simp[intOf];omega⟩
   .have i:¬a<c.length:=by rw[<-ea h];exact f
    go_wp2
    go_ret;refine⟨eC ?_,_,rfl⟩;have:=ea k;rw[aH (by omega),aH (by have:=ea h;omega)]at this;simp[this]
 .have s:((b.length:Int) == (c.length:Int))=F:=by simp;omega
  go_in
  go_wp2
  go_ret;exact⟨eC (by rw[eq_comm,beq_eq_false_iff_ne];intro d;subst d;exact g rfl),0,rfl⟩
theorem yS(p m g)(b:Int)(a)(v:eQ a m p)(h:ez p g)(B:g<=p.length)(r: -1<=b)(s:b<g)(z:eM p<=4194304):
  Calls Tryz.prog 183 #[.agg #[m],J I b] a λo A=>
   o=zR (J I (OE p b).length)/\Below a.heap.size a A:=by
 have m:(OE p b).length<=4194304:=by
  rcases bV b 0 with c | c
  .rw [tx p c];simp
  .obtain⟨d,rfl⟩:=ax c;exact ap (uE p h (by omega)) z
 obtain⟨k,m,m,l,rfl,m,q,y⟩:=eN v;go_in
 go_wp2
 generalize m:a.alloc _=W;have n:Below a.heap.size a W:=m▸ev _ _;have o:W.cell? ⟨a.heap.size,0,U⟩=M (O k p.length l):=m▸jM a #[O k p.length l] 24 0
 go_loop [5,6] (λd a=>∃(c:Int) (e:Nat),-1<=c/\c<g/\a=J I c/\d=J I e/\e+(OE p c).length=(OE p b).length) (λ_ a=>(intOf a+1).toNat)
 case atStart=>exact ⟨b,0,r,s,rfl,rfl,by omega⟩
 case round=>
  obtain⟨c,e,a,a,rfl,rfl,a⟩:=hrel;have i:=Ou a;have a:e<=4194304:=by omega
  rcases bV c 0 with u | w
  .go_wp2
   go_ret;refine⟨iQ ?_,n⟩;have:=ea i;rw[tx p u]at this;simp only[cT]at this;omega
  .obtain⟨d,rfl⟩:=ax w;have f:d<p.length:=(by omega);obtain rfl:=q (eW f);obtain⟨a,a,a,a,a,t,a⟩:=(y d f).keep (Oq n);obtain⟨a,a,a,a,rfl,_,_,_⟩:=eN t;have j:=Ou (ae f)
   have a:p[d].fields.length<=4194304:=by
    have:=rD p[d];have:=kE (av f);omega
   generalize p[d]=x at *
   go_wp2
   have a:=my (h d x (by omega) j);refine⟨⟨x.sup,e+x.fields.length,a.1,by omega,rfl,by go_num,?_⟩,by simp[intOf];omega⟩;have:=ea i;rw[tz p h (by omega) j.out,aw]at this;omega
theorem GM(b n g d)(r:eG 7 (sV d) n b)(u:b.length<=4194304):
  Calls Tryz.prog 186 #[n,J I g] d λp t=>
   p=zR (zB (!(b.all λe=> !(e.slot == g))))/\Below d.heap.size d t:=by
 obtain⟨n,n,n,n,rfl,n,q,n⟩:=eN r;have o:=Ou n;go_in
 go_wp2
 go_loopw [9] (λc wr=>∃a:Nat,a<=b.length/\c=J I a/\(b.take a).all (λe=> !(e.slot == g))=K/\Below d.heap.size d wr) (λc _=>b.length-(intOf c).toNat)
 case atStart=>exact ⟨0,az _,rfl,rfl,ay _ _⟩
 case round=>
  obtain⟨a,d,rfl,d,c⟩:=hrel;have j:=Ou d
  by_cases h:a<b.length
  .obtain rfl:=q (eW h);have k:=mH (f:=λe:eh=> !(e.slot == g)) h;rw[j.out]at k;have HS:=Ou k;obtain⟨d,d,d,i,s,d,d,d,d,d,d⟩:=(o a h).keep (Oq c);obtain⟨_,_,_,_,rfl,_⟩:=i.1;obtain⟨_,_,_,_,rfl,_⟩:=i.2.1;obtain⟨_,_,_,_,rfl,_⟩:=i.2.2;have:=Oo s;generalize b[a]=m at *
   cases l:(m.slot == g)
   .go_wp2
    exact⟨⟨a+1,by omega,by go_num,by rw[ea HS];simp[l],c.trans ((ev _ _).mono c.size)⟩,by simp[intOf];omega⟩
   .go_wp2
    go_ret;exact⟨eC (by rw[<-bH (a+1) b,bR,ea HS];simp[l]),c.trans ((ev _ _).mono c.size)⟩
  .go_wp2
   go_ret;exact⟨eC (by rw[<-bH a b,bR,ea j,ct (by omega)];rfl),c⟩
def fB (m:eh)(va vc vf:Value):Value:=.agg #[J I m.slot,va,J I m.ret,J I m.locals,J I m.stack,vc,vf]
def Found (w:World)(p:On)(c slot:Int)(o:eh)(va vc vf:Value):Prop:=
 ∀ck,fy p c slot=M ck->mh p ck=M o/\lR w o va vc vf
def tU (w:World)(b:Nat)(v0 v1 v2 v3 v4 v5 v6:Value):World:=
 ((((((w.setCell ⟨b,0,U⟩ v0).setCell ⟨b,1,U⟩ v1).setCell ⟨b,2,U⟩ v2).setCell ⟨b,3,U⟩ v3).setCell ⟨b,4,U⟩ v4).setCell ⟨b,5,U⟩ v5).setCell ⟨b,6,U⟩ v6
theorem xu{j a i k l m n o p q}(r:ed j a i [k,l,m,n,o,p,q])(b c d e f g h):
  ed (tU j a b c d e f g h) a i [b,c,d,e,f,g,h]:=
 ((((((r.setCell 0 b).setCell 1 c).setCell 2 d).setCell 3 e).setCell 4 f).setCell 5 g).setCell 6 h
theorem DT(c a d e f g h i j):ee (λb=>b=a) c (tU c a d e f g h i j):=
 (((((((Ow (λb=>b=a) c).setCell (p:=⟨a,0,U⟩) (λ_=>rfl) d).setCell (p:=⟨a,1,U⟩) (λ_=>rfl) e).setCell (p:=⟨a,2,U⟩) (λ_=>rfl) f).setCell (p:=⟨a,3,U⟩) (λ_=>rfl) g).setCell (p:=⟨a,4,U⟩) (λ_=>rfl) h).setCell (p:=⟨a,5,U⟩) (λ_=>rfl) i).setCell (p:=⟨a,6,U⟩) (λ_=>rfl) j
theorem ed.below{w e a b d c}(f:ed w a d c)(h:Below b w e)(g:a<b):ed e a d c:=(h.block a g).trans f
theorem ed.bl{a f b e c}(d:ed a b e c)(g:Below a.heap.size a f):ed f b e c:=d.below g d.lt
theorem tm(p ce N)(i f:Int)(P a)(eo:eQ P ce p)(y:Below P.heap.size P a)(ad:ez p N)(eP:N<=p.length)(d6: -1<=i)(d9:i<N)(eR:eM p<=4194304):
  Calls Tryz.prog 109 #[.agg #[ce],J I i,J I f] a λR eK=>
   ∃(g:eh) (a6 bf bk:Om) (a8 bh bn:Nat),R=zR (.tuple #[.agg #[J I g.slot,O a6 g.args.length a8,J I g.ret,J I g.locals,J I g.stack,O bf g.code.length bh,O bk g.frames.length bn],zB (fy p i f).isSome])/\
    Found P p i f g (O a6 g.args.length a8) (O bf g.code.length bh) (O bk g.frames.length bn)/\Below a.heap.size a eK:=by
 obtain⟨g,g,g,g,rfl,g,d4,g⟩:=eN eo;have a5:=Ou g;go_in
 go_wp2
 generalize g:(a.alloc _).alloc _=W;have br:=oK g;have d5:=(lD g).c0;have cm:ed W (a.heap.size+1) 63 [J I 0,O U 0 0,J I 0,J I 0,J I 0,O U 0 0,O U 0 0]:=by rw[<-g];exact(by simpa using Oz (a.alloc _) _ _)
 have P:W.heap.size=a.heap.size+2:=by rw[<-g];simp
 go_loopw [8] (λb wr=>∃w:Int,-1<=w/\w<N/\b=J I w/\fy p i f=fy p w f/\Below W.heap.size W wr) (λb _=>(intOf b+1).toNat)
 case atStart=>exact ⟨i,d6,d9,rfl,rfl,ay _ _⟩
 case round=>
  obtain⟨w,g,g,rfl,bz,z⟩:=hrel;have G:=Ou bz;clear bz;obtain⟨B,rfl⟩:∃B:World,B=wr:=⟨_,rfl⟩;have A:Below a.heap.size a B:=br.trans (z.mono br.size);have cz:=Oq z _ _ d5;have d:=cm.below z (by omega);have S:=d.cell 0;have T:=d.cell 1;have V:=d.cell 2;have X:=d.cell 3;have Y:=d.cell 4;have aa:=d.cell 5;have ab:=d.cell 6;have cA:=d.frozen 0;have dp:=d.frozen 1;have ds:=d.frozen 2;have d0:=d.frozen 3;have d1:=d.frozen 4;have d2:=d.frozen 5;have d3:=d.frozen 6;simp only[bY,bU]at S T V X Y aa ab
  rcases bV w 0 with b5 | ep
  .go_wp2
   have b:=xu d (J I 0) (O U 0 0) (J I 0) (J I 0) (J I 0) (O U 0 0) (O U 0 0);have t:=DT B (a.heap.size+1) (J I 0) (O U 0 0) (J I 0) (J I 0) (J I 0) (O U 0 0) (O U 0 0);unfold tU at b t;generalize World.setCell _ _ _=Z at b t ⊢;have an:Z.cell? ⟨a.heap.size+1,0,U⟩=M (J I 0):=(by rw[b.cell];rfl);have ao:Z.cell? ⟨a.heap.size+1,1,U⟩=M (O U 0 0):=(by rw[b.cell];rfl);have ar:Z.cell? ⟨a.heap.size+1,2,U⟩=M (J I 0):=(by rw[b.cell];rfl);have a0:Z.cell? ⟨a.heap.size+1,3,U⟩=M (J I 0):=(by rw[b.cell];rfl);have a1:Z.cell? ⟨a.heap.size+1,4,U⟩=M (J I 0):=(by rw[b.cell];rfl);have a2:Z.cell? ⟨a.heap.size+1,5,U⟩=M (O U 0 0):=(by rw[b.cell];rfl);have a3:Z.cell? ⟨a.heap.size+1,6,U⟩=M (O U 0 0):=(by rw[b.cell];rfl);refine bodyPost_ret (v:=.tuple #[.agg #[J I 0,O U 0 0,J I 0,J I 0,J I 0,O U 0 0,O U 0 0],zB F]) (by simp[results,Tryz.results109,go_sem,an,ao,ar,a0,a1,a2,a3]) rfl ⟨⟨0,[],0,0,0,[],[]⟩,U,U,U,0,0,0,by rw[ea G,sw p f b5];rfl,?_,A.trans (t.below A.size (λc bs R=>by omega))⟩;intro cu h;rw[ea G,sw p f b5]at h
   cases h
  .obtain⟨j,rfl⟩:=ax ep;have C:j<p.length:=(by omega);obtain rfl:=d4 (eW C);obtain⟨g,es,ba,cp,bc,ec,en⟩:=(a5 j C).keep (Oq (y.trans (A.mono y.size)));obtain⟨g,et,cn,cs,be,eg,bI⟩:=a5 j C;obtain rfl:et=es:=by have:=Oq (y.trans (A.mono y.size)) _ _ be;rw[bc]at this;injection this with this;exact this.symm
   obtain⟨g,g,g,g,rfl,g,ej,bM⟩:=eN bI;have ci:=Ou bM
   have g:p[j].ek.length<=4194304:=by
    have:=mO p[j];have:=kE (av C);omega
   have H:=Ou (ae C);clear bM en ec bI eg cn cs be;generalize p[j]=x at *
   go_wp2
   go_loopw [27] (λb wr=>∃c:Nat,c<=x.ek.length/\b=J I c/\(∀(a:Nat) (d:a<x.ek.length),a<c->x.ek[a].slot≠f)/\Below B.heap.size B wr) (λb _=>x.ek.length-(intOf b).toNat)
   case atStart=>exact ⟨0,az _,rfl,λa _ h=>absurd h (cW a),ay _ _⟩
   case round=>
    obtain⟨c,bs,rfl,b6,u⟩:=hrel;have Q:=Ou b6;clear b6;have ac:Below a.heap.size a wr:=A.trans (u.mono A.size)
    by_cases L:c<x.ek.length
    .obtain rfl:=ej (eW L);obtain⟨g,g,g,E,ak,b7,b8,b9,ca,cb,cc⟩:=ci c L;have k:=Oq (y.trans (ac.mono y.size));replace ak:=k _ _ ak;replace b7:=k _ _ b7;replace b8:=k _ _ b8;replace b9:=k _ _ b9;replace ca:=k _ _ ca;replace cb:=k _ _ cb;replace cc:=k _ _ cc;have ck:=Ou E;obtain⟨l,_,_,n,rfl,_⟩:=E.1;obtain⟨o,_,_,q,rfl,_⟩:=E.2.1;obtain⟨r,_,_,s,rfl,_⟩:=E.2.2;have g:=Oo ak;have cf:=Ou (ae L);have g:=Ou (show x.ek[c].slot=x.ek[c].slot from rfl);clear E k ba cp bc
     by_cases D:x.ek[c].slot=f
     .have er:(x.ek[c].slot == f)=K:=(by simpa using D);have a4:=Ou (show fy p i f=M (j,c) by rw[ea G,sx p ad f (by omega) H.out,EF L D Q.out]);have cg:=Ou (show mh p (j,c)=M x.ek[c] by unfold mh;rw[ea H];exact cf);clear D;generalize x.ek[c]=m at *;have e:=d.below u (by have:=z.size;omega);have d:=e.lt;have S:=e.cell 0;have T:=e.cell 1;have V:=e.cell 2;have X:=e.cell 3;have Y:=e.cell 4;have aa:=e.cell 5;have ab:=e.cell 6;have cA:=e.frozen 0;have dp:=e.frozen 1;have ds:=e.frozen 2;have d0:=e.frozen 3;have d1:=e.frozen 4;have d2:=e.frozen 5;have d3:=e.frozen 6;simp only[bY,bU]at S T V X Y aa ab;go_wp2_with fail;have b:=xu e (J I m.slot) (O l m.args.length n) (J I m.ret) (J I m.locals) (J I m.stack) (O o m.code.length q) (O r m.frames.length s);have t:=DT wr (a.heap.size+1) (J I m.slot) (O l m.args.length n) (J I m.ret) (J I m.locals) (J I m.stack) (O o m.code.length q) (O r m.frames.length s);unfold tU at b t;generalize World.setCell _ _ _=Z0 at b t ⊢;replace b:=b.alloc (zC #[J I m.slot,O l m.args.length n,J I m.ret,J I m.locals,J I m.stack,O o m.code.length q,O r m.frames.length s] 63);have bo:=t.alloc (zC #[J I m.slot,O l m.args.length n,J I m.ret,J I m.locals,J I m.stack,O o m.code.length q,O r m.frames.length s] 63);generalize Z0.alloc _=Z at b bo ⊢
      have ei:Below a.heap.size a Z:=by
       exact ac.trans (bo.below ac.size (λc bs R=>by omega))
      have an:Z.cell? ⟨a.heap.size+1,0,U⟩=M (J I m.slot):=(by rw[b.cell];rfl);have ao:Z.cell? ⟨a.heap.size+1,1,U⟩=M (O l m.args.length n):=(by rw[b.cell];rfl);have ar:Z.cell? ⟨a.heap.size+1,2,U⟩=M (J I m.ret):=(by rw[b.cell];rfl);have a0:Z.cell? ⟨a.heap.size+1,3,U⟩=M (J I m.locals):=(by rw[b.cell];rfl);have a1:Z.cell? ⟨a.heap.size+1,4,U⟩=M (J I m.stack):=(by rw[b.cell];rfl);have a2:Z.cell? ⟨a.heap.size+1,5,U⟩=M (O o m.code.length q):=(by rw[b.cell];rfl);have a3:Z.cell? ⟨a.heap.size+1,6,U⟩=M (O r m.frames.length s):=(by rw[b.cell];rfl);refine bodyPost_ret (v:=.tuple #[.agg #[J I m.slot,O l m.args.length n,J I m.ret,J I m.locals,J I m.stack,O o m.code.length q,O r m.frames.length s],zB K]) (by simp[results,Tryz.results109,go_sem,an,ao,ar,a0,a1,a2,a3]) rfl ⟨m,l,o,r,n,q,s,by rw[show (fy p i f).isSome=K by rw[ea a4];rfl],?_,ei⟩;intro cu h;rw[ea a4]at h
      injection h with h
      subst h;exact⟨ea cg,ea ck⟩
     .have er:(x.ek[c].slot == f)=F:=by simpa using D
      go_wp2
      exact⟨⟨c+1,by omega,by go_num,λa d h=>by
       rcases bt a c with b | b
       .exact Q a d b
       .obtain rfl:a=c:=by omega
        exact D,u.trans ((ev _ _).mono u.size)⟩,by simp[intOf];omega⟩
    .have a:=Oq u _ _ cz;have a:=Oq u _ _ ba
     go_wp2
     have a:=my (ad j x (by omega) H);exact⟨⟨x.sup,a.1,by omega,rfl,by rw[ea G,sx p ad f (by omega) H.out,EE λa d=>ea Q a d (by omega)],z.trans (u.mono z.size)⟩,by simp[intOf];omega⟩
theorem GH(p f d)(c e:Int)(b)(r:eQ b f p)(s:ez p d)(q:d<=p.length)(n: -1<=c)(o:c<d)(t:eM p<=4194304):
  Calls Tryz.prog 109 #[.agg #[f],J I c,J I e] b λm u=>
   ∃(a:eh) (g i k:Om) (h j l:Nat),m=zR (.tuple #[.agg #[J I a.slot,O g a.args.length h,J I a.ret,J I a.locals,J I a.stack,O i a.code.length j,O k a.frames.length l],zB (fy p c e).isSome])/\
    Found b p c e a (O g a.args.length h) (O i a.code.length j) (O k a.frames.length l)/\Below b.heap.size b u:=
 tm p f d c e b b r (ay _ _) s q n o t
end
end Go.Proofs.YtiiokkllmchohaaGreat
