/- The document's Certify, walked. -/
import Derived.Test.YtiiokkllmchohaaGreatT41
import Derived.Test.YtiiokkllmchohaaGreatT43
set_option maxHeartbeats 0
set_option maxRecDepth 99999
namespace Go.Proofs.YtiiokkllmchohaaGreat
open Go.Value renaming int->J,slice->O,pointer->zP,bool->zB
open Go.IntKind renaming i64->I
open Option renaming none->U,some->M
open Bool renaming true->K,false->F
open Go.Ending renaming returned->zR
open Go.Obj renaming cells->zC
open Go.RowKit Go.Shelf
section
attribute [local go_sem ↓] Go.wp_at_zero Go.wp_at_succ
attribute [local go_sem] eZ
def up (n:Nat)(p:On)(Q:Nat->Nat->Option eT)(w w':World)(e:Ending):Prop:=
 (fi p≠0->e=zR (.tuple #[.agg #[O U 0 0],J I (fi p)]))/\(fi p=0->(uk p Q/\∃v,e=zR (.tuple #[.agg #[v],J I 0])/\eG 3 (lw (sel (λk=>k<n\/w.heap.size+1<k) w')) v (mY p (nc Q)))\/(¬uk p Q/\e=zR (.tuple #[.agg #[O U 0 0],J I 5])))/\Below w.heap.size w w'
theorem Me(g p a8 d)(hu:g<=d.heap.size)(ab:eG 3 (lw (sel (λa=>a<g) d)) a8 p)(hC:je p)(a3:eM p<=4194304)(f)(hj:fi p=0->Ends p f):
  Calls Tryz.prog 22 #[.agg #[a8]] d λe hI=>up g p f d hI e:=by
 have eg:Hid (eQ d a8 p):=eA iR ab;have g2:=Ou hj;have gc:=Ou (λd ab=>Ed p a8 d ab hC a3);have g5:=Ou (λc b N f3 f4 d ab k aa a j f h i e g C ej l cm=>Ms p a8 c b N f3 f4 d ab k aa a3 a j f h i e g C ej l cm);have:p.length<=4194304:=ap (fQ p) a3;obtain⟨a6,f1,f2,L,rfl,_,a8,hj⟩:=eN ab;have g1:=Ou hj;have g0:=Ou a8;have cs:=gS d (zC #[O a6 p.length L] 24) (zC #[O U 0 0] 24);have ds:=(Oz d #[O a6 p.length L] 24).alloc (zC #[O U 0 0] 24);have b8:=Oz (d.alloc (zC #[O a6 p.length L] 24)) #[O U 0 0] 24;rw[World.size_alloc]at b8;go_in
 go_wp2_with fail;generalize (d.alloc _).alloc _=W at *;refine(gc W (eA (Oq cs) eg)).mono ?_;rintro e ba ⟨rfl,bo⟩;have cu:=eu cs bo;have d0:=ds.bl bo;have P:=b8.bl bo
 by_cases aa:fi p=0
 rotate_left
 .have ha:=P.c0;have X:=P.frozen 0;have i:=Ou aa;have:(fi p != 0)=K:=by simpa using aa
  have z:=P.setCell 0 (O U 0 0);have h:=Ou (cu.setCell (p:=⟨d.heap.size+1,0,U⟩) (by dsimp only;omega) (O U 0 0));go_wp2;refine bodyPost_ret (jk rfl yH z rfl rfl) rfl ?_;exact⟨λ_=>rfl,λe=>absurd e i,ea h⟩
 have G:=Ou aa;rw[aa];have v:=ev ba (zC #[O U 0 0] 24);have hq:=P.lt;obtain⟨be,bs⟩:∃be,be=ba.heap.size:=⟨_,rfl⟩
 have cc:Hid (pj g d (ba.alloc (zC #[O U 0 0] 24)) be (O a6 p.length L) (O U 0 0) ((mY p (nc f)).take 0)):=
  ⟨eu cu v,d0.bl v,P.bl v,(by rw[bs];exact Oz ba _ _),⟨[],World.ownsRow_nil _ _ _ _,lA.nil⟩,by omega,hu⟩
 go_wp2_with fail;generalize ba.alloc _=W2 at *;rw[<-bs];clear bs v hq cu bo d0 P ds b8 cs;have hK:=cc.out.b0.c0
 go_loopg [6] p.length (λe j i=>∃(c:Nat) (b6:Value),c<=p.length/\e=p.length-c/\j=J I c/\pj g d i be (O a6 p.length L) b6 ((mY p (nc f)).take c)/\∀(g a:Nat) (b:eh),g<c->gh p g a=M b->f g a≠U)
 case atStart=>exact ⟨0,_,az _,rfl,rfl,ea cc,λg a b u=>by omega⟩
 case round=>
  clear cc hK
  rename World=>k
  obtain⟨c,b6,ho,fc,rfl,i,e9⟩:=hrel;have ac:=Ou i;have gf:=Ou fc;have d3:=Ou e9;clear fc e9;have f6:=i.b0.c0
  by_cases C:c<p.length
  rotate_left
  .obtain rfl:c=p.length:=by omega
   have R:¬(p.length:Int)<(p.length:Int):=(by omega)
   have D:uk p f:=λc a b d=>by
    have ho:=(kZ G d).2.1;exact d3 c a b (by omega) d
   obtain⟨N,j,h,rfl⟩:∃q g r,b6=O q g r:=by
    obtain⟨an,l,_⟩:=i.row;obtain⟨q,r,u⟩:=fd l;exact⟨q,_,r,u⟩
   have Y:=i.b1.c0;have X:=i.b1.frozen 0;have S:=i.blk.c0;have:=i.lo;have z:=i.b1.setCell 0 (O N j h);have A:ee (λa=>a=d.heap.size+1) k (k.setCell ⟨d.heap.size+1,0,U⟩ (O N j h)):=(Ow (λa=>a=d.heap.size+1) k).setCell (p:=⟨d.heap.size+1,0,U⟩) (λ_=>rfl) _;have l:=i.fin A;rw[aH (by simp[mY])]at l
   have H:Hid (up g p f d (k.setCell ⟨d.heap.size+1,0,U⟩ (O N j h)) (zR (.tuple #[.agg #[O N j h],J I 0]))):=
    ⟨λe=>absurd G e,λ_=>.inl ⟨D,_,rfl,l⟩,i.bel.trans (A.below i.bel.size (λa E e=>by omega))⟩
   clear i D A l;go_wp2;refine bodyPost_ret (jk rfl yH z rfl rfl) rfl ?_;exact H
  obtain rfl:=ea g0 (eW C);have P:=fp c;have ha:(c:Int)<(p.length:Int):=by omega
  obtain⟨f4,P,bf,bh,bk,cz,fs⟩:=g1 c C;replace bf:=iR _ _ bf;replace bh:=iR _ _ bh;replace bk:=iR _ _ bk
  have d5:Hid (∀(a:Nat) (b:eh),p[c].ek[a]? =M b->gh p c a=M b):=λa b d=>by
   unfold gh;rw[am ⟨by omega,by omega⟩,aK,aK,ae C];exact d
  have ec:Hid (∀(a:Nat) (b:eh),gh p c a=M b->a<p[c].ek.length):=λa b d=>by
   unfold gh at d;rw[am ⟨by omega,by omega⟩,aK,aK,ae C]at d;exact(ag.1 d).1
  have b9:Hid ((mY p (nc f)).take (c+1)=(mY p (nc f)).take c++ [{ p[c] with ek:=p[c].ek.mapIdx λa b=>pz b (nc f c a) }]):=by
   show _=_
   rw[bd,wv,ae C]
   rfl
  have hr:p[c].ek.length<=4194304:=ap (mO _) (ap (kE (av C)) a3);obtain⟨F,cA⟩:∃F,F=p[c].ek.mapIdx λa b=>pz b (nc f c a):=⟨_,rfl⟩;rw[<-cA]at b9
  have d9:Hid (∀(a:Nat) (b:eh),p[c].ek[a]? =M b->F.take (a+1)=F.take a++ [pz b (nc f c a)]):=λa b d=>by
   rw[bd,cA,dR,d]
   rfl
  have C:F.length=p[c].ek.length:=by rw[cA];simp
  have d6:=Ou C;generalize p[c]=x at *;obtain⟨n,m,h⟩:=x;dsimp only at bf bh bk cz fs hr d5 b9 d9 d6 ec;obtain⟨s,_,_,t,rfl,_⟩:=id cz;obtain⟨a4,C,C,a5,rfl,C,C,P⟩:=eN fs;have gs:=Ou P;have gq:=Ou C;have gb:=Ou cz;have cf:=Oq i.bel _ _ bf;have cg:=Oq i.bel _ _ bh;have ci:=Oq i.bel _ _ bk
  obtain⟨C,C,C,rfl⟩:∃q g r,b6=O q g r:=by
   obtain⟨an,l,_⟩:=i.row;obtain⟨q,r,u⟩:=fd l;exact⟨q,_,r,u⟩
  have hB:=i.bel.size;have a1:=gS k (zC #[J I n,O s m.length t,O a4 h.length a5] 66) (zC #[J I n,O s m.length t,O U 0 0] 66);have f9:=(Oz k #[J I n,O s m.length t,O a4 h.length a5] 66).alloc (zC #[J I n,O s m.length t,O U 0 0] 66);have d1:=Oz (k.alloc (zC #[J I n,O s m.length t,O a4 h.length a5] 66)) #[J I n,O s m.length t,O U 0 0] 66;rw[World.size_alloc]at d1
  have gm:Hid (pn g k ((k.alloc (zC #[J I n,O s m.length t,O a4 h.length a5] 66)).alloc (zC #[J I n,O s m.length t,O U 0 0] 66)) (k.heap.size+1) (O (M ⟨f1,f2,U⟩) p.length L) (O s m.length t) (O U 0 0) n (F.take 0)):=
   ⟨a1,d1,⟨[],World.ownsRow_nil _ _ _ _,lA.nil⟩,by omega⟩
  have d4:=Ou f9;go_wp2_with fail;generalize (k.alloc _).alloc _=Wb at *;have hL:=d4.out.c2
  go_loopg [9] h.length (λe j i=>∃(a:Nat) (b7:Value),a<=h.length/\e=h.length-a/\j=J I a/\pn g k i (k.heap.size+1) (O (M ⟨f1,f2,U⟩) p.length L) (O s m.length t) b7 n (F.take a)/\ed i k.heap.size 66 [J I n,O s m.length t,O a4 h.length a5]/\∀(g:Nat) (b:eh),g<a->gh p c g=M b->f c g≠U)
  case atStart=>exact ⟨0,_,az _,rfl,rfl,ea gm,ea d4,λg b u=>by omega⟩
  case round=>
   rename World=>j
   obtain⟨a,b7,E,hp,rfl,o,eo,i⟩:=hrel;have gk:=Ou hp;have d2:=Ou i;have gn:=Ou o;have g7:=Ou eo
   obtain⟨i,i,i,hA,f0⟩:∃q g r,b7=O q g r/\∀e,b7.ownBlock=M e->e<j.heap.size:=by
    obtain⟨an,l,_⟩:=o.row;obtain⟨q,r,u⟩:=fd l;exact⟨q,_,r,u,λe D=>(l.lt e D).2⟩
   subst hA;have hL:=eo.c2;have hm:=o.bel.size;have:=o.blk.lt
   by_cases bM:a<h.length
   rotate_left
   .obtain rfl:a=h.length:=by omega
    have R:¬(h.length:Int)<(h.length:Int):=(by omega);have Q:=ac.below o.bel;have f6:=o.blk.c0;have Y:=o.blk.c1;have S:=o.blk.c2;have:=Q.blk.c0;have y:=o.fin;rw[aH (by rw[ea d6];exact ai _)]at y;have bs:=ac.blk.lt;obtain⟨g9,hF,hf,hJ,cn,hc,hg,w⟩:=Q.next (B:=k.heap.size+1+1) (by rw[aR];omega) (λe D=>by obtain⟨an,l,_⟩:=ac.row;have:=(l.lt e D).2;omega) (by omega) (x:=⟨n,m,F⟩) (fu (fW (Ox Q.bel) λa E a0=>⟨λe=>by omega,.inl a0⟩) gb) y;rw[<-ea b9]at w;have A:=Ou w
    have z:Hid (∀(g a:Nat) (b:eh),g<c+1->gh p g a=M b->f g a≠U):=λg a b u d=>by
     by_cases e:g=c
     .subst e;have E:a<h.length:=ea ec a b d;exact d2 a b E d
     .exact d3 g a b (by omega) d
    go_wp2_with (at_builtin;refine OA rfl (.tmp 70) (.tmp 72) 22 rfl _ _ rfl rfl cn ?_)
    go_roundg (p.length-(c+1))
    case measure=>have:=ea gf;omega
    case rel=>exact ⟨c+1,_,by omega,rfl,by go_num,ea A,ea z⟩
   obtain rfl:=ea gq (eW bM);have:=fp a;have:(a:Int)<(h.length:Int):=(by omega);have b5:=ea d5 a h[a] (ae bM);have l:=Eg G b5;obtain⟨ej,cm⟩:=g2 G c a h[a] b5;obtain⟨hE,hH,hi,hv,hw⟩:=Na G a3 b5 l.cd l.cl (by have:=l.l1;omega) cm;have g4:=Ou (d9 a h[a] (ae bM));obtain⟨N,f3,i,bI,cf,cg,ci,e1,e2,e3,e4⟩:=gs a bM;have gx:=Ou b5;generalize h[a]=b at *;have cb:=Ou bI;obtain⟨R,_,_,S,rfl,_⟩:=bI.1;obtain⟨T,_,_,V,rfl,_⟩:=bI.2.1;obtain⟨ao,_,_,ar,rfl,_⟩:=bI.2.2;have w:Below d.heap.size d j:=ac.bel.trans (o.bel.mono hB);replace cf:=Oq w _ _ (iR _ _ cf);replace cg:=Oq w _ _ (iR _ _ cg);replace ci:=Oq w _ _ (iR _ _ ci);replace e1:=Oq w _ _ (iR _ _ e1);replace e2:=Oq w _ _ (iR _ _ e2);replace e3:=Oq w _ _ (iR _ _ e3);replace e4:=Oq w _ _ (iR _ _ e4);have bz:=ev j (zC #[J I b.slot,O R b.args.length S,J I b.ret,J I b.locals,J I b.stack,O T b.code.length V,O ao b.frames.length ar] 63);have y:=Oz j #[J I b.slot,O R b.args.length S,J I b.ret,J I b.locals,J I b.stack,O T b.code.length V,O ao b.frames.length ar] 63;have hz:(j.alloc (zC #[J I b.slot,O R b.args.length S,J I b.ret,J I b.locals,J I b.stack,O T b.code.length V,O ao b.frames.length ar] 63)).heap.size=j.heap.size+1:=(by simp);have Q:=ac.below (o.bel.trans (bz.mono hm));have f6:=Q.b0.c0;have gl:=Ou Q;go_upto_region 14 with fail
   generalize j.alloc _=We at *;have es:=y.c0;have et:=y.c1;have eK:=y.c2;have eP:=y.c3;have eR:=y.c4;have eS:=y.c5;have e0:=y.c6;have cp:=eu w bz;have g6:=Ou hz;have ei:=ea g5 (c:Int) b (O R b.args.length S) (O T b.code.length V) (O ao b.frames.length ar) We (eA (Oq cp) eg) (Ot (Oq cp) (Ot iR cb)) G l.ok l.ins l.c40 l.c0 l.c1 l.l1 l.cd l.cl hE hH hi;unfold fB at ei;go_wp2_with fail;refine ei.mono ?_;rintro e ak ⟨hx,hy,v⟩;have hn:=v.size;have ad:=gl.below v
   cases a2:f c a with
   | none =>
    obtain rfl:=hx (hv a2);have D:¬uk p f:=λu=>u c a b gx a2;have Y:=ad.b1.c0;have X:=ad.b1.frozen 0;have z:=ad.b1.setCell 0 (O U 0 0);have A:ee (λa=>a=d.heap.size+1) ak (ak.setCell ⟨d.heap.size+1,0,U⟩ (O U 0 0)):=(Ow (λa=>a=d.heap.size+1) ak).setCell (p:=⟨d.heap.size+1,0,U⟩) (λ_=>rfl) _
    have H:Hid (up g p f d (ak.setCell ⟨d.heap.size+1,0,U⟩ (O U 0 0)) (zR (.tuple #[.agg #[O U 0 0],J I 5]))):=
     ⟨λe=>absurd G e,λ_=>.inr ⟨D,rfl⟩,ad.bel.trans (A.below ad.bel.size (λa E e=>by omega))⟩
    go_wp2;refine bodyPost_ret (jk rfl yH z rfl rfl) rfl ?_;exact H
   | some dp =>
    obtain⟨en,hk,i,hl,_⟩:=hw dp a2;obtain⟨hD,an,rfl,e7,e6,i⟩:=hy en hk;have fn:nc f c a=dp:=(by unfold nc;rw[a2];rfl);have z:=y.bl v;have es:=z.c0;have et:=z.c1;have eK:=z.c2;have eP:=z.c3;have eR:=z.c4;have eS:=z.c5;have e0:=z.c6;have i:=eu cp v;have ca:=Mh p b (O R b.args.length S) (O T b.code.length V) (O ao b.frames.length ar) K en an We.heap.size hD ak (Ot (Oq i) (Ot iR cb)) e7 e6 l.c40 hn;rw[hl]at ca;unfold fB at ca;have g3:=Ou a2;go_wp2_with fail;refine ca.mono ?_;rintro e H ⟨i,rfl,bn,a1⟩;obtain⟨X,_,_,Y,rfl,_⟩:=id bn;obtain⟨Z,fa⟩:∃g,g=(py b dp).length:=⟨_,rfl⟩;rw[<-fa]at bn ⊢;clear fa;have bc:=z.bl a1;have:=a1.size;have ck:ee (λa=>a=j.heap.size) H (H.setCell ⟨j.heap.size,6,U⟩ (O X Z Y)):=(Ow (λa=>a=j.heap.size) H).setCell (p:=⟨j.heap.size,6,U⟩) (λ_=>rfl) _;have A:=bc.setCell 6 (O X Z Y);have:=ea g6;have br:Below j.heap.size j (H.setCell ⟨j.heap.size,6,U⟩ (O X Z Y)):=(bz.trans ((v.mono bz.size).trans (a1.mono (by omega)))).trans (ck.below (by omega) (λa E e=>by omega));have ce:=gn.below br;have ep:=g7.bl br
    have fo:fK (sel (λa=>a<g\/We.heap.size<=a) (H.setCell ⟨j.heap.size,6,U⟩ (O X Z Y))) (pz b (nc f c a)) (O R b.args.length S) (O T b.code.length V) (O X Z Y):=by
     have i:fN (sel (λa=>a<g) d) (sel (λa=>a<g\/We.heap.size<=a) (H.setCell ⟨j.heap.size,6,U⟩ (O X Z Y))):=fW (Ox (eu w br)) λa E a0=>⟨λe=>by omega,.inl a0⟩;have D:=Ot i cb;refine⟨D.1,D.2.1,?_⟩;rw[fn];exact wO (fW ck λa E a0=>⟨λe=>by omega,.inr a0⟩) bn
    obtain⟨g9,hF,hf,hJ,cn,hc,hg,a0,e5,ft⟩:=ce.next (B:=We.heap.size) (by omega) (by rw[aR];omega) (λe D=>by have:=f0 e D;omega) (by omega) fo;rw[<-ea g4]at a0
    have er:=ep.mods e5 (by
     rintro (e | e)
     .have:=ft _ e;omega
     .omega)
    have gp:=Ou a0;have g8:=Ou er
    have ga:Hid (∀(g:Nat) (b:eh),g<a+1->gh p c g=M b->f c g≠U):=λg b u d=>by
     by_cases e:g=a
     .subst e;rw[ea g3];simp
     .exact d2 g b (by omega) d
    have hG:=bc.c6;have hh:=bc.frozen 6;have es:=A.c0;have et:=A.c1;have eK:=A.c2;have eP:=A.c3;have eR:=A.c4;have eS:=A.c5;have e0:=A.c6;have:=ce.blk.c2;clear a0 er ce ep fo bn e5 ft ck A bc br fn e7 e6 f0;go_upto_region 18 with fail
    generalize H.setCell _ _=V4 at *;clear hG hh;go_wp2_with (at_builtin;refine OA rfl (.tmp 64) (.tmp 66) 64 rfl _ _ rfl rfl cn ?_)
    go_roundg (h.length-(a+1))
    case measure=>have:=ea gk;omega
    case rel=>exact ⟨a+1,_,by omega,rfl,by go_num,ea gp,ea g8,ea ga⟩
end
section
attribute [local go_sem ↓] Go.wp_at_zero Go.wp_at_succ
def lK (v:LVal):List Value:=match v.obj with
 | some k => [J I 2,J I ((k : Int) + 1)]
 | none => if v.kind = 0 then [J I 1,J I v.num] else if v.kind = 1 then [J I 2,J I 0] else [J I 0,J I 0]
theorem uw:jJ Tryz.prog 183 2:=⟨by kernel_rfl,by kernel_rfl⟩
def zq (t:Int):LVal:=if t=0 then gt 0 else rm
theorem Mi(b a):Calls Tryz.prog 174 #[J I b] a λc e=>c=zR (.agg (lK (zq b)).toArray)/\Below a.heap.size a e:=by
 go_in
 go_wp2_with fail
 .next h=>
  obtain rfl:b=0:=by simpa using h
  refine bodyPost_ret (j9 rfl uw (Oz a #[J I 1,J I 0] 183) rfl rfl) rfl ?_;exact⟨rfl,ev _ _⟩
 .next h=>
  have d:b≠0:=by simpa using h
  refine bodyPost_ret (j9 rfl uw (Oz a #[J I 2,J I 0] 183) rfl rfl) rfl ?_;refine⟨?_,ev _ _⟩;unfold zq;rw[af d]
  rfl
def rC (op x y:Int):Option Int:=if op=3 then M (wrap64 (x+y)) else if op=4 then M (wrap64 (x-y)) else if op=5 then M (wrap64 (x*y)) else if y=0 then U else M (wrap64 (Int.tdiv x y))
theorem Mx(b x a d)(i:b=3\/b=4\/b=5\/b=6):Calls Tryz.prog 178 #[J I b,J I x,J I a] d λh j=>h=zR (.tuple #[J I ((rC b x a).getD 0),zB (rC b x a).isSome])/\Below d.heap.size d j:=by
 rcases i with rfl | rfl | rfl | rfl
 .go_in
  go_wp2
  go_ret2
  exact⟨rfl,ay _ _⟩
 .go_in
  go_wp2
  go_ret2
  exact⟨rfl,ay _ _⟩
 .go_in
  go_wp2
  go_ret2
  exact⟨rfl,ay _ _⟩
 .by_cases c:a=0
  .subst c;go_in
   go_wp2
   go_ret2
   exact⟨rfl,ay _ _⟩
  .have:(a == 0)=F:=(by simpa using c)
   have g:rC 6 x a=M (wrap64 (x.tdiv a)):=by
    unfold rC;rw[af (by decide),af (by decide),af (by decide),af c]
   rw[g];clear g
   by_cases e:a= -1
   .subst e;have f:x.tdiv (-1)= -x:=(by rw[Int.tdiv_neg,Int.tdiv_one]);rw[f];clear f;go_in
    go_wp2
    go_ret2
    exact⟨rfl,ay _ _⟩
   .have:(a == -1)=F:=(by simpa using e);go_in
    go_wp2
    go_ret2
    exact⟨rfl,ay _ _⟩
theorem rz(b d c a f)(i:a<=30)(h:b.cell? ⟨d,3,U⟩=M (O (M ⟨c,0,U⟩) (a+1) f)):
  Calls Tryz.prog 175 #[zP (M ⟨d,0,U⟩)] b λg e=>g=zR (zP (M ⟨c,a*5,U⟩))/\Below b.heap.size b e:=by
 have:=fp a;have:(a:Int)<(a:Int)+1:=by omega
 have:IntKind.i64.wrap (a:Int)=(a:Int):=by rw[IntKind.wrap_i64];omega
 go_in
 go_wp2;refine fk (λe=>e.cell? ⟨d,3,U⟩=M (O (M ⟨c,0,U⟩) (a+1) f)) (Oq ((ay _ _).drew) _ _ h) λhHeld=>?_;refine dZ 3 0 ?_;refine dZ 4 1 ?_;refine dZ 5 2 ?_;refine dZ 6 3 ?_;refine dZ 7 4 ?_;refine dZ 8 5 ?_;refine dZ 9 6 ?_;refine dZ 10 7 ?_;refine dZ 11 8 ?_;refine dZ 12 9 ?_;refine dZ 13 10 ?_;refine dZ 2 11 ?_;refine eV ?_;go_wp2;go_ret;exact⟨rfl,(ay _ _).drew⟩
end
section
variable {α : Type} {f : α -> List Value} {s : Nat}
theorem uF (c:∀x,(f x).length=s):∀(b:List α) (a:Nat),(b.flatMap f).take (a*s)=(b.take a).flatMap f
 | [], a => by simp
 | x :: b, 0 => by simp
 | x :: b, a + 1 => by
  rw[dz,cF,cF,dK,c,aH (by rw[c,cq];omega),show (a+1)*s-s=a*s by rw[cq];omega,uF c b a]
theorem CB (c:∀x,(f x).length=s):∀(b:List α) (a:Nat),(b.flatMap f).drop (a*s)=(b.drop a).flatMap f
 | [], a => by simp
 | x :: b, 0 => by simp
 | x :: b, a + 1 => by
  rw[List.drop_succ_cons,cF,cY,c,ct (by rw[c,cq];omega),bN,show (a+1)*s-s=a*s by rw[cq];omega,CB c b a]
theorem CC(b:∀x,(f x).length=s){c:List α}{a}(d:a<c.length)(x):(c.set a x).flatMap f=OL (c.flatMap f) (a*s) (f x):=by
 unfold OL;rw[uF b,b,show a*s+s=(a+1)*s by rw[cq],CB b,dh,am d,cG,cF,a9]
end
theorem xv{a b c}(d:b<a.length):OL a b [c]=a.set b c:=by
 unfold OL;rw[dh,am d,a9];rfl
theorem Ly{a d e}(b){c g}(h:c<b.length)(i:a.length=e):OL (a++b++d) (e+c) [g]=a++b.set c g++d:=by
 rw[xv (by simp;omega),a9,bS _ _ (by omega),i,dj,List.set_append_left _ _ h,a9]
theorem zZ{w k g b e c d q}(h:w.ownsRow k g b (O (M ⟨e,0,U⟩) c d) c q){o vs}(n:o+vs.length<=c*b):
  ∃a,ed w e g a/\o+vs.length<=a.length/\∀w',ed w' e g (OL a o vs)->w'.ownsRow k g b (O (M ⟨e,0,U⟩) c d) c (OL q o vs):=by
 rcases h.2 with ⟨i,_⟩ | ⟨g,g,a,i,r,t,l,u,v,x⟩
 .cases i
 .cases i
  have m:a.toList.length=d*b:=by rw[Array.length_toList];exact v
  have:c*b<=d*b:=bP b l;have j:o+vs.length<=a.toList.length:=by rw[m];omega
  refine⟨a.toList,t,j,λw' y=>⟨by rw[tV (by rw[h.1];exact n),h.1],.inr ⟨e,d,(OL a.toList o vs).toArray,rfl,r,y,l,u,by rw[dt,tV j,m],?_⟩⟩⟩
  show (OL a.toList o vs).take (c*b)=_
  apply cM
  intro z;rw[bj,rv j,rv (by rw[h.1];exact n),<-x,bj]
  by_cases a:z<c*b
  .simp only [a,if_true]
  .simp only [a,if_false];rw[af (by omega),af (by omega)]
def fY (l:List LVal):List Value:=l.flatMap lK
theorem pH(a):(lK a).length=2:=by
 unfold lK
 repeat' split
 all_goals rfl
theorem xB(c):∀b∈lK c,b.oneCell'=K:=by
 unfold lK
 repeat' split
 all_goals intro b a;simp only[aE,aF,or_false]at a;rcases a with rfl | rfl <;> rfl
theorem Ah(a):(fY a).length=a.length*2:=wM pH a
theorem Eb(b):∀a∈fY b,a.oneCell'=K:=λa b=>by
 obtain⟨d,_,c⟩:=List.mem_flatMap.1 b;exact xB d a c
theorem xA(a b):fY (a++b)=fY a++fY b:=by unfold fY;rw[cG]
theorem vg{b a c}(d:b[a]? =M c){j}(e:j<2):(fY b)[a*2+j]? =(lK c)[j]? :=by
 unfold fY;rw[OG pH b a j e,d];rfl
def fq (v:LVal):Int:=match v.obj with
 | some _ => 2
 | none => if v.kind = 0 then 1 else if v.kind = 1 then 2 else 0
def eI (v:LVal):Int:=match v.obj with
 | some k => (k : Int) + 1
 | none => if v.kind = 0 then v.num else 0
theorem pG(a):lK a= [J I (fq a),J I (eI a)]:=by
 unfold lK fq eI
 repeat' split
 all_goals first | rfl | simp_all
structure gD where
 cls:Nat
 wh:Nat
 vl:Value
 vs:Value
def p9 (y:eD×gD):List Value:= [J I (y.2.cls:Int),J I (y.2.wh:Int),J I (y.1.pc:Int),y.2.vl,y.2.vs]
def pD (y:fL×Value):List Value:= [J I y.1.cls,y.2]
structure RS where
 fx:List (eD×gD)
 ox:List (fL×Value)
 out:List Int
 steps:Nat
 k:Int
 v:Int
 vc:Value
 vo:Value
 eE:Value
def uR (vp:Value)(ask:Bool)(s:RS):List Value:= [vp,zB ask,s.vo,s.vc,J I s.k,J I s.v,s.eE,J I (s.steps:Int)]
structure ul (p:On)(w0 w:World)(ρ :Nat->Nat×Nat)(i:Nat)(f:eD)(x:gD):Prop where
 own:gh p (x.cls:Int) (x.wh:Int)=M f.m
 lo:w.ownsRow w0.heap.size 183 2 x.vl f.loc.length (fY f.loc)
 st:w.ownsRow w0.heap.size 183 2 x.vs f.stk.length (fY f.stk)
 r1:Rl ρ (1,i) x.vl
 r2:Rl ρ (2,i) x.vs
structure fh (p:On)(w0 w:World)(ρ :Nat->Nat×Nat)(mb:Nat)(vp:Value)(ask:Bool)(s:RS):Prop where
 eH:ed w mb 188 (uR vp ask s)
 base:w0.heap.size<=mb
 iv: ρ mb=(5,0)
 cal:w.ownsRow w0.heap.size 248 5 s.vc s.fx.length (s.fx.flatMap p9)
 jV:Rl ρ (6,0) s.vc
 obj:w.ownsRow w0.heap.size 245 2 s.vo s.ox.length (s.ox.flatMap pD)
 kO:Rl ρ (3,0) s.vo
 io:w.ownsRow w0.heap.size 3 1 s.eE s.out.length (s.out.map (J .i64))
 iZ:Rl ρ (7,0) s.eE
 fr:∀i y,s.fx[i]? =M y->ul p w0 w ρ i y.1 y.2
 ob:∀k y,s.ox[k]? =M y->w.ownsRow w0.heap.size 183 2 y.2 y.1.fO.length (fY y.1.fO)/\Rl ρ (4,k) y.2
 bel:Below w0.heap.size w0 w
 low:∀k,k<w0.heap.size->ρ k=(9,0)
section
variable {p : List eb} {w0 w w' : World} {ρ : Nat -> Nat × Nat} {mb : Nat} {vp : Value} {ask : Bool} {s s' : RS} {S : Nat -> Prop} {R : Nat × Nat -> Prop}
structure lz (S:Nat->Prop)(R:Nat×Nat->Prop)(ρ :Nat->Nat×Nat)(w w':World):Prop where
 m:ee S w w'
 i:∀k,k<w.heap.size->S k->R (ρ k)
theorem lz.own(d:lz S R ρ w w'){c a j e b k}(g:w.ownsRow c a j b e k){h}(n:Rl ρ h b)(l:¬R h):w'.ownsRow c a j b e k:=
 eX g d.m (λb c a=>l (n b c▸d.i b (g.lt b c).2 a))
theorem ul.stay{b f x}(a:ul p w0 w ρ b f x)(c:lz S R ρ w w'){ρ'}(d:Same w.heap.size ρ ρ')(e:¬R (1,b))(g:¬R (2,b)):ul p w0 w' ρ' b f x:=
 ⟨a.own,c.own a.lo a.r1 e,c.own a.st a.r2 g,a.r1.same d (λb c=>(a.lo.lt b c).2),a.r2.same d (λb c=>(a.st.lt b c).2)⟩
theorem fh.turn (e:fh p w0 w ρ mb vp ask s)(q:lz S R ρ w w')(j:Nat->Nat×Nat)(K:¬R (9,0))(F:ed w' mb 188 (uR vp ask s'))
  (D:w'.ownsRow w0.heap.size 248 5 s'.vc s'.fx.length (s'.fx.flatMap p9)) (z:s'.vc.ownBlock=s.vc.ownBlock\/∃b,w.heap.size<=b/\j b=(6,0)/\s'.vc.ownBlock=M b)
  (H:w'.ownsRow w0.heap.size 245 2 s'.vo s'.ox.length (s'.ox.flatMap pD)) (A:s'.vo.ownBlock=s.vo.ownBlock\/∃b,w.heap.size<=b/\j b=(3,0)/\s'.vo.ownBlock=M b)
  (I:w'.ownsRow w0.heap.size 3 1 s'.eE s'.out.length (s'.out.map (J .i64))) (B:s'.eE.ownBlock=s.eE.ownBlock\/∃b,w.heap.size<=b/\j b=(7,0)/\s'.eE.ownBlock=M b)
  (E:∀h d,s'.fx[h]? =M d->(s.fx[h]? =M d/\¬R (1,h)/\¬R (2,h))\/∀ c,Same w.heap.size ρ c->(∀a,w.heap.size<=a->c a=j a)->ul p w0 w' c h d.1 d.2)
  (G:∀a d,s'.ox[a]? =M d->(s.ox[a]? =M d/\¬R (4,a))\/∀ c,Same w.heap.size ρ c->(∀a,w.heap.size<=a->c a=j a)->w'.ownsRow w0.heap.size 183 2 d.2 d.1.fO.length (fY d.1.fO)/\Rl c (4,a) d.2) :
  ∃ c,fh p w0 w' c mb vp ask s':=by
 obtain⟨c,x⟩:∃ c:Nat->Nat×Nat,c=λa=>if w.heap.size<=a then j a else ρ a:=⟨_,rfl⟩
 have l:Same w.heap.size ρ c:=λa g=>by rw[x];show (if _ then _ else _)=_;rw[af (by omega)]
 have v:∀a,w.heap.size<=a->c a=j a:=λa g=>by rw[x];show (if _ then _ else _)=_;rw[am g]
 have u:∀ {o:Nat×Nat} {x y:Value},Rl ρ o x->(∀b,x.ownBlock=M b->b<w.heap.size)->(y.ownBlock=x.ownBlock\/∃b,w.heap.size<=b/\j b=o/\y.ownBlock=M b)->Rl c o y:=λh e d b c=>by
  rcases d with n | ⟨a,g,k,n⟩
  .have j:=n▸c;exact(l b (e b j)).trans (h b j)
  .rw [c]at n;obtain rfl:=aT n;exact(v b g).trans k
 have j:=e.bel.size;refine⟨c,F,e.base,(l _ e.eH.lt).trans e.iv,D,u e.jV (λb c=>(e.cal.lt b c).2) z,H,u e.kO (λb c=>(e.obj.lt b c).2) A,I,u e.iZ (λb c=>(e.io.lt b c).2) B,λh d t=>?_,λa d t=>?_,e.bel.trans (q.m.below j (λa g n=>K (e.low a g▸q.i a (by omega) n))),λa g=>(l a (by omega)).trans (e.low a g)⟩
 .rcases E h d t with ⟨k,r,C⟩ | k
  .exact (e.fr h d k).stay q l r C
  .exact k c l v
 .rcases G a d t with ⟨k,r⟩ | k
  .obtain⟨g,o⟩:=e.ob a d k;exact⟨q.own g o r,o.same l (λb c=>(g.lt b c).2)⟩
  .exact k c l v
theorem fh.below{d}(a:fh p w0 w ρ mb vp ask s)(g:Below d w w')(b:w.heap.size<=d):fh p w0 w' ρ mb vp ask s:=by
 have c:lz (λb=>d<=b) (λ_=>False) ρ w w':=⟨Ox g,λb c a=>by omega⟩;have:=a.eH.lt;exact⟨a.eH.below g (by omega),a.base,a.iv,c.own a.cal a.jV (λf=>f),a.jV,c.own a.obj a.kO (λf=>f),a.kO,c.own a.io a.iZ (λf=>f),a.iZ,λh e d=>(a.fr h e d).stay c (λ_ _=>rfl) (λf=>f) (λf=>f),λb e d=>⟨c.own (a.ob b e d).1 (a.ob b e d).2 (λf=>f),(a.ob b e d).2⟩,a.bel.trans (g.mono (by have:=a.bel.size;omega)),a.low⟩
theorem fh.drew (a:fh p w0 w ρ mb vp ask s):fh p w0 w.drew ρ mb vp ask s:=a.below (ay w.heap.size w).drew (ai _)
end
theorem tf(a):(p9 a).length=5:=rfl
theorem zT(a):(pD a).length=2:=rfl
theorem wL{α :Type}{a s}(d:∀x,(a x).length=s){b:List α}{c x x'}(hx:b[c]? =M x){j v}(h:j<s)(g:a x'=(a x).set j v):OL (b.flatMap a) (c*s+j) [v]=(b.set c x').flatMap a:=by
 obtain⟨e,i⟩:=ag.1 hx;have f:b=b.take c++x::b.drop (c+1):=by rw[<-i,List.getElem_cons_drop e,bH]
 rw[dh,am e,cG,cF,g,<-a9]
 conv=>lhs;rw[f,cG,cF,<-a9]
 exact Ly (a x) (by rw[d];exact h) (by rw[wM d,aR,cN (by omega)])
theorem EA{w:World}{e g d b a f i}(j:w.ownsRow e g d (O (M ⟨b,0,U⟩) a f) a i){o}(c)(l:o+1<=a*d):(w.setCell ⟨b,o,U⟩ c).ownsRow e g d (O (M ⟨b,0,U⟩) a f) a (OL i o [c])/\w.frozen? ⟨b,o,U⟩=F:=by
 obtain⟨a,h,k,a⟩:=zZ j (o:=o) (vs:= [c]) l;exact⟨a _ (by rw[xv (by simp at k;omega)];exact h.setCell o c),h.frozen o⟩
theorem jG(w a c d):ee (λb=>b=a) w (w.setCell ⟨a,c,U⟩ d):=(Ow (λb=>b=a) w).setCell (p:=⟨a,c,U⟩) (λ_=>rfl) d
section
variable {p : List eb} {w0 w w' : World} {ρ : Nat -> Nat × Nat} {mb : Nat} {vp : Value} {ask : Bool} {s s' : RS} {S : Nat -> Prop} {R : Nat × Nat -> Prop}
theorem fh.set (a:fh p w0 w ρ mb vp ask s)(b:Nat)(v:Value)(j:uR vp ask s'=(uR vp ask s).set b v:=by rfl)(g:s'.fx=s.fx:=by rfl)(f:s'.ox=s.ox:=by rfl)(i:s'.out=s.out:=by rfl)(d:s'.vc=s.vc:=by rfl)(e:s'.vo=s.vo:=by rfl)(h:s'.eE=s.eE:=by rfl):fh p w0 (w.setCell ⟨mb,b,U⟩ v) ρ mb vp ask s':=by
 have c:lz (λb=>b=mb) (λa=>a=(5,0)) ρ w (w.setCell ⟨mb,b,U⟩ v):=⟨jG w mb b v,λb _ c=>by subst c;exact a.iv⟩;have k:=a.bel.size;refine⟨by rw[j];exact a.eH.setCell b v,a.base,a.iv,?_,d▸a.jV,?_,e▸a.kO,?_,h▸a.iZ,λh e d=>(a.fr h e (g▸d)).stay c (λ_ _=>rfl) (by simp) (by simp),λb e d=>⟨c.own (a.ob b e (f▸d)).1 (a.ob b e (f▸d)).2 (by simp),(a.ob b e (f▸d)).2⟩,a.bel.trans (c.m.below k (λb f c=>by have:=a.base;omega)),a.low⟩
 .rw [d,g];exact c.own a.cal a.jV (by simp)
 .rw [e,f];exact c.own a.obj a.kO (by simp)
 .rw [h,i];exact c.own a.io a.iZ (by simp)
theorem fh.call(f:fh p w0 w ρ mb vp ask s){i y}(d:s.fx[i]? =M y):∃a b,s.vc=O (M ⟨a,0,U⟩) s.fx.length b/\s.vc.ownBlock=M a/\s.fx.length<=b/\(∀c,c<5->w.cell? ⟨a,i*5+c,U⟩=(p9 y)[c]?):=by
 have:=(ag.1 d).1;obtain⟨a,b,e,h,g,j⟩:=jH f.cal (by omega);exact⟨a,b,e,g,h,λc a=>by rw[j _ (by omega),OG tf _ _ _ a,d];rfl⟩
theorem fh.top(b:fh p w0 w ρ mb vp ask s){c d y'}(o:s.fx[c]? =M d)(h:lz S (λl=>l=(6,0)\/l=(1,c)\/l=(2,c)) ρ w w')(A:y'.1.m=d.1.m)(v:y'.2.cls=d.2.cls)(B:y'.2.wh=d.2.wh)(x:w'.ownsRow w0.heap.size 248 5 s.vc s.fx.length ((s.fx.set c y').flatMap p9))(E:w'.ownsRow w0.heap.size 183 2 y'.2.vl y'.1.loc.length (fY y'.1.loc))(G:w'.ownsRow w0.heap.size 183 2 y'.2.vs y'.1.stk.length (fY y'.1.stk))(t:y'.2.vl.ownBlock=d.2.vl.ownBlock)(u:y'.2.vs.ownBlock=d.2.vs.ownBlock\/∃a,w.heap.size<=a/\y'.2.vs.ownBlock=M a):∃ r,fh p w0 w' r mb vp ask { s with fx:=s.fx.set c y' } :=by
 have g:=b.fr c d o;have y:=(ag.1 o).1;refine b.turn h (λ_=>(2,c)) (by simp) ?_ (by rw[aO];exact x) (.inl rfl) (h.own b.obj b.kO (by simp)) (.inl rfl) (h.own b.io b.iZ (by simp)) (.inl rfl) (λC d f=>?_) (λD d f=>.inl ⟨f,by simp⟩)
 .exact b.eH.mods h.m (λe=>by have:=h.i mb b.eH.lt e;rw[b.iv]at this;simp at this)
 .by_cases n:c=C
  .subst n;rw[aA y]at f;obtain rfl:=aT f;refine .inr λr q F=>⟨by rw[v,B,A];exact g.own,E,G,λa k=>?_,λa k=>?_⟩
   .have j:=t▸k;exact(q a (g.lo.lt a j).2).trans (g.r1 a j)
   .rcases u with e | ⟨D,z,e⟩
    .have j:=e▸k;exact(q a (g.st.lt a j).2).trans (g.r2 a j)
    .rw [k]at e;obtain rfl:=aT e;exact F a z
  .rw [ah n]at f;exact .inl ⟨f,by simp;omega,by simp;omega⟩
theorem fh.at(e:fh p w0 w ρ mb vp ask s){a c}(f:s.fx[a]? =M c){d}(l:s.vc.ownBlock=M d)(g:Nat):
  (∃ t,fh p w0 (w.setCell ⟨d,a*5+2,U⟩ (J I (g:Int))) t mb vp ask { s with fx:=s.fx.set a ({ c.1 with pc:=g },c.2) })/\w.frozen? ⟨d,a*5+2,U⟩=F:=by
 have:=(ag.1 f).1;obtain⟨t,t,b,n,_,_⟩:=e.call f;rw[l]at n;obtain rfl:=aT n;have q:=e.cal;rw[b]at q;obtain⟨k,r⟩:=EA q (o:=a*5+2) (J I (g:Int)) (by omega);rw[wL tf f (x':=({ c.1 with pc:=g },c.2)) (by omega) rfl,<-b]at k;have h:=e.fr a c f;have j:lz (λa=>a=d) (λa=>a=(6,0)) ρ w (w.setCell ⟨d,a*5+2,U⟩ (J I (g:Int))):=⟨jG _ _ _ _,λa _ b=>by subst b;exact e.jV _ l⟩;exact⟨e.top f ⟨j.m,λa c b=>.inl (j.i a c b)⟩ rfl rfl rfl k (j.own h.lo h.r1 (by simp)) (j.own h.st h.r2 (by simp)) rfl (.inl rfl),r⟩
theorem fh.stk(f:fh p w0 w ρ mb vp ask s){c d}(i:s.fx[c]? =M d){b}(h:s.vc.ownBlock=M b){W}(l:ee (λe=>d.2.vs.ownBlock=M e) w W){vs' stk'}(z:W.ownsRow w0.heap.size 183 2 vs' stk'.length (fY stk'))(v:vs'.ownBlock=d.2.vs.ownBlock\/∃j,w.heap.size<=j/\vs'.ownBlock=M j):
  (∃ C,fh p w0 (W.setCell ⟨b,c*5+4,U⟩ vs') C mb vp ask { s with fx:=s.fx.set c ({ d.1 with stk:=stk' },{ d.2 with vs:=vs' }) })/\W.cell? ⟨b,c*5+4,U⟩=M d.2.vs/\W.frozen? ⟨b,c*5+4,U⟩=F:=by
 have C:=(ag.1 i).1;obtain⟨C,C,a,r,_,A⟩:=f.call i;rw[h]at r;obtain rfl:=aT r;have g:=f.fr c d i;have n:lz (λe=>d.2.vs.ownBlock=M e) (λa=>a=(2,c)) ρ w W:=⟨l,λe _ a=>g.r2 e a⟩;have t:=n.own f.cal f.jV (by simp);have u:¬d.2.vs.ownBlock=M b:=λa=>by have:=g.r2 b a;rw[f.jV b h]at this;simp at this
 have r:b<w.heap.size:=(f.cal.lt b h).2;rw[a]at t;obtain⟨q,y⟩:=EA t (o:=c*5+4) vs' (by omega);rw[wL tf i (x':=({ d.1 with stk:=stk' },{ d.2 with vs:=vs' })) (by omega) rfl,<-a]at q;have m:=jG W b (c*5+4) vs'
 have x:lz (λe=>d.2.vs.ownBlock=M e\/e=b) (λa=>a=(6,0)\/a=(1,c)\/a=(2,c)) ρ w (W.setCell ⟨b,c*5+4,U⟩ vs'):=⟨(l.mono λ_ _ a=>.inl a).trans m (λ_ _ a=>.inr a),λe B a=>by
  rcases a with a | a
  .exact .inr (.inr (g.r2 e a))
  .subst a;exact .inl (f.jV _ h)⟩
 refine⟨f.top i x rfl rfl rfl q (eX (n.own g.lo g.r1 (by simp)) m (λj k a=>?_)) (eX z m (λj k a=>?_)) rfl v,l.cell (A 4 (by omega)) u,y⟩
 .subst a;have:=g.r1 _ k;rw[f.jV _ h]at this;simp at this
 .subst a
  rcases v with a | ⟨e,B,a⟩
  .exact u (a▸k)
  .rw [k]at a;cases a;omega
theorem fh.loc(l:fh p w0 w ρ mb vp ask s){e a}(q:s.fx[e]? =M a){d H y b}(n:a.2.vl=O (M ⟨d,0,U⟩) H y)(D:b<a.1.loc.length)(c):
  ∃g,ed w d 183 g/\b*2+2<=g.length/\∀w',ed w' d 183 (OL g (b*2) (lK c))->ee (λf=>f=d) w w'->∃ K,fh p w0 w' K mb vp ask { s with fx:=s.fx.set e ({ a.1 with loc:=a.1.loc.set b c },a.2) } :=by
 have h:=l.fr e a q;have t:=h.lo;obtain⟨_,_,u⟩:=fd t;rw[n]at u
 cases u
 rw[n]at t;obtain⟨g,z,x,B⟩:=zZ t (o:=b*2) (vs:=lK c) (by rw[pH];omega);rw[pH]at x;refine⟨g,z,x,λw' A C=>?_⟩;have G: ρ d=(1,e):=h.r1 d (by rw[n];rfl);have k:lz (λf=>f=d) (λa=>a=(1,e)) ρ w w':=⟨C,λf _ r=>by subst r;exact G⟩;have E:=k.own l.cal l.jV (by simp);refine l.top (y':=({ a.1 with loc:=a.1.loc.set b c },a.2)) q ⟨k.m,λf d r=>.inr (.inl (k.i f d r))⟩ rfl rfl rfl ?_ ?_ (k.own h.st h.r2 (by simp)) rfl (.inl rfl)
 .have:=wL tf q (x':=({ a.1 with loc:=a.1.loc.set b c },a.2)) (j:=2) (v:=J I (a.1.pc:Int)) (by omega) rfl;have F:(s.fx.flatMap p9)[e*5+2]? =M (J I (a.1.pc:Int)):=by rw[OG tf _ _ _ (by omega),q];rfl
  obtain⟨d,e⟩:=ag.1 F;rw[<-this,xv d,<-e,List.set_getElem_self];exact E
 .have:=B w' A;rw[show OL (fY a.1.loc) (b*2) (lK c)=fY (a.1.loc.set b c) from (CC pH D c).symm]at this
  show w'.ownsRow _ _ _ a.2.vl (a.1.loc.set b c).length _
  rw[n,aO];exact this
theorem fh.print(c:fh p w0 w ρ mb vp ask s){d}(i:ee (λb=>s.eE.ownBlock=M b) w d){e out'}(o:d.ownsRow w0.heap.size 3 1 e out'.length (out'.map (J .i64)))(m:e.ownBlock=s.eE.ownBlock\/∃g,w.heap.size<=g/\e.ownBlock=M g):
  (∃ q,fh p w0 (d.setCell ⟨mb,6,U⟩ e) q mb vp ask { s with out:=out',eE:=e })/\d.cell? ⟨mb,6,U⟩=M s.eE/\d.frozen? ⟨mb,6,U⟩=F:=by
 have q:lz (λb=>s.eE.ownBlock=M b) (λa=>a=(7,0)) ρ w d:=⟨i,λb _ a=>c.iZ b a⟩;have l:¬s.eE.ownBlock=M mb:=λa=>by have:=c.iZ mb a;rw[c.iv]at this;simp at this
 have h:=c.eH.mods i l;have n:=jG d mb 6 e;have q:=c.eH.lt
 have f:lz (λb=>s.eE.ownBlock=M b\/b=mb) (λa=>a=(7,0)\/a=(5,0)) ρ w (d.setCell ⟨mb,6,U⟩ e):=⟨(i.mono λ_ _ a=>.inl a).trans n (λ_ _ a=>.inr a),λb j a=>by
  rcases a with a | a
  .exact .inl (c.iZ b a)
  .subst a;exact .inr c.iv⟩
 refine⟨c.turn f (λ_=>(7,0)) (by simp) (h.setCell 6 e) (f.own c.cal c.jV (by simp)) (.inl rfl) (f.own c.obj c.kO (by simp)) (.inl rfl) (eX o n (λg k a=>?_)) ?_ (λc b a=>.inl ⟨a,by simp,by simp⟩) (λb b a=>.inl ⟨a,by simp⟩),h.cell 6,h.frozen 6⟩
 .subst a
  rcases m with a | ⟨b,j,a⟩
  .exact l (a▸k)
  .rw [k]at a;cases a;omega
 .rcases m with a | ⟨b,j,a⟩
  .exact .inl a
  .exact .inr ⟨b,j,rfl,a⟩
theorem fh.im(d:fh p w0 w ρ mb vp ask s){b a}(g:s.ox[b]? =M a){e L A c}(k:a.2=O (M ⟨e,0,U⟩) L A)(F:c<a.1.fO.length)(f):
  ∃i,ed w e 183 i/\c*2+2<=i.length/\∀w',ed w' e 183 (OL i (c*2) (lK f))->ee (λb=>b=e) w w'->∃ z,fh p w0 w' z mb vp ask { s with ox:=s.ox.set b ({ a.1 with fO:=a.1.fO.set c f },a.2) } :=by
 obtain⟨r,n⟩:=d.ob b a g;have G:=(ag.1 g).1;have y:=r;obtain⟨_,_,t⟩:=fd r;rw[k]at t
 cases t
 rw[k]at y;obtain⟨i,B,x,D⟩:=zZ y (o:=c*2) (vs:=lK f) (by rw[pH];omega);rw[pH]at x;refine⟨i,B,x,λw' C E=>?_⟩;have q: ρ e=(4,b):=n e (by rw[k];rfl);have h:lz (λb=>b=e) (λn=>n=(4,b)) ρ w w':=⟨E,λb _ a=>by subst a;exact q⟩
 have H:(s.ox.set b ({ a.1 with fO:=a.1.fO.set c f },a.2)).flatMap pD=s.ox.flatMap pD:=by
  have:=wL zT g (x':=({ a.1 with fO:=a.1.fO.set c f },a.2)) (j:=0) (v:=J I a.1.cls) (by omega) rfl;have u:(s.ox.flatMap pD)[b*2+0]? =M (J I a.1.cls):=by rw[OG zT _ _ _ (by omega),g];rfl
  obtain⟨i,l⟩:=ag.1 u;rw[<-this,xv i,<-l,List.set_getElem_self]
 refine d.turn h (λ_=>(0,0)) (by simp) ?_ (h.own d.cal d.jV (by simp)) (.inl rfl) ?_ (.inl rfl) (h.own d.io d.iZ (by simp)) (.inl rfl) (λb a g=>.inl ⟨g,by simp,by simp⟩) (λK g l=>?_)
 .exact d.eH.mods h.m (λa=>by subst a;rw[d.iv]at q;simp at q)
 .show w'.ownsRow _ _ _ s.vo (s.ox.set b _).length ((s.ox.set b _).flatMap pD)
  rw[aO,H];exact h.own d.obj d.kO (by simp)
 .by_cases u:b=K
  .subst u;rw[aA G]at l;obtain rfl:=aT l;refine .inr λz b d=>⟨?_,n.same b (λe a=>(r.lt e a).2)⟩;have:=D w' C;rw[show OL (fY a.1.fO) (c*2) (lK f)=fY (a.1.fO.set c f) from (CC pH F f).symm]at this
   show w'.ownsRow _ _ _ a.2 (a.1.fO.set c f).length _
   rw[k,aO];exact this
  .rw [ah u]at l;exact .inl ⟨l,by simp;omega⟩
theorem fh.newObj(d:fh p w0 w ρ mb vp ask s){w2 W}(l:Below w.heap.size w w2){c fl n f}(h:w2.ownsRow w.heap.size 183 2 n fl.length (fY fl))(k:ee (λb=>s.vo.ownBlock=M b) w2 W)(v:W.ownsRow w0.heap.size 245 2 f (s.ox.length+1) (s.ox.flatMap pD++ [J I c,n]))(r:f.ownBlock=s.vo.ownBlock\/∃e,w2.heap.size<=e/\f.ownBlock=M e):
  (∃ u,fh p w0 (W.setCell ⟨mb,2,U⟩ f) u mb vp ask { s with ox:=s.ox++ [(⟨c,fl⟩,n)],vo:=f })/\W.cell? ⟨mb,2,U⟩=M s.vo/\W.frozen? ⟨mb,2,U⟩=F:=by
 have z:=d.bel.size;have n:=l.size;have y:=d.eH.lt;have q:¬s.vo.ownBlock=M mb:=λa=>by have:=d.kO mb a;rw[d.iv]at this;simp at this
 have j:=(d.eH.below l y).mods k q;have m:=jG W mb 2 f;have n:ee (λb=>s.vo.ownBlock=M b\/b=mb) w (W.setCell ⟨mb,2,U⟩ f):=((fX l).trans k (λ_ _ a=>.inl a)).trans m (λ_ _ a=>.inr a)
 have c:lz (λb=>s.vo.ownBlock=M b\/b=mb) (λa=>a=(3,0)\/a=(5,0)) ρ w (W.setCell ⟨mb,2,U⟩ f):=⟨n,λb o a=>by
  rcases a with a | a
  .exact .inl (d.kO b a)
  .subst a;exact .inr d.iv⟩
 refine⟨d.turn c (λb=>if b<w2.heap.size then (4,s.ox.length) else (3,0)) (by simp) (j.setCell 2 f) (c.own d.cal d.jV (by simp)) (.inl rfl) ?_ ?_ (c.own d.io d.iZ (by simp)) (.inl rfl) (λb d a=>.inl ⟨a,by simp,by simp⟩) (λt l i=>?_),j.cell 2,j.frozen 2⟩
 .show World.ownsRow _ _ _ _ f (s.ox++ [_]).length ((s.ox++ [_]).flatMap pD)
  rw[aw,cG,dr];refine eX v m (λe g a=>?_);subst a
  rcases r with a | ⟨b,o,a⟩
  .exact q (a▸g)
  .rw [g]at a;cases a;omega
 .rcases r with a | ⟨b,o,a⟩
  .exact .inl a
  .exact .inr ⟨b,by omega,af (by omega),a⟩
 .by_cases b:t<s.ox.length
  .rw [aL b]at i;exact .inl ⟨i,by simp⟩
  .have x:=(ag.1 i).1;obtain rfl:t=s.ox.length:=by simp at x;omega
   rw[aP (ai _),co]at i;obtain rfl:=aT i;refine .inr λu b b=>⟨Ov (eX (eX h k (λe g a=>?_)) m (λe g a=>?_)) z,λe g=>?_⟩
   .have:=(h.lt e g).1;have:=(d.obj.lt e a).2;omega
   .have:=(h.lt e g).1;omega
   .rw [b e (h.lt e g).1];exact am (h.lt e g).2
theorem fh.push(d:fh p w0 w ρ mb vp ask s){w2 W}(n:Below w.heap.size w w2){c k:Nat}{f vl g}(A:gh p (c:Int) (k:Int)=M f.m)(h:w2.ownsRow w.heap.size 183 2 vl f.loc.length (fY f.loc))(B:f.stk= [])(l:ee (λk=>s.vc.ownBlock=M k) w2 W)(y:W.ownsRow w0.heap.size 248 5 g (s.fx.length+1) (s.fx.flatMap p9++p9 (f,⟨c,k,vl,O U 0 0⟩)))(t:g.ownBlock=s.vc.ownBlock\/∃b,w2.heap.size<=b/\g.ownBlock=M b):
  (∃ v,fh p w0 (W.setCell ⟨mb,3,U⟩ g) v mb vp ask { s with fx:=s.fx++ [(f,⟨c,k,vl,O U 0 0⟩)],vc:=g })/\W.cell? ⟨mb,3,U⟩=M s.vc/\W.frozen? ⟨mb,3,U⟩=F:=by
 have C:=d.bel.size;have E:=n.size;have x:=d.eH.lt;have r:¬s.vc.ownBlock=M mb:=λa=>by have:=d.jV mb a;rw[d.iv]at this;simp at this
 have j:=(d.eH.below n x).mods l r;have o:=jG W mb 3 g;have x:ee (λk=>s.vc.ownBlock=M k\/k=mb) w (W.setCell ⟨mb,3,U⟩ g):=((fX n).trans l (λ_ _ a=>.inl a)).trans o (λ_ _ a=>.inr a)
 have c:lz (λk=>s.vc.ownBlock=M k\/k=mb) (λa=>a=(6,0)\/a=(5,0)) ρ w (W.setCell ⟨mb,3,U⟩ g):=⟨x,λk q a=>by
  rcases a with a | a
  .exact .inl (d.jV k a)
  .subst a;exact .inr d.iv⟩
 refine⟨d.turn c (λk=>if k<w2.heap.size then (1,s.fx.length) else (6,0)) (by simp) (j.setCell 3 g) ?_ ?_ (c.own d.obj d.kO (by simp)) (.inl rfl) (c.own d.io d.iZ (by simp)) (.inl rfl) (λu n i=>?_) (λk b a=>.inl ⟨a,by simp⟩),j.cell 3,j.frozen 3⟩
 .show World.ownsRow _ _ _ _ g (s.fx++ [_]).length ((s.fx++ [_]).flatMap p9)
  rw[aw,cG,dr];refine eX y o (λb e a=>?_);subst a
  rcases t with a | ⟨k,q,a⟩
  .exact r (a▸e)
  .rw [e]at a;cases a;omega
 .rcases t with a | ⟨k,q,a⟩
  .exact .inl a
  .exact .inr ⟨k,by omega,af (by omega),a⟩
 .by_cases g:u<s.fx.length
  .rw [aL g]at i;exact .inl ⟨i,by simp,by simp⟩
  .have z:=(ag.1 i).1;obtain rfl:u=s.fx.length:=by simp at z;omega
   rw[aP (ai _),co]at i;obtain rfl:=aT i;refine .inr λv g D=>⟨A,Ov (eX (eX h l (λb e a=>?_)) o (λb e a=>?_)) C,?_,λb e=>?_,λb e=>(by cases e)⟩
   .have:=(h.lt b e).1;have:=(d.cal.lt b a).2;omega
   .have:=(h.lt b e).1;omega
   .show World.ownsRow _ _ _ _ _ f.stk.length (fY f.stk)
    rw[B];exact World.ownsRow_nil _ _ _ _
   .rw [D b (h.lt b e).1];exact am (h.lt b e).2
theorem fh.pop(a:fh p w0 w ρ mb vp ask s){fx y}(f:s.fx=fx++ [y]){e c}(g:s.vc=O (M ⟨e,0,U⟩) s.fx.length c):
  fh p w0 (w.setCell ⟨mb,3,U⟩ (O (M ⟨e,0,U⟩) fx.length c)) ρ mb vp ask { s with fx:=fx,vc:=O (M ⟨e,0,U⟩) fx.length c } :=by
 have d:lz (λc=>c=mb) (λa=>a=(5,0)) ρ w (w.setCell ⟨mb,3,U⟩ (O (M ⟨e,0,U⟩) fx.length c)):=⟨jG _ _ _ _,λc _ b=>by subst b;exact a.iv⟩;have b:=a.bel.size;have:s.fx.length=fx.length+1:=by rw[f];simp
 have h:=a.cal;rw[g]at h;have i:=uW h (m:=fx.length) (by omega);rw[uF tf,f,List.take_left]at i;have h:Rl ρ (6,0) (O (M ⟨e,0,U⟩) fx.length c):=λj k=>a.jV j (by rw[g];exact k);exact⟨a.eH.setCell 3 _,a.base,a.iv,d.own i h (by simp),h,d.own a.obj a.kO (by simp),a.kO,d.own a.io a.iZ (by simp),a.iZ,λg e b=>(a.fr g e (by rw[f,aL (ag.1 b).1];exact b)).stay d (λ_ _=>rfl) (by simp) (by simp),λc e b=>⟨d.own (a.ob c e b).1 (a.ob c e b).2 (by simp),(a.ob c e b).2⟩,a.bel.trans (d.m.below b (λc d b=>by have:=a.base;omega)),a.low⟩
end
section
attribute [local go_sem ↓] Go.wp_at_zero Go.wp_at_succ
attribute [local go_sem] eZ
theorem zN{d y p}(E:eQ d y p){g b:Nat}{f}(e:gh p (g:Int) (b:Int)=M f):
  ∃h i l a c x m j k q,y=O (M ⟨h,i,U⟩) p.length l/\g<p.length/\d.cell? ⟨h,i+g*3+2,U⟩=M (O (M ⟨a,c,U⟩) x m)/\b<x/\fK d.cell? f j k q/\
   d.cell? ⟨a,c+b*7,U⟩=M (J I f.slot)/\d.cell? ⟨a,c+b*7+1,U⟩=M j/\d.cell? ⟨a,c+b*7+2,U⟩=M (J I f.ret)/\d.cell? ⟨a,c+b*7+3,U⟩=M (J I f.locals)/\d.cell? ⟨a,c+b*7+4,U⟩=M (J I f.stack)/\d.cell? ⟨a,c+b*7+5,U⟩=M k/\d.cell? ⟨a,c+b*7+6,U⟩=M q:=by
 unfold gh at e;rw[am ⟨by omega,by omega⟩,aK,aK]at e
 cases hx:p[g]? with
 | none => rw[hx]at e; cases e
 | some d =>
  rw[hx,au]at e;obtain⟨n,G⟩:=ag.1 hx;obtain⟨o,C⟩:=ag.1 e;obtain⟨d,h,i,l,rfl,d,A,F⟩:=eN E;obtain rfl:=A (eW n);obtain⟨q,d,d,d,z,d,s⟩:=F g n;rw[G]at s;obtain⟨d,a,c,m,rfl,d,B,D⟩:=eN s;obtain rfl:=B (eW o);obtain⟨j,k,N,r,t,H,u,v,w,K,L⟩:=D b o;rw[C]at r t u v w;exact⟨h,i,l,a,c,_,m,j,k,N,rfl,n,z,o,r,t,H,u,v,w,K,L⟩
theorem DD{g:World}{a d e f}(b:fK g.cell? a d e f):∀c∈[J .i64 a.slot,d,J I a.ret,J I a.locals,J I a.stack,e,f],c.oneCell'=K:=λc a=>by
 simp only[aE,aF,or_false]at a;have:=pL b.1;have:=pL b.2.1;have:=pL b.2.2
 rcases a with rfl | rfl | rfl | rfl | rfl | rfl | rfl <;> first | rfl | assumption
abbrev jC (N:Nat)(W w':World):Prop:=∀b o,b<N->w'.cell? ⟨b,o,U⟩=W.cell? ⟨b,o,U⟩
theorem jC.of{a c b e}(g:ee c b e)(h:a<=b.heap.size)(f:∀d,d<a->¬c d):jC a b e:=λa b b=>World.cell?_of_block (g.block a (by omega) (f a b))
def FB (m:eh)(w0 w w':World)(e:Ending):Prop:=∃va vco vf,e=zR (fB m va vco vf)/\fK w0.cell? m va vco vf/\Below w.heap.size w w'
theorem xF{p y c ρ u N S v}(g:fh p y c ρ u N S v)(Z:eQ y N p){d a}(G:v.fx=d++ [a])(X:d.length<=30):
  Calls Tryz.prog 176 #[zP (M ⟨u,0,U⟩)] c λj ar=>FB a.1.m y c ar j:=by
 have E:v.fx[d.length]? =M a:=by rw[G];simp
 have V:v.fx.length=d.length+1:=by rw[G];simp
 obtain⟨i,A,aa,_,v,D⟩:=g.call E;obtain⟨v,v,v,v,v,an,v,H,K,L,rfl,v,f,F,v,h,n,o,q,r,s,t⟩:=zN Z (g.fr _ _ E).own;have w:c.cell? ⟨i,d.length*5,U⟩=M (J I (a.2.cls:Int)):=D 0 (by omega);have z:c.cell? ⟨i,d.length*5+1,U⟩=M (J I (a.2.wh:Int)):=D 1 (by omega);have x:=g.eH.c0;have ao:c.cell? ⟨u,3,U⟩=M (O (M ⟨i,0,U⟩) (d.length+1) A):=by rw[<-V,<-aa];exact g.eH.cell 3
 have Y:=DD v;have R:=Ou v;have e:=Oq g.bel;replace f:=e _ _ f;replace h:=e _ _ h;replace n:=e _ _ n;replace o:=e _ _ o;replace q:=e _ _ q;replace r:=e _ _ r;replace s:=e _ _ s;replace t:=e _ _ t;have:=fp a.2.cls;have:(a.2.cls:Int)<(p.length:Int):=by omega
 have:=fp a.2.wh;have:(a.2.wh:Int)<(an:Int):=by omega
 have ab:=Oo x;have ac:=Oo w;have ad:=Oo f;have ak:=Oo h;dsimp only at ab ac ad ak;generalize a.1.m=m at *;generalize a.2.cls=yc at *;generalize a.2.wh=yk at *;have C:=ev c (zC #[J I 0,O U 0 0,J I 0,J I 0,J I 0,O U 0 0,O U 0 0] 63);have P:=Oz c #[J I 0,O U 0 0,J I 0,J I 0,J I 0,O U 0 0,O U 0 0] 63;go_in
 go_wp2_with fail;generalize c.alloc _=W at *;refine(rz W u i d.length A X (Oq C _ _ ao)).mono ?_;rintro j a0 ⟨rfl,a⟩;have l:=eu C a;have Q:=P.bl a;have b:=Oq l;replace x:=b _ _ x;replace w:=b _ _ w;replace z:=b _ _ z;replace f:=b _ _ f;replace h:=b _ _ h;replace n:=b _ _ n;replace o:=b _ _ o;replace q:=b _ _ q;replace r:=b _ _ r;replace s:=b _ _ s;replace t:=b _ _ t;go_wp2;refine fk (jC c.heap.size a0) (λ_ _ _=>rfl) λhHeld=>?_;refine dZ 6 0 ?_;refine dZ 7 1 ?_;refine dZ 8 2 ?_;refine dZ 9 3 ?_;refine dZ 10 4 ?_;refine dZ 11 5 ?_;refine dZ 12 6 ?_;refine dZ 13 7 ?_;refine dZ 14 8 ?_;refine dZ 15 9 ?_;refine dZ 16 10 ?_;refine dZ 17 11 ?_;refine dZ 18 12 ?_;refine dZ 19 13 ?_;refine dZ 20 14 ?_;refine dZ 21 15 ?_;refine dZ 22 16 ?_;refine dZ 23 17 ?_;refine el 18 (λa T=>?_);refine kS pu Q.drew 0 [J I m.slot,H,J I m.ret,J I m.locals,J I m.stack,K,L] rfl (by simp) Y (.tmp 2) (.tmp 23) rfl rfl rfl ?_;intro a B k a;rw[fw (by rfl)]at B;replace k:=k.vK;refine T.out _ _ (jC.of k l.size (λa F j=>by omega)) λhHeld=>?_;refine eV ?_;go_wp2;refine bodyPost_ret (j9 rfl pu B rfl rfl) rfl ?_;exact⟨H,K,L,rfl,ea R,l.trans (k.below l.size (λa F j=>by omega))⟩
end
def jD (objs:List fL)(v:LVal):Int:=match v.obj with
 | none => 0
 | some k => (objs.getD k ⟨0, []⟩).cls
def rd (p:On)(objs:List fL)(v:LVal)(t:Int):Bool:=if t=0 then fq v == 1 else fq v == 2 && (eI v == 0 || fD p (jD objs v) (t-3))
def mj (p:On)(objs:List fL)(op:Int)(k:Nat)(v:LVal)(t:Int):Bool:=if t=2\/t= -2 then K else if t= -1\/(k=0/\(op=10\/op=11\/op=12)) then fq v == 2 else rd p objs v t
def ld (p:On)(objs:List fL)(tk:Ok)(taken:List LVal)(op:Int)(n:Nat):Bool:=(List.range n).all λk=>mj p objs op k (taken.getD k eO) (tk.getD k 0)
def nR (p:On)(objs:List fL)(loc:List LVal)(tk:Ok)(taken:List LVal)(op a:Int):Bool:=if op=1 then fq (loc.getD a.toNat eO) == 0 else !ld p objs tk taken op tk.length
def oR (p:On)(m:eh)(x:fG):Nat:=if x.op=1 then 1 else (eB p m x).2.length
def lH (p:On)(m:eh)(stk:List LVal)(x:fG):LVal:=stk.getD (stk.length-(eB p m x).1.length) eO
def qt (p:On)(ask:Bool)(objs:List fL)(m:eh)(loc stk:List LVal)(x:fG):Int:=
 if stk.length<(eB p m x).1.length then 5
 else if (ask && nR p objs loc (eB p m x).1 (stk.drop (stk.length-(eB p m x).1.length)) x.op x.a)=K then 5
 else if (10<=x.op/\x.op<=12)/\eI (lH p m stk x)=0 then 2
 else if (10<=x.op/\x.op<=12)/\(ask && !fD p (jD objs (lH p m stk x)) x.a)=K then 5
 else if m.stack<((stk.length-(eB p m x).1.length+oR p m x:Nat):Int) then 5 else 0
section
variable {p : List eb} {objs : List fL} {v : LVal}
theorem Nz (c:fv objs v)(e:jX p objs):(fq v == 1)=(v.kind == 0):=by
 unfold fv at c;unfold fq
 split at c
 .rename_i d;rw[d];dsimp only
  rcases c with c | c | c <;> rw[c] <;> rfl
 .rename_i i d;rw[d];obtain⟨g,f,h⟩:=c;have:=e.cls g (aB f);have:(v.kind == 0)=F:=by simp;omega
  rw[this];rfl
theorem vL (c:fv objs v)(e:jX p objs):(fq v == 2)=iy v.kind:=by
 unfold fv at c;unfold fq iy
 split at c
 .rename_i d;rw[d];dsimp only
  rcases c with c | c | c <;> rw[c] <;> rfl
 .rename_i i d;rw[d];obtain⟨g,f,h⟩:=c;have:=e.cls g (aB f);have:decide (3<=v.kind)=K:=by simp;omega
  rw[this];simp
theorem Ny (c:fv objs v)(e:jX p objs):(fq v == 0)=(v.kind == 2):=by
 unfold fv at c;unfold fq
 split at c
 .rename_i d;rw[d];dsimp only
  rcases c with c | c | c <;> rw[c] <;> rfl
 .rename_i i d;rw[d];obtain⟨g,f,h⟩:=c;have:=e.cls g (aB f);have:(v.kind == 2)=F:=by simp;omega
  rw[this];rfl
theorem pf (g:fv objs v)(h:iy v.kind=K):(eI v=0/\v.obj=U/\v.kind=1)\/∃d e,v.obj=M d/\objs[d]? =M e/\eI v=(d:Int)+1/\v.kind=e.cls+3/\jD objs v=e.cls:=by
 unfold fv at g;unfold iy at h;simp only[bB,beq_iff_eq,decide_eq_true_eq]at h
 split at g
 .rename_i c;have f:v.kind=1:=by omega
  exact .inl ⟨by unfold eI;rw[c];dsimp only;rw[af (by omega)],c,f⟩
 .rename_i d c;obtain⟨e,f,i⟩:=g;exact .inr ⟨d,e,c,f,by unfold eI;rw[c],i,by unfold jD;rw[c];dsimp only;rw[aj,f];rfl⟩
theorem pe(k:fv objs v)(j:jX p objs)(o:ez p p.length)(a)(q:0<=a):eF p v.kind (a+3)=(iy v.kind && (eI v == 0 || fD p (jD objs v) a)):=by
 cases e:iy v.kind with
 | false =>
  rw[cD,cw];intro d
  rcases kJ.1 d with c | c | ⟨_,c | ⟨c,_⟩⟩ <;> unfold iy at e <;> simp only[Bool.or_eq_false_iff,beq_eq_false_iff_ne,decide_eq_false_iff_not]at e <;> omega
 | true =>
  rw[bO]
  rcases pf k e with ⟨f,g,h⟩ | ⟨e,d,f,g,h,l,n⟩
  .rw [f,h];simp only[beq_self_eq_true,Bool.true_or];exact kJ.2 (.inr (.inr ⟨by omega,.inl rfl⟩))
  .have i:=j.cls d (aB g);have e:(eI v == 0)=F:=(by simp;omega);rw[e,Bool.false_or,n,l];have e:d.cls+3-3=d.cls:=(by omega);have f:a+3-3=a:=(by omega);rw[de,kJ,e,f]
   constructor
   .rintro (c | c | ⟨_,c | ⟨_,c⟩⟩)
    .obtain rfl:d.cls=a:=by omega
     exact za o i.1 i.2
    .omega
    .omega
    .exact c
   .exact λc=>.inr (.inr ⟨by omega,.inr ⟨by omega,c⟩⟩)
theorem NA(e:fv objs v)(d:jX p objs)(g:ez p p.length){c}(f:c=0\/3<=c):rd p objs v c=eF p v.kind c:=by
 unfold rd
 rcases f with rfl | f
 .rw [am rfl,Nz e d];unfold eF;simp
 .rw [af (by omega),vL e d];have:=pe e d g (c-3) (by omega);rw[show c-3+3=c by omega]at this;exact this.symm
theorem NB (d:fv objs v)(c:jX p objs)(f:ez p p.length):(fq v == 2)=eF p v.kind 3:=by
 rw[vL d c,show (3:Int)=0+3 from rfl,pe d c f 0 (by omega)]
 cases i:iy v.kind with
 | false => rfl
 | true =>
  rw[bO]
  rcases pf d i with ⟨e,_⟩ | ⟨d,j,e,g,d,d,h⟩
  .rw [e];rfl
  .have d:=c.cls j (aB g);rw[h,zb f d.1 d.2,Bool.or_true]
end
section
variable {p : List eb} {m : eh} {op a b : Int}
def yF (t t':Int):Prop:=((t=2\/t= -2)/\t'=2)\/(t= -1/\t'=3)\/((t=0\/3<=t)/\t'=t)
def mW:List Int->List Int->Prop
 | [], [] => True
 | t :: l, t' :: l' => yF t t' /\ mW l l'
 | _, _ => False
theorem mW.self:∀ {c:Ok},(∀d∈c,d=0\/3<=d)->mW c c
 | [], _ => trivial
 | d :: c, h => ⟨.inr (.inr ⟨h d (by simp), rfl⟩), mW.self (λd c => h d (by simp[c]))⟩
theorem mW.len:∀ {c d:Ok},mW c d->c.length=d.length
 | [], [], _ => rfl
 | _ :: _, _ :: _, h => cP (· + 1) (mW.len h.2)
theorem mW.get:∀ {d e:Ok},mW d e->∀c,c<d.length->yF (d.getD c 0) (e.getD c 0)
 | _ :: _, _ :: _, h, 0, _ => h.1
 | _ :: _, _ :: _, h, c + 1, hk => mW.get h.2 c (by simpa using hk)
structure qN (p:On)(m:eh)(op a b:Int):Prop where
 ty:mW (eB p m ⟨op,a,b⟩).1 (gN p m.ret op a b)
 cls:(10<=op/\op<=12)->0<=a/\(gN p m.ret op a b).getD 0 0=a+3/\0<(gN p m.ret op a b).length
 room:oR p m ⟨op,a,b⟩<=(eB p m ⟨op,a,b⟩).1.length+1/\(kg op=K↔oR p m ⟨op,a,b⟩=(eB p m ⟨op,a,b⟩).1.length+1)
theorem Og (e:fi p=0)(c:lP p m op a b)(h:m.ret=0\/3<=m.ret):qN p m op a b:=by
 have h:=c.rq;have h:=c.op1;have g:op=0\/op=1\/op=2\/op=3\/op=4\/op=5\/op=6\/op=7\/op=8\/op=9\/op=10\/op=11\/op=12\/op=13\/op=14\/op=15\/op=16\/op=17\/op=18\/op=19\/op=20:=by omega
 have h:(op=10\/op=11)->gi p a b=0\/3<=gi p a b:=λd=>by
  have:=c.im d;obtain⟨f,rfl⟩:=ax this.1;exact zi e (by omega)
 have d:op=12->mW (ew p a b).args (ew p a b).args:=λd=>mW.self λh g=>by
  have f:=aJ.1 (jw.1 (nL e (c.call d))).2.2.2.1 h g;unfold gd at f;simp only[bB,beq_iff_eq,aD,decide_eq_true_eq]at f;omega
 have e:=c.cls
 rcases g with rfl | rfl | rfl | rfl | rfl | rfl | rfl | rfl | rfl | rfl | rfl | rfl | rfl | rfl | rfl | rfl | rfl | rfl | rfl | rfl | rfl
 all_goals refine⟨?_,λc=>?_,?_⟩
 all_goals simp[eB,gN,mW,yF,oR,kg]at *
 all_goals first | done | omega | exact d | exact⟨by omega,d⟩
variable {objs : List fL} {loc stk : List LVal}
theorem getD_drop(d:List LVal)(e c):(d.drop e).getD c eO=d.getD (e+c) eO:=by
 rw[aj,aj,cS]
theorem vM(e:∀v∈stk,fv objs v)(c):fv objs (stk.getD c eO):=by
 rw[aj]
 cases d:stk[c]? with
 | none => exact fv.tP _
 | some c => exact e c (aB d)
theorem NF (h:qN p m op a b)(i:jX p objs)(l:ez p p.length)(o:∀v∈stk,fv objs v) :
  mR p (gN p m.ret op a b) stk (gN p m.ret op a b).length=K↔ld p objs (eB p m ⟨op,a,b⟩).1 (stk.drop (stk.length-(eB p m ⟨op,a,b⟩).1.length)) op (eB p m ⟨op,a,b⟩).1.length=K/\((10<=op/\op<=12)->eI (lH p m stk ⟨op,a,b⟩)=0\/fD p (jD objs (lH p m stk ⟨op,a,b⟩)) a=K):=by
 have t:=h.ty.len;unfold mR ld lH;simp only[aJ,bw,getD_drop];rw[<-t]
 have q:∀c,c<(eB p m ⟨op,a,b⟩).1.length->((c≠0\/¬(10<=op/\op<=12))->mj p objs op c (stk.getD (stk.length-(eB p m ⟨op,a,b⟩).1.length+c) eO) ((eB p m ⟨op,a,b⟩).1.getD c 0)=eF p (stk.getD (stk.length-(eB p m ⟨op,a,b⟩).1.length+c) eO).kind ((gN p m.ret op a b).getD c 0)):=λc f j=>by
  have g:=vM o (stk.length-(eB p m ⟨op,a,b⟩).1.length+c);generalize stk.getD (stk.length-(eB p m ⟨op,a,b⟩).1.length+c) eO=v at *;unfold mj
  rcases h.ty.get c f with ⟨e,d⟩ | ⟨e,d⟩ | ⟨e,d⟩
  .rw [am e,d,nG]
  .rw [af (by omega),am (.inl e),d,NB g i l]
  .rw [af (by omega),af (by omega),d,NA g i l e]
 have n:(10<=op/\op<=12)->(eF p (stk.getD (stk.length-(eB p m ⟨op,a,b⟩).1.length+0) eO).kind ((gN p m.ret op a b).getD 0 0)=K↔mj p objs op 0 (stk.getD (stk.length-(eB p m ⟨op,a,b⟩).1.length+0) eO) ((eB p m ⟨op,a,b⟩).1.getD 0 0)=K/\(eI (stk.getD (stk.length-(eB p m ⟨op,a,b⟩).1.length) eO)=0\/fD p (jD objs (stk.getD (stk.length-(eB p m ⟨op,a,b⟩).1.length) eO)) a=K)):=λc=>by
  obtain⟨r,k,t⟩:=h.cls c;have g:=vM o (stk.length-(eB p m ⟨op,a,b⟩).1.length)
  have s:(eB p m ⟨op,a,b⟩).1.getD 0 0=a+3:=by
   rcases h.ty.get 0 (by omega) with ⟨e,d⟩ | ⟨e,d⟩ | ⟨e,d⟩
   .omega
   .rw [k]at d;have:=rfl (a:=a);obtain rfl:a=0:=by omega
    have:op=10\/op=11\/op=12:=by omega
    rcases this with rfl | rfl | rfl <;> simp[eB]at e
   .rw [<-d,k]
  rw[bK,s,k];generalize stk.getD (stk.length-(eB p m ⟨op,a,b⟩).1.length) eO=v at *;unfold mj;rw[af (by omega),am (.inr ⟨rfl,by omega⟩),pe g i l a r,vL g i];simp only[aD,bB,beq_iff_eq]
 constructor
 .intro d;refine⟨λc f=>?_,λc=>((n c).1 (d 0 (by have:=h.cls c;omega))).2⟩
  by_cases j:c≠0\/¬(10<=op/\op<=12)
  .rw [q c f j];exact d c f
  .obtain rfl:c=0:=by omega
   exact((n (by omega)).1 (d 0 f)).1
 .rintro ⟨d,e⟩ c f
  by_cases j:c≠0\/¬(10<=op/\op<=12)
  .rw [<-q c f j];exact d c f
  .obtain rfl:c=0:=by omega
   exact(n (by omega)).2 ⟨d 0 f,e (by omega)⟩
theorem J9{ask}(k:qN p m op a b)(r:jX p objs)(z:ez p p.length)(B:∀v∈stk,fv objs v)(x:∀v∈loc,fv objs v)(H:(stk.length:Int)<=m.stack)(w:ask=K\/ie p m loc stk op a b=K):
  qt p ask objs m loc stk ⟨op,a,b⟩=if ie p m loc stk op a b=K then (if (10<=op/\op<=12)/\eI (lH p m stk ⟨op,a,b⟩)=0 then 2 else 0) else 5:=by
 have y:=k.ty.len;have C:=NF k r z B;have o:=k.room;have t:(fq (loc.getD a.toNat eO) == 0)=((loc.getD a.toNat eO).kind == 2):=Ny (vM x a.toNat) r
 have q:ie p m loc stk op a b=K↔(eB p m ⟨op,a,b⟩).1.length<=stk.length/\(ld p objs (eB p m ⟨op,a,b⟩).1 (stk.drop (stk.length-(eB p m ⟨op,a,b⟩).1.length)) op (eB p m ⟨op,a,b⟩).1.length=K/\((10<=op/\op<=12)->eI (lH p m stk ⟨op,a,b⟩)=0\/fD p (jD objs (lH p m stk ⟨op,a,b⟩)) a=K))/\(op=1->(loc.getD a.toNat eO).kind≠2)/\(kg op=K->(stk.length:Int)<m.stack):=by
  rw[<-C];unfold ie;simp only[aD,decide_eq_true_eq,dD,bB,cQ,beq_eq_false_iff_ne,ne_eq,<-y]
  constructor
  .rintro ⟨⟨⟨i,e⟩,f⟩,g⟩;exact⟨i,e,λc=>by rcases f with f | f <;> simp_all,λc=>by rcases g with g | g <;> simp_all⟩
  .rintro ⟨i,e,f,g⟩;refine⟨⟨⟨i,e⟩,?_⟩,?_⟩
   .by_cases c:op=1
    .exact .inr (f c)
    .exact .inl c
   .cases c:kg op with
    | false => exact .inl rfl
    | true => exact .inr (g c)
 have D:op=1->ld p objs (eB p m ⟨op,a,b⟩).1 (stk.drop (stk.length-(eB p m ⟨op,a,b⟩).1.length)) op (eB p m ⟨op,a,b⟩).1.length=K:=λc=>by subst c;simp[eB,ld]
 have E:(10<=op/\op<=12)->kg op=F:=λc=>by
  have:op=10\/op=11\/op=12:=by omega
  rcases this with rfl | rfl | rfl <;> rfl
 unfold qt nR;dsimp only;rw[t];generalize ld p objs (eB p m ⟨op,a,b⟩).1 (stk.drop (stk.length-(eB p m ⟨op,a,b⟩).1.length)) op (eB p m ⟨op,a,b⟩).1.length=U at *;generalize lH p m stk ⟨op,a,b⟩=v at *
 by_cases h:ie p m loc stk op a b=K
 .rw [am h];obtain⟨i,⟨e,f⟩,g,l⟩:=q.1 h
  have A:(ask && (if op=1 then ((loc.getD a.toNat eO).kind == 2) else !U))=F:=by
   by_cases c:op=1
   .rw [am c];have:((loc.getD a.toNat eO).kind == 2)=F:=by simpa using g c
    rw[this,bv]
   .rw [af c,e];simp
  rw[af (by omega),af (by rw[A];simp)]
  by_cases j:(10<=op/\op<=12)/\eI v=0
  .rw [am j,am j]
  .rw [af j,af j,af ?_,af ?_]
   .cases c:kg op with
    | false => have : ¬ oR p m ⟨op, a, b⟩ = (eB p m ⟨op, a, b⟩).1.length + 1 := λd => by rw[o.2.2 d]at c; cases c
               omega
    | true =>
     have:=o.2.1 c;have:=l c;omega
   .rintro ⟨d,s⟩
    rcases f d with n | n
    .exact j ⟨d,n⟩
    .rw [n]at s;simp at s
 .rw [af h];obtain rfl:ask=K:=w.elim id (λd=>absurd d h);simp only[bO]
  split
  .rfl
  rename_i i
  by_cases e:(if op=1 then ((loc.getD a.toNat eO).kind == 2) else !U)=K
  .rw [am e]
  rw[af e]
  have f:U=K/\(op=1->(loc.getD a.toNat eO).kind≠2):=by
   by_cases c:op=1
   .rw [am c]at e;exact⟨D c,λ_=>by simpa using e⟩
   .rw [af c]at e;exact⟨by simpa using e,λd=>absurd d c⟩
  split
  .rename_i d;exact absurd (q.2 ⟨by omega,⟨f.1,λ_=>.inl d.2⟩,f.2,λc=>by rw[E d.1]at c;cases c⟩) h
  rename_i g
  split
  .rfl
  rename_i l
  have u:(10<=op/\op<=12)->eI v=0\/fD p (jD objs v) a=K:=λd=>.inr (by
   cases c:fD p (jD objs v) a with
   | true => rfl
   | false => exact absurd ⟨d, by rw[c]; rfl⟩ l)
  split
  .rfl
  rename_i G;exact absurd (q.2 ⟨by omega,⟨f.1,u⟩,f.2,λc=>by have:=o.2.1 c;omega⟩) h
end
section
attribute [local go_sem ↓] Go.wp_at_zero Go.wp_at_succ
attribute [local go_sem] eZ
section
variable {p : List eb} {w0 w : World} {ρ : Nat -> Nat × Nat} {mb : Nat} {vp : Value} {ask : Bool} {s : RS}
theorem fh.sE(h:fh p w0 w ρ mb vp ask s){c d}(f:s.ox[c]? =M d):∃a b,s.vo=O (M ⟨a,0,U⟩) s.ox.length b/\s.vo.ownBlock=M a/\s.ox.length<=b/\w.cell? ⟨a,c*2,U⟩=M (J I d.1.cls)/\w.cell? ⟨a,c*2+1,U⟩=M d.2:=by
 have:=(ag.1 f).1;obtain⟨a,b,g,j,i,k⟩:=jH h.obj (by omega);have e:∀b,b<2->w.cell? ⟨a,c*2+b,U⟩=(pD d)[b]? :=λb a=>by rw[k _ (by omega),OG zT _ _ _ a,f];rfl
 exact⟨a,b,g,i,j,e 0 (by omega),e 1 (by omega)⟩
theorem Mj(d:fh p w0 w ρ mb vp ask s)(z:eQ w0 vp p)(P:ez p p.length)(N:p.length<=4194304)(T:s.ox.length<=100)(a b)(l:fv (s.ox.map Prod.fst) a)(j:jX p (s.ox.map Prod.fst))(V:0<=b)(X:b<=9223372036854775807):
  Calls Tryz.prog 232 #[zP (M ⟨mb,0,U⟩),.agg #[J I (fq a),J I (eI a)],J I b] w λt S=>t=zR (zB (rd p (s.ox.map Prod.fst) a b))/\Below w.heap.size w S:=by
 have e:=ev w (zC #[J I (fq a),J I (eI a)] 183);have c:=Oz w #[J I (fq a),J I (eI a)] 183;have q:=c.c0;have r:=c.c1;have C:=c.lt
 cases A:b == 0 with
 | true =>
  have g:rd p (s.ox.map Prod.fst) a b=(fq a == 1):=am (by simpa using A);rw[g];clear g d c;go_in
  go_wp2;go_ret;exact⟨rfl,e⟩
 | false =>
  have g:rd p (s.ox.map Prod.fst) a b=(fq a == 2 && (eI a == 0 || fD p (jD (s.ox.map Prod.fst) a) (b-3))):=af (by simpa using A);rw[g];clear g;have x:=d.eH.c0
  cases f:fq a == 2 with
  | false =>
   have L:(fq a != 2)=K:=(by simpa using f);rw[cD];clear d c f;go_in
   go_wp2;go_ret;exact⟨rfl,e⟩
  | true =>
   have L:(fq a != 2)=F:=(by simpa using f);rw[bO]
   rcases pf l (by rw[<-vL l j];exact f) with ⟨e1,e2,e3⟩ | ⟨k,D,e1,e2,e3,e4,e5⟩
   .rw [e1]at r e q c C ⊢;clear d c f e1;go_in
    go_wp2_with fail;generalize w.alloc _=W at *;refine fk (jC W.heap.size W) (λ_ _ _=>rfl) λhHeld=>?_;refine dZ 15 0 ?_;refine dZ 16 1 ?_;refine dZ 17 2 ?_;refine dZ 18 3 ?_;refine eL 19 4 ?_;refine eL 20 5 ?_;refine eL 21 6 ?_;refine eL 22 7 ?_;refine eL 23 8 ?_;refine eL 24 9 ?_;refine eL 25 10 ?_;refine eL 26 11 ?_;refine eL 27 12 ?_;refine eL 28 13 ?_;refine eL 29 14 ?_;refine eL 30 15 ?_;refine eL 31 16 ?_;refine eL 32 17 ?_;refine eL 33 18 ?_;refine eL 34 19 ?_;refine eL 35 20 ?_;refine dZ 36 21 ?_;refine dZ 6 22 ?_;refine eV ?_;go_wp2;go_ret;exact⟨rfl,e.drew⟩
   .rw [aU]at e2;obtain⟨o,h,rfl⟩:=aW.1 e2;obtain⟨A,S,B,T,T,n,T⟩:=d.sE h;have:=(ag.1 h).1;have m:w.cell? ⟨mb,2,U⟩=M (O (M ⟨A,0,U⟩) s.ox.length S):=(by rw[<-B];exact d.eH.cell 2);have H:=j.cls o.1 (bF.2 ⟨o,aB h,rfl⟩);rw[e5];have y:(eI a == 0)=F:=(by simp;omega);rw[y,Bool.false_or];rw[e3]at r e q c C y ⊢;have i:=Oq e;replace m:=i _ _ m;replace x:=i _ _ x;replace n:=i _ _ n;have Q:=Oo m;have R:=Oo n;dsimp only at Q R;have E:=Ou (eA (Oq (d.bel.trans (e.mono d.bel.size))) z);obtain⟨a,_,_,a,rfl,_⟩:=z;have:=fp k;have:(k:Int)<(s.ox.length:Int):=(by omega);have:IntKind.i64.wrap (b-3)=b-3:=(by rw[IntKind.wrap_i64];omega);have:IntKind.i64.wrap (k:Int)=(k:Int):=(by rw[IntKind.wrap_i64];omega);generalize o.1.cls=cl at *;clear d c f e1 e2 e3 e4 e5 l j i B h;go_in
    go_wp2_with fail;generalize w.alloc _=W at *;refine fk (jC W.heap.size W) (λ_ _ _=>rfl) λhHeld=>?_;refine dZ 15 0 ?_;refine dZ 16 1 ?_;refine dZ 17 2 ?_;refine dZ 18 3 ?_;refine dZ 19 4 ?_;refine dZ 20 5 ?_;refine dZ 21 6 ?_;refine dZ 22 7 ?_;refine dZ 23 8 ?_;refine dZ 24 9 ?_;refine dZ 25 10 ?_;refine dZ 26 11 ?_;refine dZ 27 12 ?_;refine dZ 28 13 ?_;refine dZ 29 14 ?_;refine dZ 30 15 ?_;refine dZ 31 16 ?_;refine dZ 32 17 ?_;refine dZ 33 18 ?_;refine dZ 34 19 ?_;refine el 20 (λG u=>?_);go_simp;refine(xG p _ cl (b-3) W.drew E P (by omega) H.2 N).mono ?_;rintro t a ⟨rfl,a⟩;have v:=mA a;go_wp2_with fail;refine u.out _ _ (λa D b=>v.cell (p:=⟨a,D,U⟩) b) λhHeld=>?_;clear u G;try simp only[Act.put,Ap,Ar,Aq]
    refine dZ 36 21 ?_;refine dZ 6 22 ?_;refine eV ?_;go_wp2;go_ret;exact⟨rfl,eu e v⟩
end
end
section
attribute [local go_sem ↓] Go.wp_at_zero Go.wp_at_succ
theorem iK.back{g d b c f e}(a:km g b c f e)(l:mD d b c)(h:ee (λm=>m=b) g d):km d b c f e:=by
 refine⟨l,a.nil,a.c6,λi k j=>?_,a.apart,λg f d e=>(a.ent g f d e).mods h (λb c=>(a.off g f d e b c).1),a.off⟩;obtain⟨c,b,d⟩:=a.row i k j;exact⟨c,b,eX d h (λb c=>by have:=d.lt b c;omega)⟩
theorem iK.ge{h e f i g}(c:km h e f i g){a}(d:∀b,a b->h.heap.size<=b):vR e f g a:=
 ⟨λa=>by have:=d _ a;have:=c.hands.1.lt;omega,λl m h a=>by have:=d _ a;have:=c.own h;omega,λk j e g b i a=>by
  obtain⟨f,f,_⟩:=(c.ent k j e g).2.2 b i;have:=f.lt;have:=d _ a;omega⟩
theorem DJ{a}:eG 3 (lw a) (O U 0 0) []:=⟨U,0,0,0,rfl,ai _,⟨λa=>absurd rfl a,.inl ⟨rfl,rfl⟩⟩,λc d b=>by simp at b⟩
theorem up.form{o p e d h i}(q:up o p e d h i)(v:je p)(x:eM p<=1048576)(u:fi p=0->Ends p e):∃b n c g w,i=zR (.tuple #[.agg #[O b n c],J I w])/\eG 3 (lw (sel (λm=>m<o\/d.heap.size+1<m) h)) (O b n c) g/\je g/\eM g<=1048576/\Below d.heap.size d h:=by
 obtain⟨r,s,f⟩:=q
 by_cases a:fi p=0
 .rcases s a with ⟨t,d,rfl,k⟩ | ⟨_,rfl⟩
  .have j:=Ih (u a) t;have l:eM p<=4194304:=(by omega);obtain⟨b,_,_,c,rfl,_⟩:=id k;exact⟨b,_,c,mY p (nc e),0,rfl,k,Gu v a l j,ap (IF (Gs a l j)) (by decide),f⟩
  .exact⟨U,0,0,[],5,rfl,DJ,λa hx=>(by cases hx),by decide,f⟩
 .obtain rfl:=r a;exact⟨U,0,0,[],fi p,rfl,DJ,λa hx=>(by cases hx),by decide,f⟩
theorem AJ{a b c}(e:Below a.heap.size a b)(f:a.heap.size<=c):fN a.cell? (jb c b.heap.size b):=λb c a=>by
 have:=Oo a;have d:=Oq e _ _ a;unfold jb;rw[am ⟨by omega,Oo d⟩];exact d
theorem MQ {a:Nat->Prop} [DecidablePred a] {c b:World}{d:Nat}(g:Below c.heap.size c b)(i:∀f,a f->f≠d):fN (sel a c) (jb d b.heap.size b):=λc d a=>by
 obtain⟨h,b⟩:=iw a;have e:=Oq g _ _ b;unfold jb;rw[am ⟨i _ h,Oo e⟩];exact e
theorem Gr{p}:∃a:Nat->Nat->Option eT,fi p=0->Ends p a:=by
 by_cases b:fi p=0
 .obtain⟨a,c⟩:=Ig b;exact⟨a,λ_=>c⟩
 .exact⟨λ_ _=>U,λa=>absurd a b⟩
end
end Go.Proofs.YtiiokkllmchohaaGreat
