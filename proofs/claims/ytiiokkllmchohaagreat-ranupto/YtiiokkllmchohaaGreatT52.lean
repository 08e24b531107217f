/- What is proved: the law Ran (every Run, by either machine, of a program and of what Certify makes of it, one behind the other in the same hands, behind the document's example) answers true, and what it was handed reads as it did. Condition: the arguments hold together at most 1048576 values and letters. -/
import Derived.Test.YtiiokkllmchohaaGreatT49
import Derived.Test.YtiiokkllmchohaaGreatT50
import Derived.Test.YtiiokkllmchohaaGreatT51
set_option maxHeartbeats 0
set_option maxRecDepth 99999
namespace Go.Proofs.YtiiokkllmchohaaGreat
open Go.Value renaming int->J,slice->O,pointer->zP,bool->zB
open Go.IntKind renaming i64->I
open Option renaming none->U,some->M
open Bool renaming true->K,false->F
open Go.Ending renaming returned->zR
open Go.Obj renaming cells->zC
section
open Go.RowKit Go.Shelf
attribute [local go_sem ↓] Go.wp_at_zero Go.wp_at_succ
attribute [local go_sem] eZ
theorem Dk(p ac s E k f3 L Z j e u Q H)(B:km j e u Q H)(e0:eG 3 (lw (jb e j.heap.size j)) ac p)(e3:eG 1 (gy (jb e j.heap.size j)) f3 k)(e4:je p)(e5:eM p<=1048576)(cc:k.length<=1048576)(h7:Q<=200000)(eP:∀h,h<6->(H h).length<=2000000):
  Calls Tryz.prog 28 #[zP (M ⟨e,0,U⟩),.agg #[ac],J I s,J I E,f3,J I L,zB Z] j λd ad=>d=zR (zB K)/\∃a8 hO an,AX j ad e u a8 Q hO H an:=by
 have bh:=B.hands;have e9:=B.nil 0 (by omega);have fa:=B.nil 1 (by omega);have fc:=B.nil 2 (by omega);have fn:=B.nil 3 (by omega);have fo:=B.nil 4 (by omega);have fs:=B.nil 5 (by omega);have cp:=Ou B;obtain⟨a5,ep⟩:∃a5,a5=oz p s E (nQ p s E k L) (kB p s E k.length L Z):=⟨_,rfl⟩;obtain⟨ec,hv⟩:∃ec,ec=kB p s E k.length L Z:=⟨_,rfl⟩;have hy:a5.out.length<=5000:=by rw[ep];exact Ld p s E k L Z (by omega)
 have a4:=Ou (aq ep hv);have h6:=bh.1.lt;have d0:=Ou e0;have d2:=Ou e3;have ci:=(Ow (λ_=>False) j).alloc (zC #[ac] 24);have g3:=Oz j #[ac] 24;have eR:mD (j.alloc (zC #[ac] 24)) e u:=⟨bh.1.alloc _,bh.2⟩;have hC:(j.alloc (zC #[ac] 24)).heap.size=j.heap.size+1:=by simp
 have b5:=Ou hC;obtain⟨br,_,_,bs,rfl,_⟩:=e0;obtain⟨b7,_,_,b8,rfl,_⟩:=e3;go_in
 go_wp2_with fail;generalize j.alloc _=W at *;have h5:=ea b5;have e1:eG 3 (lw (jb e W.heap.size W)) (O br p.length bs) p:=eA (Bx ci (by omega)) d0.out;have hG:eG 1 (gy (jb e W.heap.size W)) (O b7 k.length b8) k:=fu (Bx ci (by omega)) d2.out;have gs:=Ou e1;have d3:=Ou hG;refine Calls.mono (JZ p _ W e u e1 eR eR.1.lt e9 fa fc fn fo e5) ?_;rintro d R ⟨ab,rfl,h0,hW,hV,hX,hU,hS,hJ,hf,hN,hK,aa,ca,i6,i7,i8,i9,j0⟩;have d4:=Ou ca.mods;have g4:=g3.mods ca.mods (by omega);have P:=(Ow (λ_=>False) R).alloc (zC #[O (M ⟨ab,0,U⟩) p.length (p.length+1)] 24);have d9:=Oz R #[O (M ⟨ab,0,U⟩) p.length (p.length+1)] 24;have g5:=g4.alloc (zC #[O (M ⟨ab,0,U⟩) p.length (p.length+1)] 24);have q:=Ou ca;go_wp2_with fail;generalize R.alloc _=w2 at *;have cf:=q.out.hs.stay P (λ_ _ _ _ a=>a.elim);have a2:ee (λg=>g=e) W w2:=d4.out.trans P (λ_ _ a=>a.elim);have hF:eG 1 (gF w2) (O b7 k.length b8) k:=fu (fN.trans (px (b:=e) (n:=W.heap.size) a2 (λg x d=>by omega)) (jZ e W.heap.size w2)) d3.out;have hc:aa[5]? =M (O U 0 0):=by rw[q.out.rest 5 (ai _)];exact fs
 have ho:=ea b5;refine Calls.mono (JY k _ w2 e aa (O U 0 0) W.heap.size [] hF cf.hands hc (World.ownsRow_nil _ _ _ _) a2.size (by omega) cc (by simp)) ?_;rintro d z ⟨hg,rfl,hY,eo⟩;have y:=eo.only;have h9:R.heap.size<w2.heap.size:=d9.lt;have p8:=d9.mods y (by have:=d4.out.size;omega);have g6:=g5.mods y (by omega);have f4:z.cell? ⟨R.heap.size,0,U⟩=M (O (M ⟨ab,0,U⟩) p.length (p.length+1)):=p8.cell 0
 have hL:eQ z (O (M ⟨ab,0,U⟩) p.length (p.length+1)) p:=by
  have l:∀g v aa,ed R g v aa->v∈t5->¬False:=λ_ _ _ _ _ a=>a;refine eA (fN.trans (fN.trans (jO P l) (jO y (λg v aa ce o d=>?_))) (qT t5 z)) q.out.prog;subst d;have:=ce.uniq cf.hands.1;subst this
  revert o
  decide
 have cu:=Ou hL;have ak:=Ou eo;have d1:=Ou cf;go_wp2_with fail;refine Calls.mono (BY p _ s E k _ L Z z cu.out e4 (by omega) ak.out.read (by omega)) ?_;rintro d o hp;obtain⟨bo,a3,rfl,er,ba⟩:=hp.form;rw[<-a4.out.1]at er ⊢;rw[<-a4.out.2];have g9:=p8.bl ba;have g7:=g6.bl ba;have bI:=Ou er;obtain⟨S,Y,l,V⟩:=a5;dsimp only at hy bI ⊢;go_upto_region 4 with (refine fJ gX (Oz o #[J I 0,J I 0,O U 0 0,J I 0] 69) 0 [J I S,J I Y,O bo l.length a3,J I V] rfl (by simp) (zU S Y V bo l.length a3) (.tmp 17) (.tmp 39) rfl rfl rfl rfl ?_;intro w b9 en hD;rw[fw (by rfl)]at b9)
 have h4:=b9;have iC:ee (λg=>o.heap.size<=g) o w:=(((Ow (λg=>o.heap.size<=g) o).alloc _).trans en (λg x d=>by omega));have ij:w.heap.size=o.heap.size+1:=by rw[hD];simp
 have be:Below o.heap.size o w:=(ev o _).trans (en.below (by simp) (λg x d=>by omega));have bc:=eu ba be;have ha:=g9.bl be;have d6:=g7.bl be;have j2:w.cell? ⟨R.heap.size,0,U⟩=M (O (M ⟨ab,0,U⟩) p.length (p.length+1)):=ha.cell 0;have iT:w.cell? ⟨j.heap.size,0,U⟩=M (O br p.length bs):=d6.cell 0;have f6:=Ou b9;have cz:=Ou (eX bI.out (Ox be) (λa e d=>by have:=(bI.out.lt a e).2;omega));have hr:=bc.size;have ih:=ba.size;have a0:=we bc;have hM:=eA (Oq bc) cu.out;have hZ:=fu (Oq bc) ak.out.read;have e6:=a2.trans y (λ_ _ d=>d);have e7:=e6.trans a0 (λ_ _ a=>a.elim);have ei:fN (jb e W.heap.size W) w.cell? :=fN.trans (px (b:=e) (n:=W.heap.size) e7 (λg x d=>by omega)) (jZ e W.heap.size w);have hQ:eQ w (O br p.length bs) p:=eA ei gs.out;have hT:eG 1 (gF w) (O b7 k.length b8) k:=fu ei d3.out;have bn:=d1.out.MR ak.out.hands y;have hE:=bn.stay a0 (λ_ _ _ _ a=>a.elim);have D:∀(v:TypeId),v≠53->∀g s,ed w2 g v s->¬g=e:=λv a g s ce x=>by subst x;exact a (ce.uniq d1.out.hands.1)
 have hi:=((q.out.m.mods P (λ_ _ _ a=>a) (λ_ _ _ a=>a)).mods y (D _ (by decide)) (D _ (by decide))).mods a0 (λ_ _ _ a=>a) (λ_ _ _ a=>a);have hh:=((q.out.c.mods P (λ_ _ _ a=>a) (λ_ _ _ a=>a)).mods y (D _ (by decide)) (D _ (by decide))).mods a0 (λ_ _ _ a=>a) (λ_ _ _ a=>a);have hk:=(ak.out.inn a2.size cc).mods a0 (λ_ _ _ a=>a) (λ_ _ _ a=>a);have ho:=ea b5;go_wp2_with fail;refine Calls.mono (JL w W.heap.size z.heap.size e _ h0 hW hV hX hU hY hS hJ hf hN hK [(hg,k.length+1)] p _ _ _ _ k hE hi hh hk (by rw[ah (by omega)];exact q.out.c3) (by rw[ah (by omega)];exact q.out.c4) (by rw[aA (by rw[q.out.hs.hands.2];omega)]) hM hQ hZ hT (by omega) e5 (by omega) (by omega) (by omega) (by omega) (by omega) (by simp) bn.t.under bn.i.under bn.f.under ?_ ?_ ?_) ?_
 .exact ((q.out.m.mods P (λ_ _ _ a=>a) (λ_ _ _ a=>a)).mods y (D _ (by decide)) (D _ (by decide))).under
 .exact ((q.out.c.mods P (λ_ _ _ a=>a) (λ_ _ _ a=>a)).mods y (D _ (by decide)) (D _ (by decide))).under
 .exact (ak.out.inn a2.size cc).under
 rintro d F ⟨rfl,ej,a1⟩;have hu:(((((aa.set 0 (O U 0 0)).set 1 (O U 0 0)).set 2 (O U 0 0)).set 3 (O U 0 0)).set 4 (O U 0 0)).set 5 (O U 0 0)=u:=MU (by rw[q.out.hs.hands.2,bh.2]) e9 fa fc fn fo fs q.out.rest;rw[MS,hu]at ej;have ib:=e6.size;have d5:=f6.out.mods a1 (λd=>by have:=hr;omega);have g8:=d6.mods a1 (λd=>by omega);have i0:F.cell? ⟨j.heap.size,0,U⟩=M (O br p.length bs):=g8.cell 0;have b6:ee (λg=>g=e) j F:=((ci.mono (λ_ _ a=>a.elim)).trans e7 (λ_ _ d=>d)).trans a1 (λg x d=>by omega);have eg:fN (jb e j.heap.size j) F.cell? :=fN.trans (px (b:=e) (n:=j.heap.size) b6 (λg x d=>by omega)) (jZ e j.heap.size F);have gq:=Ou (eA eg d0.out);have g1:=Ou (fu eg d2.out)
 have cA:=Ou (eX cz.out a1 (λa e d=>by
  have:=(cz.out.lt a e).1;have:=q.out.hs.lt
  omega))
 have gk:Hid (km F e u Q H):=cp.out.back ej b6;have gn:=Ou b6;have cn:=Ou d5;have ii:z.heap.size<=F.heap.size:=by have:=a1.size;omega
 have ia:j.heap.size<=z.heap.size:=by omega
 have is:o.heap.size<F.heap.size:=d5.lt;go_wp2_with fail;refine Calls.mono (Mr p _ s E k _ L Z F gq.out e4 (by omega) g1.out (by omega)) ?_;rintro d A hq;obtain⟨ck,bz,rfl,cb,et⟩:=hq.form;rw[<-a4.out.1]at cb ⊢;rw[<-a4.out.2];dsimp only at cb ⊢;have hH:=et.size;have dp:=Ou cb;have ga:=Ou et;go_upto_region 6 with (refine fJ gX (Oz A #[J I 0,J I 0,O U 0 0,J I 0] 69) 0 [J I S,J I Y,O ck l.length bz,J I V] rfl (by simp) (zU S Y V ck l.length bz) (.tmp 20) (.tmp 55) rfl rfl rfl rfl ?_;intro r ao hj h8;rw[fw (by rfl)]at ao)
 have eK:Below A.heap.size A r:=(ev A _).trans (hj.below (by simp) (λg x d=>by omega));have ar:=ga.out.trans (eK.mono hH);have a6:=cn.out.below ar cn.out.lt;have es:=eX cA.out (Ox ar) (λa e d=>by have:=(cA.out.lt a e).2;omega);have hm:=eX dp.out (Ox eK) (λa e d=>by have:=(dp.out.lt a e).2;omega);obtain⟨iM,ft,f0,iS,eS,_,hx,hz⟩:=it (zX rfl es);obtain⟨i1,f1,f2,i2,e2,_,hA,hB⟩:=it (zX rfl hm);simp only[Value.slice.injEq,true_and]at eS e2;obtain⟨rfl,rfl⟩:=eS;obtain⟨rfl,rfl⟩:=e2;have gp:=Ou hz;have gx:=Ou hB;have gl:Hid (km r e u Q H):=gk.out.below ar;have ds:=Ou es;have f9:=Ou ar;have hI:=ar.size;have iF:r.cell? ⟨o.heap.size,0,U⟩=M (J I S):=a6.cell 0;have iG:r.cell? ⟨o.heap.size,1,U⟩=M (J I Y):=a6.cell 1;have hP:r.cell? ⟨o.heap.size,2,U⟩=M (O bo l.length a3):=a6.cell 2;have iJ:r.cell? ⟨o.heap.size,3,U⟩=M (J I V):=a6.cell 3;have i3:r.cell? ⟨A.heap.size,0,U⟩=M (J I S):=ao.cell 0;have i4:r.cell? ⟨A.heap.size,1,U⟩=M (J I Y):=ao.cell 1;have hR:r.cell? ⟨A.heap.size,2,U⟩=M (O ck l.length bz):=ao.cell 2;have i5:r.cell? ⟨A.heap.size,3,U⟩=M (J I V):=ao.cell 3;go_wp2_with ((go_at_call 48;refine(JP _ _).mono ?_);rintro d j3 ⟨rfl,cg⟩;replace cg:=cg.symm;subst cg)
 go_loopw [22,23] (λd a wr=>∃h:Nat,h<=l.length/\a=J I h/\d=zB K/\Below r.heap.size r wr) (λ_ a _=>l.length-(intOf a).toNat)
 case atStart=>exact ⟨0,az _,rfl,rfl,ay _ _⟩
 case round=>
  obtain⟨h,N,rfl,rfl,C⟩:=hrel;have h2:=Oq C _ _ hP;have h3:=Oq C _ _ hR
  by_cases bk:h<l.length
  .obtain rfl:=hx (eW bk);obtain rfl:=hA (eW bk);have f4:=Oq C _ _ (ea gp h bk);have G:=Oq C _ _ (ea gx h bk);have X:(0:Int)<=(h:Int):=(by omega);have bf:(h:Int)<(l.length:Int):=(by omega);generalize l[h]=v at *;go_wp2
   go_region_held3 (λad=>ad.cell? ⟨o.heap.size,2,U⟩=M (O (M ⟨ft,f0,U⟩) l.length a3)/\ad.cell? ⟨A.heap.size,2,U⟩=M (O (M ⟨f1,f2,U⟩) l.length bz)/\ad.cell? ⟨ft,f0+h,U⟩=M (J I v)/\ad.cell? ⟨f1,f2+h,U⟩=M (J I v))
    (first | (exact⟨h2,h3,f4,G⟩) | go_keep)
    (fail)
   go_wp2_with fail;refine⟨⟨h+1,by omega,by go_num,rfl,C.drew⟩,by simp[intOf];omega⟩
  .have hl:=eX ds.out (Ox C) (λa e d=>by have:=(ds.out.lt a e).2;omega);have gm:Hid (km wr e u Q H):=gl.out.below C;have cm:=Ou (f9.out.trans (C.mono hI));have bM:=Ou hl;go_wp2_with fail;refine Calls.mono (JE l.length _ wr e u Q H gm.out z.heap.size _ bM.out (cp.out.ge (λa e=>by have:=(bM.out.lt a e).1;omega)) (by omega) (by omega) (λh N=>by have:=eP h N;omega)) ?_;rintro d h1 ⟨rfl,a8,an,g2,X⟩;have cs:=Ou g2;have g0:=Ou X;have gc:∀h,h<6->(an h).length<=16777216:=λh N=>by have:=X.cnt h N;have:=eP h N;omega
   have gf:Hid (∀a,(O bo l.length a3).ownBlock=M a->z.heap.size<=a):=λa e=>(bM.out.lt a e).1;go_wp2_with fail;refine Calls.mono (JN h1 e a8 _ an cs.out gc) ?_;rintro d j1 ⟨rfl,bf⟩;have gb:=Ou bf;go_wp2;go_ret;have X:=ea g0;have bf:=ea gb;refine⟨rfl,a8,_,an,⟨cs.out.below bf,by omega,λh N=>by have:=X.cnt h N;omega,?_,λa g hw=>?_⟩⟩
   .refine (((gn.out.mono (T:=λg=>g=e\/∃a,OK u a g) (λ_ _ d=>.inl d)).trans (we cm.out) (λ_ _ a=>a.elim)).trans X.mods (λg x hn=>?_)).trans (we bf) (λ_ _ a=>a.elim)
    rcases hn with G | G | G
    .exact .inl G
    .exact .inr G
    .have:=ea gf g G;omega
   .rcases X.rows a g hw with G | G
    .exact .inl G
    .have:=cm.out.size;exact .inr (by omega)
theorem Ii:kB pA 0 1 ([7]:Ok).length 100 F=0:=by kernel_rfl
theorem Ij:oz pA 0 1 (nQ pA 0 1 [7] 100) 0=⟨1,7,[],9⟩:=by kernel_rfl
theorem seven {w:World} :eG 1 (gF (w.alloc (zC #[J I 7] 3))) (O (M ⟨w.heap.size,0,U⟩) 1 1) [7]:=fu (qT [3] _) (q9 (l:= [7]) (rest:= []) (cap:=1) (Oz w #[J I 7] 3) (by simp) (by decide))
theorem JR(p bz v N j bs x a)(a6:eQ a bz p)(ba:eG 1 (gF a) bs j)(E:je p)(bk:eM p<=1048576)(a2:j.length<=1048576):
  Calls Tryz.prog 7 #[.agg #[bz],J I v,J I N,bs,J I x] a λc cA=>c=zR (zB K)/\Below a.heap.size a cA:=by
 have T:=Ou a6;have W:=Ou ba;obtain⟨b5,a1⟩:=Gr (p:=p);have V:=Ou a1;clear a1;obtain⟨d,_,_,e,rfl,_⟩:=a6;obtain⟨b7,_,_,b8,rfl,_⟩:=ba;have a3:=ev a (zC #[O d p.length e] 24);have P:=Oz a #[O d p.length e] 24;go_in
 go_wp2_with fail;generalize a.alloc _=W0 at *;refine(JM W0).mono ?_;rintro c u ⟨a1,rfl,ao,z⟩;have bc:=eu a3 z;have Q:=P.bl z;have br:=seven (w:=u);have q:=ev u (zC #[J I 7] 3);have S:=Ou (eA (Oq q) ao);have be:=eu bc q;have R:=Q.bl q;clear ao z a3 P Q bc q;go_wp2_with fail;generalize u.alloc _=W2 at *;refine(BY pA _ 0 1 [7] _ 100 F W2 S.out Il Ik br (by decide)).mono ?_;rintro c f y;rw[Ii]at y;obtain⟨bn,bo,rfl,cb,A⟩:=y.form;rw[Ij];dsimp only;have bf:=eu be A;have r:=R.bl A;have:=r.lt;clear cb y A be R br S;go_upto_region 2 with (refine fJ gX (Oz f #[J I 0,J I 0,O U 0 0,J I 0] 69) 0 [J I 1,J I 7,O bn 0 bo,J I 9] rfl (by simp) (zU 1 7 9 bn 0 bo) (.tmp 11) (.tmp 24) rfl rfl rfl rfl ?_;intro b l a0 cf;rw[fw (by rfl)]at l)
 have B:Below f.heap.size f b:=(ev f _).trans (a0.below (by simp) (λb a c=>by omega));have bh:=eu bf B;have s:=r.bl B;have ci:b.cell? ⟨f.heap.size,0,U⟩=M (J I 1):=l.cell 0;have ck:b.cell? ⟨f.heap.size,1,U⟩=M (J I 7):=l.cell 1;have cm:b.cell? ⟨f.heap.size,3,U⟩=M (J I 9):=l.cell 3;have X:=Ja b;have C:=ev b (zC qk.toArray 53)
 have i:Hid (qG a (b.alloc (zC qk.toArray 53)) b.heap.size (O d p.length e) qk 0 (λ_=> []) 0):=
  ⟨eu bh C,s.bl C,s.lt,X,az _,λ_ _=>az _⟩
 clear B C X r s bf bh l a0 cf;go_upto_region 5 with fail
 generalize b.alloc _=W5 at *;obtain⟨k,a4⟩:∃k,k=b.heap.size:=⟨_,rfl⟩;rw[<-a4]at i ⊢;clear a4 ci ck cm;have ar:=λ(u:Bool) (f:World) (l:List Value) (r:Nat) (q:Nat->List fZ) (s:Nat) (b:qG a f k (O d p.length e) l r q s) (y:s<=4)=>Dk p (O d p.length e) v N j (O b7 j.length b8) x u f k l r q b.inv (eA (AJ b.bel (by have:=b.new;omega)) T.out) (fu (AJ b.bel (by have:=b.new;omega)) W.out) E bk a2 (by have:=b.nle;omega) (λc a=>by have:=b.cnt c a;omega);have t:=Ou ar;clear ar;have cp:W5.cell? ⟨a.heap.size,0,U⟩=M (O d p.length e):=i.out.bp.cell 0;go_wp2_with fail;refine(ea t K W5 _ _ _ 0 i.out (by omega)).mono ?_;rintro c Z ⟨rfl,b,b,b,ad⟩;have n:=Ou (i.out.did ad);have cs:Z.cell? ⟨a.heap.size,0,U⟩=M (O d p.length e):=n.out.bp.cell 0;clear ad i cp;go_wp2_with fail;refine(ea t F Z _ _ _ 1 n.out (by omega)).mono ?_;rintro c aa ⟨rfl,b9,cg,ca,ak⟩;have g:=Ou (n.out.did ak);have cu:aa.cell? ⟨a.heap.size,0,U⟩=M (O d p.length e):=g.out.bp.cell 0;clear ak n cs;go_wp2_with fail;have D:=g.out.bel;refine(Me a.heap.size p _ aa D.size (eA (AK (Ox D) λb a=>⟨λc=>by omega,a⟩) T.out) E (by omega) b5 V.out).mono ?_;rintro c o an;obtain⟨G,L,H,cz,b,rfl,a8,cc,ce,b⟩:=an.form E bk V.out;have a5:=ev o (zC #[O G L H] 24);have bI:=Oz o #[O G L H] 24;have h:=Ou ((g.out.below b).below a5);have:=g.out.inv.hands.1.lt;have:=g.out.new;have bM:=Ou a8;clear cu an a8 g D;go_upto_region 8 with fail
 generalize o.alloc _=W9 at *;have dp:W9.cell? ⟨o.heap.size,0,U⟩=M (O G L H):=bI.cell 0;go_wp2_with fail;refine(Dk cz _ v N j _ x F W9 k b9 cg ca h.out.inv (eA (MQ a5 (λb a=>by omega)) bM.out) (fu (AJ h.out.bel (by omega)) W.out) cc ce a2 (by have:=h.out.nle;omega) (λc a=>by have:=h.out.cnt c a;omega)).mono ?_;rintro c Y ⟨rfl,b,b,b,ab⟩;have m:=Ou (h.out.did ab);have cn:Y.cell? ⟨a.heap.size,0,U⟩=M (O d p.length e):=m.out.bp.cell 0;clear ab h dp;go_wp2_with fail;refine(ea t K Y _ _ _ 3 m.out (by omega)).mono ?_;rintro c a ⟨rfl,a,a,a,ac⟩;have b6:=Ou (m.out.did ac);clear ac m cn;go_wp2;go_ret;exact⟨rfl,b6.out.bel⟩
end
section
open Go.ChangeShapes Go.WideShapes Go.ChangeAt Go.RowKit
theorem LI(g j a B e h q C)(d:∀(z:Nat) A f,Tryz.f7.params[z]? =M A->e[z]? =M f->Value.okWide Tryz.prog a .any B A f)(y:DataW.Whole j Tryz.prog Tryz.f7.params.toList Rows.ranSpec.vars F a e.toList h q C)(H:Rows.uptoSmall g (h++q)=K):
  Calls Tryz.prog 7 e a λp n=>∃f,p=zR f/\Rows.ranSpec.post j Tryz.prog Tryz.f7 F K F F a e f n:=by
 have c:=y;obtain⟨N,f,x,E,rfl,f,f⟩:=y;have w:DataW.TrodAll j Tryz.prog a 0 (λ_=>K) K Tryz.f7.params.toList e.toList h N:=x;rw[Tryz.params7]at w d;obtain⟨e,U,V,W,X,o,e,e,d3,e,O,P,Q,R,S,rfl,rfl,rfl,r,s,t,u,v⟩:=Nt w;obtain⟨rfl,rfl⟩:=trodVars_none E;have:=Gf H;obtain⟨Y,L,rfl,T,D,e⟩:=Lc (d 0 24 _ rfl rfl) r;obtain⟨k,rfl,rfl,_,e⟩:=open_int Tryz.underlying3 (d 1 3 U rfl rfl) s;obtain⟨l,rfl,rfl,_,e⟩:=open_int Tryz.underlying3 (d 2 3 V rfl rfl) t;obtain⟨J,I,e,e⟩:=K9 (d 3 51 _ rfl rfl) u;obtain⟨m,rfl,rfl,_,e⟩:=open_int Tryz.underlying3 (d 4 3 X rfl rfl) v;clear x;refine(JR L Y k l J W m a T I D (by omega) (by omega)).mono λp n ⟨G,b⟩=>?_;subst G;have i:Rows.ranSpec.fn g ([o,.lit (.int .i64 k),.lit (.int .i64 l),d3,.lit (.int .i64 m)]++ [])= { results:= [.lit (.bool K)],args:= [o,.lit (.int .i64 k),.lit (.int .i64 l),d3,.lit (.int .i64 m)] } :=rfl;refine⟨_,rfl,_,_,_,[],O++(P++(Q++(R++S))),[],c,?_,?_,?_,b.frame _,λa=>by cases a⟩
 .rw [i];exact trodAll_mk1 (shut_bool Tryz.underlying4 _)
 .rw [i];exact Nu (Below.trod uM (by kernel_rfl) (of_decide_eq_true (by kernel_rfl)) r b (λa hx=>c.lt a (by simp[hx]))) (trodAll_mk4 (Below.trod uM (by kernel_rfl) (of_decide_eq_true (by kernel_rfl)) s b (λa hx=>c.lt a (by simp[hx]))) (Below.trod uM (by kernel_rfl) (of_decide_eq_true (by kernel_rfl)) t b (λa hx=>c.lt a (by simp[hx]))) (Below.trod uM (by kernel_rfl) (of_decide_eq_true (by kernel_rfl)) u b (λa hx=>c.lt a (by simp[hx]))) (Below.trod uM (by kernel_rfl) (of_decide_eq_true (by kernel_rfl)) v b (λa hx=>c.lt a (by simp[hx]))))
 .rw [i]
  rfl
theorem LJ(c)(e:c.Started)(b)(a:TypeId×Value->b)(d):
  ReturnsInHanded {} Tryz.checked c 7 .any ((Rows.OpenSpec.upto Rows.ranSpec).pre6 a Tryz.prog Tryz.f7 Rows.ranUptoRow.domain F) (((Rows.OpenSpec.upto Rows.ranSpec).at d).post a Tryz.prog Tryz.f7 F K F F):=by
 refine returnsInHanded_of_cond (C:=Tryz.checked) (s:=Rows.OpenSpec.upto Rows.ranSpec) (k:=Rows.uptoSmall) rfl JF e (by kernel_rfl) Tryz.func7
  (OpenSpec.witness (enc:=a) (C:=Tryz.checked) (s:=Rows.OpenSpec.upto Rows.ranSpec) (k:=Rows.uptoSmall) rfl F ⟨#[],#[.agg #[O U 0 0],J I 0,J I 0,O U 0 0,J I 0],[]⟩ 8 (by kernel_rfl) (by kernel_rfl) (by kernel_rfl)
    (x:=([.agg [.nil],.lit (.int .i64 0),.lit (.int .i64 0),.nil,.lit (.int .i64 0)],[],[])) (by kernel_rfl) rfl (by kernel_rfl)) ?_
 intro c e d g h f l i _ j _;exact LI b a c e d g h f l i j
theorem LL:Rows.ranUptoRow.holds Tryz.pinned (Rows.OpenSpec.upto Rows.ranSpec):=
 OpenClaim.holds_of_cond 7 Tryz.f7 rfl rfl rfl rfl rfl rfl rfl ⟨rfl,rfl,rfl,rfl,rfl⟩ rfl rfl rfl rfl rfl (by kernel_rfl) Tryz.func7 (by kernel_rfl)
  (of_decide_eq_true (by kernel_rfl)) (by unfold Func.isWrapper;first | (rw[am (by decide +kernel)];kernel_rfl) | (rw[af (by decide +kernel)];exact⟨rfl,rfl⟩))
  (λd e b c _ a=>LJ d e b c a)
theorem ran_holds:Rows.RanUptoSaid:=LL
end
end Go.Proofs.YtiiokkllmchohaaGreat
