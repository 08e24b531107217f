/- The law's lend: what its loops over classes and methods keep. -/
import Derived.Test.YtiiokkllmchohaaGreatT02
import Derived.Test.YtiiokkllmchohaaGreatT03
set_option maxHeartbeats 0
set_option maxRecDepth 99999
namespace Go.Proofs.YtiiokkllmchohaaGreat
open Go.Value renaming int->J,slice->O,pointer->zP,bool->zB
open Go.IntKind renaming i64->I
open Option renaming none->U,some->M
open Bool renaming true->K,false->F
open Go.Ending renaming returned->zR
open Go.Obj renaming cells->zC
open Go.RowKit
theorem Js:(Tryz.prog.info? 63).map (λa=>(a.zero,a.size,a.bytes))=M (M (.agg #[J I 0,O U 0 0,J I 0,J I 0,J I 0,O U 0 0,O U 0 0]),7,104):=by kernel_rfl
theorem Jt:(Tryz.prog.info? 64).map (λa=>(a.zero,a.size,a.bytes))=M (M (O U 0 0),1,24):=by kernel_rfl
theorem Jg:(Tryz.prog.info? 66).map (λa=>(a.zero,a.size,a.bytes))=M (M (.agg #[J I 0,O U 0 0,O U 0 0]),3,56):=by kernel_rfl
theorem Jh:(Tryz.prog.info? 22).map (λa=>(a.zero,a.size,a.bytes))=M (M (O U 0 0),1,24):=by kernel_rfl
def qS (n:Nat)(T:List TypeId)(w:World)(a:Addr):Option Value:=if a.block<n then OJ T w a else U
theorem Gm(a T w):fN (qS a T w) (OJ T w):=λp b a=>by
 unfold qS at a
 split at a
 .exact a
 .cases a
theorem Gn(T w){a}(b:w.heap.size<=a):fN (OJ T w) (qS a T w):=λp d a=>by
 unfold qS;rw[am (dm (Oo (qT T w p d a)) b)];exact a
theorem uy{d T w l e}(j:ee e w l)(m:∀k b cs,k<d->ed w k b cs->b∈T->¬e k):fN (qS d T w) (qS d T l):=λp n a=>by
 unfold qS at a ⊢
 split at a
 .rename_i h;rw[am h];obtain⟨⟨b,cs,f,i⟩,a⟩:=wt a;have g:=m _ _ _ h f i;rw[wn ⟨b,cs,f.mods j g,i⟩];exact j.cell a g
 .cases a
theorem Nm{b}(a:b∈t3):b∈t4:=by
 simp only[aE,aF,or_false]at a
 rcases a with rfl | rfl | rfl <;> decide
theorem AD{b}(a:b∈t4):b∈t5:=by
 simp only[aE,aF,or_false]at a
 rcases a with rfl | rfl | rfl | rfl <;> decide
def vT (g:Addr->Option Value)(cm:Oj)(m:eh)(j:Nat):Prop:=
 ∃va vc vf,fK g m va vc vf/\cm[j*7]? =M (J I m.slot)/\cm[j*7+1]? =M va/\cm[j*7+2]? =M (J I m.ret)/\cm[j*7+3]? =M (J I m.locals)/\cm[j*7+4]? =M (J I m.stack)/\cm[j*7+5]? =M vc/\cm[j*7+6]? =M vf
theorem vT.keep{e f cm d g b}(h:vT e cm g b)(m:fN e f)(a:∀k,k<b*7+7->d[k]? =cm[k]?):vT f d g b:=by
 obtain⟨n,o,vf,b,d,e,f,g,i,j,l⟩:=h;exact⟨n,o,vf,b.keep m,by rw[a _ (by omega)];exact d,by rw[a _ (by omega)];exact e,by rw[a _ (by omega)];exact f,by rw[a _ (by omega)];exact g,by rw[a _ (by omega)];exact i,by rw[a _ (by omega)];exact j,by rw[a _ (by omega)];exact l⟩
def sP (g:Addr->Option Value)(cl:Oj)(x:eb)(j:Nat):Prop:=
 ∃vf vm,cl[j*3]? =M (J I x.sup)/\cl[j*3+1]? =M vf/\cl[j*3+2]? =M vm/\eG 1 (gy g) vf x.fields/\eG 7 (mT g) vm x.ek
theorem sP.keep{e f cl d x b}(h:sP e cl x b)(g:fN e f)(a:∀k,k<b*3+3->d[k]? =cl[k]?):sP f d x b:=by
 obtain⟨vf,vm,b,d,e,f,i⟩:=h;exact⟨vf,vm,by rw[a _ (by omega)];exact b,by rw[a _ (by omega)];exact d,by rw[a _ (by omega)];exact e,fu g f,pC g i⟩
def nw (l:Oj)(k:Nat)(a b c d e f g:Value):List Value:=((((((l.set k a).set (k+1) b).set (k+2) c).set (k+3) d).set (k+4) e).set (k+5) f).set (k+6) g
theorem xK(a k b d c e f g h):(nw a k b d c e f g h).length=a.length:=by simp[nw]
theorem Ey{b k a d e c f g h i}(j:a<k\/k+6<a):(nw b k d e c f g h i)[a]? =b[a]? :=by
 unfold nw;rw[ah (by omega),ah (by omega),ah (by omega),ah (by omega),ah (by omega),ah (by omega),ah (by omega)]
theorem Ex{l k a b c d e f g}(h:k+6<l.length):(nw l k a b c d e f g)[k]? =M a/\(nw l k a b c d e f g)[k+1]? =M b/\(nw l k a b c d e f g)[k+2]? =M c/\(nw l k a b c d e f g)[k+3]? =M d/\(nw l k a b c d e f g)[k+4]? =M e/\(nw l k a b c d e f g)[k+5]? =M f/\(nw l k a b c d e f g)[k+6]? =M g:=by
 unfold nw;refine⟨?_,?_,?_,?_,?_,?_,?_⟩
 .rw [ah (by omega),ah (by omega),ah (by omega),ah (by omega),ah (by omega),ah (by omega),aA (by omega)]
 .rw [ah (by omega),ah (by omega),ah (by omega),ah (by omega),ah (by omega),aA (by simp;omega)]
 .rw [ah (by omega),ah (by omega),ah (by omega),ah (by omega),aA (by simp;omega)]
 .rw [ah (by omega),ah (by omega),ah (by omega),aA (by simp;omega)]
 .rw [ah (by omega),ah (by omega),aA (by simp;omega)]
 .rw [ah (by omega),aA (by simp;omega)]
 .rw [aA (by simp;omega)]
def qy (w:World)(g k:Nat)(a b c d e f h:Value):World:=
 ((((((w.setCell ⟨g,k,U⟩ a).setCell ⟨g,k+1,U⟩ b).setCell ⟨g,k+2,U⟩ c).setCell ⟨g,k+3,U⟩ d).setCell ⟨g,k+4,U⟩ e).setCell ⟨g,k+5,U⟩ f).setCell ⟨g,k+6,U⟩ h
theorem An{w g k i cs}(j:ed w g i cs)(a b c d e f h):ed (qy w g k a b c d e f h) g i (nw cs k a b c d e f h):=
 ((((((j.setCell k a).setCell (k+1) b).setCell (k+2) c).setCell (k+3) d).setCell (k+4) e).setCell (k+5) f).setCell (k+6) h
theorem Ao(w a k d e c f g h i):ee (λb=>b=a) w (qy w a k d e c f g h i):=
 (((((((Ow (λb=>b=a) w).setCell (p:=⟨a,k,U⟩) (λ_=>rfl) d).setCell (p:=⟨a,k+1,U⟩) (λ_=>rfl) e).setCell (p:=⟨a,k+2,U⟩) (λ_=>rfl) c).setCell (p:=⟨a,k+3,U⟩) (λ_=>rfl) f).setCell (p:=⟨a,k+4,U⟩) (λ_=>rfl) g).setCell (p:=⟨a,k+5,U⟩) (λ_=>rfl) h).setCell (p:=⟨a,k+6,U⟩) (λ_=>rfl) i
theorem MW(w g k a b c d e f h):(qy w g k a b c d e f h).heap.size=w.heap.size:=by simp[qy]
def qx (w:World)(g k:Nat)(a b c:Value):World:=((w.setCell ⟨g,k,U⟩ a).setCell ⟨g,k+1,U⟩ b).setCell ⟨g,k+2,U⟩ c
theorem vA{w d k e cs}(f:ed w d e cs)(a b c):ed (qx w d k a b c) d e (kP cs k a b c):=((f.setCell k a).setCell (k+1) b).setCell (k+2) c
theorem vB(w a k d e c):ee (λb=>b=a) w (qx w a k d e c):=
 (((Ow (λb=>b=a) w).setCell (p:=⟨a,k,U⟩) (λ_=>rfl) d).setCell (p:=⟨a,k+1,U⟩) (λ_=>rfl) e).setCell (p:=⟨a,k+2,U⟩) (λ_=>rfl) c
theorem MV(w d k a b c):(qx w d k a b c).heap.size=w.heap.size:=by simp[qx]
structure pV (w wr:World)(bh:Nat)(cs0:Oj)(p:On)(vp:Value)(gl c:Nat)(vt vi vf vm:Value)(ts is fs ms:List (Nat×Nat))(cs cl:Oj)(nb:Nat):Prop where
 hs:HS wr w.heap.size bh cs vt vi vf ts is fs
 m:rL wr w.heap.size vm ms
 c3:cs[3]? =M vm
 c4:cs[4]? =M (O U 0 0)
 rest:∀j,5<=j->cs[j]? =cs0[j]?
 mods:ee (λk=>k=bh) w wr
 b0:ed wr w.heap.size 24 [vp]
 b1:ed wr (w.heap.size+1) 24 [O U 0 0]
 lb:ed wr gl 66 cl
 ll:cl.length=(p.length+1)*3
 done:∀(j:Nat) (hj:j<p.length),j<c->sP (OJ t4 wr) cl p[j] j
 tl:ts.length<=nb
 il:is.length<=nb
 fl:fs.length<=nb
 ml:ms.length=c
 oT:w.heap.size+2<=gl
structure mF (w wr:World)(bh:Nat)(cs0:Oj)(p:On)(vp:Value)(gl c:Nat)(x:eb)(vxf vxm:Value)(gx gm k:Nat)(vt vi vf vm:Value)(ts is fs ms:List (Nat×Nat))(cs cl cm:Oj)(nb:Nat):Prop where
 hs:HS wr w.heap.size bh cs vt vi vf ts is fs
 m:rL wr w.heap.size vm ms
 c3:cs[3]? =M vm
 c4:cs[4]? =M (O U 0 0)
 rest:∀j,5<=j->cs[j]? =cs0[j]?
 mods:ee (λk=>k=bh) w wr
 b0:ed wr w.heap.size 24 [vp]
 b1:ed wr (w.heap.size+1) 24 [O U 0 0]
 bx:ed wr gx 66 [J I x.sup,vxf,vxm]
 lb:ed wr gl 66 cl
 ll:cl.length=(p.length+1)*3
 done:∀(j:Nat) (hj:j<p.length),j<c->sP (qS gm t4 wr) cl p[j] j
 mb:ed wr gm 63 cm
 wY:cm.length=(x.ek.length+1)*7
 zM:∀(j:Nat) (hj:j<x.ek.length),j<k->vT (OJ t3 wr) cm x.ek[j] j
 tl:ts.length<=nb
 il:is.length<=nb
 fl:fs.length<=nb
 ml:ms.length=c
 oT:w.heap.size+2<=gl
 tM:w.heap.size+2<=gx
 xd:w.heap.size+2<=gm
 lx:gl≠gx
 old:∀e∈ms,e.1<gm
section
variable {w wr : World} {bh : Nat} {cs0 : List Value} {p : List eb} {vp : Value} {gl c : Nat} {x : eb} {vxf vxm : Value} {gx gm k : Nat} {vt vi vf vm : Value} {ts is fs ms : List (Nat × Nat)} {cs cl cm : List Value} {nb : Nat}
theorem mF.rows(d:mF w wr bh cs0 p vp gl c x vxf vxm gx gm k vt vi vf vm ts is fs ms cs cl cm nb){a}(f:a<w.heap.size)(e:nC bh vt vi vf a):a=bh:=by
 rcases (d.hs.rows e).1 with b | b
 .exact b
 .omega
theorem mF.call(a:mF w wr bh cs0 p vp gl c x vxf vxm gx gm k vt vi vf vm ts is fs ms cs cl cm nb){t i u v y s r q o n l j}(b:AZ wr t w.heap.size bh cs i vt vi vf ts is fs u v y s r q o n l j):mF w t bh cs0 p vp gl c x vxf vxm gx gm k s r q vm o n l ms j cl cm (nb+fI i):=by
 have:8<=fI i:=by unfold fI;omega
 have d:∀ {e f c},ed wr e f c->¬(f=53\/f=40\/f=61\/f=36)->¬nC bh vt vi vf e:=λb d=>a.hs.other b d
 refine⟨b.hs,a.m.mods b.mods (λe c b=>d b (by decide)) (λe c b=>d b (by decide)),by rw[b.rest 3 (by omega)];exact a.c3,by rw[b.rest 4 (by omega)];exact a.c4,λg h=>by rw[b.rest g (by omega)];exact a.rest g h,a.mods.trans b.mods (λe b d=>a.rows b d),a.b0.mods b.mods (d a.b0 (by decide)),a.b1.mods b.mods (d a.b1 (by decide)),a.bx.mods b.mods (d a.bx (by decide)),a.lb.mods b.mods (d a.lb (by decide)),a.ll,
  λg h i=>(a.done g h i).keep (uy b.mods (λe f c _ b d=>a.hs.DK b (AD d))) (λ_ _=>rfl),a.mb.mods b.mods (d a.mb (by decide)),a.wY,λg h j=>(a.zM g h j).keep (jO b.mods (λe f c b d=>a.hs.DK b (AD (Nm d)))) (λ_ _=>rfl),
  ?_,?_,?_,a.ml,a.oT,a.tM,a.xd,a.lx,a.old⟩
 .have:=b.tl;have:=a.tl;omega
 .have:=b.il;have:=a.il;omega
 .have:=b.fl;have:=a.fl;omega
theorem mF.put(h:mF w wr bh cs0 p vp gl c x vxf vxm gx gm k vt vi vf vm ts is fs ms cs cl cm nb)(C:k<x.ek.length){va vc vf0}(B:fK (OJ t3 wr) x.ek[k] va vc vf0):
  mF w (qy wr gm (k*7) (J I x.ek[k].slot) va (J I x.ek[k].ret) (J I x.ek[k].locals) (J I x.ek[k].stack) vc vf0) bh cs0 p vp gl c x vxf vxm gx gm (k+1) vt vi vf vm ts is fs ms cs cl
   (nw cm (k*7) (J I x.ek[k].slot) va (J I x.ek[k].ret) (J I x.ek[k].locals) (J I x.ek[k].stack) vc vf0) nb:=by
 have j:=Ao wr gm (k*7) (J I x.ek[k].slot) va (J I x.ek[k].ret) (J I x.ek[k].locals) (J I x.ek[k].stack) vc vf0;have z:=An (k:=k*7) h.mb (J I x.ek[k].slot) va (J I x.ek[k].ret) (J I x.ek[k].locals) (J I x.ek[k].stack) vc vf0;have A:=h.wY;have:=h.xd;have q:∀ {n t c},ed wr n t c->t≠63->¬(n=gm):=λo s i=>by subst i;exact s (o.uniq h.mb)
 have y:fN (OJ t3 wr) (OJ t3 (qy wr gm (k*7) (J I x.ek[k].slot) va (J I x.ek[k].ret) (J I x.ek[k].locals) (J I x.ek[k].stack) vc vf0)):=
  jO j (λn t c o s=>q o (λi=>by subst i;exact absurd s (by decide)))
 refine⟨h.hs.stay j (λn t c o r s=>?_),h.m.wZ j (λn c o=>q o (by decide)) (λi j r=>by have:=h.old i j;omega),h.c3,h.c4,h.rest,h.mods.trans j (λn r i=>by omega),h.b0.mods j (q h.b0 (by decide)),h.b1.mods j (q h.b1 (by decide)),h.bx.mods j (q h.bx (by decide)),h.lb.mods j (q h.lb (by decide)),h.ll,
  λi u v=>(h.done i u v).keep (uy j (λn t c r _ _ i=>by omega)) (λ_ _=>rfl),z,by rw[xK];exact A,λi u j=>?_,h.tl,h.il,h.fl,h.ml,h.oT,h.tM,h.xd,h.lx,h.old⟩
 .refine q o ?_ r
  rcases s with rfl | rfl | rfl | rfl | rfl | rfl | rfl <;> decide
 .rcases bt i k with v | v
  .exact (h.zM i u v).keep y (λn r=>Ey (by omega))
  .obtain rfl:i=k:=by omega
   obtain⟨h,j,n,o,q,r,s⟩:=Ex (l:=cm) (k:=i*7) (a:=J I x.ek[i].slot) (b:=va) (c:=J I x.ek[i].ret) (d:=J I x.ek[i].locals) (e:=J I x.ek[i].stack) (f:=vc) (g:=vf0) (by omega);exact⟨va,vc,vf0,B.keep y,h,j,n,o,q,r,s⟩
theorem mF.mX(b:mF w wr bh cs0 p vp gl c x vxf vxm gx gm k vt vi vf vm ts is fs ms cs cl cm nb)(a)(d:a<(x.ek.length+1)*7):∃e,wr.cell? ⟨gm,a,U⟩=M e:=
 ⟨cm[a]'(by rw[b.wY];exact d),by rw[b.mb.cell];exact ae _⟩
structure nE (w wr:World)(bh:Nat)(cs0:Oj)(p:On)(vp:Value)(gl c:Nat)(x:eb)(vxf vxm:Value)(gx gm:Nat)(vt vi vf vm:Value)(ts is fs ms:List (Nat×Nat))(cs cl:Oj)(nb:Nat):Prop where
 hs:HS wr w.heap.size bh cs vt vi vf ts is fs
 m:rL wr w.heap.size vm ms
 c3:cs[3]? =M vm
 c4:cs[4]? =M (O U 0 0)
 rest:∀j,5<=j->cs[j]? =cs0[j]?
 mods:ee (λk=>k=bh) w wr
 b0:ed wr w.heap.size 24 [vp]
 b1:ed wr (w.heap.size+1) 24 [O U 0 0]
 bx:ed wr gx 66 [J I x.sup,vxf,vxm]
 lb:ed wr gl 66 cl
 ll:cl.length=(p.length+1)*3
 done:∀(j:Nat) (hj:j<p.length),j<c->sP (OJ t4 wr) cl p[j] j
 ek:eG 7 (mT (OJ t4 wr)) (O (M ⟨gm,0,U⟩) x.ek.length (x.ek.length+1)) x.ek
 tl:ts.length<=nb
 il:is.length<=nb
 fl:fs.length<=nb
 ml:ms.length=c+1
 oT:w.heap.size+2<=gl
 tM:w.heap.size+2<=gx
 lx:gl≠gx
theorem mF.fin{C D}(o:mF w wr bh cs0 p vp gl c x vxf vxm gx gm x.ek.length vt vi vf (O C ms.length D) ts is fs ms cs cl cm nb)(bk:ms.length+1<=16777216)(bf:x.ek.length<=1048576):
  ∃y z A,(Builtin.append_ #[48,48] 48 #[O C ms.length D,O (M ⟨wr.heap.size,0,U⟩) 1 1]).run Tryz.prog
    ((qy wr gm (x.ek.length*7) (J I (-77000000)) (O U 0 0) (J I 0) (J I 0) (J I 0) (O U 0 0) (O U 0 0)).alloc (zC #[O (M ⟨gm,0,U⟩) (x.ek.length+1) (x.ek.length+1)] 64))= .ok (O y (ms.length+1) z) A/\
   ed A bh 53 cs/\wr.heap.size<=A.heap.size/\
   nE w (A.setCell ⟨bh,3,U⟩ (O y (ms.length+1) z)) bh cs0 p vp gl c x vxf vxm gx gm vt vi vf (O y (ms.length+1) z) ts is fs (ms++ [(gm,x.ek.length+1)]) (cs.set 3 (O y (ms.length+1) z)) cl nb:=by
 obtain⟨be,a0,a1,a2,a3⟩:=info_parts Jt;have ba:=o.hs.lt;have:=o.hs.le;have a8:=o.wY;have:=o.xd;have:=o.mods.size;have B:=Ao wr gm (x.ek.length*7) (J I (-77000000)) (O U 0 0) (J I 0) (J I 0) (J I 0) (O U 0 0) (O U 0 0);have T:=An (k:=x.ek.length*7) o.mb (J I (-77000000)) (O U 0 0) (J I 0) (J I 0) (J I 0) (O U 0 0) (O U 0 0);have ar:=MW wr gm (x.ek.length*7) (J I (-77000000)) (O U 0 0) (J I 0) (J I 0) (J I 0) (O U 0 0) (O U 0 0);generalize qy wr gm (x.ek.length*7) (J I (-77000000)) (O U 0 0) (J I 0) (J I 0) (J I 0) (O U 0 0) (O U 0 0)=X at B T ar ⊢;have N:∀ {h q c},ed wr h q c->q≠63->¬(h=gm):=λj r n=>by subst n;exact r (j.uniq o.mb)
 have E:HS X w.heap.size bh cs vt vi vf ts is fs:=o.hs.stay B (λh q c j G r=>by
  refine N j ?_ G
  rcases r with rfl | rfl | rfl | rfl | rfl | rfl | rfl <;> decide)
 have Q:rL X w.heap.size (O C ms.length D) ms:=o.m.wZ B (λh c j=>N j (by decide)) (λn v G=>by have:=o.old n v;omega);obtain⟨bf,A,a4,aa,Z,bf⟩:=iN (P:=Tryz.prog) (W:=X) 48 48 64 be (O U 0 0) 1 24 Tryz.underlying48 a0 a1 a2 a3 rfl (by decide) w.heap.size (O C ms.length D) ms.length (ms.map ls) Q.row #[O (M ⟨gm,0,U⟩) (x.ek.length+1) (x.ek.length+1)] rfl (by simp[Value.oneCell']) wr.heap.size ar (by unfold maxLen;omega) (by omega) (by omega);obtain⟨y,z,rfl⟩:=fd aa;have bc:∀h,(O C ms.length D).ownBlock=M h->∃c,ed X h 64 c:=λh n=>j8 Q.row n;have an:∀ {h q c},ed X h q c->q≠64->¬((O C ms.length D).ownBlock=M h):=λj r n=>by obtain⟨ar,ar⟩:=bc _ n;exact r (j.uniq ar)
 have ac:ed A bh 53 cs:=E.hands.1.mods Z (an E.hands.1 (by decide));have:=Z.size;refine⟨y,z,A,a4,ac,by omega,?_⟩;have u:ee (λh=>h=bh\/(O C ms.length D).ownBlock=M h) X (A.setCell ⟨bh,3,U⟩ (O y (ms.length+1) z)):=(Z.mono (λ_ _ n=>.inr n)).setCell (λ_=>.inl rfl) _;have ad:=ac.setCell 3 (O y (ms.length+1) z);have ao:=eX (S:=λh=>h=bh) aa ((Ow (λh=>h=bh) A).setCell (p:=⟨bh,3,U⟩) (λ_=>rfl) (O y (ms.length+1) z)) (λh n=>by have:=aa.lt h n;omega);generalize A.setCell ⟨bh,3,U⟩ (O y (ms.length+1) z)=Y at u ad ao ⊢
 have s:∀ {h q c},ed X h q c->q≠53->q≠64->¬(h=bh\/(O C ms.length D).ownBlock=M h):=λj H K V=>by
  rcases V with rfl | V
  .exact H (j.uniq E.hands.1)
  .exact an j K V
 have R:∀ {h q c},ed wr h q c->q≠63->q≠53->q≠64->ed Y h q c:=λj h H K=>(j.mods B (N j h)).mods u (s (j.mods B (N j h)) H K);have a5:=o.hs.hands.2;have ab:=T.mods u (s T (by decide) (by decide));have a6:fN (OJ t3 wr) (OJ t4 Y):=(jO B (λh q c j r=>N j (λn=>by subst n;exact absurd r (by decide)))).trans ((jO u (λh q c j r=>s j (λn=>by subst n;exact absurd r (by decide)) (λn=>by subst n;exact absurd r (by decide)))).trans (wu (by simp) Y))
 refine⟨⟨⟨ad,by rw[aO];exact a5⟩,by rw[ah (by omega)];exact o.hs.c0,by rw[ah (by omega)];exact o.hs.c1,by rw[ah (by omega)];exact o.hs.c2,E.t.mods u (λh c j=>s j (by decide) (by decide)) (λh c j=>s j (by decide) (by decide)),E.i.mods u (λh c j=>s j (by decide) (by decide)) (λh c j=>s j (by decide) (by decide)),E.f.mods u (λh c j=>s j (by decide) (by decide)) (λh c j=>s j (by decide) (by decide)),ba,ap E.le u.size⟩,
  ?_,by rw[aA (by omega)],by rw[ah (by omega)];exact o.c4,λF L=>by rw[ah (by omega)];exact o.rest F L,(o.mods.trans B (λh G n=>by omega)).trans u (λh G n=>?_),R o.b0 (by decide) (by decide) (by decide),R o.b1 (by decide) (by decide) (by decide),R o.bx (by decide) (by decide) (by decide),R o.lb (by decide) (by decide) (by decide),o.ll,λF L y=>(o.done F L y).keep ?_ (λ_ _=>rfl),?_,o.tl,o.il,o.fl,by rw[aw,aS,o.ml],o.oT,o.tM,o.lx⟩
 .refine⟨by rw[aw,aM];exact ao,λn v=>?_,?_⟩
  .rcases aN.1 v with v | v
   .obtain⟨H,K,z,c,y,A⟩:=Q.ent n v;exact⟨H,K,z,c,y.mods u (s y (by decide) (by decide)),A⟩
   .rw [aC]at v;subst v;obtain⟨y,z,A,C,D,E,F⟩:=Ex (l:=cm) (k:=x.ek.length*7) (a:=J I (-77000000)) (b:=O U 0 0) (c:=J I 0) (d:=J I 0) (e:=J I 0) (f:=O U 0 0) (g:=O U 0 0) (by omega);refine⟨by show w.heap.size<=gm;omega,by show 1<=x.ek.length+1;omega,by show x.ek.length+1<=1048577;omega,_,ab,by rw[xK];exact a8,?_⟩;rw[show x.ek.length+1-1=x.ek.length by omega];exact Ic (by rw[xK];omega) y z A C D E F
  .rw [aM,List.nodup_append];refine⟨o.m.nodup,by simp,λy L F j=>?_⟩;obtain⟨n,v,rfl⟩:=bF.1 L;have:F=gm:=by simpa using j
   have:=o.old n v;omega
 .rcases n with n | n
  .exact n
  .have:=Q.row.lt h n;omega
 .exact ((uy B (λh q c G _ _ n=>by omega)).trans (uy u (λh q c G j r=>s j (λn=>by subst n;exact absurd r (by decide)) (λn=>by subst n;exact absurd r (by decide))))).trans (Gm gm t4 Y)
 .refine⟨_,gm,0,_,rfl,by omega,⟨λ_=>rfl,.inr (.inl rfl)⟩,λF h L=>?_⟩;obtain⟨ak,rfl⟩:=ag.1 L;obtain⟨A,B,C,n,q,r,s,u,v,y,z⟩:=o.zM F ak ak;have h:∀j,j<7->OJ t4 Y ⟨gm,0+F*7+j,U⟩=cm[F*7+j]? :=λj o=>by rw[rY ab (by simp),bJ,Ey (by omega)]
  exact⟨A,B,C,n.keep a6,(h 0 (by omega)).trans q,(h 1 (by omega)).trans r,(h 2 (by omega)).trans s,(h 3 (by omega)).trans u,(h 4 (by omega)).trans v,(h 5 (by omega)).trans y,(h 6 (by omega)).trans z⟩
end
section
variable {w wr : World} {bh : Nat} {cs0 : List Value} {p : List eb} {vp : Value} {gl c : Nat} {x : eb} {vxf vxm : Value} {gx gm k : Nat} {vt vi vf vm : Value} {ts is fs ms : List (Nat × Nat)} {cs cl cm : List Value} {nb : Nat}
theorem nE.far(f:nE w wr bh cs0 p vp gl c x vxf vxm gx gm vt vi vf vm ts is fs ms cs cl nb){b d e}(g:ed wr b d e)(h:d≠53)(i:d≠40):¬(b=bh\/vt.ownBlock=M b):=λa=>by
 rcases a with rfl | a
 .exact h (g.uniq f.hs.hands.1)
 .obtain⟨e,b⟩:=j8 f.hs.t.row a;exact i (g.uniq b)
theorem nE.drew (a:nE w wr bh cs0 p vp gl c x vxf vxm gx gm vt vi vf vm ts is fs ms cs cl nb):nE w wr.drew bh cs0 p vp gl c x vxf vxm gx gm vt vi vf vm ts is fs ms cs cl nb:=by
 have b:ee (λ_=>False) wr wr.drew:=(Ow _ _).drew;exact⟨a.hs.stay b (λ_ _ _ _ a=>a.elim),a.m.mods b (λ_ _ _ a=>a) (λ_ _ _ a=>a),a.c3,a.c4,a.rest,a.mods.drew,a.b0,a.b1,a.bx,a.lb,a.ll,λf d e=>(a.done f d e).keep (jO b (λ_ _ _ _ _ a=>a)) (λ_ _=>rfl),pC (jO b (λ_ _ _ _ _ a=>a)) a.ek,a.tl,a.il,a.fl,a.ml,a.oT,a.tM,a.lx⟩
theorem nE.ri(a:nE w wr bh cs0 p vp gl c x vxf vxm gx gm vt vi vf vm ts is fs ms cs cl nb){g l i h}(n:g.length<=1048576)(b:um wr l bh cs vt w.heap.size ts g i h):
  nE w l bh cs0 p vp gl c x vxf vxm gx gm h vi vf vm (ts++ [(i,g.length+1)]) is fs ms (cs.set 0 h) cl (nb+1):=by
 have j:∀ {d f g},ed wr d f g->f∈t4->¬(d=bh\/vt.ownBlock=M d):=λb d=>a.far b (λa=>by subst a;exact absurd d (by decide)) (λa=>by subst a;exact absurd d (by decide))
 refine⟨a.hs.ri n b,a.m.mods b.mods (λd c b=>a.far b (by decide) (by decide)) (λd c b=>a.far b (by decide) (by decide)),by rw[ah (by omega)];exact a.c3,by rw[ah (by omega)];exact a.c4,λh g=>by rw[ah (by omega)];exact a.rest h g,a.mods.trans b.mods (λd i e=>?_),a.b0.mods b.mods (a.far a.b0 (by decide) (by decide)),a.b1.mods b.mods (a.far a.b1 (by decide) (by decide)),a.bx.mods b.mods (a.far a.bx (by decide) (by decide)),a.lb.mods b.mods (a.far a.lb (by decide) (by decide)),a.ll,
  λh g i=>(a.done h g i).keep (jO b.mods (λd f c b d=>j b d)) (λ_ _=>rfl),pC (jO b.mods (λd f c b d=>j b d)) a.ek,?_,?_,?_,a.ml,a.oT,a.tM,a.lx⟩
 .rcases e with e | e
  .exact e
  .have:=a.hs.t.row.lt d e;omega
 .rw [aw,aS];have:=a.tl;omega
 .have:=a.il;omega
 .have:=a.fl;omega
theorem nE.cellL(b:nE w wr bh cs0 p vp gl c x vxf vxm gx gm vt vi vf vm ts is fs ms cs cl nb)(a)(d:a<(p.length+1)*3):∃e,wr.cell? ⟨gl,a,U⟩=M e:=
 ⟨cl[a]'(by rw[b.ll];exact d),by rw[b.lb.cell];exact ae _⟩
theorem nE.put(a:nE w wr bh cs0 p vp gl c x vxf vxm gx gm vt vi vf vm ts is fs ms cs cl nb)(t:c<p.length)(hx:p[c]=x){vf0}(q:eG 1 (gy (OJ tT wr)) vf0 x.fields):
  pV w (qx wr gl (c*3) (J I x.sup) vf0 (O (M ⟨gm,0,U⟩) x.ek.length (x.ek.length+1))) bh cs0 p vp gl (c+1) vt vi vf vm ts is fs ms cs (kP cl (c*3) (J I x.sup) vf0 (O (M ⟨gm,0,U⟩) x.ek.length (x.ek.length+1))) nb:=by
 have e:=vB wr gl (c*3) (J I x.sup) vf0 (O (M ⟨gm,0,U⟩) x.ek.length (x.ek.length+1));have o:=vA (k:=c*3) a.lb (J I x.sup) vf0 (O (M ⟨gm,0,U⟩) x.ek.length (x.ek.length+1));have s:=a.ll;have:=a.oT;have f:∀ {d h c},ed wr d h c->h≠66->¬(d=gl):=λb g d=>by subst d;exact g (b.uniq a.lb)
 have i:fN (OJ t4 wr) (OJ t4 (qx wr gl (c*3) (J I x.sup) vf0 (O (M ⟨gm,0,U⟩) x.ek.length (x.ek.length+1)))):=
  jO e (λd h c b g=>f b (λd=>by subst d;exact absurd g (by decide)))
 refine⟨a.hs.stay e (λd h c b j g=>?_),a.m.mods e (λd c b=>f b (by decide)) (λd c b=>f b (by decide)),a.c3,a.c4,a.rest,a.mods.trans e (λd j d=>by omega),a.b0.mods e (f a.b0 (by decide)),a.b1.mods e (f a.b1 (by decide)),o,by rw[pJ];exact s,λl r e=>?_,a.tl,a.il,a.fl,a.ml,a.oT⟩
 .refine f b ?_ j
  rcases g with rfl | rfl | rfl | rfl | rfl | rfl | rfl <;> decide
 .rcases bt l c with n | n
  .exact (a.done l r n).keep i (λd j=>ua (by omega))
  .obtain rfl:l=c:=by omega
   rw[hx];exact⟨vf0,_,vu (by omega),vw (by omega),vz (by omega),fu ((wu (by simp) wr).trans i) q,pC i a.ek⟩
theorem pV.cellL(b:pV w wr bh cs0 p vp gl c vt vi vf vm ts is fs ms cs cl nb)(a)(d:a<(p.length+1)*3):∃e,wr.cell? ⟨gl,a,U⟩=M e:=
 ⟨cl[a]'(by rw[b.ll];exact d),by rw[b.lb.cell];exact ae _⟩
theorem pV.begin(a:pV w wr bh cs0 p vp gl c vt vi vf vm ts is fs ms cs cl nb){d vxf vxm}(hx:ed d gx 66 [J I x.sup,vxf,vxm])(n:wr.heap.size<=gx)(i:ed d gm 63 cm)(l:wr.heap.size<=gm)(j:cm.length=(x.ek.length+1)*7)(b:ee (λ_=>False) wr d):mF w d bh cs0 p vp gl c x vxf vxm gx gm 0 vt vi vf vm ts is fs ms cs cl cm nb:=by
 have:=a.b1.lt;have:=a.lb.lt;refine⟨a.hs.stay b (λ_ _ _ _ a=>a.elim),a.m.mods b (λ_ _ _ a=>a) (λ_ _ _ a=>a),a.c3,a.c4,a.rest,a.mods.trans b (λ_ _ a=>a.elim),a.b0.mods b (λa=>a),a.b1.mods b (λa=>a),hx,a.lb.mods b (λa=>a),a.ll,λf e d=>(a.done f e d).keep ((Gn t4 wr l).trans (uy b (λ_ _ _ _ _ _ a=>a))) (λ_ _=>rfl),i,j,λf _ e=>absurd e (cW f),a.tl,a.il,a.fl,a.ml,a.oT,by omega,by omega,by omega,λg h=>?_⟩;obtain⟨_,_,_,c,b,_⟩:=a.m.ent g h;have:=b.lt;omega
structure A5 (w w':World)(bh:Nat)(cs0:Oj)(p:On)(gl:Nat)(vt vi vf vm vc:Value)(ts is fs ms ks:List (Nat×Nat))(cs:Oj):Prop where
 hs:HS w' w.heap.size bh cs vt vi vf ts is fs
 m:rL w' w.heap.size vm ms
 c:yo w' w.heap.size vc ks
 c3:cs[3]? =M vm
 c4:cs[4]? =M vc
 rest:∀j,5<=j->cs[j]? =cs0[j]?
 mods:ee (λk=>k=bh) w w'
 prog:eG 3 (lw (OJ t5 w')) (O (M ⟨gl,0,U⟩) p.length (p.length+1)) p
theorem pV.fin (e:pV w wr bh cs0 p vp gl p.length vt vi vf vm ts is fs ms cs cl nb)(a3:p.length<=1048576) :
  ∃l n j,(Builtin.append_ #[49,49] 49 #[O U 0 0,O (M ⟨wr.heap.size,0,U⟩) 1 1]).run Tryz.prog
    ((qx wr gl (p.length*3) (J I (-77000000)) (O U 0 0) (O U 0 0)).alloc (zC #[O (M ⟨gl,0,U⟩) (p.length+1) (p.length+1)] 22))= .ok (O l 1 n) j/\
   ed j bh 53 cs/\ed j (w.heap.size+1) 24 [O U 0 0]/\wr.heap.size<=j.heap.size/\
   (∀y,ee (λb=>b=w.heap.size+1) (j.setCell ⟨bh,4,U⟩ (O l 1 n)) y->A5 w y bh cs0 p gl vt vi vf vm (O l 1 n) ts is fs ms [(gl,p.length+1)] (cs.set 4 (O l 1 n))):=by
 obtain⟨a2,ac,ad,ak,an⟩:=info_parts Jh;have a1:=e.hs.lt;have:=e.hs.le;have a0:=e.ll;have:=e.oT;have:=e.mods.size;have r:=vB wr gl (p.length*3) (J I (-77000000)) (O U 0 0) (O U 0 0);have C:=vA (k:=p.length*3) e.lb (J I (-77000000)) (O U 0 0) (O U 0 0);have ab:=MV wr gl (p.length*3) (J I (-77000000)) (O U 0 0) (O U 0 0);generalize qx wr gl (p.length*3) (J I (-77000000)) (O U 0 0) (O U 0 0)=X at r C ab ⊢;have s:∀ {b d c},ed wr b d c->d≠66->¬(b=gl):=λa h g=>by subst g;exact h (a.uniq e.lb)
 have z:HS X w.heap.size bh cs vt vi vf ts is fs:=e.hs.stay r (λb d c a A h=>by
  refine s a ?_ A
  rcases h with rfl | rfl | rfl | rfl | rfl | rfl | rfl <;> decide)
 obtain⟨a3,j,ao,F,aa,a3⟩:=iN (P:=Tryz.prog) (W:=X) 49 49 22 a2 (O U 0 0) 1 24 Tryz.underlying49 ac ad ak an rfl (by decide) w.heap.size (O U 0 0) 0 [] (World.ownsRow_nil _ _ _ _) #[O (M ⟨gl,0,U⟩) (p.length+1) (p.length+1)] rfl (by simp[Value.oneCell']) wr.heap.size ab (by unfold maxLen;omega) (by omega) (by omega);have E:ee (λ_=>False) X j:=aa.mono (λb _ g=>by cases g);obtain⟨l,n,rfl⟩:=fd F;have Q:ed j bh 53 cs:=z.hands.1.mods E (λa=>a);have:=aa.size;have K:ed j (w.heap.size+1) 24 [O U 0 0]:=(e.b1.mods r (s e.b1 (by decide))).mods E (λa=>a);refine⟨l,n,j,ao,Q,K,by omega,λy u=>?_⟩;have q:ee (λb=>b=bh) X (j.setCell ⟨bh,4,U⟩ (O l 1 n)):=(E.mono (T:=λb=>b=bh) (λ_ _ a=>a.elim)).setCell (p:=⟨bh,4,U⟩) (λ_=>rfl) _;have R:=Q.setCell 4 (O l 1 n);have G:=eX (S:=λb=>b=bh) F ((Ow (λb=>b=bh) j).setCell (p:=⟨bh,4,U⟩) (λ_=>rfl) (O l 1 n)) (λH g=>by have:=F.lt H g;omega);have L:=K.gP (p:=⟨bh,4,U⟩) (by show w.heap.size+1≠bh;omega) (O l 1 n);generalize j.setCell ⟨bh,4,U⟩ (O l 1 n)=Y at q R G L u;have o:∀ {b d c},ed X b d c->d≠53->¬(b=bh):=λa b d=>by subst d;exact b (a.uniq z.hands.1)
 have v:∀ {b d c},ed Y b d c->d≠24->¬(b=w.heap.size+1):=λa b d=>by subst d;exact b (a.uniq L)
 have ar:=e.hs.hands.2;have:∀ {b d c},ed wr b d c->d≠66->d≠53->d≠24->ed y b d c:=λa d b e=>((a.mods r (s a d)).mods q (o (a.mods r (s a d)) b)).mods u (v ((a.mods r (s a d)).mods q (o (a.mods r (s a d)) b)) e);have j:=C.mods q (o C (by decide));have N:=j.mods u (v j (by decide));have Z:fN (OJ t4 wr) (OJ t5 y):=(jO r (λb d c a h=>s a (λg=>by subst g;exact absurd h (by decide)))).trans ((jO q (λb d c a h=>o a (λg=>by subst g;exact absurd h (by decide)))).trans ((jO u (λb d c a h=>v a (λg=>by subst g;exact absurd h (by decide)))).trans (wu (λd h=>AD h) y)));have j:HS Y w.heap.size bh (cs.set 4 (O l 1 n)) vt vi vf ts is fs:=⟨⟨R,by rw[aO];exact ar⟩,by rw[ah (by omega)];exact e.hs.c0,by rw[ah (by omega)];exact e.hs.c1,by rw[ah (by omega)];exact e.hs.c2,z.t.mods q (λb c a=>o a (by decide)) (λb c a=>o a (by decide)),z.i.mods q (λb c a=>o a (by decide)) (λb c a=>o a (by decide)),z.f.mods q (λb c a=>o a (by decide)) (λb c a=>o a (by decide)),a1,ap z.le q.size⟩;refine⟨j.stay u (λb d c a A h=>?_),((e.m.mods r (λb c a=>s a (by decide)) (λb c a=>s a (by decide))).mods q (λb c a=>o a (by decide)) (λb c a=>o a (by decide))).mods u (λb c a=>v a (by decide)) (λb c a=>v a (by decide)),?_,by rw[ah (by omega)];exact e.c3,by rw[aA (by omega)],λB D=>by rw[ah (by omega)];exact e.rest B D,((e.mods.trans r (λb A g=>by omega)).trans q (λb A g=>g)).trans u (λb A g=>by omega),?_⟩
 .refine v a ?_ A
  rcases h with rfl | rfl | rfl | rfl | rfl | rfl | rfl <;> decide
 .refine⟨eX G u (λH g=>?_),λg V=>?_,by simp⟩
  .obtain⟨b,a⟩:=j8 G g;exact v a (by decide)
  .rw [aC]at V;subst V;refine⟨by show w.heap.size<=gl;omega,by show 1<=p.length+1;omega,by show p.length+1<=1048577;omega,_,N,by rw[pJ];exact a0,?_⟩;rw[show p.length+1-1=p.length by omega];exact zd (by rw[pJ];omega) (vu (by omega)) (vw (by omega)) (vz (by omega))
 .refine⟨_,gl,0,_,rfl,by omega,⟨λ_=>rfl,.inr (.inl rfl)⟩,λB a D=>?_⟩;obtain⟨V,rfl⟩:=ag.1 D;obtain⟨n,o,d,g,h,j,l⟩:=e.done B V V;have b:∀a,a<3->OJ t5 y ⟨gl,0+B*3+a,U⟩=cl[B*3+a]? :=λa e=>by rw[rY N (by simp),bJ,ua (by omega)]
  exact⟨n,o,(b 0 (by omega)).trans d,(b 1 (by omega)).trans g,(b 2 (by omega)).trans h,fu Z j,pC Z l⟩
end
section
attribute [local go_sem ↓] Go.wp_at_zero Go.wp_at_succ
theorem Bw{d c f g k h T}(l:ee h f g)(m:ee T f k)(n:c<=f.heap.size)(i:∀b,b≠d/\b<c->¬(h b\/T b)):fN (jb d c g) (jb d c k):=λj b a=>by
 have e:=uz a;unfold jb at a ⊢;rw[am e]at a ⊢;have b:=l.block j.block (by omega) (λa=>i _ e (.inl a));have c:=m.block j.block (by omega) (λa=>i _ e (.inr a));rw[World.cell?_of_block (w:=g) (c.trans b.symm)];exact a
theorem E8{α :Type}(c: α->Nat){b:List α}{a}(d:a<b.length):((b.take (a+1)).map c).sum=((b.take a).map c).sum+c b[a]:=by
 rw[bd,ae d,aM,dT];simp
theorem JZ(p b8 a c i)(et:eG 3 (lw (jb c a.heap.size a)) b8 p)(eo:mD a c i)(bf:c<a.heap.size)(fo:i[0]? =M (O U 0 0))(fs:i[1]? =M (O U 0 0))(ft:i[2]? =M (O U 0 0))(f0:i[3]? =M (O U 0 0))(f1:i[4]? =M (O U 0 0))(ab:eM p<=1048576):
  Calls Tryz.prog 42 #[zP (M ⟨c,0,U⟩),.agg #[b8]] a λj P=>∃ba,j=zR (.agg #[O (M ⟨ba,0,U⟩) p.length (p.length+1)])/\
   ∃y w u E f9 q l k o bM s,A5 a P c i p ba y w u E f9 q l k o bM s/\(q.length<=1048576/\l.length<=1048576/\k.length<=1048576/\o.length<=1048576/\bM.length<=1048576):=by
 obtain⟨e6,d9,ec,eg,ei⟩:=info_parts Js;obtain⟨e5,d3,d4,d5,d6⟩:=info_parts Jg;have eP:p.length<=1048576:=ap (fQ p) ab;obtain⟨D,S,b7,z,rfl,g4,eK,eR⟩:=eN et;have cu:=Ou eR;have a0:=Ou eo;go_in
 go_wp2_with (first
  | (at_make; refine sN rfl (.tmp 15) (.tmp 15) 22 rfl 66 e5 (.agg #[J I 0,O U 0 0,O U 0 0]) 3 56 Tryz.underlying22 d3 d4 d5 d6 _ _ _ (p.length + 1) rfl rfl (by omega) (by omega) (by omega) ?_; intro ar bc C eS
     have d:ed ar (a.heap.size+2) 66 (madeCells (Value.agg #[J I 0,O U 0 0,O U 0 0]).cells ((p.length+1)*3)).toList:=(by simpa using bc);have cf:=Ou d;have cp:=Ou C
     clear bc C eS d))
 have cm:Hid (pV a ar c i p (O D p.length z) (a.heap.size+2) 0 (O U 0 0) (O U 0 0) (O U 0 0) (O U 0 0) [] [] [] [] i (madeCells (Value.agg #[J I 0,O U 0 0,O U 0 0]).cells ((p.length+1)*3)).toList 0):=by
  have C:=ea cp;have d:ee (λ_=>False) a ar:=(((Ow _ a).alloc _).alloc _).trans C (λ_ _ a=>a);have e:ed ((a.alloc (zC #[O D p.length z] 24)).alloc (zC #[O U 0 0] 24)) a.heap.size 24 [O D p.length z]:=(Oz _ _ _).alloc _;have f:ed ((a.alloc (zC #[O D p.length z] 24)).alloc (zC #[O U 0 0] 24)) (a.heap.size+1) 24 [O U 0 0]:=by simpa using Oz (a.alloc (zC #[O D p.length z] 24)) #[O U 0 0] 24
  refine⟨⟨⟨a0.1.mods d (λa=>a),a0.2⟩,fo,fs,ft,iV.nil _ _ _ _ _ _,iV.nil _ _ _ _ _ _,iV.nil _ _ _ _ _ _,bf,d.size⟩,iV.nil _ _ _ _ _ _,f0,f1,λ_ _=>rfl,d.mono (λ_ _ a=>a.elim),e.mods C (λa=>a),f.mods C (λa=>a),ea cf,by rw[tJ],λc _ a=>absurd a (cW c),ai _,ai _,ai _,rfl,ai _⟩
 go_loopw [7] (λe wr=>∃g:Nat,g<=p.length/\e=J I g/\∃y w u E q l k o s Q B,pV a wr c i p (O D p.length z) (a.heap.size+2) g y w u E q l k o s Q B/\B<=((p.take g).map gV).sum) (λe _=>p.length-(intOf e).toNat)
 case atStart=>exact ⟨0,az _,rfl,_,_,_,_,_,_,_,_,_,_,_,ea cm,az _⟩
 case round=>
  obtain⟨g,g1,rfl,y,w,u,E,q,l,k,o,s,Q,B,bs,g2⟩:=hrel;have:=bs.b0.c0;have f:=Ou bs
  by_cases N:g<p.length
  .obtain rfl:=eK (eW N);have bn:=px (b:=c) (n:=a.heap.size) f.mods (λd R j=>by omega);obtain⟨hj,hk,a8,d1,d2,bh,bo⟩:=(cu g N).keep bn;have:S≠c/\S<a.heap.size:=uz a8;have a5:=jZ c a.heap.size wr _ _ a8;have ds:=jZ c a.heap.size wr _ _ d1;have d0:=jZ c a.heap.size wr _ _ d2;have bI:gV p[g]<=1048576:=ap (kE (av N)) ab;have:=E8 gV N;have:=vF gV (g+1) p;have:((p.map gV).sum)<=1048576:=ab;generalize e4:p[g]=x at *;have cA:=Ou e4;have es:x.ek.length<=1048576:=ap (mO x) bI;have bk:x.fields.length<=1048576:=ap (rD x) bI;have ci:=Ou bh;have:=Ou bo;obtain⟨W,gp,gq,X,rfl,_⟩:=eN bh;obtain⟨ac,g6,g7,ad,rfl,_,ep,er⟩:=eN bo;have cs:=Ou er;have e3:=f.mods.size;have:=Oo a5;obtain⟨h,rfl⟩:∃h:World,h=wr:=⟨_,rfl⟩
   go_wp2_with (first
    | (at_make; refine sN rfl (.tmp 30) (.tmp 30) 64 rfl 63 e6 (.agg #[J I 0,O U 0 0,J I 0,J I 0,J I 0,O U 0 0,O U 0 0]) 7 104 Tryz.underlying64 d9 ec eg ei _ _ _ (x.ek.length + 1) rfl rfl (by omega) (by omega) (by omega) ?_; intro b9 be br e0
       have e:ed b9 (h.heap.size+1) 63 (madeCells (Value.agg #[J I 0,O U 0 0,J I 0,J I 0,J I 0,O U 0 0,O U 0 0]).cells ((x.ek.length+1)*7)).toList:=(by simpa using be);have cg:=Ou e;have a1:=Ou br
       clear be br e0 e))
   have cn:Hid (mF a b9 c i p (O (M ⟨S,b7,U⟩) p.length z) (a.heap.size+2) g x (O W x.fields.length X) (O ac x.ek.length ad) h.heap.size (h.heap.size+1) 0 y w u E q l k o s Q (madeCells (Value.agg #[J I 0,O U 0 0,J I 0,J I 0,J I 0,O U 0 0,O U 0 0]).cells ((x.ek.length+1)*7)).toList B):=
    f.begin ((Oz _ _ _).mods a1 (λa=>a)) (ai _) cg (by omega) (by rw[tJ]) (((Ow (λ_=>False) h).alloc _).trans a1 (λ_ _ a=>a))
   go_loopw [10] (λe f=>∃d:Nat,d<=x.ek.length/\e=J I d/\∃y w u q l k s a6 B,mF a f c i p (O (M ⟨S,b7,U⟩) p.length z) (a.heap.size+2) g x (O W x.fields.length X) (O ac x.ek.length ad) h.heap.size (h.heap.size+1) d y w u E q l k o s Q a6 B/\B<=((p.take g).map gV).sum+((x.ek.take d).map fI).sum) (λe _=>x.ek.length-(intOf e).toNat)
   case atStart=>exact ⟨0,az _,rfl,_,_,_,_,_,_,_,_,_,ea cn,by omega⟩
   case round=>
    obtain⟨d,R,rfl,y,w,u,q,l,k,s,a6,g8,bz,g3⟩:=hrel;have:=bz.bx.c2;have:((x.ek.map fI).sum)+4<=gV x:=(by unfold gV;omega);have e:=Ou bz
    by_cases L:d<x.ek.length
    .obtain rfl:=ep (eW L);have bn:=(px (b:=c) (n:=a.heap.size) f.mods (λd R j=>by omega));have ej:fN (jb c a.heap.size h) (jb c a.heap.size wr):=Bw f.mods e.mods (ai _) (λd R j=>by omega);obtain⟨ha,hc,hg,K,e1,e2,e7,e9,fa,fc,fn⟩:=(cs d L).keep ej
     have en:fI x.ek[d]<=1048576:=by
      have:=qz (av L);omega
     have:=E8 fI L;have:=vF fI (d+1) x.ek;have:=jZ c a.heap.size wr _ _ e1;have:=jZ c a.heap.size wr _ _ e2;have:=jZ c a.heap.size wr _ _ e7;have:=jZ c a.heap.size wr _ _ e9;have:=jZ c a.heap.size wr _ _ fa;have:=jZ c a.heap.size wr _ _ fc;have:=jZ c a.heap.size wr _ _ fn;generalize F:x.ek[d]=m at *;have aa:=Ou F;have a2:=Ou K;obtain⟨ck,cz,dp⟩:=K;obtain⟨gl,_,_,gm,rfl,_⟩:=eN ck;obtain⟨A,_,_,G,rfl,_⟩:=eN cz;obtain⟨gs,_,_,gx,rfl,_⟩:=eN dp;have ga:=e.tl;have:=e.il;have:=e.fl;go_wp2_with fail;refine(JX m _ _ _ wr a.heap.size c s y w u q l k a2 e.hs en (by omega) (by omega) (by omega)).mono ?_;rintro j hl ⟨a4,b5,b6,rfl,hi,hh,hf,g9,g5,g0,gn,H⟩;have r:=Ou (e.call H);have a3:=Ou H.vals;obtain⟨ak,ca⟩:=r.mX (d*7) (by omega);obtain⟨an,cb⟩:=r.mX (d*7+1) (by omega);obtain⟨ao,cc⟩:=r.mX (d*7+2) (by omega);obtain⟨f2,gb⟩:=r.mX (d*7+3) (by omega);obtain⟨f3,gc⟩:=r.mX (d*7+4) (by omega);obtain⟨f4,gf⟩:=r.mX (d*7+5) (by omega);obtain⟨f6,gk⟩:=r.mX (d*7+6) (by omega);have ce:=r.mb.frozen
     go_wp2
     have F:=ea aa;have V:=r.put L (va:=O (M ⟨a4,0,U⟩) m.args.length (m.args.length+1)) (vc:=O (M ⟨b5,0,U⟩) m.code.length (m.code.length+1)) (vf0:=O (M ⟨b6,0,U⟩) m.frames.length (m.frames.length+1)) (by rw[F];exact a3);rw[F]at V;exact⟨⟨d+1,by omega,by go_num,_,_,_,_,_,_,_,_,_,V,by omega⟩,by simp[intOf];omega⟩
    .obtain rfl:d=x.ek.length:=by omega
     obtain⟨b5,b6,e2⟩:=fd e.m.row;subst e2;obtain⟨e7,e9,F,H,K,e1,ej⟩:=e.fin (by have:=e.ml;omega) es;unfold qy at H;obtain⟨ak,ca⟩:=e.mX (x.ek.length*7) (by omega);obtain⟨an,cb⟩:=e.mX (x.ek.length*7+1) (by omega);obtain⟨ao,cc⟩:=e.mX (x.ek.length*7+2) (by omega);obtain⟨f2,gb⟩:=e.mX (x.ek.length*7+3) (by omega);obtain⟨f3,gc⟩:=e.mX (x.ek.length*7+4) (by omega);obtain⟨f4,gf⟩:=e.mX (x.ek.length*7+5) (by omega);obtain⟨f6,gk⟩:=e.mX (x.ek.length*7+6) (by omega);have ce:=e.mb.frozen;have:=f.mods.size;have en:c≠h.heap.size+1:=(by omega);have:wr.cell? ⟨c,3,U⟩=M (O b5 o.length b6):=(by rw[e.out.hs.hands.1.cell];exact e.c3);have:F.cell? ⟨c,3,U⟩=M (O b5 o.length b6):=(by rw[K.cell];exact e.c3);have:=K.frozen 3;have A:=Ou ej;go_wp2_with (at_builtin;refine OA rfl (.tmp 59) (.tmp 61) 48 rfl _ _ rfl rfl H ?_)
     generalize F.setCell ⟨c,3,U⟩ (O e7 (o.length+1) e9)=Y at A ⊢;have a5:=A.out.bx.c0;have ds:=A.out.bx.c1;have d0:=A.out.bx.c2;have G:=Ou A.drew;have ck:=Ou (fu ((Bw f.mods A.mods (ai _) (λd R j=>by omega)).trans (jZ c a.heap.size Y)) ci);have ga:=A.tl;have:=vF fI x.ek.length x.ek;have aa:h.heap.size≠a.heap.size+2:=λj=>e.lx j.symm;have:(g:Int)<(p.length:Int)+1:=(by omega);have:=fp g;have:(x.ek.length:Int)<=(x.ek.length:Int)+1:=(by omega);have:=fp x.ek.length
     go_region_held3 (λP=>P.cell? ⟨h.heap.size,0,U⟩=M (J I x.sup)/\P.cell? ⟨h.heap.size,1,U⟩=M (O W x.fields.length X)/\P.cell? ⟨h.heap.size,2,U⟩=M (O ac x.ek.length ad))
      (first | go_keep | (exact⟨a2,a3,a4⟩) | (exact⟨(rZ aa _ _ _ _ _ _ _ _).trans a2,(rZ aa _ _ _ _ _ _ _ _).trans a3,(rZ aa _ _ _ _ _ _ _ _).trans a4⟩))
      (first
        | ((go_at_call 83; refine(wT x.fields _ Y.drew c _ _ a.heap.size _ ck G.hs.hands G.hs.c0 G.hs.t.row G.hs.le bf bk (by omega)).mono ?_); rintro j fn ⟨fa, rfl, fc, V⟩
           have r:=Ou (G.ri bk V);have a2:=r.out.bx.c0;have a3:=r.out.bx.c1;have a4:=r.out.bx.c2;have dp:=Ou (q9 (T:=tT) (cap:=x.fields.length+1) V.blk (by simp) (by omega));obtain⟨ak,cz⟩:=r.cellL (g*3) (by omega);obtain⟨an,gl⟩:=r.cellL (g*3+1) (by omega);obtain⟨ao,gm⟩:=r.cellL (g*3+2) (by omega);have:=r.lb.frozen
           clear V))
     have cz:=Ou (r.put N cA dp)
     go_wp2
     exact⟨⟨g+1,by omega,by go_num,_,_,_,_,_,_,_,_,_,_,_,ea cz,by omega⟩,by simp[intOf];omega⟩
  .obtain rfl:g=p.length:=by omega
   have L:Hid (q.length<=1048576/\l.length<=1048576/\k.length<=1048576/\o.length<=1048576/\[(a.heap.size+2,p.length+1)].length<=1048576):=by
    have:=vF gV p.length p;have:(p.map gV).sum=eM p:=rfl;have:=f.tl;have:=f.il;have:=f.fl;have:=f.ml;exact⟨by omega,by omega,by omega,by omega,by simp⟩
   obtain⟨A,G,F,H,K,d,e1,W⟩:=f.fin eP;unfold qx at H;obtain⟨ak,ca⟩:=f.cellL (p.length*3) (by omega);obtain⟨an,cb⟩:=f.cellL (p.length*3+1) (by omega);obtain⟨ao,cc⟩:=f.cellL (p.length*3+2) (by omega);have ce:=f.lb.frozen;have e3:=f.mods.size;have en:c≠a.heap.size+2:=(by omega);have X:c≠a.heap.size+1:=(by omega);have:wr.cell? ⟨c,4,U⟩=M (O U 0 0):=(by rw[f.out.hs.hands.1.cell];exact f.c4);have:F.cell? ⟨c,4,U⟩=M (O U 0 0):=(by rw[K.cell];exact f.c4);have:=K.frozen 4;have:=d.c0;have:=d.frozen 0;have R:=Ou W;have h:=Ou d;go_wp2_with (at_builtin;refine OA rfl (.tmp 88) (.tmp 90) 49 rfl _ _ rfl rfl H ?_)
   generalize e:(F.setCell ⟨c,4,U⟩ (O A 1 G)).setCell ⟨a.heap.size+1,0,U⟩ (O (M ⟨a.heap.size+1+1,0,U⟩) p.length (p.length+1))=Z;have aa:ee (λc=>c=a.heap.size+1) (F.setCell ⟨c,4,U⟩ (O A 1 G)) Z:=(by rw[<-e];exact(Ow (λc=>c=a.heap.size+1) _).setCell (p:=⟨a.heap.size+1,0,U⟩) (λ_=>rfl) _);have ac:Z.cell? ⟨a.heap.size+1,0,U⟩=M (O (M ⟨a.heap.size+2,0,U⟩) p.length (p.length+1)):=(by rw[<-e];exact((h.gP (p:=⟨c,4,U⟩) (λj=>X j.symm) (O A 1 G)).setCell 0 (O (M ⟨a.heap.size+2,0,U⟩) p.length (p.length+1))).cell 0);exact bodyPost_ret (v:=.agg #[O (M ⟨a.heap.size+2,0,U⟩) p.length (p.length+1)]) (by simp[results,Tryz.results42,go_sem,ac]) rfl ⟨a.heap.size+2,rfl,_,_,_,_,_,_,_,_,_,_,_,ea R Z aa,ea L⟩
end
def gw (es:List (Nat×Nat))(i:Nat)(k:Nat):Prop:=∃e∈es.take i,e.1=k
theorem gw.mem{b e c}(d:gw b e c):∃a∈b,a.1=c:=by
 obtain⟨a,b,c⟩:=d;exact⟨a,cV b,c⟩
theorem gw.succ{a b c}(d:gw a b c):gw a (b+1) c:=by
 obtain⟨a,b,c⟩:=d;exact⟨a,by rw[bd];exact List.mem_append_left _ b,c⟩
theorem gw.last{b a}(c:a<b.length):gw b (a+1) b[a].1:=
 ⟨b[a],by rw[dS];exact⟨a,by rw[aR];omega,by rw[dE]⟩,rfl⟩
theorem gw.tN{a b}(h:(a.map Prod.fst).Nodup)(c:b<a.length):¬gw a b a[b].1:=by
 rintro ⟨k,f,d⟩;obtain⟨e,g,rfl⟩:=bT f;rw[aR]at g;rw[dE]at d;have:=List.getElem_inj (h₀ :=by simp;omega) (h₁ :=by simpa using c) h (i:=e) (j:=b);have f:(a.map Prod.fst)[e]'(by simp;omega)=(a.map Prod.fst)[b]'(by simpa using c):=by simpa using d
 have a:=this.1 f;omega
theorem iV.at{f g h l s r j a}(i:iV f g h l s r j a){c}(o:c<a.length):
  ∃b e,j=O (M ⟨b,0,U⟩) a.length e/\g<=b/\(∃k,ed f b h k)/\f.cell? ⟨b,c,U⟩=M (ls a[c]):=by
 rcases i.row.2 with ⟨_,f⟩ | ⟨b,e,f,q,m,n,f,_,f,p⟩
 .omega
 .subst q;refine⟨b,e,rfl,m,j8 i.row rfl,?_⟩;have d:(a.map ls)[c]? =M (ls a[c]):=by rw[aU,ae o];rfl
  rw[<-p,bj]at d;unfold World.cell?;simp only[n]
  split at d
  .simpa using d
  .cases d
theorem iV.tw{p h q i g n v d}(r:iV p h q i g n v d){f}(u:f<d.length):
  ∃b a c,d[f]=(b,a+1)/\h<=b/\a<=1048576/\ed p b i c/\c.length=(a+1)*g/\c.drop (a*g)=n:=by
 obtain⟨j,s,t,c,k,l,m⟩:=r.ent _ (av u);generalize d[f]=e at *;obtain⟨b,o⟩:=e;simp only at j s t k l m;obtain⟨a,rfl⟩:∃a,o=a+1:=⟨o-1,by omega⟩;exact⟨b,a,c,rfl,j,by omega,k,l,by simpa using m⟩
theorem jx{c b f a}(d:ed c b f a){i}(e:i<a.length):∃g,c.cell? ⟨b,i,U⟩=M g:=⟨a[i],by rw[d.cell];exact ae e⟩
theorem kV{α :Type}{b c:List α}{a j}(d:b.drop a=c):b[a+j]? =c[j]? :=by rw[<-d,cS]
theorem JQ(s C G w a1 ca cb b9 o q t)(a2:mD s w a1)(eo:w<C)(cs:a1[2]? =M ca)(cu:a1[3]? =M cb)(cz:a1[4]? =M b9)(bh:AU s C ca o)(bk:rL s C cb q)(bf:yo s C b9 t)(ep:o.length<=16777216)(es:q.length<=16777216)(er:t.length<=16777216)(ba:∀b∈o,b.1<G)(be:∀b∈q,b.1<G)(bc:∀b∈t,b.1<G):
  Calls Tryz.prog 84 #[zP (M ⟨w,0,U⟩)] s λb en=>b=zR (zB K)/\ee (λa=>C<=a/\a<G) s en:=by
 obtain⟨ds,d0,d2⟩:=fd bh.row;obtain⟨ei,ej,d3⟩:=fd bk.row;obtain⟨cA,dp,d1⟩:=fd bf.row;subst d2 d3 d1;have a1:=Ou a2.1;have D:=Ou bh;have cm:=Ou bk;have ci:=Ou bf;have d4:s.cell? ⟨w,2,U⟩=M (O ds o.length d0):=by rw[a2.1.cell];exact cs
 have d5:s.cell? ⟨w,3,U⟩=M (O ei q.length ej):=by rw[a2.1.cell];exact cu
 have d9:s.cell? ⟨w,4,U⟩=M (O cA t.length dp):=by rw[a2.1.cell];exact cz
 go_in
 go_wp2
 go_loopw [3,4] (λb a wr=>∃c:Nat,c<=o.length/\a=J I c/\b=zB K/\ee (gw o c) s wr) (λ_ a _=>o.length-(intOf a).toNat)
 case atStart=>exact ⟨0,az _,rfl,rfl,Ow _ _⟩
 case round=>
  obtain⟨c,br,rfl,rfl,f⟩:=hrel
  have z:∀c,¬gw o c w:=λc a=>by
   obtain⟨b,d,m⟩:=a.mem;have:=(D.ent b d).1;have:=ba b d;omega
  have b6:=f.cell d4 (z c)
  by_cases p:c<o.length
  .obtain⟨S,a4,ak,bo,⟨a8,aa⟩,ad⟩:=D.at p;obtain⟨g,e,a6,u,l,bz,V,X,n⟩:=D.tw p
   injection ak with an _ ao
   subst an ao
   have ab:¬gw o c S:=λa=>by
    obtain⟨b,d,m⟩:=a.mem;obtain⟨_,_,_,h,k,_⟩:=D.ent b d;rw[m]at k;exact absurd (k.uniq aa) (by decide)
   have W:¬gw o c g:=by
    have:=gw.tN D.nodup p
    rwa[u]at this
   have v:=f.cell ad ab;rw[u]at v;unfold ls at v;simp only at v;have d:=V.mods f W;have bI:wr.cell? ⟨g,e*3,U⟩=M (J I (-77000000)):=(by rw[d.cell];exact(kV (j:=0) n));have bM:wr.cell? ⟨g,e*3+1,U⟩=M (O U 0 0):=(by rw[d.cell];exact(kV (j:=1) n));have b5:wr.cell? ⟨g,e*3+2,U⟩=M (O U 0 0):=(by rw[d.cell];exact(kV (j:=2) n));have R:=Ou u;have L:=Ou d;have P:=Ou X;have y:=Ou f;have bn:=d.lt;obtain⟨r,rfl⟩:∃r:World,r=wr:=⟨_,rfl⟩;go_wp2_with fail;generalize T:r.alloc _=Y;have B:ee (λ_=>False) r Y:=(by rw[<-T];exact(Ow _ _).alloc _)
   go_loopw [7] (λb c=>∃a:Nat,a<=e+1/\b=J I a/\(∃h,ed c g 42 h/\h.length=(e+1)*3)/\ee (λa=>a=g) Y c) (λb _=>e+1-(intOf b).toNat)
   case atStart=>exact ⟨0,az _,rfl,⟨_,L.mods B (λa=>a),ea P⟩,Ow _ _⟩
   case round=>
    obtain⟨a,m,rfl,⟨a5,k,Z⟩,ac⟩:=hrel;have N:=Ou k;have x:=Ou ac;have Q:=Ou Z
    by_cases bs:a<e+1
    .obtain⟨A,cc⟩:=jx k (i:=a*3) (by omega);obtain⟨b7,ce⟩:=jx k (i:=a*3+1) (by omega);obtain⟨b8,cf⟩:=jx k (i:=a*3+2) (by omega);have cg:=k.frozen;go_wp2_with fail;exact⟨⟨a+1,by omega,by go_num,⟨_,vA N _ _ _,by rw[pJ];exact ea Q⟩,x.trans (vB _ _ _ _ _ _) (λ_ _ b=>b)⟩,by simp[intOf];omega⟩
    .go_wp2_with fail;have A:=gw.last p;rw[ea R]at A;exact⟨⟨c+1,by omega,by go_num,rfl,((y.mono (λ_ _ b=>b.succ)).trans B (λ_ _ a=>a.elim)).trans x (λ_ _ b=>b▸A)⟩,by simp[intOf];omega⟩
  .obtain rfl:c=o.length:=by omega
   have y:=Ou f;go_wp2_with fail
   have F:∀ {a ar h},ed s a ar h->ar≠42->¬gw o o.length a:=λl c a=>by
    obtain⟨b,d,m⟩:=a.mem;obtain⟨_,_,_,h,k,_⟩:=D.ent b d;rw[m]at k;exact c (l.uniq k)
   have E:=Ou (cm.mods f (λa h l=>F l (by decide)) (λa h l=>F l (by decide)));have ck:=Ou (ci.mods f (λa h l=>F l (by decide)) (λa h l=>F l (by decide)));have d6:=f.cell d5 (z _);have ec:=f.cell d9 (z _)
   have cn:Hid (ee (λa=>C<=a/\a<G) s wr):=f.mono (λa _ a=>by
    obtain⟨b,d,m⟩:=a.mem;have:=(D.ent b d).1;have:=ba b d
    omega)
   obtain⟨a0,rfl⟩:∃a0:World,a0=wr:=⟨_,rfl⟩
   go_loopw [3,8] (λb a wr=>∃c:Nat,c<=q.length/\a=J I c/\b=zB K/\ee (gw q c) a0 wr) (λ_ a _=>q.length-(intOf a).toNat)
   case atStart=>exact ⟨0,az _,rfl,rfl,Ow _ _⟩
   case round=>
    obtain⟨c,br,rfl,rfl,f⟩:=hrel
    have z:∀c,¬gw q c w:=λc a=>by
     obtain⟨b,d,m⟩:=a.mem;have:=(E.ent b d).1;have:=be b d;omega
    have b6:=f.cell d6 (z c)
    by_cases p:c<q.length
    .obtain⟨S,a4,ak,bo,⟨a8,aa⟩,ad⟩:=E.at p;obtain⟨g,e,a6,u,l,bz,V,X,n⟩:=E.tw p
     injection ak with an _ ao
     subst an ao
     have ab:¬gw q c S:=λa=>by
      obtain⟨b,d,m⟩:=a.mem;obtain⟨_,_,_,h,k,_⟩:=E.ent b d;rw[m]at k;exact absurd (k.uniq aa) (by decide)
     have W:¬gw q c g:=by
      have:=gw.tN E.nodup p
      rwa[u]at this
     have v:=f.cell ad ab;rw[u]at v;unfold ls at v;simp only at v;have d:=V.mods f W;have bI:wr.cell? ⟨g,e*7,U⟩=M (J I (-77000000)):=(by rw[d.cell];exact(kV (j:=0) n));have bM:wr.cell? ⟨g,e*7+1,U⟩=M (O U 0 0):=(by rw[d.cell];exact(kV (j:=1) n));have b5:wr.cell? ⟨g,e*7+2,U⟩=M (J I 0):=(by rw[d.cell];exact(kV (j:=2) n));have o:wr.cell? ⟨g,e*7+3,U⟩=M (J I 0):=(by rw[d.cell];exact(kV (j:=3) n));have o:wr.cell? ⟨g,e*7+4,U⟩=M (J I 0):=(by rw[d.cell];exact(kV (j:=4) n));have o:wr.cell? ⟨g,e*7+5,U⟩=M (O U 0 0):=(by rw[d.cell];exact(kV (j:=5) n));have o:wr.cell? ⟨g,e*7+6,U⟩=M (O U 0 0):=(by rw[d.cell];exact(kV (j:=6) n));have R:=Ou u;have L:=Ou d;have P:=Ou X;have y:=Ou f;have bn:=d.lt;obtain⟨r,rfl⟩:∃r:World,r=wr:=⟨_,rfl⟩;go_wp2_with fail;generalize T:r.alloc _=Y;have B:ee (λ_=>False) r Y:=(by rw[<-T];exact(Ow _ _).alloc _)
     go_loopw [11] (λb c=>∃a:Nat,a<=e+1/\b=J I a/\(∃h,ed c g 63 h/\h.length=(e+1)*7)/\ee (λa=>a=g) Y c) (λb _=>e+1-(intOf b).toNat)
     case atStart=>exact ⟨0,az _,rfl,⟨_,L.mods B (λa=>a),ea P⟩,Ow _ _⟩
     case round=>
      obtain⟨a,m,rfl,⟨a5,k,Z⟩,ac⟩:=hrel;have N:=Ou k;have x:=Ou ac;have Q:=Ou Z
      by_cases bs:a<e+1
      .obtain⟨A,cc⟩:=jx k (i:=a*7) (by omega);obtain⟨b7,ce⟩:=jx k (i:=a*7+1) (by omega);obtain⟨b8,cf⟩:=jx k (i:=a*7+2) (by omega);obtain⟨o,o⟩:=jx k (i:=a*7+3) (by omega);obtain⟨o,o⟩:=jx k (i:=a*7+4) (by omega);obtain⟨o,o⟩:=jx k (i:=a*7+5) (by omega);obtain⟨o,o⟩:=jx k (i:=a*7+6) (by omega);have cg:=k.frozen;go_wp2_with fail;exact⟨⟨a+1,by omega,by go_num,⟨_,An N _ _ _ _ _ _ _,by rw[xK];exact ea Q⟩,x.trans (Ao _ _ _ _ _ _ _ _ _ _) (λ_ _ b=>b)⟩,by simp[intOf];omega⟩
      .go_wp2_with fail;have A:=gw.last p;rw[ea R]at A;exact⟨⟨c+1,by omega,by go_num,rfl,((y.mono (λ_ _ b=>b.succ)).trans B (λ_ _ a=>a.elim)).trans x (λ_ _ b=>b▸A)⟩,by simp[intOf];omega⟩
    .obtain rfl:c=q.length:=by omega
     have y:=Ou f;go_wp2_with fail
     have F:∀ {a ar h},ed a0 a ar h->ar≠63->¬gw q q.length a:=λl c a=>by
      obtain⟨b,d,m⟩:=a.mem;obtain⟨_,_,_,h,k,_⟩:=E.ent b d;rw[m]at k;exact c (l.uniq k)
     have H:=Ou (ck.mods f (λa h l=>F l (by decide)) (λa h l=>F l (by decide)));have eg:=f.cell ec (z _)
     have cp:Hid (ee (λa=>C<=a/\a<G) s wr):=cn.trans f (λa _ a=>by
      obtain⟨b,d,m⟩:=a.mem;have:=(E.ent b d).1;have:=be b d
      omega)
     obtain⟨a3,rfl⟩:∃a3:World,a3=wr:=⟨_,rfl⟩
     go_loopw [3,12] (λb a wr=>∃c:Nat,c<=t.length/\a=J I c/\b=zB K/\ee (gw t c) a3 wr) (λ_ a _=>t.length-(intOf a).toNat)
     case atStart=>exact ⟨0,az _,rfl,rfl,Ow _ _⟩
     case round=>
      obtain⟨c,br,rfl,rfl,f⟩:=hrel
      have z:∀c,¬gw t c w:=λc a=>by
       obtain⟨b,d,m⟩:=a.mem;have:=(H.ent b d).1;have:=bc b d;omega
      have b6:=f.cell eg (z c)
      by_cases p:c<t.length
      .obtain⟨S,a4,ak,bo,⟨a8,aa⟩,ad⟩:=H.at p;obtain⟨g,e,a6,u,l,bz,V,X,n⟩:=H.tw p
       injection ak with an _ ao
       subst an ao
       have ab:¬gw t c S:=λa=>by
        obtain⟨b,d,m⟩:=a.mem;obtain⟨_,_,_,h,k,_⟩:=H.ent b d;rw[m]at k;exact absurd (k.uniq aa) (by decide)
       have W:¬gw t c g:=by
        have:=gw.tN H.nodup p
        rwa[u]at this
       have v:=f.cell ad ab;rw[u]at v;unfold ls at v;simp only at v;have d:=V.mods f W;have bI:wr.cell? ⟨g,e*3,U⟩=M (J I (-77000000)):=(by rw[d.cell];exact(kV (j:=0) n));have bM:wr.cell? ⟨g,e*3+1,U⟩=M (O U 0 0):=(by rw[d.cell];exact(kV (j:=1) n));have b5:wr.cell? ⟨g,e*3+2,U⟩=M (O U 0 0):=(by rw[d.cell];exact(kV (j:=2) n));have R:=Ou u;have L:=Ou d;have P:=Ou X;have y:=Ou f;have bn:=d.lt;obtain⟨r,rfl⟩:∃r:World,r=wr:=⟨_,rfl⟩;go_wp2_with fail;generalize T:r.alloc _=Y;have B:ee (λ_=>False) r Y:=(by rw[<-T];exact(Ow _ _).alloc _)
       go_loopw [15] (λb c=>∃a:Nat,a<=e+1/\b=J I a/\(∃h,ed c g 66 h/\h.length=(e+1)*3)/\ee (λa=>a=g) Y c) (λb _=>e+1-(intOf b).toNat)
       case atStart=>exact ⟨0,az _,rfl,⟨_,L.mods B (λa=>a),ea P⟩,Ow _ _⟩
       case round=>
        obtain⟨a,m,rfl,⟨a5,k,Z⟩,ac⟩:=hrel;have N:=Ou k;have x:=Ou ac;have Q:=Ou Z
        by_cases bs:a<e+1
        .obtain⟨A,cc⟩:=jx k (i:=a*3) (by omega);obtain⟨b7,ce⟩:=jx k (i:=a*3+1) (by omega);obtain⟨b8,cf⟩:=jx k (i:=a*3+2) (by omega);have cg:=k.frozen;go_wp2_with fail;exact⟨⟨a+1,by omega,by go_num,⟨_,vA N _ _ _,by rw[pJ];exact ea Q⟩,x.trans (vB _ _ _ _ _ _) (λ_ _ b=>b)⟩,by simp[intOf];omega⟩
        .go_wp2_with fail;have A:=gw.last p;rw[ea R]at A;exact⟨⟨c+1,by omega,by go_num,rfl,((y.mono (λ_ _ b=>b.succ)).trans B (λ_ _ a=>a.elim)).trans x (λ_ _ b=>b▸A)⟩,by simp[intOf];omega⟩
      .obtain rfl:c=t.length:=by omega
       have y:=Ou f;go_wp2;go_ret
       exact⟨rfl,cp.trans f (λa _ a=>by
        obtain⟨b,d,m⟩:=a.mem;have:=(H.ent b d).1;have:=bc b d
        omega)⟩
abbrev AW (w:World)(B:Nat)(v:Value)(es:List (Nat×Nat)):Prop:=iV w B 51 3 1 [J I (-77000000)] v es
theorem JL(r C y q Y hk hj d6 b7 b6 ec x v bn bz bs w p d9 eg d4 d5 H)(Z:HS r C q Y hk hj d6 x v bn)(f9:rL r C b7 bz)(f6:yo r C b6 bs)(cm:AW r C ec w)(ft:Y[3]? =M b7)(f0:Y[4]? =M b6)(f1:Y[5]? =M ec)(dp:eQ r d9 p)(d1:eQ r eg p)(gp:eG 1 (gF r) d4 H)(gq:eG 1 (gF r) d5 H)(hr:H.length<=16777216)(g3:eM p<=1048576)(hx:x.length<=16777216)(hu:v.length<=16777216)(gk:bn.length<=16777216)(gn:bz.length<=16777216)(gl:bs.length<=16777216)(hw:w.length<=16777216)(ck:∀b∈x,b.1<y)(cg:∀b∈v,b.1<y)(f2:∀b∈bn,b.1<y)(f4:∀b∈bz,b.1<y)(f3:∀b∈bs,b.1<y)(ci:∀b∈w,b.1<y):
  Calls Tryz.prog 43 #[zP (M ⟨q,0,U⟩),.agg #[d9],.agg #[eg],d4,d5] r λb be=>b=zR (zB K)/\
   mD be q ((((((Y.set 0 (O U 0 0)).set 1 (O U 0 0)).set 2 (O U 0 0)).set 3 (O U 0 0)).set 4 (O U 0 0)).set 5 (O U 0 0))/\ee (λa=>a=q\/(C<=a/\a<y)) r be:=by
 have gm:=Z.lt;have hv:=Z.le;obtain⟨hf,hg,g2⟩:=fd Z.t.row;obtain⟨g4,g5,gs⟩:=fd Z.i.row;obtain⟨ha,hc,g0⟩:=fd cm.row;subst g2 gs g0;obtain⟨hn,fc,fn,ho,rfl,_,ga,gb⟩:=it gp;obtain⟨hp,fo,fs,hq,rfl,_,gf,a0⟩:=it gq;have ei:=Ou gb;have en:=Ou a0;obtain⟨hy,_,_,hz,gx,_⟩:=eN dp;obtain⟨hA,_,_,hB,g1,_⟩:=eN d1;subst gx g1;have eP:=Ou dp;have fa:=Ou d1;have bf:=Ou Z;have eR:=Ou f9;have eo:=Ou f6;have e6:=Ou cm;go_in
 go_wp2_with fail;generalize cn:(r.alloc _).alloc _=W;have d0:ee (λ_=>False) r W:=by rw[<-cn];exact((Ow _ r).alloc _).alloc _
 have b5:=oK cn;refine(MP p _ _ W (eA (Oq b5) eP) (eA (Oq b5) fa) (ap g3 (by decide))).mono ?_;rintro b bM ⟨rfl,cp⟩;have X:ee (λ_=>False) r bM:=d0.trans (S:=λ_=>False) (T:=λa=>W.heap.size<=a) (Ox cp) (λa l a=>by have:=d0.size;omega);have eS:=Ou X;have gc:=eu b5 cp;go_wp2
 go_loopw [11,12] (λa b wr=>∃c:Nat,c<=H.length/\b=J I c/\a=zB K/\Below bM.heap.size bM wr) (λ_ b _=>H.length-(intOf b).toNat)
 case atStart=>exact ⟨0,az _,rfl,rfl,ay _ _⟩
 case round=>
  obtain⟨c,bo,rfl,rfl,a0⟩:=hrel;have cs:=eu gc a0
  by_cases br:c<H.length
  .obtain rfl:=ga (eW br);obtain rfl:=gf (eW br);have d:=Oq cs _ _ (ei c br);have e:=Oq cs _ _ (en c br);generalize H[c]=n at *;have g:=fp c;have h:(c:Int)<(H.length:Int):=(by omega);go_wp2
   go_region_held3 (λbe=>be.cell? ⟨fc,fn+c,U⟩=M (J I n)/\be.cell? ⟨fo,fs+c,U⟩=M (J I n))
    (first | (exact⟨d,e⟩) | go_keep)
    (fail)
   go_wp2_with fail;refine⟨⟨c+1,by omega,by go_num,rfl,a0.drew⟩,by simp[intOf];omega⟩
  have X:ee (λ_=>False) r wr:=eS.trans ((Ox a0).mono (T:=λ_=>False) (λc bo b=>absurd b (by omega))) (λ_ _ a=>a);have E:=Ou (bf.stay X (λ_ _ _ _ a=>a.elim));have e0:=Ou (eR.mods X (λ_ _ _ a=>a) (λ_ _ _ a=>a));have ep:=Ou (eo.mods X (λ_ _ _ a=>a) (λ_ _ _ a=>a));have e7:=Ou (e6.mods X (λ_ _ _ a=>a) (λ_ _ _ a=>a));have e5:=Ou X;have R:=Ou E.t;have g6:wr.cell? ⟨q,0,U⟩=M (O hf x.length hg):=by rw[E.out.hands.1.cell];exact E.c0
  have g7:wr.cell? ⟨q,1,U⟩=M (O g4 v.length g5):=by rw[E.out.hands.1.cell];exact E.c1
  go_wp2_with fail;obtain⟨bI,rfl⟩:∃bI:World,bI=wr:=⟨_,rfl⟩
  go_loopw [11,13] (λb a wr=>∃c:Nat,c<=x.length/\a=J I c/\b=zB K/\ee (gw x c) bI wr) (λ_ a _=>x.length-(intOf a).toNat)
  case atStart=>exact ⟨0,az _,rfl,rfl,Ow _ _⟩
  case round=>
   obtain⟨c,bo,rfl,rfl,g⟩:=hrel
   have D:∀c,¬gw x c q:=λc a=>by
    obtain⟨b,h,l⟩:=a.mem;have:=(R.ent b h).1;have:=ck b h;omega
   have d3:=g.cell g6 (D c)
   by_cases u:c<x.length
   .obtain⟨an,cb,a8,cz,⟨cf,a3⟩,a6⟩:=R.at u;obtain⟨m,o,ce,z,d,ds,ao,a1,V⟩:=R.tw u
    injection a8 with ba _ bc
    subst ba bc
    have a4:¬gw x c an:=λa=>by
     obtain⟨b,h,l⟩:=a.mem;obtain⟨_,_,_,e,s,_⟩:=R.ent b h;rw[l]at s;exact absurd (s.uniq a3) (by decide)
    have ar:¬gw x c m:=by
     have:=gw.tN R.nodup u
     rwa[z]at this
    have A:=g.cell a6 a4;rw[z]at A;unfold ls at A;simp only at A;have h:=ao.mods g ar;have d2:wr.cell? ⟨m,o,U⟩=M (J I (-77000000)):=(by rw[h.cell];have:=kV (j:=0) V;simpa using this);have ak:=Ou z;have aa:=Ou h;have ac:=Ou a1;have G:=Ou g;have cu:=h.lt;obtain⟨B,rfl⟩:∃B:World,B=wr:=⟨_,rfl⟩;go_wp2
    go_loopw [15] (λb c=>∃a:Nat,a<=o+1/\b=J I a/\(∃e,ed c m 43 e/\e.length=(o+1)*1)/\ee (λa=>a=m) B c) (λb _=>o+1-(intOf b).toNat)
    case atStart=>exact ⟨0,az _,rfl,⟨_,ea aa,ea ac⟩,Ow _ _⟩
    case round=>
     obtain⟨a,l,rfl,⟨cc,s,a2⟩,a5⟩:=hrel;have ab:=Ou s;have F:=Ou a5;have ad:=Ou a2
     by_cases cA:a<o+1
     .obtain⟨L,b8⟩:=jx s (i:=a) (by omega);have b9:=s.frozen;go_wp2_with fail;exact⟨⟨a+1,by omega,by go_num,⟨_,ab.setCell a _,by rw[aO];exact ea ad⟩,F.trans ((Ow (λc=>c=m) _).setCell (p:=⟨m,a,U⟩) (λ_=>rfl) _) (λ_ _ b=>b)⟩,by simp[intOf];omega⟩
     .go_wp2_with fail;have L:=gw.last u;rw[ea ak]at L;exact⟨⟨c+1,by omega,by go_num,rfl,(G.mono (λ_ _ b=>b.succ)).trans F (λ_ _ b=>b▸L)⟩,by simp[intOf];omega⟩
   .obtain rfl:c=x.length:=by omega
    have G:=Ou g;go_wp2_with fail
    have k:∀ {a N e},ed bI a N e->N≠43->¬gw x x.length a:=λd c a=>by
     obtain⟨b,h,l⟩:=a.mem;obtain⟨_,_,_,e,s,_⟩:=R.ent b h;rw[l]at s;exact c (d.uniq s)
    have P:=Ou (E.i.mods g (λa e d=>k d (by decide)) (λa e d=>k d (by decide)));have et:=Ou (E.f.mods g (λa e d=>k d (by decide)) (λa e d=>k d (by decide)));have e1:=Ou (e0.mods g (λa e d=>k d (by decide)) (λa e d=>k d (by decide)));have er:=Ou (ep.mods g (λa e d=>k d (by decide)) (λa e d=>k d (by decide)));have e9:=Ou (e7.mods g (λa e d=>k d (by decide)) (λa e d=>k d (by decide)));have ej:=Ou (E.hands.1.mods g (D _));have g8:=g.cell g7 (D _)
    have e3:Hid (ee (λa=>C<=a/\a<y) r wr):=(e5.mono (λ_ _ a=>a.elim)).trans g (λa _ a=>by
     obtain⟨b,h,l⟩:=a.mem;have:=(R.ent b h).1;have:=ck b h
     omega)
    obtain⟨bh,rfl⟩:∃bh:World,bh=wr:=⟨_,rfl⟩
    go_loopw [11,16] (λb a wr=>∃c:Nat,c<=v.length/\a=J I c/\b=zB K/\ee (gw v c) bh wr) (λ_ a _=>v.length-(intOf a).toNat)
    case atStart=>exact ⟨0,az _,rfl,rfl,Ow _ _⟩
    case round=>
     obtain⟨c,bo,rfl,rfl,g⟩:=hrel
     have D:∀c,¬gw v c q:=λc a=>by
      obtain⟨b,h,l⟩:=a.mem;have:=(P.ent b h).1;have:=cg b h;omega
     have d3:=g.cell g8 (D c)
     by_cases u:c<v.length
     .obtain⟨an,cb,a8,cz,⟨cf,a3⟩,a6⟩:=P.at u;obtain⟨m,o,ce,z,d,ds,ao,a1,V⟩:=P.tw u
      injection a8 with ba _ bc
      subst ba bc
      have a4:¬gw v c an:=λa=>by
       obtain⟨b,h,l⟩:=a.mem;obtain⟨_,_,_,e,s,_⟩:=P.ent b h;rw[l]at s;exact absurd (s.uniq a3) (by decide)
      have ar:¬gw v c m:=by
       have:=gw.tN P.nodup u
       rwa[z]at this
      have A:=g.cell a6 a4;rw[z]at A;unfold ls at A;simp only at A;have h:=ao.mods g ar;have d2:wr.cell? ⟨m,o*3,U⟩=M (J I (-77000000)):=(by rw[h.cell];exact(kV (j:=0) V));have Q:wr.cell? ⟨m,o*3+1,U⟩=M (J I 0):=(by rw[h.cell];exact(kV (j:=1) V));have bk:wr.cell? ⟨m,o*3+2,U⟩=M (J I 0):=(by rw[h.cell];exact(kV (j:=2) V));have ak:=Ou z;have aa:=Ou h;have ac:=Ou a1;have G:=Ou g;have cu:=h.lt;obtain⟨B,rfl⟩:∃B:World,B=wr:=⟨_,rfl⟩;go_wp2
      go_loopw [18] (λb c=>∃a:Nat,a<=o+1/\b=J I a/\(∃e,ed c m 60 e/\e.length=(o+1)*3)/\ee (λa=>a=m) B c) (λb _=>o+1-(intOf b).toNat)
      case atStart=>exact ⟨0,az _,rfl,⟨_,ea aa,ea ac⟩,Ow _ _⟩
      case round=>
       obtain⟨a,l,rfl,⟨cc,s,a2⟩,a5⟩:=hrel;have ab:=Ou s;have F:=Ou a5;have ad:=Ou a2
       by_cases cA:a<o+1
       .obtain⟨L,b8⟩:=jx s (i:=a*3) (by omega);obtain⟨hh,hl⟩:=jx s (i:=a*3+1) (by omega);obtain⟨hi,hm⟩:=jx s (i:=a*3+2) (by omega);have b9:=s.frozen;go_wp2_with fail;exact⟨⟨a+1,by omega,by go_num,⟨_,vA ab _ _ _,by rw[pJ];exact ea ad⟩,F.trans (vB _ _ _ _ _ _) (λ_ _ b=>b)⟩,by simp[intOf];omega⟩
       .go_wp2_with fail;have L:=gw.last u;rw[ea ak]at L;exact⟨⟨c+1,by omega,by go_num,rfl,(G.mono (λ_ _ b=>b.succ)).trans F (λ_ _ b=>b▸L)⟩,by simp[intOf];omega⟩
     .obtain rfl:c=v.length:=by omega
      have G:=Ou g;go_wp2_with fail
      have k:∀ {a N e},ed bh a N e->N≠60->¬gw v v.length a:=λd c a=>by
       obtain⟨b,h,l⟩:=a.mem;obtain⟨_,_,_,e,s,_⟩:=P.ent b h;rw[l]at s;exact c (d.uniq s)
      have eK:=Ou (et.mods g (λa e d=>k d (by decide)) (λa e d=>k d (by decide)));have e2:=Ou (e1.mods g (λa e d=>k d (by decide)) (λa e d=>k d (by decide)));have es:=Ou (er.mods g (λa e d=>k d (by decide)) (λa e d=>k d (by decide)));have Q:=Ou (e9.mods g (λa e d=>k d (by decide)) (λa e d=>k d (by decide)));have ca:=Ou (ej.mods g (D _))
      have e4:Hid (ee (λa=>C<=a/\a<y) r wr):=e3.trans g (λa _ a=>by
       obtain⟨b,h,l⟩:=a.mem;have:=(P.ent b h).1;have:=cg b h
       omega)
      have g9:wr.cell? ⟨q,5,U⟩=M (O ha w.length hc):=(by rw[ca.out.cell];exact f1);obtain⟨bk,rfl⟩:∃bk:World,bk=wr:=⟨_,rfl⟩
      go_loopw [11,19] (λb a wr=>∃c:Nat,c<=w.length/\a=J I c/\b=zB K/\ee (gw w c) bk wr) (λ_ a _=>w.length-(intOf a).toNat)
      case atStart=>exact ⟨0,az _,rfl,rfl,Ow _ _⟩
      case round=>
       obtain⟨c,bo,rfl,rfl,g⟩:=hrel
       have D:∀c,¬gw w c q:=λc a=>by
        obtain⟨b,h,l⟩:=a.mem;have:=(Q.ent b h).1;have:=ci b h;omega
       have d3:=g.cell g9 (D c)
       by_cases u:c<w.length
       .obtain⟨an,cb,a8,cz,⟨cf,a3⟩,a6⟩:=Q.at u;obtain⟨m,o,ce,z,d,ds,ao,a1,V⟩:=Q.tw u
        injection a8 with ba _ bc
        subst ba bc
        have a4:¬gw w c an:=λa=>by
         obtain⟨b,h,l⟩:=a.mem;obtain⟨_,_,_,e,s,_⟩:=Q.ent b h;rw[l]at s;exact absurd (s.uniq a3) (by decide)
        have ar:¬gw w c m:=by
         have:=gw.tN Q.nodup u
         rwa[z]at this
        have A:=g.cell a6 a4;rw[z]at A;unfold ls at A;simp only at A;have h:=ao.mods g ar;have d2:wr.cell? ⟨m,o,U⟩=M (J I (-77000000)):=(by rw[h.cell];have:=kV (j:=0) V;simpa using this);have ak:=Ou z;have aa:=Ou h;have ac:=Ou a1;have G:=Ou g;have cu:=h.lt;obtain⟨B,rfl⟩:∃B:World,B=wr:=⟨_,rfl⟩;go_wp2
        go_loopw [21] (λb c=>∃a:Nat,a<=o+1/\b=J I a/\(∃e,ed c m 3 e/\e.length=(o+1)*1)/\ee (λa=>a=m) B c) (λb _=>o+1-(intOf b).toNat)
        case atStart=>exact ⟨0,az _,rfl,⟨_,ea aa,ea ac⟩,Ow _ _⟩
        case round=>
         obtain⟨a,l,rfl,⟨cc,s,a2⟩,a5⟩:=hrel;have ab:=Ou s;have F:=Ou a5;have ad:=Ou a2
         by_cases cA:a<o+1
         .obtain⟨L,b8⟩:=jx s (i:=a) (by omega);have b9:=s.frozen;go_wp2_with fail;exact⟨⟨a+1,by omega,by go_num,⟨_,ab.setCell a _,by rw[aO];exact ea ad⟩,F.trans ((Ow (λc=>c=m) _).setCell (p:=⟨m,a,U⟩) (λ_=>rfl) _) (λ_ _ b=>b)⟩,by simp[intOf];omega⟩
         .go_wp2_with fail;have L:=gw.last u;rw[ea ak]at L;exact⟨⟨c+1,by omega,by go_num,rfl,(G.mono (λ_ _ b=>b.succ)).trans F (λ_ _ b=>b▸L)⟩,by simp[intOf];omega⟩
       .obtain rfl:c=w.length:=by omega
        have G:=Ou g;go_wp2_with fail
        have k:∀ {a N e},ed bk a N e->N≠3->¬gw w w.length a:=λd c a=>by
         obtain⟨b,h,l⟩:=a.mem;obtain⟨_,_,_,e,s,_⟩:=Q.ent b h;rw[l]at s;exact c (d.uniq s)
        have A:=Ou (eK.mods g (λa e d=>k d (by decide)) (λa e d=>k d (by decide)));have F:=Ou (e2.mods g (λa e d=>k d (by decide)) (λa e d=>k d (by decide)));have z:=Ou (es.mods g (λa e d=>k d (by decide)) (λa e d=>k d (by decide)));have m:=Ou (ca.mods g (D _))
        have V:Hid (ee (λa=>C<=a/\a<y) r wr):=e4.trans g (λa _ a=>by
         obtain⟨b,h,l⟩:=a.mem;have:=(Q.ent b h).1;have:=ci b h
         omega)
        refine(JQ wr C y q Y d6 b7 b6 bn bz bs ⟨ea m,bf.hands.2⟩ gm bf.c2 ft f0 A F z gk gn gl f2 f4 f3).mono ?_;rintro b ak ⟨rfl,o⟩;have h:=m.mods o (by omega);have aa:=bf.hands.2;obtain⟨L,b8⟩:=jx h (i:=0) (by omega);obtain⟨hh,hl⟩:=jx h (i:=1) (by omega);obtain⟨hi,hm⟩:=jx h (i:=2) (by omega);obtain⟨ab,an⟩:=jx h (i:=3) (by omega);obtain⟨ac,ao⟩:=jx h (i:=4) (by omega);obtain⟨ad,ar⟩:=jx h (i:=5) (by omega);have b9:=h.frozen;have s:=Ou h;have B:=Ou ((V.trans o (λ_ _ b=>b)).mono (T:=λa=>a=q\/(C<=a/\a<y)) (λ_ _ b=>.inr b));go_wp2;go_ret;exact⟨rfl,⟨(((((s.setCell 0 _).setCell 1 _).setCell 2 _).setCell 3 _).setCell 4 _).setCell 5 _,by simp only[aO];exact aa⟩,(((((B.setCell (p:=⟨q,0,U⟩) (λ_=>.inl rfl) _).setCell (p:=⟨q,1,U⟩) (λ_=>.inl rfl) _).setCell (p:=⟨q,2,U⟩) (λ_=>.inl rfl) _).setCell (p:=⟨q,3,U⟩) (λ_=>.inl rfl) _).setCell (p:=⟨q,4,U⟩) (λ_=>.inl rfl) _).setCell (p:=⟨q,5,U⟩) (λ_=>.inl rfl) _⟩
theorem iV.under{c d f e i h j b}(g:iV c d f e i h j b):∀a∈b,a.1<c.heap.size:=λa c=>by
 obtain⟨_,_,_,b,b,_⟩:=g.ent a c;exact b.lt
end Go.Proofs.YtiiokkllmchohaaGreat
