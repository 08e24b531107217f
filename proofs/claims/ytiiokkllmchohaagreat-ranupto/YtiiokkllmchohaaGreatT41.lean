/- The document's solver: its rows of states, as they lie. -/
import Derived.Test.YtiiokkllmchohaaGreatT38
import Derived.Test.YtiiokkllmchohaaGreatT40
set_option maxHeartbeats 0
set_option maxRecDepth 99999
namespace Go.Proofs.YtiiokkllmchohaaGreat
open Go.Value renaming int->J,slice->O,pointer->zP,bool->zB
open Go.IntKind renaming i64->I
open Option renaming none->U,some->M
open Bool renaming true->K,false->F
open Go.Ending renaming returned->zR
open Go.Obj renaming cells->zC
open Go.RowKit Go.Shelf
structure mV (V:World)(p:On)(m:eh)(B lb:Nat)(R:List (Option ef))(cs:Oj):Prop where
 blk:ed V lb 149 cs
 len:cs.length=R.length*3
 row:∀i r,R[i]? =M r->∃vl vs,cs[i*3]? =M (zB r.isSome)/\cs[i*3+1]? =M vl/\cs[i*3+2]? =M vs/\eY (sel (λk=>B<=k/\k≠lb) V) (jc r) vl vs/\∀s,r=M s->kq p m s
section
variable {w V V' : World} {p : List eb} {m : eh} {B lb : Nat} {R : List (Option ef)} {cs : List Value} {vp vm1 vm5 vm6 : Value}
theorem mV.below (a:mV V p m B lb R cs)(b:Below V.heap.size V V'):mV V' p m B lb R cs:=
 ⟨a.blk.below b a.blk.lt,a.len,λi j c=>by
  obtain⟨k,l,d,e,f,g,h⟩:=a.row i j c;exact⟨k,l,d,e,f,OU (fW (Ox b) λd b a=>⟨λc=>by omega,a⟩) g,h⟩⟩
theorem mV.set(i:mV V p m B lb R cs){c}(x:c<R.length){h e f}(n:ee (λk=>k=lb) V V')(t:ed V' lb 149 (OL cs (c*3) [zB K,e,f]))(v:eY (sel (λk=>B<=k/\k≠lb) V) h e f)(u:kq p m h):mV V' p m B lb (R.set c (M h)) (OL cs (c*3) [zB K,e,f]):=by
 have g:c*3+ [Value.bool K,e,f].length<=cs.length:=by have:=i.len;simp;omega
 have: [Value.bool K,e,f].length=3:=rfl;refine⟨t,by rw[tV g,aO];exact i.len,λb y a=>?_⟩
 by_cases l:b=c
 .subst l;rw[aA x]at a
  cases a
  refine⟨e,f,?_,?_,?_,OU (fW n λk _ a=>⟨a.2,a⟩) v,λb a=>by cases a;exact u⟩
  .rw [rv g,af (by omega),am (by omega),show b*3-b*3=0 by omega];rfl
  .rw [rv g,af (by omega),am (by omega),show b*3+1-b*3=1 by omega];rfl
  .rw [rv g,af (by omega),am (by omega),show b*3+2-b*3=2 by omega];rfl
 .rw [ah (λa=>l a.symm)]at a;obtain⟨z,A,o,q,r,d,s⟩:=i.row b y a
  have j:∀d h,d<3->cs[b*3+d]? =M h->(OL cs (c*3) [zB K,e,f])[b*3+d]? =M h:=λd h f a=>by
   rw[rv g]
   by_cases e:b*3+d<c*3
   .rw [am e];exact a
   .rw [af e,af (by omega)];exact a
  exact⟨z,A,j 0 _ (by omega) o,j 1 _ (by omega) q,j 2 _ (by omega) r,OU (fW n λk _ a=>⟨a.2,a⟩) d,s⟩
theorem mV.new{c}(d:ed V lb 149 (madeCells (Value.agg #[zB F,O U 0 0,O U 0 0]).cells (c*3)).toList):mV V p m B lb (List.replicate c U) (madeCells (Value.agg #[zB F,O U 0 0,O U 0 0]).cells (c*3)).toList:=by
 refine⟨d,by rw[tJ,du],λb f a=>?_⟩;rw[cL]at a
 split at a
 .rename_i e
  cases a
  refine⟨O U 0 0,O U 0 0,?_,?_,?_,⟨ow,ow⟩,λg a=>by cases a⟩
  .rw [zK _ _ _ (by omega) (by decide),show b*3 % (Value.agg #[zB F,O U 0 0,O U 0 0]).cells.size=0 from by show b*3 % 3=0;omega];rfl
  .rw [zK _ _ _ (by omega) (by decide),show (b*3+1) % (Value.agg #[zB F,O U 0 0,O U 0 0]).cells.size=1 from by show (b*3+1) % 3=1;omega];rfl
  .rw [zK _ _ _ (by omega) (by decide),show (b*3+2) % (Value.agg #[zB F,O U 0 0,O U 0 0]).cells.size=2 from by show (b*3+2) % 3=2;omega];rfl
 .cases a
structure nZ (w V:World)(p:On)(m:eh)(lb:Nat)(vp vm1 vm5 vm6:Value)(R:List (Option ef))(cs:Oj):Prop where
 bel:Below w.heap.size w V
 b0:ed V w.heap.size 24 [vp]
 b1:ed V (w.heap.size+1) 63 [J I m.slot,vm1,J I m.ret,J I m.locals,J I m.stack,vm5,vm6]
 rows:mV V p m w.heap.size lb R cs
 len:R.length=m.code.length
 lo:w.heap.size+1<lb
theorem nZ.below (a:nZ w V p m lb vp vm1 vm5 vm6 R cs)(b:Below V.heap.size V V'):nZ w V' p m lb vp vm1 vm5 vm6 R cs:=
 ⟨a.bel.trans (b.mono a.bel.size),a.b0.below b a.b0.lt,a.b1.below b a.b1.lt,a.rows.below b,a.len,a.lo⟩
theorem nZ.set(a:nZ w V p m lb vp vm1 vm5 vm6 R cs){k}(f:k<R.length){c d e}(b:ee (λk=>k=lb) V V')(g:ed V' lb 149 (OL cs (k*3) [zB K,d,e]))(i:eY (sel (λk=>w.heap.size<=k/\k≠lb) V) c d e)(h:kq p m c):nZ w V' p m lb vp vm1 vm5 vm6 (R.set k (M c)) (OL cs (k*3) [zB K,d,e]):=by
 have:=a.lo;exact⟨a.bel.trans (b.below a.bel.size (λk f a=>by omega)),a.b0.mods b (by omega),a.b1.mods b (by omega),a.rows.set f b g i h,by rw[aO];exact a.len,a.lo⟩
theorem mV.at_(a:mV V p m B lb R cs){i}(s:i<R.length):∃b h d c j e,V.cell? ⟨lb,i*3,U⟩=M (zB (R.getD i U).isSome)/\V.cell? ⟨lb,i*3+1,U⟩=M (O b h d)/\V.cell? ⟨lb,i*3+2,U⟩=M (O c j e)/\eY (sel (λg=>B<=g/\g≠lb) V) (jc (R.getD i U)) (O b h d) (O c j e)/\∀k,R.getD i U=M k->kq p m k:=by
 have l:R[i]? =M (R.getD i U):=by rw[aj,ae s];rfl
 obtain⟨g,g,n,o,q,f,r⟩:=a.row i _ l;obtain⟨b,_,_,d,rfl,_⟩:=f.1;obtain⟨c,_,_,e,rfl,_⟩:=f.2;exact⟨_,_,_,_,_,_,(a.blk.cell _).trans n,(a.blk.cell _).trans o,(a.blk.cell _).trans q,f,r⟩
end
structure qK (V:World)(p:On)(m:eh)(B lb bo:Nat)(out:ef)(vl vs:Value):Prop where
 blk:ed V bo 149 [zB K,vl,vs]
 st:eY (sel (λk=>B<=k/\k≠lb) V) out vl vs
 ok:kq p m out
 ne:lb<bo
theorem qK.below{V V' p m B lb c d e f}(a:qK V p m B lb c d e f)(b:Below V.heap.size V V'):qK V' p m B lb c d e f:=
 ⟨a.blk.below b a.blk.lt,OU (fW (Ox b) λd c a=>⟨λb=>by omega,a⟩) a.st,a.ok,a.ne⟩
theorem qK.mods{V V' p m B lb b e f g}(a:qK V p m B lb b e f g)(c:ee (λd=>d=lb) V V'):qK V' p m B lb b e f g:=
 ⟨a.blk.mods c (by have:=a.ne;omega),OU (fW c λd _ a=>⟨a.2,a⟩) a.st,a.ok,a.ne⟩
theorem IW{p m x i}(h:eU p m x=K){f}(e:f∈jF x i):0<=f:=by
 unfold jF at e
 rcases aN.1 e with c | c
 .split at c
  .obtain rfl:=aC.1 c;omega
  .cases c
 .split at c
  .rename_i d;obtain rfl:=aC.1 c;have g:=kM (p:=p) (m:=m) (op:=x.op) (a:=x.a) (b:=x.b) h;have j:=g.jmp (by unfold gz at d;simp only[bB,beq_iff_eq]at d;omega);omega
  .cases c
def FO (p:On)(m:eh)(r:Option (List (Option ef)))(w w':World)(e:Ending):Prop:=
 (r=U->e=zR (.tuple #[O U 0 0,zB F]))/\(∀R,r=M R->∃lb cs,e=zR (.tuple #[O (M ⟨lb,0,U⟩) m.code.length m.code.length,zB K])/\mV w' p m w.heap.size lb R cs/\R.length=m.code.length/\w.heap.size<=lb)/\Below w.heap.size w w'
theorem Jw:(Tryz.prog.info? 149).map (λa=>(a.zero,a.size,a.bytes))=M (M (.agg #[zB F,O U 0 0,O U 0 0]),3,56):=by kernel_rfl
theorem us.form {p:On}{h:Option ef}{g:ef}{u v:Om}{z x A y:Nat}{w b:World}{a:Ending}{S:Nat->Prop} [DecidablePred S] (D:us p h.isSome K (jc h) g (O u z x) (O v A y) w b a)(d:eY (sel S w) g (O u z x) (O v A y))(J:∀f,w.heap.size<=f->S f) :
  ∃C j s l k t n r,a=zR (.tuple #[.agg #[zB C,O j s l,O k t n],zB r])/\(∀c,lZ p h g=M c->C=K/\r=K/\eY (sel S b) c (O j s l) (O k t n))/\(lZ p h g=U->r=F)/\Below w.heap.size w b:=by
 obtain⟨E,G,H,i⟩:=D;have q:fN (sel S w) (sel S b):=fW (Ox i) λf q d=>⟨λa=>by omega,d⟩
 cases h with
 | none =>
  have o:=E rfl;exact⟨K,_,_,_,_,_,_,K,o,λc a=>(by cases a;exact⟨rfl,rfl,OU q d⟩),λa=>(by cases a),i⟩
 | some L =>
  by_cases e:L.stk.length=g.stk.length
  .obtain⟨g,g,rfl,I⟩:=H rfl e;have o:=OU (g':=sel S b) (fW (Ow (λ_=>False) b) λf q d=>⟨λa=>a,J f d⟩) I;obtain⟨j,_,_,l,rfl,_⟩:=o.1;obtain⟨k,_,_,n,rfl,_⟩:=o.2;refine⟨K,_,_,_,_,_,_,K,rfl,λc a=>?_,λa=>?_,i⟩
   .unfold lZ at a;dsimp only at a;rw[am e]at a
    cases a
    exact⟨rfl,rfl,o⟩
   .unfold lZ at a;dsimp only at a;rw[am e]at a
    cases a
  .have o:=G rfl e;refine⟨F,_,_,_,_,_,_,F,o,λc a=>?_,λ_=>rfl,i⟩;unfold lZ at a;dsimp only at a;rw[af e]at a
   cases a
section
attribute [local go_sem ↓] Go.wp_at_zero Go.wp_at_succ
attribute [local go_sem] eZ
theorem Ms(p e7 bc c e6 e9 fa f)(d0:eQ f e7 p)(bI:fK f.cell? c e6 e9 fa)(hn:fi p=0)(hG:eM p<=4194304)(d5:mU p c)(e2:∀bM∈c.code,eU p c bM=K)(l0:c.code.length<=40)(l8:0<=bc)(l4:bc<(p.length:Int))(lW:1+(c.args.length:Int)<=c.locals)(gl:kG p c (fH bc c))(ms:1<=c.code.length)(iT cA)(i8:pw p c iT (wm bc c)=M cA):
  Calls Tryz.prog 52 #[.agg #[e7],J I bc,fB c e6 e9 fa] f λe n=>FO p c cA f n e:=by
 have eP:=Ou d0;have f0:=Ou bI;have ii:=Ou i8;have fn:=oj hn hG;have l4:=(kY hn).1.2;have ms:p.length<=4194304:=ap (fQ p) hG;have h2:=Ou (λf bI=>En bc c e6 e9 fa f bI l8 (by omega) lW d5.loc);have hf:=Ou (λ(L:fG) T g n o f d0 bI e d l h t=>Et p e7 c e6 e9 fa L T g n o f d0 bI hn hG d5 e d l h t);have h5:=Ou (λ(bM:Nat) f bI e=>Ep c e6 e9 fa bM f bI e l0);have h8:=Ou (λT n e g r s t u f d0 c d o q h l v=>Mk p e7 T n e g r s t u f d0 fn.sup l4 c d o q h l v);have lE:=Ou (λT n e g r s t u f d0 c d o q h l=>Ak p e7 T n e g r s t u f d0 fn.sup ms c d o q h l);unfold fB at h2 hf h5 ⊢;obtain⟨m3,mf,l9,ma,md⟩:=info_parts Jw;obtain⟨a5,_,_,a6,rfl,_⟩:=d0;obtain⟨a8,_,_,ba,rfl,_⟩:=bI.1;obtain⟨d0,ab,ad,a3,rfl,_,j3,kb⟩:=eN bI.2.1;obtain⟨be,_,_,bf,rfl,_⟩:=bI.2.2;obtain rfl:=j3 (eW (show 0<c.code.length by omega));have k6:=Ou kb;clear kb bI j3 i8;have hy:Below f.heap.size f ((f.alloc (zC #[O a5 p.length a6] 24)).alloc (zC #[J I c.slot,O a8 c.args.length ba,J I c.ret,J I c.locals,J I c.stack,O (M ⟨ab,ad,U⟩) c.code.length a3,O be c.frames.length bf] 63)):=gS _ _ _;have h0:=(Oz f #[O a5 p.length a6] 24).alloc (zC #[J I c.slot,O a8 c.args.length ba,J I c.ret,J I c.locals,J I c.stack,O (M ⟨ab,ad,U⟩) c.code.length a3,O be c.frames.length bf] 63);have fc:=Oz (f.alloc (zC #[O a5 p.length a6] 24)) #[J I c.slot,O a8 c.args.length ba,J I c.ret,J I c.locals,J I c.stack,O (M ⟨ab,ad,U⟩) c.code.length a3,O be c.frames.length bf] 63;rw[World.size_alloc]at fc;have j1:((f.alloc (zC #[O a5 p.length a6] 24)).alloc (zC #[J I c.slot,O a8 c.args.length ba,J I c.ret,J I c.locals,J I c.stack,O (M ⟨ab,ad,U⟩) c.code.length a3,O be c.frames.length bf] 63)).heap.size=f.heap.size+1+1:=by simp
 go_in
 go_upto_region 1 with fail
 generalize (f.alloc _).alloc _=W at *;have lF:W.cell? ⟨f.heap.size+1,5,U⟩=M (O (M ⟨ab,ad,U⟩) c.code.length a3):=fc.cell 5;have iM:=Ou j1;clear j1;go_upto_region 2 with (at_make;refine sN rfl (.tmp 20) (.tmp 20) 99 rfl 149 m3 (.agg #[zB F,O U 0 0,O U 0 0]) 3 56 Tryz.underlying99 mf l9 ma md _ _ _ c.code.length rfl rfl (by omega) (by omega) (by omega) ?_;intro y N gq mN)
 have gm:Below f.heap.size f y:=hy.trans (gq.below hy.size (λd t e=>e));have hh:=mV.new (p:=p) (m:=c) (B:=f.heap.size) N;have h1:=h0.mods gq (λe=>e);have b8:=fc.mods gq (λe=>e);obtain⟨h,kk⟩:∃h,h=W.heap.size:=⟨_,rfl⟩;have mn:f.heap.size+1<h:=by have:=ea iM;omega
 rw[<-kk]at N hh ⊢;have hH:y.cell? ⟨f.heap.size+1,0,U⟩=M (J I c.slot):=b8.cell 0;have hI:y.cell? ⟨f.heap.size+1,1,U⟩=M (O a8 c.args.length ba):=b8.cell 1;have hJ:y.cell? ⟨f.heap.size+1,2,U⟩=M (J I c.ret):=b8.cell 2;have hK:y.cell? ⟨f.heap.size+1,3,U⟩=M (J I c.locals):=b8.cell 3;have hL:y.cell? ⟨f.heap.size+1,4,U⟩=M (J I c.stack):=b8.cell 4;have hM:y.cell? ⟨f.heap.size+1,5,U⟩=M (O (M ⟨ab,ad,U⟩) c.code.length a3):=b8.cell 5;have hN:y.cell? ⟨f.heap.size+1,6,U⟩=M (O be c.frames.length bf):=b8.cell 6;have g6:Hid (nZ f y p c h (O a5 p.length a6) (O a8 c.args.length ba) (O (M ⟨ab,ad,U⟩) c.code.length a3) (O be c.frames.length bf) (List.replicate c.code.length U) (madeCells (Value.agg #[zB F,O U 0 0,O U 0 0]).cells (c.code.length*3)).toList):=⟨gm,h1,b8,hh,by simp,mn⟩;clear kk mN gq N hh h1 b8 h0 fc hy lF iM;go_wp2_with fail;refine(ea h2 y (Ot (Oq gm) f0.out)).mono ?_;rintro e i3 ⟨m5,rfl,hv,P⟩;obtain⟨hi,hO,hj,rfl⟩:∃ce c bc,m5=O ce c bc:=by obtain⟨ce,_,_,bc,rfl,_⟩:=hv.1;exact⟨ce,_,bc,rfl⟩
 have f1:=g6.out.below P;have m2:=g6.out.rows.blk.lt;have l6:=gm.size;have j4:kq p c (fm c (fH bc c)):=⟨⟨λL hx=>gl.2.2.2.1 L (cV hx),gl.2.2.2.2⟩,wC (by omega) d5.loc gl.1,gl.2.2.1⟩;have iG:Hid (eY (sel (λd=>f.heap.size<=d/\d≠h) i3) (fm c (fH bc c)) (O hi hO hj) (O U 0 0)):=OU (fW (Ow (λ_=>False) i3) λd t d=>⟨λe=>e,by (try dsimp only at d);omega,by (try dsimp only at d);omega⟩) hv;have hl:=f1.rows.blk;have gp:=f1.rows.len;have hC:(List.replicate c.code.length (U:Option ef)).length=c.code.length:=by simp
 have bI:(0:Int)<(c.code.length:Int):=by omega
 have g7:=Ou f1;clear f1 hv hH hI hJ hK hL hM hN g6;obtain⟨hk,kc⟩:∃hk,hk=(madeCells (Value.agg #[zB F,O U 0 0,O U 0 0]).cells (c.code.length*3)).toList:=⟨_,rfl⟩;rw[<-kc]at hl gp g7;go_upto_region 3 with (refine fJ ip hl 0 [zB K,O hi hO hj,O U 0 0] rfl (by rw[gp,hC];omega) nM (.tmp 26) (.tmp 25) rfl rfl rfl rfl ?_;intro bI i6 i7 m0)
 have d3:Hid (nZ f bI p c h (O a5 p.length a6) (O a8 c.args.length ba) (O (M ⟨ab,ad,U⟩) c.code.length a3) (O be c.frames.length bf) (wm bc c) (OL hk (0*3) [zB K,O hi hO hj,O U 0 0])):=g7.out.set (k:=0) (by rw[hC];omega) i7 i6 iG.out j4;clear i6 i7 m0 hl gp kc g7 iG P gm j4 m2 l6;go_wp2
 go_loopg [9] iT (λl e X=>∃(s:Bool) (cc:List (Option ef)) (f4:List Value),e=zB s/\nZ f X p c h (O a5 p.length a6) (O a8 c.args.length ba) (O (M ⟨ab,ad,U⟩) c.code.length a3) (O be c.frames.length bf) cc f4/\(s=K->pw p c l cc=M cA)/\(s=F->cA=M cc))
 case atStart=>exact ⟨K,_,_,rfl,ea d3,λ_=>ea ii,λe=>by cases e⟩
 case round=>
  clear d3 ii hC
  rename World=>bc
  obtain⟨s,cc,f4,rfl,ho,hA,hz⟩:=hrel;have eK:=Ou ho
  cases s with
  | false =>
   have d4:=Ou (hz rfl);clear hz hA ho;go_wp2
   go_ret2
   exact⟨λe=>(by rw[ea d4]at e;cases e),λc e=>(by rw[ea d4]at e;cases e;exact⟨h,f4,rfl,eK.out.rows,eK.out.len,by omega⟩),eK.out.bel⟩
  | true =>
   have hm:=hA rfl;clear hz hA ho
   cases gk with
   | zero => cases hm
   | succ i5 =>
   have fo:=Ou hm;clear hm;go_wp2
   go_loopg [9,10] c.code.length (λl e bM X=>∃(d:Nat) (s:Bool) (V:List (Option ef)) (eS:Oj),d<=c.code.length/\l=c.code.length-d/\e=zB s/\bM=J I d/\me p c cc d=M (V,s)/\nZ f X p c h (O a5 p.length a6) (O a8 c.args.length ba) (O (M ⟨ab,ad,U⟩) c.code.length a3) (O be c.frames.length bf) V eS)
   case atStart=>exact ⟨0,F,cc,f4,az _,rfl,rfl,rfl,rfl,ea eK⟩
   case round=>
    clear eK
    rename World=>u
    obtain⟨d,s,V,eS,t,kf,rfl,rfl,i9,bh⟩:=hrel;have ak:=Ou bh;have fs:=Ou i9;have h4:=Ou kf;have bc:=bh.len;clear i9 kf
    by_cases hD:d<c.code.length
    rotate_left
    .obtain rfl:d=c.code.length:=by omega
     have g:¬(c.code.length:Int)<(c.code.length:Int):=(by omega)
     have x:Hid ((s=K->pw p c i5 V=M cA)/\(s=F->cA=M V)):=by
      have d9:=ea fo;unfold pw at d9;rw[ea fs]at d9
      cases s with
      | true => exact ⟨λ_ => d9, λe => by cases e⟩
      | false => exact ⟨λe => (by cases e), λ_ => by cases d9; rfl⟩
     clear bh;go_wp2
     go_roundg i5
     case measure=>exact Nat.lt_succ_self _
     case rel=>exact ⟨s,V,eS,rfl,ea ak,x.out.1,x.out.2⟩
    have bc:(0:Int)<=(d:Int):=(by omega);have bc:(d:Int)<(c.code.length:Int):=(by omega);obtain⟨kx,k0,kD,kA,k1,kW,es,hP,hQ,gf,gc⟩:=bh.rows.at_ (i:=d) (by omega);obtain⟨hR,hF⟩:∃hR,hR=V.getD d U:=⟨_,rfl⟩;rw[<-hF]at es gf gc;have ha:=Ou hF;clear hF
    cases hR with
    | none =>
     dsimp only[Option.isSome]at es
     have x:Hid (me p c cc (d+1)=M (V,s)):=by
      show _=_
      unfold me;rw[ea fs,au];unfold rX;rw[<-ea ha]
     clear bh gf gc hP hQ;go_wp2
     go_roundg (c.code.length-(d+1))
     case measure=>have:=ea h4;omega
     case rel=>exact ⟨d+1,s,V,eS,by omega,rfl,rfl,by go_num,ea x,ea ak⟩
    | some T =>
    dsimp only[Option.isSome]at es;have cf:=gc T rfl;have hw:eY (sel (λd=>f.heap.size<=d/\d≠h) u) T (O kx k0 kD) (O kA k1 kW):=gf;have hp:ey c d=c.code[d]:=(by unfold ey;rw[ae hD];rfl);have er:ey c d∈c.code:=(by rw[hp];exact av _);obtain⟨gx,g0,g1⟩:=ea k6 d hD;rw[<-hp]at gx g0 g1;obtain⟨L,hx⟩:∃L,L=ey c d:=⟨_,rfl⟩;rw[<-hx]at gx g0 g1 er;have hg:=Ou hx;have ft:=Ou (aq es (aq hP hQ));have Q:=Ou (λd (c:Below u.heap.size u d)=>aq (((ak.out.below c).b0.cell 0)) (aq (((ak.out.below c).b1.cell 0)) (aq (((ak.out.below c).b1.cell 1)) (aq (((ak.out.below c).b1.cell 2)) (aq (((ak.out.below c).b1.cell 3)) (aq (((ak.out.below c).b1.cell 4)) (aq (((ak.out.below c).b1.cell 5)) (aq (((ak.out.below c).b1.cell 6)) (aq (Oq c _ _ ft.out.1) (aq (Oq c _ _ ft.out.2.1) (aq (Oq c _ _ ft.out.2.2) (aq (Oq ((ak.out.below c).bel) _ _ gx) (aq (Oq ((ak.out.below c).bel) _ _ g0) (Oq ((ak.out.below c).bel) _ _ g1))))))))))))));have mk:=bh.rows.blk.lt;clear hx hp gx g0 g1 gf gc hP hQ;go_upto_region 10 with fail
    go_cut [11,12] (λg d e=>(gB p c L T=U/\d=zB F/\Below f.heap.size f e)\/∃(r:ef) (d6:Nat) (z A:Om) (E C G D:Nat),gB p c L T=M r/\g=zP (M ⟨d6,0,U⟩)/\d=zB K/\nZ f e p c h (O a5 p.length a6) (O a8 c.args.length ba) (O (M ⟨ab,ad,U⟩) c.code.length a3) (O be c.frames.length bf) V eS/\qK e p c f.heap.size h d6 r (O z E C) (O A G D))
    case first=>
     clear es;refine fk (λn=>n.cell? ⟨f.heap.size,0,U⟩=M (O a5 p.length a6)/\n.cell? ⟨f.heap.size+1,0,U⟩=M (J I c.slot)/\n.cell? ⟨f.heap.size+1,1,U⟩=M (O a8 c.args.length ba)/\n.cell? ⟨f.heap.size+1,2,U⟩=M (J I c.ret)/\n.cell? ⟨f.heap.size+1,3,U⟩=M (J I c.locals)/\n.cell? ⟨f.heap.size+1,4,U⟩=M (J I c.stack)/\n.cell? ⟨f.heap.size+1,5,U⟩=M (O (M ⟨ab,ad,U⟩) c.code.length a3)/\n.cell? ⟨f.heap.size+1,6,U⟩=M (O be c.frames.length bf)/\n.cell? ⟨h,d*3,U⟩=M (zB K)/\n.cell? ⟨h,d*3+1,U⟩=M (O kx k0 kD)/\n.cell? ⟨h,d*3+2,U⟩=M (O kA k1 kW)/\n.cell? ⟨ab,ad+d*3,U⟩=M (J I L.op)/\n.cell? ⟨ab,ad+d*3+1,U⟩=M (J I L.a)/\n.cell? ⟨ab,ad+d*3+2,U⟩=M (J I L.b)) (Q.out _ ik) λhHeld=>?_;refine dZ 41 0 ?_;refine dZ 42 1 ?_;refine dZ 43 2 ?_;refine dZ 44 3 ?_;refine dZ 45 4 ?_;refine dZ 46 5 ?_;refine dZ 47 6 ?_;refine dZ 48 7 ?_;refine dZ 49 8 ?_;refine dZ 50 9 ?_;refine dZ 51 10 ?_;refine iu 11 15 (λa1 v=>?_) λa1 v=>?_
     .go_simp;refine(ea hf L T K _ _ u.drew (eA (Oq ik) (eA (Oq bh.bel) eP.out)) (Ot (Oq ik) (Ot (Oq bh.bel) f0.out)) (e2 _ er) (OU (Oq ik) (OU iR hw)) cf.1 cf.2.1 cf.2.2).mono ?_;rintro e y bs;have bk:u.drew.heap.size=u.heap.size:=rfl;obtain⟨bn,z,E,C,A,G,D,b7,rfl,ec,eg,w⟩:=bs.form;have N:Below u.heap.size u y:=⟨w.os,w.tape,w.output,w.size,w.block⟩;have Z:=N.size;have HS:=Ou (aq ec eg);clear bs w;go_wp2_with fail;refine v.out _ _ (Q.out _ N) λhHeld=>?_;refine dZ 40 12 ?_;refine dZ 53 13 ?_;refine dZ 54 14 ?_;refine el 15 (λa1 v=>?_);go_simp;have P:Below u.heap.size u (y.alloc (zC #[zB F,O U 0 0,O U 0 0] 149)):=N.alloc N.size _;have ao:=Oz y #[zB F,O U 0 0,O U 0 0] 149;refine v.out _ _ (Q.out _ P) λhHeld=>?_;obtain⟨an,ac⟩:∃s,s=y.heap.size:=⟨_,rfl⟩;have f3:u.heap.size<=an:=(by omega);rw[<-ac]at ao ⊢;have bz:Hid (∀x,gB p c L T=M x->eY (sel (λd=>(f.heap.size<=d/\d≠h)/\d≠an) (y.alloc (zC #[zB F,O U 0 0,O U 0 0] 149))) x (O z E C) (O A G D)):=λx e=>OU (fW (Ox (ev y _)) λd t d=>⟨λe=>by omega,⟨by have:=bh.bel.size;(try dsimp only at d);omega,by (try dsimp only at d);omega⟩,by omega⟩) (HS.out.1 x e).2.2;generalize y.alloc _=X at *;clear ac N Z hHeld bk;refine el 16 (λa1 v=>?_);refine kS ip ao 0 [zB bn,O z E C,O A G D] rfl (by simp) nM (.tmp 11) (.tmp 53) rfl rfl rfl ?_;intro a0 a4 Y ci;rw[fw (by rfl)]at a4;have ar:Below u.heap.size u a0:=P.trans (Y.below P.size (λd t e=>by omega));refine v.out _ _ (Q _ ar) λhHeld=>?_;try simp only[Act.put,aG]
      refine dZ 12 17 ?_;refine eV ?_;have o:=ak.below ar;have d9:Hid (∀x,gB p c L T=M x->eY (sel (λd=>f.heap.size<=d/\d≠h) a0) x (O z E C) (O A G D)):=λx e=>OU (fW Y λd t d=>⟨d.2,d.1⟩) (bz x e);clear hHeld Y ci ao bz P;go_wp2
      go_meet
      case rel=>
       cases g:gB p c L T with
       | none => exact .inl ⟨rfl, by rw[HS.out.2 g], o.bel⟩
       | some r =>
        obtain⟨q,aa,_⟩:=HS.1 r g;subst q aa;exact .inr ⟨r,an,z,A,E,C,G,D,rfl,rfl,rfl,o,a4,ea d9 r g,xx fn d5 (e2 _ er) cf g,by omega⟩
     .go_simp;have bk:=ev u.drew (zC #[zB F,O U 0 0,O U 0 0] 149);have Z:Below u.heap.size u (u.drew.alloc (zC #[zB F,O U 0 0,O U 0 0] 149)):=⟨bk.os,bk.tape,bk.output,bk.size,bk.block⟩;have f2:(u.drew.alloc (zC #[zB F,O U 0 0,O U 0 0] 149)).heap.size=u.heap.size+1:=(by simp);obtain⟨an,ac⟩:∃s,s=u.heap.size:=⟨_,rfl⟩;refine v.out _ _ (Q.out _ Z) λhHeld=>?_;refine el 11 (λa1 v=>?_);go_simp;refine(ea hf L T K _ _ _ (eA (Oq Z) (eA (Oq bh.bel) eP.out)) (Ot (Oq Z) (Ot (Oq bh.bel) f0.out)) (e2 _ er) (OU (Oq Z) (OU iR hw)) cf.1 cf.2.1 cf.2.2).mono ?_;rintro e X bs;obtain⟨bn,z,E,C,A,G,D,b7,rfl,ec,eg,w⟩:=bs.form;have N:Below (u.heap.size+1) (u.drew.alloc (zC #[zB F,O U 0 0,O U 0 0] 149)) X:=⟨w.os,w.tape,w.output,by have:=w.size;simpa using this,λbM e=>w.block bM (by simpa using e)⟩;have P:Below u.heap.size u X:=Z.trans (N.mono (by simp));have et:ed (u.drew.alloc (zC #[zB F,O U 0 0,O U 0 0] 149)) u.heap.size 149 [zB F,O U 0 0,O U 0 0]:=Oz u.drew #[zB F,O U 0 0,O U 0 0] 149;have ao:=et.below N (by omega);have HS:=Ou (aq ec eg);have bz:Hid (∀x,gB p c L T=M x->eY (sel (λd=>(f.heap.size<=d/\d≠h)/\d≠an) X) x (O z E C) (O A G D)):=λx e=>OU (fW (Ow (λ_=>False) X) λd t d=>⟨λe=>e,⟨by have:=bh.bel.size;(try dsimp only at d);omega,by (try dsimp only at d);omega⟩,by (try dsimp only at d);omega⟩) (HS.out.1 x e).2.2;clear bs w f2;go_wp2_with fail;refine v.out _ _ (Q.out _ P) λhHeld=>?_;refine dZ 40 12 ?_;refine dZ 53 13 ?_;refine dZ 54 14 ?_;have f3:u.heap.size<=an:=(by omega);rw[<-ac]at ao ⊢;clear ac N Z bk hHeld et;refine el 16 (λa1 v=>?_);refine kS ip ao 0 [zB bn,O z E C,O A G D] rfl (by simp) nM (.tmp 11) (.tmp 53) rfl rfl rfl ?_;intro a0 a4 Y ci;rw[fw (by rfl)]at a4;have ar:Below u.heap.size u a0:=P.trans (Y.below P.size (λd t e=>by omega));refine v.out _ _ (Q _ ar) λhHeld=>?_;try simp only[Act.put,aG]
      refine dZ 12 17 ?_;refine eV ?_;have o:=ak.below ar;have d9:Hid (∀x,gB p c L T=M x->eY (sel (λd=>f.heap.size<=d/\d≠h) a0) x (O z E C) (O A G D)):=λx e=>OU (fW Y λd t d=>⟨d.2,d.1⟩) (bz x e);clear hHeld Y ci ao bz P;go_wp2
      go_meet
      case rel=>
       cases g:gB p c L T with
       | none => exact .inl ⟨rfl, by rw[HS.out.2 g], o.bel⟩
       | some r =>
        obtain⟨q,aa,_⟩:=HS.1 r g;subst q aa;exact .inr ⟨r,an,z,A,E,C,G,D,rfl,rfl,rfl,o,a4,ea d9 r g,xx fn d5 (e2 _ er) cf g,by omega⟩
    case rest=>
     rename World=>dp
     clear es Q ft hw cf mk bh ak
     rcases hcut with ⟨ko,rfl,e0⟩ | ⟨r,d6,z,A,E,C,G,D,kr,rfl,rfl,ca,i0⟩
     .have v:Hid (cA=U):=yQ fo.out (show d+1<=c.code.length by omega) (by unfold me;rw[ea fs,au];unfold rX;rw[<-ea ha];dsimp only;rw[<-ea hg,ko];rfl);clear ko;go_wp2
      go_ret2
      exact⟨λ_=>rfl,λc e=>(by rw[ea v]at e;cases e),e0⟩
     obtain⟨q,e1⟩:∃q,q=jF L d:=⟨_,rfl⟩
     have g4:Hid (me p c cc (d+1)=jN p c.code.length r q (V,s)):=by
      show _=_
      unfold me;rw[ea fs,au];unfold rX;rw[<-ea ha];dsimp only;rw[<-ea hg,kr,au,e1]
     have hH:dp.cell? ⟨f.heap.size+1,0,U⟩=M (J I c.slot):=ca.b1.cell 0;have hI:dp.cell? ⟨f.heap.size+1,1,U⟩=M (O a8 c.args.length ba):=ca.b1.cell 1;have hJ:dp.cell? ⟨f.heap.size+1,2,U⟩=M (J I c.ret):=ca.b1.cell 2;have hK:dp.cell? ⟨f.heap.size+1,3,U⟩=M (J I c.locals):=ca.b1.cell 3;have hL:dp.cell? ⟨f.heap.size+1,4,U⟩=M (J I c.stack):=ca.b1.cell 4;have hM:dp.cell? ⟨f.heap.size+1,5,U⟩=M (O (M ⟨ab,ad,U⟩) c.code.length a3):=ca.b1.cell 5;have hN:dp.cell? ⟨f.heap.size+1,6,U⟩=M (O be c.frames.length bf):=ca.b1.cell 6;have d3:=Ou ca;have ij:=Ou i0;have kp:∀bo∈q,0<=bo:=λbo ej=>IW (e2 _ er) (by rw[<-e1];exact ej);have lm:=Ou kp;clear kr ca i0 kp;go_wp2_with fail;refine(ea h5 d dp (Ot (Oq d3.out.bel) f0.out) hD).mono ?_;rintro e i4 ⟨e5,rfl,hu,ar⟩;rw[<-ea hg,<-e1]at hu;obtain⟨u,b5,b6,u,rfl,_,kl,kn⟩:=C9 hu;have h6:=Ou (d3.out.below ar);have is:=Ou (ij.out.below ar);have h9:Hid (∀(g:Nat) (ei:g<q.length),sel (λd=>d≠h) i4 ⟨b5,b6+g,U⟩=M (J I q[g])):=λg ei=>fW (Ow (λ_=>False) i4) (λd t d=>⟨λe=>e,by have:=d3.out.rows.blk.lt;(try dsimp only at d);omega⟩) _ _ (kn g ei);have u:q.length<=2:=by rw[e1];unfold jF;cases gJ L <;> cases gz L <;> simp
     have lg:=Ou kl;clear hH hI hJ hK hL hM hN hu kn kl e1 ar d3 ij;go_wp2
     go_loopg [9,14] q.length (λl e bM X=>∃(g:Nat) (br:Bool) (a2:List (Option ef)) (f6:Oj),g<=q.length/\l=q.length-g/\e=zB br/\bM=J I g/\jN p c.code.length r (q.take g) (V,s)=M (a2,br)/\nZ f X p c h (O a5 p.length a6) (O a8 c.args.length ba) (O (M ⟨ab,ad,U⟩) c.code.length a3) (O be c.frames.length bf) a2 f6/\qK X p c f.heap.size h d6 r (O z E C) (O A G D)/\∀(g:Nat) (ei:g<q.length),sel (λd=>d≠h) X ⟨b5,b6+g,U⟩=M (J I q[g]))
     case atStart=>exact ⟨0,s,V,_,az _,rfl,rfl,rfl,rfl,ea h6,ea is,ea h9⟩
     case round=>
      clear h6 is h9
      rename World=>o
      obtain⟨g,br,a2,f6,ei,ke,rfl,rfl,ki,cb,eR,eo⟩:=hrel;have en:=Ou cb;have b9:=Ou eR;have ia:=Ou eo;have h3:=Ou ke;have iF:=Ou ki;have gp:=cb.len;clear ke ki
      by_cases ep:g<q.length
      rotate_left
      .obtain rfl:g=q.length:=by omega
       have u:¬(q.length:Int)<(q.length:Int):=(by omega)
       have x:Hid (me p c cc (d+1)=M (a2,br)):=by
        show _=_
        rw[ea g4,<-ea iF,bG]
       clear cb eR eo;go_wp2
       go_roundg (c.code.length-(d+1))
       case measure=>have:=ea h4;omega
       case rel=>exact ⟨d+1,br,a2,f6,by omega,rfl,rfl,by go_num,ea x,ea en⟩
      obtain rfl:=ea lg (eW ep);have u:(0:Int)<=(g:Int):=(by omega);have u:(g:Int)<(q.length:Int):=(by omega);have d2:=(iw (eo g ep)).2;obtain⟨bo,ej⟩:∃bo,bo=q[g]:=⟨_,rfl⟩
      have iJ:Hid (jN p c.code.length r (q.take (g+1)) (V,s)=if (c.code.length:Int)<=bo then U else od p r bo.toNat (a2,br)):=by
       show _=_
       rw[bd,ae ep,<-ej]
       show jN p c.code.length r (q.take g++ [bo]) (V,s)=_
       rw[Gi,ea iF,au]
      have m1:0<=bo:=ea lm bo (by rw[ej];exact av ep);rw[<-ej]at d2;have g9:Hid (sel (λd=>d≠h) o ⟨b5,b6+g,U⟩=M (J I bo)):=(by rw[ej];exact eo g ep);clear ej
      by_cases kw:(c.code.length:Int)<=bo
      .have v:Hid (cA=U):=yQ fo.out (show d+1<=c.code.length by omega) (by rw[ea g4];exact Bt (j:=g+1) (by rw[ea iJ,am kw]));have e0:=cb.bel;clear cb eR eo;go_wp2
       go_ret2
       exact⟨λ_=>rfl,λc e=>(by rw[ea v]at e;cases e),e0⟩
      obtain⟨R,rfl⟩:=ax m1;have hc:Hid (jN p c.code.length r (q.take (g+1)) (V,s)=od p r R (a2,br)):=(by show _=_;rw[ea iJ,af kw,aK]);have u:(R:Int)<(c.code.length:Int):=(by omega);obtain⟨hT,hX,hV,hU,hY,hW,d1,e3,e4,cg,ds⟩:=cb.rows.at_ (i:=R) (by omega);obtain⟨H,hE⟩:∃H,H=a2.getD R U:=⟨_,rfl⟩;rw[<-hE]at d1 cg ds;have d4:=Ou hE;have Q:=Ou (λd (c:Below o.heap.size o d)=>aq (((en.out.below c).b0.cell 0)) (aq (Oq c _ _ (iw g9.out).2) (aq (Oq c _ _ d1) (aq (Oq c _ _ e3) (aq (Oq c _ _ e4) (aq ((b9.out.below c).blk.cell 0) (aq ((b9.out.below c).blk.cell 1) ((b9.out.below c).blk.cell 2))))))));have mm:=cb.rows.blk.lt;have l5:=cb.bel.size;have u:=d5.loc;have u:=d5.stk;have gs:=eR.ok
      have ck:(jc H).loc.length<=8/\(jc H).stk.length<=8/\(H.isSome=K->(jc H).loc.length=r.loc.length)/\gO p (jc H):=by
       cases H with
       | none => exact ⟨by simp[jc], by simp[jc], λe => (by cases e), λL hx => (by cases hx), λL hx => (by cases hx)⟩
       | some v =>
        obtain⟨w,u,u⟩:=ds v rfl;have aa:=gs.2.1;exact⟨by show v.loc.length<=8;omega,by show v.stk.length<=8;omega,λ_=>by show v.loc.length=_;omega,w⟩
      have lB:=Ou cg;have lv:=Ou ds;clear hE d1 e3 e4 ds cb eR eo;go_upto_region 19 with fail
      go_cut [15,16] (λc g e=>∃(aa:Nat) (bn:Bool) (cm cn:Om) (cu cp cz cs:Nat) (b7:Bool),c=zP (M ⟨aa,0,U⟩)/\g=zB b7/\ed e aa 149 [zB bn,O cm cu cp,O cn cz cs]/\(∀l,lZ p H r=M l->bn=K/\b7=K/\eY (sel (λd=>f.heap.size<=d/\d≠h) e) l (O cm cu cp) (O cn cz cs))/\(lZ p H r=U->b7=F)/\h<aa/\Below o.heap.size o e)
      case first=>
       clear d2;refine fk (λn=>n.cell? ⟨f.heap.size,0,U⟩=M (O a5 p.length a6)/\n.cell? ⟨b5,b6+g,U⟩=M (J I R)/\n.cell? ⟨h,R*3,U⟩=M (zB H.isSome)/\n.cell? ⟨h,R*3+1,U⟩=M (O hT hX hV)/\n.cell? ⟨h,R*3+2,U⟩=M (O hU hY hW)/\n.cell? ⟨d6,0,U⟩=M (zB K)/\n.cell? ⟨d6,1,U⟩=M (O z E C)/\n.cell? ⟨d6,2,U⟩=M (O A G D)) (Q.out _ ik) λhHeld=>?_;refine dZ 74 0 ?_;refine dZ 75 1 ?_;refine dZ 76 2 ?_;refine dZ 77 3 ?_;refine dZ 78 4 ?_;refine dZ 79 5 ?_;refine dZ 80 6 ?_;refine dZ 81 7 ?_;refine dZ 82 8 ?_;refine iu 9 13 (λa1 v=>?_) λa1 v=>?_
       .go_simp;refine(ea h8 (jc H) r H.isSome K _ _ _ _ o.drew (eA (Oq ik) (eA (Oq en.out.bel) eP.out)) (OU (Oq ik) (OU iR cg)) (OU (Oq ik) (OU iR b9.out.st)) ck.2.2.2 gs.1 ck.1 ck.2.1 ck.2.2.1).mono ?_;rintro e y bs;have bk:o.drew.heap.size=o.heap.size:=rfl;obtain⟨bn,z,E,C,A,G,D,b7,rfl,ec,eg,w⟩:=us.form (S:=λd=>f.heap.size<=d/\d≠h) bs (OU (fW (Ox ik) λd t d=>⟨λe=>by omega,d⟩) b9.out.st) (λd t=>⟨by omega,by omega⟩);have N:Below o.heap.size o y:=⟨w.os,w.tape,w.output,w.size,w.block⟩;have Z:=N.size;have HS:=Ou (aq ec eg);clear bs w;go_wp2_with fail;refine v.out _ _ (Q.out _ N) λhHeld=>?_;refine dZ 73 10 ?_;refine dZ 84 11 ?_;refine dZ 85 12 ?_;refine el 13 (λa1 v=>?_);go_simp;have P:Below o.heap.size o (y.alloc (zC #[zB F,O U 0 0,O U 0 0] 149)):=N.alloc N.size _;have ao:=Oz y #[zB F,O U 0 0,O U 0 0] 149;refine v.out _ _ (Q.out _ P) λhHeld=>?_;obtain⟨an,ac⟩:∃s,s=y.heap.size:=⟨_,rfl⟩;have f3:o.heap.size<=an:=(by omega);rw[<-ac]at ao ⊢;have bz:Hid (∀l,lZ p H r=M l->eY (sel (λd=>(f.heap.size<=d/\d≠h)/\d≠an) (y.alloc (zC #[zB F,O U 0 0,O U 0 0] 149))) l (O z E C) (O A G D)):=λx e=>OU (fW (Ox (ev y _)) λd t d=>⟨λe=>by omega,d,by omega⟩) (HS.out.1 x e).2.2;generalize y.alloc _=X at *;clear ac N Z hHeld bk;refine el 14 (λa1 v=>?_);refine kS ip ao 0 [zB bn,O z E C,O A G D] rfl (by simp) nM (.tmp 15) (.tmp 84) rfl rfl rfl ?_;intro a0 a4 Y ci;rw[fw (by rfl)]at a4;have ar:Below o.heap.size o a0:=P.trans (Y.below P.size (λd t e=>by omega));refine v.out _ _ (Q _ ar) λhHeld=>?_;try simp only[Act.put,aG]
        refine dZ 16 15 ?_;refine eV ?_;have d9:Hid (∀l,lZ p H r=M l->eY (sel (λd=>f.heap.size<=d/\d≠h) a0) l (O z E C) (O A G D)):=λx e=>OU (fW Y λd t d=>⟨d.2,d.1⟩) (bz x e);clear hHeld Y ci ao bz P;go_wp2
        go_meet
        case rel=>exact ⟨an,bn,z,A,E,C,G,D,b7,rfl,rfl,a4,λl e=>⟨(HS.1 l e).1,(HS.1 l e).2.1,ea d9 l e⟩,HS.2,by omega,ar⟩
       .go_simp;have bk:=ev o.drew (zC #[zB F,O U 0 0,O U 0 0] 149);have Z:Below o.heap.size o (o.drew.alloc (zC #[zB F,O U 0 0,O U 0 0] 149)):=⟨bk.os,bk.tape,bk.output,bk.size,bk.block⟩;have f2:(o.drew.alloc (zC #[zB F,O U 0 0,O U 0 0] 149)).heap.size=o.heap.size+1:=(by simp);obtain⟨an,ac⟩:∃s,s=o.heap.size:=⟨_,rfl⟩;refine v.out _ _ (Q.out _ Z) λhHeld=>?_;refine el 9 (λa1 v=>?_);go_simp;refine(ea h8 (jc H) r H.isSome K _ _ _ _ _ (eA (Oq Z) (eA (Oq en.out.bel) eP.out)) (OU (Oq Z) (OU iR cg)) (OU (Oq Z) (OU iR b9.out.st)) ck.2.2.2 gs.1 ck.1 ck.2.1 ck.2.2.1).mono ?_;rintro e X bs;obtain⟨bn,z,E,C,A,G,D,b7,rfl,ec,eg,w⟩:=us.form (S:=λd=>(f.heap.size<=d/\d≠h)/\d≠an) bs (OU (fW (Ox Z) λd t d=>⟨λe=>by omega,d,by omega⟩) b9.out.st) (λd t=>by rw[f2]at t;exact⟨⟨by omega,by omega⟩,by omega⟩);have N:Below (o.heap.size+1) (o.drew.alloc (zC #[zB F,O U 0 0,O U 0 0] 149)) X:=⟨w.os,w.tape,w.output,by have:=w.size;simpa using this,λbM e=>w.block bM (by simpa using e)⟩;have P:Below o.heap.size o X:=Z.trans (N.mono (by simp));have et:ed (o.drew.alloc (zC #[zB F,O U 0 0,O U 0 0] 149)) o.heap.size 149 [zB F,O U 0 0,O U 0 0]:=Oz o.drew #[zB F,O U 0 0,O U 0 0] 149;have ao:=et.below N (by omega);have HS:=Ou (aq ec eg);have bz:Hid (∀l,lZ p H r=M l->eY (sel (λd=>(f.heap.size<=d/\d≠h)/\d≠an) X) l (O z E C) (O A G D)):=λx e=>(HS.out.1 x e).2.2;clear bs w f2;go_wp2_with fail;refine v.out _ _ (Q.out _ P) λhHeld=>?_;refine dZ 73 10 ?_;refine dZ 84 11 ?_;refine dZ 85 12 ?_;have f3:o.heap.size<=an:=(by omega);rw[<-ac]at ao ⊢;clear ac N Z bk hHeld et;refine el 14 (λa1 v=>?_);refine kS ip ao 0 [zB bn,O z E C,O A G D] rfl (by simp) nM (.tmp 15) (.tmp 84) rfl rfl rfl ?_;intro a0 a4 Y ci;rw[fw (by rfl)]at a4;have ar:Below o.heap.size o a0:=P.trans (Y.below P.size (λd t e=>by omega));refine v.out _ _ (Q _ ar) λhHeld=>?_;try simp only[Act.put,aG]
        refine dZ 16 15 ?_;refine eV ?_;have d9:Hid (∀l,lZ p H r=M l->eY (sel (λd=>f.heap.size<=d/\d≠h) a0) l (O z E C) (O A G D)):=λx e=>OU (fW Y λd t d=>⟨d.2,d.1⟩) (bz x e);clear hHeld Y ci ao bz P;go_wp2
        go_meet
        case rel=>exact ⟨an,bn,z,A,E,C,G,D,b7,rfl,rfl,a4,λl e=>⟨(HS.1 l e).1,(HS.1 l e).2.1,ea d9 l e⟩,HS.2,by omega,ar⟩
      case rest=>
       rename World=>w
       obtain⟨aa,bn,cm,cn,cu,cp,cz,cs,b7,rfl,rfl,bk,hq,hr,o,ac⟩:=hcut;have Z:=en.out.below ac;have f3:=b9.out.below ac;have ib:Hid (∀(g:Nat) (ei:g<q.length),sel (λd=>d≠h) w ⟨b5,b6+g,U⟩=M (J I q[g])):=λo n=>fW (Ox ac) (λd t d=>⟨λe=>by omega,d⟩) _ _ (ea ia o n);have ih:Hid (sel (λd=>d≠h) w ⟨b5,b6+g,U⟩=M (J I R)):=fW (Ox ac) (λd t d=>⟨λe=>by omega,d⟩) _ _ g9.out;clear d2 Q lB lv en b9 ia g9 ac ck cg mm l5
       cases bz:lZ p H r with
       | none =>
        have v:Hid (cA=U):=yQ fo.out (show d+1<=c.code.length by omega) (by rw[ea g4];exact Bt (j:=g+1) (by rw[ea hc,Bu,<-ea d4,bz];rfl));obtain rfl:=hr bz;have e0:=Z.bel;clear bz hq hr Z f3;go_wp2
        go_ret2
        exact⟨λ_=>rfl,λc e=>(by rw[ea v]at e;cases e),e0⟩
       | some l =>
       obtain⟨rfl,rfl,kd⟩:=hq l bz;have g3:Hid (od p r R (a2,br)=if ux p H l then M (a2,br) else M (a2.set R (M l),K)):=(by show _=_;rw[Bu,<-ea d4,bz,au]);have gn:kq p c l:=Gh (λT e=>(by obtain⟨_,_,_,_,_,_,_,_,_,_,d9⟩:=Z.rows.at_ (i:=R) (by omega);exact d9 T (by rw[<-ea d4];exact e))) gs bz;obtain⟨hT,hX,hV,hU,hY,hW,d1,e3,e4,cg,ds⟩:=Z.rows.at_ (i:=R) (by omega);rw[<-ea d4]at d1 cg ds;have d2:=(iw ih.out).2;have f9:w.cell? ⟨aa,0,U⟩=M (zB K):=bk.cell 0;have ga:w.cell? ⟨aa,1,U⟩=M (O cm cu cp):=bk.cell 1;have gb:w.cell? ⟨aa,2,U⟩=M (O cn cz cs):=bk.cell 2;have m4:w.cell? ⟨f.heap.size,0,U⟩=M (O a5 p.length a6):=Z.b0.cell 0;have Q:=Ou (λd (c:Below w.heap.size w d)=>aq ((Z.below c).b0.cell 0) (aq (Oq c _ _ d2) (aq ((bk.bl c).cell 0) (aq ((bk.bl c).cell 1) (aq ((bk.bl c).cell 2) (aq (Oq c _ _ d1) (aq (Oq c _ _ e3) (Oq c _ _ e4))))))));have k9:=Ou Z;have lp:=Ou f3;have g2:=Ou bk;have g5:=Ou kd;have k7:=Ou gn;clear bz hq hr e3 e4 f9 ga gb m4 kd bk;go_upto_if 96 with fail
       go_cut [17] (λc e=>c=zB (ux p H l)/\Below w.heap.size w e)
       case first=>
        cases H with
        | none =>
         dsimp only[Option.isSome]at *;go_wp2
         go_meet
         case rel=>exact ⟨rfl,ay _ _⟩
        | some t3 =>
         dsimp only[Option.isSome]at *;clear d2 d1;have a0:=ds t3 rfl;go_upto_region 24 with fail
         refine fk (λn=>n.cell? ⟨f.heap.size,0,U⟩=M (O a5 p.length a6)/\n.cell? ⟨b5,b6+g,U⟩=M (J I R)/\n.cell? ⟨aa,0,U⟩=M (zB K)/\n.cell? ⟨aa,1,U⟩=M (O cm cu cp)/\n.cell? ⟨aa,2,U⟩=M (O cn cz cs)/\n.cell? ⟨h,R*3,U⟩=M (zB K)/\n.cell? ⟨h,R*3+1,U⟩=M (O hT hX hV)/\n.cell? ⟨h,R*3+2,U⟩=M (O hU hY hW)) (Q.out _ ik) λhHeld=>?_;refine dZ 97 0 ?_;refine dZ 98 1 ?_;refine dZ 99 2 ?_;refine dZ 100 3 ?_;refine dZ 101 4 ?_;refine dZ 102 5 ?_;refine dZ 103 6 ?_;refine dZ 104 7 ?_;refine dZ 105 8 ?_;refine el 9 (λa1 v=>?_);go_simp;refine(ea lE l t3 K K _ _ _ _ w.drew (eA (Oq ik) (eA (Oq Z.bel) eP.out)) (OU (Oq ik) (OU iR g5.out)) (OU (Oq ik) (OU iR cg)) gn.1 a0.1 (by have:=gn.2.1;omega) (by have:=gn.2.2;omega)).mono ?_;rintro e a4 ⟨rfl,x⟩;have an:Below w.heap.size w a4:=⟨x.os,x.tape,x.output,x.size,x.block⟩;obtain⟨o,Y⟩:∃o,o=iH p l t3:=⟨_,rfl⟩;rw[<-Y];have ao:=Ou Y;clear x Y;go_wp2_with fail;refine v.out _ _ (Q.out _ an) λhHeld=>?_;refine dZ 17 10 ?_;refine eV ?_;go_wp2
         go_meet
         case rel=>exact ⟨by rw[ea ao];rfl,an⟩
       case rest=>
        rename World=>an
        obtain⟨rfl,bs⟩:=hcut;have f2:=Z.below bs;have i2:=f3.below bs;have g8:Hid (∀(g:Nat) (ei:g<q.length),sel (λd=>d≠h) an ⟨b5,b6+g,U⟩=M (J I q[g])):=λo n=>fW (Ox bs) (λd t d=>⟨λe=>by omega,d⟩) _ _ (ea ib o n);have hZ:=Oq bs _ _ d2;have ao:=g2.out.below bs g2.out.lt;have j0:eY (sel (λd=>f.heap.size<=d/\d≠h) an) l (O cm cu cp) (O cn cz cs):=OU (fW (Ox bs) λd t d=>⟨λe=>by omega,d⟩) g5.out;have j2:=f2.rows.blk;have ka:=f2.rows.len;have f9:an.cell? ⟨aa,0,U⟩=M (zB K):=ao.cell 0;have ga:an.cell? ⟨aa,1,U⟩=M (O cm cu cp):=ao.cell 1;have gb:an.cell? ⟨aa,2,U⟩=M (O cn cz cs):=ao.cell 2;have et:=Ou (λd (c:Below an.heap.size an d)=>aq (Oq c _ _ hZ) (aq ((ao.bl c).cell 0) (aq ((ao.bl c).cell 1) ((ao.bl c).cell 2))));have h7:=Ou f2;have iC:=Ou i2;have lq:=Ou j0;clear Q d1 cg ds d2 Z f3 k9 lp g2 g5 ib ih bs f2 i2 j0;obtain⟨hS,ks⟩:∃hS,hS=ux p H l:=⟨_,rfl⟩;rw[<-ks]at g3 ⊢;clear ks
        cases hS with
        | true =>
         have x:Hid (jN p c.code.length r (q.take (g+1)) (V,s)=M (a2,br)):=(by show _=_;rw[ea hc,ea g3];rfl);clear hZ f9 ga gb ao et;go_wp2
         go_roundg (q.length-(g+1))
         case measure=>have:=ea h3;omega
         case rel=>exact ⟨g+1,br,a2,f6,by omega,rfl,rfl,by go_num,ea x,ea h7,ea iC,ea g8⟩
        | false =>
         have x:Hid (jN p c.code.length r (q.take (g+1)) (V,s)=M (a2.set R (M l),K)):=(by show _=_;rw[ea hc,ea g3];rfl);clear hZ f9 ga gb;go_upto_region 26 with fail
         refine fk (λn=>n.cell? ⟨b5,b6+g,U⟩=M (J I R)/\n.cell? ⟨aa,0,U⟩=M (zB K)/\n.cell? ⟨aa,1,U⟩=M (O cm cu cp)/\n.cell? ⟨aa,2,U⟩=M (O cn cz cs)) (et.out _ ik) λhHeld=>?_;refine dZ 109 0 ?_;refine dZ 110 1 ?_;refine dZ 111 2 ?_;refine dZ 112 3 ?_;refine dZ 113 4 ?_;refine dZ 114 5 ?_;refine dZ 115 6 ?_;refine el 7 (λa1 v=>?_);refine kS ip j2.drew (R*3) [zB K,O cm cu cp,O cn cz cs] rfl (by rw[ka];omega) nM (.tmp 115) (.tmp 114) rfl (by go_simp) rfl ?_;intro a0 a4 Y ci;have ec:ee (λd=>d=h) an a0:=((Ow _ an).drew).trans Y (λ_ _ e=>e);have mr:b5≠h:=(iw (ea g8 g ep)).1;have eg:∀ce e5,ce.block≠h->an.cell? ce=M e5->a0.cell? ce=M e5:=λce e5 c e=>(iw (fW (S:=λd=>d≠h) (S':=λd=>d≠h) ec (λd _ t=>⟨t,t⟩) ce e5 (by rw[pI c];exact e))).2;have hB:aa≠h:=(by omega);obtain⟨k2,k3,k4,k5⟩:=et.out _ (ay _ _);refine v.out _ _ ⟨eg _ _ mr k2,eg _ _ hB k3,eg _ _ hB k4,eg _ _ hB k5⟩ λhHeld=>?_;clear v a1 k2 k3 k4 k5;try simp only[Act.put,aG]
         refine eV ?_;have iS:=h7.out.set (k:=R) (by omega) ec a4 lq.out k7.out;have i1:=iC.out.mods ec;have lc:Hid (∀(g:Nat) (ei:g<q.length),sel (λd=>d≠h) a0 ⟨b5,b6+g,U⟩=M (J I q[g])):=λo n=>fW ec (λd _ t=>⟨t,t⟩) _ _ (ea g8 o n);have k8:=Ou iS;have ln:=Ou i1;clear iS i1 eg a4 Y ec ci hHeld et j2 ka ao;go_wp2
         go_roundg (q.length-(g+1))
         case measure=>have:=ea h3;omega
         case rel=>exact ⟨g+1,K,_,_,by omega,rfl,rfl,by go_num,ea x,ea k8,ea ln,ea lc⟩
theorem rK.add{a b d k j}(q:rK a b d k j)(B:Below a.heap.size a b)(E:j.length<=40){x g h}(m:eG 1 (gy (sel (λc=>d<=c) a)) g x.locals)(n:eG 1 (gy (sel (λc=>d<=c) a)) h x.stack)(i)(v:b.heap.size=i):
  ∃e p f l,(Builtin.append_ #[36,36] 36 #[k,O (M ⟨i,0,U⟩) 1 1]).run Tryz.prog (b.alloc (zC #[J I x.pc,g,h] 42))= .ok (O e p f) l/\rK a l d (O e p f) (j++ [x])/\ee (λc=>k.ownBlock=M c) b l:=by
 obtain⟨C,r,s,t,u⟩:=info_parts Jk;obtain⟨c,y,z⟩:=q
 obtain⟨c,D,A,o,w,_⟩:=iN (P:=Tryz.prog) (W:=b) 36 36 42 C _ 3 56 Tryz.underlying36 r s t u rfl (by decide) a.heap.size _ _ _ y #[J I x.pc,g,h] rfl
  (λb a=>by
    simp only[aE,aF,or_false]at a
    rcases a with rfl | rfl | rfl
    .rfl
    .exact pL m
    .exact pL n) i v (by unfold maxLen;omega) (by omega) B.size
 obtain⟨e,f,rfl⟩:=fd o;exact⟨e,_,f,D,A,⟨_,by simpa using o,z.snoc ⟨g,h,rfl,m,n⟩ rfl⟩,w⟩
theorem CH(c b d):∀a,(jh c b d a).length<=a
 | 0 => ai _
 | a + 1 => by
  unfold jh;rw[aw];have:=CH c b d a
  split <;> simp <;> omega
structure sT (w V:World)(m:eh)(B:Nat)(mc:Oj)(v:Value)(l:List fT):Prop where
 bel:Below w.heap.size w V
 bm:ed V w.heap.size 63 mc
 fr:rK w V B v l
theorem sT.add{g j o c p q l}(a:sT g j o c p q l)(z:l.length<=40){x r s}(t:eG 1 (gy (sel (λb=>c<=b) g)) r x.locals)(u:eG 1 (gy (sel (λb=>c<=b) g)) s x.stack)(i)(w:j.heap.size=i):
  ∃d f e h,(Builtin.append_ #[36,36] 36 #[q,O (M ⟨i,0,U⟩) 1 1]).run Tryz.prog (j.alloc (zC #[J I x.pc,r,s] 42))= .ok (O d f e) h/\sT g h o c p (O d f e) (l++ [x]):=by
 obtain⟨d,f,e,h,y,v,m⟩:=a.fr.add a.bel z t u i w;obtain⟨c,n,_⟩:=a.fr;refine⟨d,f,e,h,y,a.bel.trans (m.below a.bel.size (λb a k=>by have:=(n.lt b k).1;omega)),a.bm.mods m (λk=>?_),v⟩;obtain⟨b,b⟩:=j8 n k;exact absurd (b.uniq a.bm) (by decide)
theorem Mh(p b a8 ba bc g d bs o N h)(ab:fK h.cell? b a8 ba bc)(a0:mV h p b o N d bs)(cf:d.length=b.code.length)(cc:b.code.length<=40)(ce:o<=h.heap.size):
  Calls Tryz.prog 53 #[fB b a8 ba bc,O (M ⟨N,0,U⟩) b.code.length b.code.length,zB g] h λH P=>FD o (jh b d g b.code.length) h P H:=by
 unfold fB;obtain⟨R,_,_,S,rfl,_⟩:=ab.1;obtain⟨T,a8,a8,V,rfl,_,bM,b5⟩:=eN ab.2.1;obtain⟨Z,_,_,aa,rfl,_⟩:=ab.2.2;have bf:=Ou b5;have be:=Ou bM;have bh:Hid (sT h (h.alloc (zC #[J I b.slot,O R b.args.length S,J I b.ret,J I b.locals,J I b.stack,O T b.code.length V,O Z b.frames.length aa] 63)) b o [J I b.slot,O R b.args.length S,J I b.ret,J I b.locals,J I b.stack,O T b.code.length V,O Z b.frames.length aa] (O U 0 0) (jh b d g 0)):=⟨ev h _,Oz h _ _,[],World.ownsRow_nil _ _ _ _,lA.nil⟩;go_in
 go_wp2_with fail;generalize h.alloc _=W at *
 go_loopg [7,8] b.code.length (λf e k j=>∃c:Nat,c<=b.code.length/\f=b.code.length-c/\k=J I c/\sT h j b o [J I b.slot,O R b.args.length S,J I b.ret,J I b.locals,J I b.stack,O T b.code.length V,O Z b.frames.length aa] e (jh b d g c))
 case atStart=>exact ⟨0,az _,rfl,rfl,ea bh⟩
 case round=>
  rename World=>br
  rename Value=>R
  obtain⟨c,a5,b6,rfl,A⟩:=hrel;have Q:=Ou b6;obtain⟨R,ar,bz⟩:=A.fr;obtain⟨R,R,a6⟩:=fd ar;obtain⟨R,a2⟩:∃R,R=(jh b d g c).length:=⟨_,rfl⟩;rw[<-a2]at a6;subst a6;clear ar bz a2;have l:=Ou A
  by_cases b7:c<b.code.length
  rotate_left
  .obtain rfl:c=b.code.length:=by omega
   have b8:¬(b.code.length:Int)<(b.code.length:Int):=(by omega);clear A;go_wp2;go_ret;obtain⟨m,e,j⟩:=l.fr;exact⟨_,rfl,Lh e (j.mono λf t b=>sS.keep (fW (Ox l.bel) λc a5 k=>⟨λH=>by omega,k⟩) b) (λf b=>by have:=(e.lt f b).1;omega),l.bel⟩
  obtain rfl:=ea be (eW b7);have:=fp c;have:(c:Int)<(b.code.length:Int):=by omega
  have:=A.bm.c5;have u:=A.bel;go_wp2
  go_loopg [9,10] b.code.length (λf h k j=>∃(e:Nat) (s:Bool),e<=b.code.length/\f=b.code.length-e/\h=zB s/\k=J I e/\s=(!g || ni b d c e)/\j=br)
  case atStart=>exact ⟨0,_,az _,rfl,rfl,rfl,by show _=(!g || false);simp,rfl⟩
  case round=>
   obtain⟨e,s,A,a3,rfl,rfl,a1,rfl⟩:=hrel
   rename World=>n
   have r:=Ou a3;have m:=Ou a1;clear a3 a1
   by_cases a4:e<b.code.length
   rotate_left
   .obtain rfl:e=b.code.length:=by omega
    have b8:¬(b.code.length:Int)<(b.code.length:Int):=(by omega);obtain⟨v,B,t,w,C,y,D,L,X,k,_⟩:=a0.at_ (i:=c) (by omega);have E:=Oq u _ _ D;have an:=Oq u _ _ L;have ao:=Oq u _ _ X;obtain⟨Y,G⟩:∃Y,Y=d.getD c U:=⟨_,rfl⟩;rw[<-G]at E k;have ad:=Ou G;clear G D
    cases s with
    | false =>
     have q:Hid (((!g || ni b d c b.code.length) && (d.getD c U).isSome)=F):=(by show _=_;rw[<-ea m];rfl);clear E an ao L X;have f:jh b d g (c+1)=jh b d g c++(if (!g || ni b d c b.code.length) && (d.getD c U).isSome then [⟨(c:Int),((d.getD c U).getD ⟨[],[]⟩).loc,((d.getD c U).getD ⟨[],[]⟩).stk⟩] else []):=rfl;have j:Hid (jh b d g (c+1)=jh b d g c):=(by show _=_;rw[f,ea q];simp);clear f;rw[<-ea j]at l;go_wp2
     go_roundg (b.code.length-(c+1))
     case measure=>have:=ea Q;omega
     case rel=>exact ⟨c+1,by omega,rfl,by go_num,ea l⟩
    | true =>
     cases Y with
     | none =>
      dsimp only[Option.isSome]at E;have q:Hid (((!g || ni b d c b.code.length) && (d.getD c U).isSome)=F):=(by show _=_;rw[<-ea ad];simp);have f:jh b d g (c+1)=jh b d g c++(if (!g || ni b d c b.code.length) && (d.getD c U).isSome then [⟨(c:Int),((d.getD c U).getD ⟨[],[]⟩).loc,((d.getD c U).getD ⟨[],[]⟩).stk⟩] else []):=rfl;have j:Hid (jh b d g (c+1)=jh b d g c):=(by show _=_;rw[f,ea q];simp);clear f;rw[<-ea j]at l;go_wp2
      go_roundg (b.code.length-(c+1))
      case measure=>have:=ea Q;omega
      case rel=>exact ⟨c+1,by omega,rfl,by go_num,ea l⟩
     | some q =>
      dsimp only[Option.isSome]at E
      have j:Hid (jh b d g (c+1)=jh b d g c++ [⟨(c:Int),q.loc,q.stk⟩]):=by
       show _=_
       have f:jh b d g (c+1)=jh b d g c++(if (!g || ni b d c b.code.length) && (d.getD c U).isSome then [⟨(c:Int),((d.getD c U).getD ⟨[],[]⟩).loc,((d.getD c U).getD ⟨[],[]⟩).stk⟩] else []):=rfl;rw[f,<-ea m,<-ea ad]
       rfl
      have ak:eY (sel (λc=>o<=c) h) q (O v B t) (O w C y):=OU (fW (Ow (λ_=>False) h) λc a5 k=>⟨λH=>H,k.1⟩) k;have ac:=Ou (λc (b:Below n.heap.size n c)=>aq (Oq b _ _ an) (Oq b _ _ ao));have bn:sT h n.drew b o _ _ _:=⟨l.bel.drew,l.bm.drew,l.fr.below ik⟩;have:=CH b d g c;obtain⟨l,l,l,cb,bI,f⟩:=bn.add (by omega) (x:=⟨(c:Int),q.loc,q.stk⟩) ak.1 ak.2 n.heap.size rfl;rw[<-ea j]at f;have bk:=Ou f;have l:Below h.heap.size h cb:=f.bel;have b9:=Oq l _ _ L;have ca:=Oq l _ _ X;go_upto_region 12 with fail
      refine fk (λP=>P.cell? ⟨N,c*3+1,U⟩=M (O v B t)/\P.cell? ⟨N,c*3+2,U⟩=M (O w C y)) (ac _ ik) λhHeld=>?_;refine dZ 70 0 ?_;refine dZ 71 1 ?_;refine dZ 72 2 ?_;refine dZ 73 3 ?_;refine dZ 74 4 ?_;refine dZ 75 5 ?_;refine dZ 76 6 ?_;refine dZ 77 7 ?_;refine dZ 78 8 ?_;refine dZ 79 9 ?_;refine dZ 80 10 ?_;refine dZ 81 11 ?_;refine dZ 82 12 ?_;refine el 13 (λbo z=>?_);go_simp;have f:=ev n.drew (zC #[J I (c:Int),O v B t,O w C y] 42);have h:Below n.heap.size n (n.drew.alloc (zC #[J I (c:Int),O v B t,O w C y] 42)):=⟨f.os,f.tape,f.output,f.size,f.block⟩;refine z.out _ _ (ac _ h) λhHeld=>?_;refine el 14 (λbo z=>?_);refine ON (.tmp 70) (.tmp 83) 36 rfl _ _ rfl rfl bI ?_;go_simp;refine z.out _ _ ⟨b9,ca⟩ λhHeld=>?_;refine dZ 7 15 ?_;refine eV ?_;go_wp2
      go_roundg (b.code.length-(c+1))
      case measure=>have:=ea Q;omega
      case rel=>exact ⟨c+1,by omega,rfl,by go_num,ea bk⟩
   obtain⟨v,B,t,w,C,y,D,_,_,_,_⟩:=a0.at_ (i:=e) (by omega);have E:=Oq u _ _ D;have ao:ey b e=b.code[e]:=(by unfold ey;rw[ae a4];rfl);obtain⟨ac,ad,_⟩:=bf e a4;rw[<-ao]at ac ad;have:=Oq u _ _ ac;have:=Oq u _ _ ad;have:=fp e;have:(e:Int)<(b.code.length:Int):=(by omega);have q:Hid (ni b d c (e+1)=(ni b d c e || ((d.getD e U).isSome && gz (ey b e) && ((ey b e).a == (c:Int))))):=rfl;generalize ey b e=f at *;generalize (d.getD e U).isSome=ii at *;clear ac ad D ao;have j:Hid ((s || (ii && gz f && (f.a == (c:Int))))=(!g || ni b d c (e+1))):=by show _=_;rw[ea q,ea m];cases g <;> simp
   .have G:Hid (gz f=(f.op == 7 || f.op == 8 || f.op == 18)):=rfl
    cases s with
    | true =>
     have k:Hid ((K || (ii && gz f && (f.a == (c:Int))))=K):=rfl;clear m q;go_wp2
     go_roundg (b.code.length-(e+1))
     case measure=>have:=ea r;omega
     case rel=>exact ⟨e+1,_,by omega,rfl,rfl,by go_num,by rw[<-ea j,ea k],rfl⟩
    | false =>
     cases ii with
     | false =>
      have k:Hid ((F || (F && gz f && (f.a == (c:Int))))=F):=rfl;clear m q;go_wp2
      go_roundg (b.code.length-(e+1))
      case measure=>have:=ea r;omega
      case rel=>exact ⟨e+1,_,by omega,rfl,rfl,by go_num,by rw[<-ea j,ea k],rfl⟩
     | true =>
      by_cases X:f.op=7
      .have z:(f.op == 7)=K:=(by simpa using X);have k:Hid ((F || (K && gz f && (f.a == (c:Int))))=(f.a == (c:Int))):=(by show _=_;rw[ea G,z];simp);clear X;clear m q;go_wp2
       go_roundg (b.code.length-(e+1))
       case measure=>have:=ea r;omega
       case rel=>exact ⟨e+1,_,by omega,rfl,rfl,by go_num,by rw[<-ea j,ea k],rfl⟩
      have z:(f.op == 7)=F:=by simpa using X
      by_cases an:f.op=8
      .have L:(f.op == 8)=K:=(by simpa using an);have k:Hid ((F || (K && gz f && (f.a == (c:Int))))=(f.a == (c:Int))):=(by show _=_;rw[ea G,z,L];simp);clear m q;go_wp2
       go_roundg (b.code.length-(e+1))
       case measure=>have:=ea r;omega
       case rel=>exact ⟨e+1,_,by omega,rfl,rfl,by go_num,by rw[<-ea j,ea k],rfl⟩
      have L:(f.op == 8)=F:=by simpa using an
      by_cases ak:f.op=18
      .have Y:(f.op == 18)=K:=(by simpa using ak);have k:Hid ((F || (K && gz f && (f.a == (c:Int))))=(f.a == (c:Int))):=(by show _=_;rw[ea G,z,L,Y];simp);clear m q;go_wp2
       go_roundg (b.code.length-(e+1))
       case measure=>have:=ea r;omega
       case rel=>exact ⟨e+1,_,by omega,rfl,rfl,by go_num,by rw[<-ea j,ea k],rfl⟩
      have Y:(f.op == 18)=F:=(by simpa using ak);have k:Hid ((F || (K && gz f && (f.a == (c:Int))))=F):=(by show _=_;rw[ea G,z,L,Y];simp);clear m q;go_wp2
      go_roundg (b.code.length-(e+1))
      case measure=>have:=ea r;omega
      case rel=>exact ⟨e+1,_,by omega,rfl,rfl,by go_num,by rw[<-ea j,ea k],rfl⟩
end
abbrev rP (n bx:Nat)(v:Value):Nat->Prop:=λg=>(g<n\/bx<g)/\v.ownBlock≠M g
def pU {α :Type}(E:TypeId)(sz:Nat)(C:(Addr->Option Value)->α->List Value->Prop)(n:Nat)(V:World)(bx:Nat)(v:Value)(q:List α):Prop:=
 ∃cs,V.ownsRow (bx+1) E sz v q.length cs/\lA sz (C (sel (rP n bx v) V)) cs q
section
variable {α : Type} {E : TypeId} {sz n : Nat} {C : (Addr -> Option Value) -> α -> List Value -> Prop} {V V' : World} {bx : Nat} {v v' : Value} {q : List α}
theorem pU.below (f:∀a d x b,fN a d->C a x b->C d x b)(h:pU E sz C n V bx v q)(c:Below V.heap.size V V'):pU E sz C n V' bx v q:=by
 obtain⟨e,d,g⟩:=h;exact⟨e,eX d (Ox c) (λa c b=>by have:=(d.lt a c).2;omega),g.mono λx b d=>f _ _ _ _ (fW (Ox c) λe c a=>⟨λb=>by omega,a⟩) d⟩
theorem pU.next(k:∀d i x b,fN d i->C d x b->C i x b){h}(r:lA sz (C (sel (rP n bx v) V)) h q)(o:∀d,v.ownBlock=M d->bx+1<=d)(A:n<=bx){B}(j:∀d,v.ownBlock=M d->d<B)(z:bx<B){x b}(g:C (sel (λa=>a<n\/B<=a) V) x b)(t:b.length=sz)(m:V'.ownsRow (bx+1) E sz v' (q.length+1) (h++b))(l:ee (λa=>v.ownBlock=M a) V V')(c:v'.ownBlock=v.ownBlock\/∃a,V.heap.size<=a/\v'.ownBlock=M a)(e):pU E sz C n (V'.setCell ⟨bx,e,U⟩ v') bx v' (q++ [x]):=by
 have f:ee (λa=>a=bx) V' (V'.setCell ⟨bx,e,U⟩ v'):=(Ow (λa=>a=bx) V').setCell (p:=⟨bx,e,U⟩) (λ_=>rfl) _
 have w:fN (sel (rP n bx v) V) (sel (rP n bx v') (V'.setCell ⟨bx,e,U⟩ v')):=
  (fW (S':=rP n bx v') l λa e d=>⟨d.2,d.1,λb=>by
    rcases c with c | ⟨y,s,c⟩
    .exact d.2 (by rw[<-c];exact b)
    .rw [c]at b
     cases b
     omega⟩).trans (fW f λa e d=>⟨λb=>by have:=d.1;omega,d⟩)
 have u:fN (sel (λa=>a<n\/B<=a) V) (sel (rP n bx v') (V'.setCell ⟨bx,e,U⟩ v')):=
  (fW (S':=rP n bx v') l λa e d=>⟨λb=>by have:=j a b;have:=o a b;omega,by omega,λb=>by
    rcases c with c | ⟨y,s,c⟩
    .have:=j a (by rw[<-c];exact b);have:=o a (by rw[<-c];exact b);omega
    .rw [c]at b
     cases b
     omega⟩).trans (fW f λa e d=>⟨λb=>by have:=d.1;omega,d⟩)
 exact⟨_,by simpa using eX m f (λd a b=>by have:=(m.lt d a).1;omega),(r.mono λa b g=>k _ _ _ _ w g).snoc (k _ _ _ _ u g) t⟩
end
theorem BG:∀(b c:Addr->Option Value) (x:eb) (a:Oj),fN b c->pR b x a->pR c x a:=λ_ _ _ _ a b=>pR.keep a b
theorem DB:∀(b c:Addr->Option Value) (x:eh) (a:Oj),fN b c->pW b x a->pW c x a:=λ_ _ _ _ a b=>pW.keep a b
theorem Jr:(Tryz.prog.info? 63).map (λa=>(a.zero,a.size,a.bytes))=M (M (.agg #[J I 0,O U 0 0,J I 0,J I 0,J I 0,O U 0 0,O U 0 0]),7,104):=by kernel_rfl
structure pn (n:Nat)(Vc V:World)(by_:Nat)(vp vf vm:Value)(sup:Int)(q:List eh):Prop where
 bel:Below Vc.heap.size Vc V
 blk:ed V by_ 66 [J I sup,vf,vm]
 row:pU 63 7 pW n V by_ vm q
 lo:Vc.heap.size<by_
theorem pn.below{n c V V' d h f g e q}(a:pn n c V d h f g e q)(b:Below V.heap.size V V'):pn n c V' d h f g e q:=
 ⟨a.bel.trans (b.mono a.bel.size),a.blk.below b a.blk.lt,a.row.below DB b,a.lo⟩
theorem pn.next{n r V a D A e z q}(h:pn n r V a D A e z q)(Z:n<=r.heap.size)(aa:q.length<=4194304){B}(K:∀d,e.ownBlock=M d->d<B)(H:a<B){x l m o}(hx:fK (sel (λb=>b<n\/B<=b) V) x l m o):
  ∃f k g c,(Builtin.append_ #[64,64] 64 #[e,O (M ⟨V.heap.size,0,U⟩) 1 1]).run Tryz.prog (V.alloc (zC #[J I x.slot,l,J I x.ret,J I x.locals,J I x.stack,m,o] 63))= .ok (O f k g) c/\
   c.cell? ⟨a,2,U⟩=M e/\c.frozen? ⟨a,2,U⟩=F/\pn n r (c.setCell ⟨a,2,U⟩ (O f k g)) a D A (O f k g) z (q++ [x])/\ee (λb=>e.ownBlock=M b\/b=a) V (c.setCell ⟨a,2,U⟩ (O f k g))/\∀d,e.ownBlock=M d->a<d:=by
 obtain⟨Y,L,N,Q,R⟩:=info_parts Jr;obtain⟨G,u,S⟩:=h.row;have j:=u.lt;have y:=h.bel.size;have:=h.blk.lt;have:=h.lo
 obtain⟨v',c,T,w,i,X⟩:=iN (P:=Tryz.prog) (W:=V) 64 64 63 Y _ 7 104 Tryz.underlying64 L N Q R rfl (by decide) (a+1) e q.length G u #[J I x.slot,l,J I x.ret,J I x.locals,J I x.stack,m,o] rfl
  (λb a=>by
    simp only[aE,aF,or_false]at a;have:=pL hx.1;have:=pL hx.2.1;have:=pL hx.2.2
    rcases a with rfl | rfl | rfl | rfl | rfl | rfl | rfl <;> first | rfl | assumption) V.heap.size rfl (by unfold maxLen;omega) (by omega) (by omega)
 obtain⟨f,g,rfl⟩:=fd w;have k:¬e.ownBlock=M a:=λa=>by have:=(j _ a).1;omega
 have s:=h.blk.mods i k;have t:ee (λb=>b=a) c (c.setCell ⟨a,2,U⟩ (O f (q.length+1) g)):=(Ow (λb=>b=a) c).setCell (p:=⟨a,2,U⟩) (λ_=>rfl) _;exact⟨f,_,g,c,T,s.cell 2,s.frozen 2,⟨(h.bel.trans (i.below y (λb c a=>by have:=(j b a).1;omega))).trans (t.below (ap y i.size) (λb c a=>by omega)),s.setCell 2 _,pU.next DB S (λd a=>(j d a).1) (by omega) K H ⟨l,m,o,rfl,hx⟩ rfl w i X 2,h.lo⟩,(i.mono λ_ _ a=>.inl a).trans (t.mono λ_ _ a=>.inr a) (λ_ _ a=>a),λd a=>(j d a).1⟩
theorem pn.fin{n d V b h g c f q}(e:pn n d V b h g c f q):eG 7 (mT (sel (λa=>a<n\/b+1<=a) V)) c q:=by
 obtain⟨b,b,c⟩:=e.row;exact Li b (c.mono λe d b=>pW.keep (fW (Ow (λ_=>False) V) λa _ c=>⟨λa=>a,by have:=c.1;omega⟩) b) (λa c=>.inr (b.lt a c).1)
structure pj (n:Nat)(w V:World)(bo:Nat)(vp v:Value)(q:On):Prop where
 bel:Below w.heap.size w V
 b0:ed V w.heap.size 24 [vp]
 b1:ed V (w.heap.size+1) 24 [O U 0 0]
 blk:ed V bo 24 [v]
 row:pU 66 3 pR n V bo v q
 lo:w.heap.size+1<bo
 nle:n<=w.heap.size
theorem pj.below{n w V V' c d v q}(a:pj n w V c d v q)(b:Below V.heap.size V V'):pj n w V' c d v q:=
 ⟨a.bel.trans (b.mono a.bel.size),a.b0.below b a.b0.lt,a.b1.below b a.b1.lt,a.blk.below b a.blk.lt,a.row.below BG b,a.lo,a.nle⟩
theorem pj.next{n A V b z v q}(c:pj n A V b z v q)(Y:q.length<=4194304){B}(H:∀h,v.ownBlock=M h->h<B)(G:b<B){x j k}(r:eG 1 (gy (sel (λa=>a<n\/B<=a) V)) j x.fields)(s:eG 7 (mT (sel (λa=>a<n\/B<=a) V)) k x.ek):
  ∃e o f d,(Builtin.append_ #[22,22] 22 #[v,O (M ⟨V.heap.size,0,U⟩) 1 1]).run Tryz.prog (V.alloc (zC #[J I x.sup,j,k] 66))= .ok (O e o f) d/\
   d.cell? ⟨b,0,U⟩=M v/\d.frozen? ⟨b,0,U⟩=F/\pj n A (d.setCell ⟨b,0,U⟩ (O e o f)) b z (O e o f) (q++ [x]):=by
 obtain⟨X,K,L,N,Q⟩:=info_parts Ji;obtain⟨D,t,R⟩:=c.row;have w:=t.lt;have y:=c.bel.size;have:=c.blk.lt;have:=c.lo;have:=c.nle
 obtain⟨v',d,S,u,g,T⟩:=iN (P:=Tryz.prog) (W:=V) 22 22 66 X _ 3 56 Tryz.underlying22 K L N Q rfl (by decide) (b+1) v q.length D t #[J I x.sup,j,k] rfl
  (λb a=>by
    simp only[aE,aF,or_false]at a
    rcases a with rfl | rfl | rfl
    .rfl
    .exact pL r
    .exact pL s) V.heap.size rfl (by unfold maxLen;omega) (by omega) (by omega)
 obtain⟨e,f,rfl⟩:=fd u;have i:∀a,a<=b->¬v.ownBlock=M a:=λa c b=>by have:=(w _ b).1;omega
 have m:=c.blk.mods g (i _ (ai _));have l:ee (λa=>a=b) d (d.setCell ⟨b,0,U⟩ (O e (q.length+1) f)):=(Ow (λa=>a=b) d).setCell (p:=⟨b,0,U⟩) (λ_=>rfl) _;exact⟨e,_,f,d,S,m.cell 0,m.frozen 0,(c.bel.trans (g.below y (λa c b=>i a (by omega) b))).trans (l.below (ap y g.size) (λa c b=>by omega)),(c.b0.mods g (i _ (by omega))).mods l (by omega),(c.b1.mods g (i _ (by omega))).mods l (by omega),m.setCell 0 _,pU.next BG R (λh a=>(w h a).1) (by omega) H G ⟨j,k,rfl,r,s⟩ rfl u g T 0,c.lo,c.nle⟩
theorem pj.fin{n c V V' d f v q}(b:pj n c V d f v q)(e:ee (λa=>a=c.heap.size+1) V V'):eG 3 (lw (sel (λa=>a<n\/c.heap.size+1<a) V')) v q:=by
 obtain⟨c,c,f⟩:=b.row;have:=b.lo;have:=b.nle;have b:=Lg (S:=λa=>a<n\/d+1<=a) c (f.mono λe d c=>pR.keep (fW (Ow (λ_=>False) V) λa _ a=>⟨λb=>b,by have:=a.1;omega⟩) c) (λa b=>.inr (c.lt a b).1);exact eA (fW e λa _ a=>⟨λc=>by omega,by omega⟩) b
end Go.Proofs.YtiiokkllmchohaaGreat
