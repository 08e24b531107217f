/- The reference's machine: plain. -/
import Derived.Test.YtiiokkllmchohaaGreatT45
set_option maxHeartbeats 0
set_option maxRecDepth 99999
namespace Go.Proofs.YtiiokkllmchohaaGreat
open Go.Value renaming int->J,slice->O,pointer->zP,bool->zB
open Go.IntKind renaming i64->I
open Option renaming none->U,some->M
open Bool renaming true->K,false->F
open Go.Ending renaming returned->zR
open Go.Obj renaming cells->zC
open Go.RowKit Go.Shelf
section
attribute [local go_sem ↓] Go.wp_at_zero Go.wp_at_succ
attribute [local go_sem] eZ
theorem tX(a):fY [a]= [J I (fq a),J I (eI a)]:=by unfold fY;rw[dr,pG]
theorem Ea(a b):fY [a,b]= [J I (fq a),J I (eI a),J I (fq b),J I (eI b)]:=by
 rw[show [a,b]= [a]++ [b] from rfl,xA,tX,tX];rfl
def jr (op a:Int)(l:List LVal)(f:eD):eD:=
 if op=0 then { f with stk:=f.stk++ [gt a] }
 else if op=1 then { f with stk:=f.stk++ [f.loc.getD a.toNat eO] }
 else if op=2 then { f with loc:=f.loc.set a.toNat (l.getD 0 eO) }
 else if op=15 then { f with stk:=f.stk++ [l.getD 0 eO,l.getD 0 eO] }
 else if op=16 then { f with stk:=f.stk++ [rm] }
 else if op=20 then { f with stk:=f.stk++ [l.getD 1 eO,l.getD 0 eO] }
 else f
def OV (op:Int)(l:List LVal)(out:Ok):List Int:=if op=19 then out++ [eI (l.getD 0 eO)] else out
def qL (p:On)(w0:World)(mb:Nat)(vp:Value)(ask:Bool)(s:RS)(fx:List (eD×gD))(f:eD)(out:Ok)(w':World)(e:Ending):Prop:=
 e=zR (.tuple #[])/\∃ ρ' x' vpr',fh p w0 w' ρ' mb vp ask { s with fx:=fx++ [(f,x')],out:=out,eE:=vpr' }
structure Ba (o a:Int)(l:List LVal)(y:eD×gD)(s:RS):Prop where
 op:o=0\/o=1\/o=2\/o=14\/o=15\/o=16\/o=19\/o=20
 loc:(o=1\/o=2)->∃k:Nat,a=(k:Int)/\k<y.1.loc.length
 l1:(o=2\/o=15\/o=19)->0<l.length
 l2:o=20->1<l.length
 sl:y.1.stk.length<=4194304
 out:s.out.length<=4194304
structure pX (N mb:Nat)(s:RS):Prop where
 mb:mb<N
 vc:∀g,s.vc.ownBlock=M g->g<N
 vo:∀g,s.vo.ownBlock=M g->g<N
 eE:∀g,s.eE.ownBlock=M g->g<N
 fr:∀y∈s.fx,(∀g,y.2.vl.ownBlock=M g->g<N)/\(∀g,y.2.vs.ownBlock=M g->g<N)
 ob:∀y∈s.ox,∀g,y.2.ownBlock=M g->g<N
section
variable {p : List eb} {w0 w : World} {ρ : Nat -> Nat × Nat} {mb : Nat} {vp : Value} {ask : Bool} {s : RS}
theorem fh.ry (c:fh p w0 w ρ mb vp ask s):pX w.heap.size mb s:=
 ⟨c.eH.lt,λa b=>(c.cal.lt a b).2,λa b=>(c.obj.lt a b).2,λa b=>(c.io.lt a b).2,λf g=>by
  obtain⟨e,d⟩:=cK g;exact⟨λa b=>((c.fr e f d).lo.lt a b).2,λa b=>((c.fr e f d).st.lt a b).2⟩,λf g a b=>by
  obtain⟨e,d⟩:=cK g;exact((c.ob e f d).1.lt a b).2⟩
theorem Jo:(Tryz.prog.info? 3).map (λa=>(a.zero,a.size,a.bytes))=M (M (J I 0),1,8):=by kernel_rfl
theorem OW{b:List LVal}{a}(c:a<b.length):b.getD a eO=b[a]:=by rw[aj,ae c];rfl
theorem Mp(Y:fh p w0 w ρ mb vp ask s){fx y}(a6:s.fx=fx++ [y])(ds:fx.length<=30)(ab j cc b cs cz cu a2)(ac:pX a2 mb s)(dp:a2<=w.heap.size)(ck:eG 2 (mC (sel (λc=>a2<=c) w)) (O cs cz cu) b)(K:Ba ab j b y s):
  Calls Tryz.prog 181 #[zP (M ⟨mb,0,U⟩),.agg #[J I ab,J I j,J I cc],O cs cz cu] w λk aa=>qL p w0 mb vp ask s fx (jr ab j b y.1) (OV ab b s.out) aa k:=by
 have bh:s.fx[fx.length]? =M y:=by rw[a6];simp
 have b8:y∈s.fx:=by rw[a6];simp
 have ci:s.fx.length=fx.length+1:=by rw[a6];simp
 obtain⟨e,cf,cn,ad,cs,b5⟩:=Y.call bh;obtain⟨R,S,a5⟩:=fd (Y.fr _ _ bh).st;have cp:w.cell? ⟨mb,3,U⟩=M (O (M ⟨e,0,U⟩) (fx.length+1) cf):=by rw[<-ci,<-cn];exact Y.eH.cell 3
 have X:w.cell? ⟨e,fx.length*5+4,U⟩=M (O R y.1.stk.length S):=by rw[<-a5];exact b5 4 (by omega)
 have be:w.cell? ⟨e,fx.length*5+3,U⟩=M y.2.vl:=b5 3 (by omega);have bM:=ev w (zC #[J I ab,J I j,J I cc] 60);have ce:=Oz w #[J I ab,J I j,J I cc] 60;have cc:e<a2:=ac.vc e ad;have b7:∀a,a2<=a->¬(O R y.1.stk.length S).ownBlock=M a:=λa b k=>by have:=(ac.fr y b8).2 a (by rw[a5];exact k);omega
 have a2:¬(O R y.1.stk.length S).ownBlock=M e:=λk=>by
  have:=(Y.fr _ _ bh).r2 e (by rw[a5];exact k);rw[Y.jV e ad]at this;simp at this
 obtain⟨a2,T,a2,a2,d0,a2,bk,cm⟩:=eN ck
 cases d0
 have a1:=Ou cm;have cA:=Ou Y;have V:=Ou a6;have bz:=Ou a5;have F:=Ou K;clear Y cm ck b5 ci cn bh a6 a5 K;go_in
 go_wp2_with fail;generalize w.alloc _=Wb at *;refine(rz Wb mb e fx.length cf ds (Oq bM _ _ cp)).mono ?_;rintro k d ⟨rfl,bI⟩;have cg:=eu bM bI;have ba:=ce.bl bI;have Y:d.cell? ⟨w.heap.size,0,U⟩=M (J I ab):=ba.cell 0;have Y:d.cell? ⟨w.heap.size,1,U⟩=M (J I j):=ba.cell 1;have bn:=Oq cg;replace X:=bn _ _ X;replace be:=bn _ _ be;have d3:=Oo X;have Y:=ba.lt;dsimp only at d3;have L:=Ou bn;have C:=Ou (cA.out.below cg (ai _));have Y:=b7 w.heap.size dp;have Y:¬w.heap.size=e:=by omega
 have b6:=λ(a:List LVal) (hx:a.length<=2) (e:Array Value) (b:e.toList=fY a) (c:Nat) (ak:c=a.length)=>C.out.drew.tR V.out ad F.out.sl a hx b c d.heap.size ak rfl rfl;rw[ea bz]at b6;have bc:=Ou b6;clear ce ba bM bI cp bn b6;go_upto_region 3 with fail
 rcases F.out.op with rfl | rfl | rfl | rfl | rfl | rfl | rfl | rfl
 .obtain⟨z,A,D,m,⟨E,l⟩,⟨a0,a3⟩,B,t,x⟩:=ea bc [gt j] (by simp) #[J I 1,J I j] rfl 1 rfl;have q:Hid (qL p w0 mb vp ask s fx (jr 0 j b y.1) (OV 0 b s.out) (D.setCell ⟨e,fx.length*5+4,U⟩ (O z (y.1.stk.length+1) A)) (zR (.tuple #[]))):=⟨rfl,E,_,_,l⟩;have bf:=kK d (zC #[J I 1,J I j] 183) _ _ X;have h:=Ou B;have G:=Ou t;have H:=Ou x;clear l B t x;go_wp2;refine iY (iD d.heap.size (O R y.1.stk.length S) e (fx.length*5+4) d) (λ_ _ _ _ _=>rfl) λhHeld=>?_;refine dZ 13 0 ?_;refine dZ 14 1 ?_;refine dZ 15 2 ?_;refine dZ 16 3 ?_;refine dZ 18 5 ?_;refine dZ 19 6 ?_;refine dZ 20 7 ?_;refine iu 4 8 (λK a=>?_) λK a=>?_;go_simp;refine a.out _ _ (λ_ _ _ _ _=>rfl) λhHeld=>?_;clear a K hHeld;refine el 8 (λK a=>?_);go_simp;refine a.out _ _ h.out λhHeld=>?_;clear a K hHeld;rotate_left;go_simp;refine a.out _ _ h.out λhHeld=>?_;clear a K hHeld;refine el 4 (λK a=>?_);go_simp;refine a.out _ _ h.out λhHeld=>?_;clear a K hHeld
  all_goals
   refine el 9 (λK a=>?_);refine ON (.tmp 17) (.tmp 21) 181 rfl _ _ rfl rfl m ?_;go_simp;refine a.out _ _ G.out λhHeld=>?_;refine dZ 23 10 ?_;refine dZ 24 11 ?_;refine el 12 (λK a=>?_);go_simp;refine a.out _ _ H.out λhHeld=>?_;refine ig ?_;clear m hHeld;go_wp2;go_end0;exact ea q
 .obtain⟨c,rfl,ak⟩:=F.out.loc (.inl rfl);have Q:=C.out.fr fx.length y (by rw[ea V];simp);obtain⟨i,b9,ar,_,an,a4⟩:=jH Q.lo (by omega);have o:y.1.loc[c]? =M y.1.loc[c]:=ae ak;have f:=a4 (c*2+0) (by omega);have g:=a4 (c*2+1) (by omega);rw[vg o (by omega),pG]at f g;have ao:=Q.r1 i an;have bo:¬(O R y.1.stk.length S).ownBlock=M i:=λk=>by have:=Q.r2 i (by rw[ea bz];exact k);rw[ao]at this;simp at this
  have br:¬i=e:=λk=>by have:=C.out.jV e ad;rw[<-k,ao]at this;simp at this
  have r:jr 1 (c:Int) b y.1= { y.1 with stk:=y.1.stk++ [y.1.loc[c]] } :=by
   unfold jr;rw[af (by decide),am rfl,aK,OW ak]
  rw[ar]at be;obtain⟨z,A,D,m,⟨E,l⟩,⟨a0,a3⟩,B,t,x⟩:=ea bc [y.1.loc[c]] (by simp) #[J I (fq y.1.loc[c]),J I (eI y.1.loc[c])] (tX _).symm 1 rfl;have q:Hid (qL p w0 mb vp ask s fx (jr 1 (c:Int) b y.1) (OV 1 b s.out) (D.setCell ⟨e,fx.length*5+4,U⟩ (O z (y.1.stk.length+1) A)) (zR (.tuple #[]))):=⟨rfl,E,_,_,by rw[r];exact l⟩;generalize y.1.loc[c]=n at *;have bf:=kK d (zC #[J I (fq n),J I (eI n)] 183) _ _ X;have N:d.cell? ⟨i,c*2,U⟩=M (J I (fq n)):=f;have Y:d.cell? ⟨i,c*2+1,U⟩=M (J I (eI n)):=g;have Z:=Oo N;have d1:(0:Int)<=(c:Int):=by omega
  have d2:(c:Int)<(y.1.loc.length:Int):=by omega
  dsimp only at Z;clear Q f g a4 o an ar r ao;have h:=Ou B;have G:=Ou t;have H:=Ou x;clear l B t x;go_wp2;refine iY (iD d.heap.size (O R y.1.stk.length S) e (fx.length*5+4) d) (λ_ _ _ _ _=>rfl) λhHeld=>?_;refine dZ 27 0 ?_;refine dZ 28 1 ?_;refine dZ 29 2 ?_;refine dZ 30 3 ?_;refine dZ 32 5 ?_;refine dZ 33 6 ?_;refine dZ 34 7 ?_;refine dZ 35 8 ?_;refine dZ 36 9 ?_;refine dZ 37 10 ?_;refine dZ 38 11 ?_;refine dZ 39 12 ?_;refine iu 4 13 (λK a=>?_) λK a=>?_;go_simp;refine a.out _ _ (λ_ _ _ _ _=>rfl) λhHeld=>?_;clear a K hHeld;refine el 13 (λK a=>?_);go_simp;refine a.out _ _ h.out λhHeld=>?_;clear a K hHeld;rotate_left;go_simp;refine a.out _ _ h.out λhHeld=>?_;clear a K hHeld;refine el 4 (λK a=>?_);go_simp;refine a.out _ _ h.out λhHeld=>?_;clear a K hHeld
  all_goals
   refine el 14 (λK a=>?_);refine ON (.tmp 31) (.tmp 40) 181 rfl _ _ rfl rfl m ?_;go_simp;refine a.out _ _ G.out λhHeld=>?_;refine dZ 42 15 ?_;refine dZ 43 16 ?_;refine el 17 (λK a=>?_);go_simp;refine a.out _ _ H.out λhHeld=>?_;refine ig ?_;clear m hHeld;go_wp2;go_end0;exact ea q
 .obtain⟨c,rfl,ak⟩:=F.out.loc (.inr rfl);have h:s.fx[fx.length]? =M y:=by rw[ea V];simp
  have Q:=C.out.fr fx.length y h;obtain⟨i,b9,ar,_,an,a4⟩:=jH Q.lo (by omega);have ao:=Q.r1 i an;have o:=F.out.l1 (.inl rfl);obtain⟨g,f⟩:=ea a1 0 o;obtain rfl:=bk (eW o);rw[cr,bK]at g f;obtain⟨N,g⟩:=iw g;replace f:=(iw f).2;dsimp only at N;obtain⟨m,z,E,a⟩:=C.out.drew.loc h ar ak b[0]
  have r:jr 2 (c:Int) b y.1= { y.1 with loc:=y.1.loc.set c b[0] } :=by
   unfold jr;rw[af (by decide),af (by decide),am rfl,aK,OW o]
  have q:Hid (∀aa,ed aa i 183 (OL m (c*2) (lK b[0]))->ee (λc=>c=i) d.drew aa->qL p w0 mb vp ask s fx (jr 2 (c:Int) b y.1) (OV 2 b s.out) aa (zR (.tuple #[]))):=λaa b c=>by
   obtain⟨n,l⟩:=a aa b c;rw[ea V,rA]at l;exact⟨rfl,n,_,_,by rw[r];exact l⟩
  have l:=xB b[0];rw[pG]at q l;rw[ar]at be;generalize b[0]=n at *;have a8:=ea L _ _ g;have bs:=ea L _ _ f;have Z:=Oo a8;dsimp only at Z;have bo:¬e=i:=λk=>by have:=C.out.jV e ad;rw[k,ao]at this;simp at this
  have br:¬T=i:=by have:=(ac.fr y b8).1 i an;omega
  have t:¬w.heap.size=i:=by have:=(ac.fr y b8).1 i an;omega
  have x:∀a,¬a=i->¬(O (M ⟨i,0,U⟩) y.1.loc.length b9).ownBlock=M a:=λa b k=>b (aT k).symm;have d1:(0:Int)<=(c:Int):=by omega
  have d2:(c:Int)<(y.1.loc.length:Int):=by omega
  have ca:(0:Int)<(b.length:Int):=by omega
  clear Q a4 a r ao ar g f h;go_wp2;refine iY (iD d.heap.size (O (M ⟨i,0,U⟩) y.1.loc.length b9) i 0 d) (λ_ _ _ _ _=>rfl) λhHeld=>?_;refine dZ 46 0 ?_;refine dZ 47 1 ?_;refine dZ 48 2 ?_;refine dZ 49 3 ?_;refine dZ 50 4 ?_;refine dZ 51 5 ?_;refine dZ 52 6 ?_;refine dZ 53 7 ?_;refine dZ 54 8 ?_;refine dZ 55 9 ?_;refine el 10 (λK a=>?_);refine kS uw z (c*2) [J I (fq n),J I (eI n)] rfl E l (.tmp 55) (.tmp 54) rfl rfl rfl ?_;intro D A B h;refine a.out _ _ (iD.of (B.vK.mono λc _ k=>by subst k;rfl)) λhHeld=>?_;refine ig ?_;clear hHeld;go_wp2;go_end0;exact ea q _ A B
 .go_wp2;go_end0;refine⟨rfl,ρ,y.2,s.eE,?_⟩;have:=ea C;rw[show { s with fx:=fx++ [(jr 14 j b y.1,y.2)],out:=OV 14 b s.out,eE:=s.eE } =s by rw[show jr 14 j b y.1=y.1 from rfl,show OV 14 b s.out=s.out from rfl,<-ea V]];exact this
 .have o:=F.out.l1 (.inr (.inl rfl));obtain⟨g,f⟩:=ea a1 0 o;obtain rfl:=bk (eW o);rw[cr,bK]at g f;obtain⟨N,g⟩:=iw g;replace f:=(iw f).2;dsimp only at N
  have r:jr 15 j b y.1= { y.1 with stk:=y.1.stk++ [b[0],b[0]] } :=by
   unfold jr;rw[af (by decide),af (by decide),af (by decide),am rfl,OW o]
  obtain⟨z,A,D,m,⟨E,l⟩,⟨a0,a3⟩,B,t,x⟩:=ea bc [b[0],b[0]] (by simp) #[J I (fq b[0]),J I (eI b[0]),J I (fq b[0]),J I (eI b[0])] (Ea _ _).symm 2 rfl;have q:Hid (qL p w0 mb vp ask s fx (jr 15 j b y.1) (OV 15 b s.out) (D.setCell ⟨e,fx.length*5+4,U⟩ (O z (y.1.stk.length+2) A)) (zR (.tuple #[]))):=⟨rfl,E,_,_,by rw[r];exact l⟩;generalize b[0]=n at *;have bf:=kK d (zC #[J I (fq n),J I (eI n),J I (fq n),J I (eI n)] 183) _ _ X;have a8:=ea L _ _ g;have bs:=ea L _ _ f;have Z:=Oo a8;dsimp only at Z;have bo:=b7 T N;have br:¬T=e:=by omega
  have ca:(0:Int)<(b.length:Int):=by omega
  clear r g f;have h:=Ou B;have G:=Ou t;have H:=Ou x;clear l B t x;go_wp2;refine iY (iD d.heap.size (O R y.1.stk.length S) e (fx.length*5+4) d) (λ_ _ _ _ _=>rfl) λhHeld=>?_;refine dZ 58 0 ?_;refine dZ 59 1 ?_;refine dZ 60 2 ?_;refine dZ 61 3 ?_;refine dZ 63 5 ?_;refine dZ 64 6 ?_;refine dZ 65 7 ?_;refine dZ 66 8 ?_;refine dZ 67 9 ?_;refine dZ 68 10 ?_;refine iu 4 11 (λK a=>?_) λK a=>?_;go_simp;refine a.out _ _ (λ_ _ _ _ _=>rfl) λhHeld=>?_;clear a K hHeld;refine el 11 (λK a=>?_);go_simp;refine a.out _ _ h.out λhHeld=>?_;clear a K hHeld;rotate_left;go_simp;refine a.out _ _ h.out λhHeld=>?_;clear a K hHeld;refine el 4 (λK a=>?_);go_simp;refine a.out _ _ h.out λhHeld=>?_;clear a K hHeld
  all_goals
   refine el 12 (λK a=>?_);refine ON (.tmp 62) (.tmp 69) 181 rfl _ _ rfl rfl m ?_;go_simp;refine a.out _ _ G.out λhHeld=>?_;refine dZ 71 13 ?_;refine dZ 72 14 ?_;refine el 15 (λK a=>?_);go_simp;refine a.out _ _ H.out λhHeld=>?_;refine ig ?_;clear m hHeld;go_wp2;go_end0;exact ea q
 .have a:=C.out.tR V.out ad F.out.sl [rm] (by simp) (news:= #[J I 2,J I 0]) rfl 1 d.heap.size rfl rfl rfl;rw[ea bz]at a;obtain⟨z,A,D,m,⟨E,l⟩,⟨a0,a3⟩,B,t,x⟩:=a;have q:Hid (qL p w0 mb vp ask s fx (jr 16 j b y.1) (OV 16 b s.out) (D.setCell ⟨e,fx.length*5+4,U⟩ (O z (y.1.stk.length+1) A)) (zR (.tuple #[]))):=⟨rfl,E,_,_,l⟩;clear l B t x;go_wp2_with (at_builtin;refine OA rfl (.tmp 79) (.tmp 81) 181 rfl _ _ rfl rfl m ?_)
  go_end0;exact ea q
 .have o:=F.out.l1 (.inr (.inr rfl));obtain⟨g,f⟩:=ea a1 0 o;obtain rfl:=bk (eW o);rw[cr,bK]at g f;obtain⟨N,g⟩:=iw g;replace f:=(iw f).2;dsimp only at N;obtain⟨d1,ar,a4,a8,b9⟩:=info_parts Jo;have c:=F.out.out;have t:=C.out.drew.io;obtain⟨x,Q,i⟩:=fd t;have d2:d.cell? ⟨mb,6,U⟩=M (O x s.out.length Q):=by rw[<-i];exact C.out.eH.cell 6
  rw[i]at t;obtain⟨c,D,m,an,B,ao⟩:=iN (P:=Tryz.prog) (W:=d.drew) 51 51 3 d1 _ 1 8 Tryz.underlying51 ar a4 a8 b9 rfl (by decide) w0.heap.size _ _ _ t #[J I (eI b[0])] rfl (λn a=>by simp only[aE,aF,or_false]at a;subst a;rfl) d.heap.size rfl (by unfold maxLen;omega) (by omega) C.out.bel.size;obtain⟨z,A,rfl⟩:=fd an;obtain⟨⟨E,l⟩,a0,a3⟩:=C.out.drew.print (out':=s.out++ [eI b[0]]) (by rw[i];exact B) (by rw[aw,aM];exact an) (by rw[i];exact ao);rw[i]at a0
  have r:OV 19 b s.out=s.out++ [eI b[0]]:=by
   unfold OV;rw[am rfl,OW o]
  have q:Hid (qL p w0 mb vp ask s fx (jr 19 j b y.1) (OV 19 b s.out) (D.setCell ⟨mb,6,U⟩ (O z (s.out.length+1) A)) (zR (.tuple #[]))):=by
   refine⟨rfl,E,y.2,O z (s.out.length+1) A,?_⟩;rw[r,show jr 19 j b y.1=y.1 from rfl];rw[show fx++ [(y.1,y.2)]=s.fx from V.out.symm];exact l
  generalize eI b[0]=nu at *;have h:=Ou (iD.alloc (W:=d) (v:=O x s.out.length Q) (cb:=mb) (oc:=6) (zC #[J I nu] 3));have G:=Ou (iD.of (cb:=mb) (oc:=6) B.vK);have H:=Ou (iD.set (cb:=mb) (oc:=6) (v':=O z (s.out.length+1) A) B.vK);have bf:=kK d (zC #[J I nu] 3) _ _ d2;have bs:=ea L _ _ f;have Z:=Oo bs;dsimp only at Z;have bo:¬(O x s.out.length Q).ownBlock=M T:=λk=>by have:=ac.eE T (by rw[i];exact k);omega
  have br:¬T=mb:=by have:=ac.mb;omega
  have ca:(0:Int)<(b.length:Int):=by omega
  clear r g f l an B ao t i;go_wp2;refine iY (iD d.heap.size (O x s.out.length Q) mb 6 d) (λ_ _ _ _ _=>rfl) λhHeld=>?_;refine dZ 87 0 ?_;refine dZ 88 1 ?_;refine dZ 89 2 ?_;refine dZ 90 3 ?_;refine dZ 91 4 ?_;refine dZ 93 6 ?_;refine dZ 94 7 ?_;refine dZ 95 8 ?_;refine dZ 96 9 ?_;refine iu 5 10 (λK a=>?_) λK a=>?_;go_simp;refine a.out _ _ (λ_ _ _ _ _=>rfl) λhHeld=>?_;clear a K hHeld;refine el 10 (λK a=>?_);go_simp;refine a.out _ _ h.out λhHeld=>?_;clear a K hHeld;rotate_left;go_simp;refine a.out _ _ h.out λhHeld=>?_;clear a K hHeld;refine el 5 (λK a=>?_);go_simp;refine a.out _ _ h.out λhHeld=>?_;clear a K hHeld
  all_goals
   refine el 11 (λK a=>?_);refine ON (.tmp 92) (.tmp 97) 51 rfl _ _ rfl rfl m ?_;go_simp;refine a.out _ _ G.out λhHeld=>?_;refine dZ 99 12 ?_;refine dZ 100 13 ?_;refine dZ 101 14 ?_;refine el 15 (λK a=>?_);go_simp;refine a.out _ _ H.out λhHeld=>?_;refine ig ?_;clear m hHeld;go_wp2;go_end0;exact ea q
 .have an:=F.out.l2 rfl;have o:0<b.length:=by omega
  obtain⟨g,f⟩:=ea a1 0 o;obtain⟨i,Q⟩:=ea a1 1 an;obtain rfl:=bk (eW o);rw[cr,bK]at g f;rw[Nat.one_mul]at i Q;obtain⟨N,g⟩:=iw g;replace f:=(iw f).2;replace i:=(iw i).2;replace Q:=(iw Q).2;dsimp only at N
  have r:jr 20 j b y.1= { y.1 with stk:=y.1.stk++ [b[1],b[0]] } :=by
   unfold jr;rw[af (by decide),af (by decide),af (by decide),af (by decide),af (by decide),am rfl,OW o,OW an]
  obtain⟨z,A,D,m,⟨E,l⟩,⟨a0,a3⟩,B,t,x⟩:=ea bc [b[1],b[0]] (by simp) #[J I (fq b[1]),J I (eI b[1]),J I (fq b[0]),J I (eI b[0])] (Ea _ _).symm 2 rfl;have q:Hid (qL p w0 mb vp ask s fx (jr 20 j b y.1) (OV 20 b s.out) (D.setCell ⟨e,fx.length*5+4,U⟩ (O z (y.1.stk.length+2) A)) (zR (.tuple #[]))):=⟨rfl,E,_,_,by rw[r];exact l⟩;generalize b[0]=n at *;generalize b[1]=u at *;have bf:=kK d (zC #[J I (fq u),J I (eI u),J I (fq n),J I (eI n)] 183) _ _ X;have a8:=ea L _ _ g;have bs:=ea L _ _ f;have c:=ea L _ _ i;have c:=ea L _ _ Q;have Z:=Oo a8;dsimp only at Z;have bo:=b7 T N;have br:¬T=e:=by omega
  have ca:(0:Int)<(b.length:Int):=by omega
  have c:(1:Int)<(b.length:Int):=by omega
  clear r g f i Q;have h:=Ou B;have G:=Ou t;have H:=Ou x;clear l B t x;go_wp2;refine iY (iD d.heap.size (O R y.1.stk.length S) e (fx.length*5+4) d) (λ_ _ _ _ _=>rfl) λhHeld=>?_;refine dZ 104 0 ?_;refine dZ 105 1 ?_;refine dZ 106 2 ?_;refine dZ 107 3 ?_;refine dZ 109 5 ?_;refine dZ 110 6 ?_;refine dZ 111 7 ?_;refine dZ 112 8 ?_;refine dZ 113 9 ?_;refine dZ 114 10 ?_;refine iu 4 11 (λK a=>?_) λK a=>?_;go_simp;refine a.out _ _ (λ_ _ _ _ _=>rfl) λhHeld=>?_;clear a K hHeld;refine el 11 (λK a=>?_);go_simp;refine a.out _ _ h.out λhHeld=>?_;clear a K hHeld;rotate_left;go_simp;refine a.out _ _ h.out λhHeld=>?_;clear a K hHeld;refine el 4 (λK a=>?_);go_simp;refine a.out _ _ h.out λhHeld=>?_;clear a K hHeld
  all_goals
   refine el 12 (λK a=>?_);refine ON (.tmp 108) (.tmp 115) 181 rfl _ _ rfl rfl m ?_;go_simp;refine a.out _ _ G.out λhHeld=>?_;refine dZ 117 13 ?_;refine dZ 118 14 ?_;refine el 15 (λK a=>?_);go_simp;refine a.out _ _ H.out λhHeld=>?_;refine ig ?_;clear m hHeld;go_wp2;go_end0;exact ea q
end
def jo (p:On)(objs:List fL)(n:Nat)(l:List LVal)(op a:Int):Int:=
 if op=9 then (if objs.length=100 then 8 else 0) else if op=17 then (if eI (l.getD 0 eO)≠0/\fD p (jD objs (l.getD 0 eO)) a=F then 4 else 0) else if op=12 then (if 30<=n then 7 else 0) else 0
def nh (v:LVal):Nat:=v.obj.getD 0
def mz (objs:List fL)(l:List LVal)(op a b:Int)(f:eD):eD:=
 if op=9 then { f with stk:=f.stk++ [ju a objs.length] }
 else if op=10 then { f with stk:=f.stk++ [(objs.getD (nh (l.getD 0 eO)) ⟨0,[]⟩).fO.getD b.toNat eO] }
 else if op=17 then { f with stk:=f.stk++ [l.getD 0 eO] }
 else f
def pP (p:On)(objs:List fL)(l:List LVal)(op a b:Int):List fL:=
 if op=9 then objs++ [⟨a,(OE p a).map fV⟩]
 else if op=11 then objs.set (nh (l.getD 0 eO)) { objs.getD (nh (l.getD 0 eO)) ⟨0,[]⟩ with fO:=(objs.getD (nh (l.getD 0 eO)) ⟨0,[]⟩).fO.set b.toNat (l.getD 1 eO) }
 else objs
def nS (p:On)(objs:List fL)(l:List LVal)(op b:Int):List eD:=
 if op=12 then [qW p (jD objs (l.getD 0 eO)) b (ju (jD objs (l.getD 0 eO)) (nh (l.getD 0 eO))) (l.drop 1)] else []
def nX (p:On)(w0:World)(mb:Nat)(vp:Value)(ask:Bool)(w:World)(frames:List eD)(objs:List fL)(out:Ok)(steps:Nat)(k v:Int):Prop:=
 ∃ ρ s,fh p w0 w ρ mb vp ask s/\s.fx.map Prod.fst=frames/\s.ox.map Prod.fst=objs/\s.out=out/\s.steps=steps/\s.k=k/\s.v=v
def pt (p:On)(w0:World)(mb:Nat)(vp:Value)(ask:Bool)(s:RS)(fx:List (eD×gD))(y:eD×gD)(l:List LVal)(op a b:Int)(w':World)(e:Ending):Prop:=
 e=zR (J I (jo p (s.ox.map Prod.fst) s.fx.length l op a))/\(jo p (s.ox.map Prod.fst) s.fx.length l op a≠0->∃ ρ',fh p w0 w' ρ' mb vp ask s)/\
  (jo p (s.ox.map Prod.fst) s.fx.length l op a=0->nX p w0 mb vp ask w' (fx.map Prod.fst++ [mz (s.ox.map Prod.fst) l op a b y.1]++nS p (s.ox.map Prod.fst) l op b) (pP p (s.ox.map Prod.fst) l op a b) s.out s.steps s.k s.v)
structure Be (p:On)(o a b:Int)(l:List LVal)(y:eD×gD)(s:RS):Prop where
 F:fi p=0
 z:eM p<=4194304
 O:jX p (s.ox.map Prod.fst)
 jR:s.ox.length<=100
 fx:s.fx.length<=30
 sl:y.1.stk.length<=4194304
 op:o=9\/o=10\/o=11\/o=17\/o=12
 cls:o=9->∃k:Nat,a=(k:Int)/\k<p.length
 im:(o=10\/o=11)->∃k z,∃j:Nat,(l.getD 0 eO).obj=M k/\s.ox[k]? =M z/\b=(j:Int)/\j<z.1.fO.length
 l1:o≠9->0<l.length
 l2:o=11->1<l.length
 c17:o=17->fv (s.ox.map Prod.fst) (l.getD 0 eO)/\iy (l.getD 0 eO).kind=K
 call:o=12->∃k z,(l.getD 0 eO).obj=M k/\s.ox[k]? =M z/\(fy p z.1.cls b).isSome=K/\(l.length:Int)<=(ew p z.1.cls b).locals/\(ew p z.1.cls b).locals<=8
section
variable {p : List eb} {w0 w : World} {ρ : Nat -> Nat × Nat} {mb : Nat} {vp : Value} {ask : Bool} {s : RS}
theorem My(N:fh p w0 w ρ mb vp ask s)(et:eQ w0 vp p){fx y}(bI:s.fx=fx++ [y])(b5 q G d eS e0 ce bn)(ak:pX bn mb s)(e6:bn<=w.heap.size)(dp:eG 2 (mC (sel (λb=>bn<=b) w)) ( .slice eS e0 ce) d)(K:Be p b5 q G d y s):
  Calls Tryz.prog 180 #[zP (M ⟨mb,0,U⟩),.agg #[J I b5,J I q,J I G], .slice eS e0 ce] w λa E=>pt p w0 mb vp ask s fx y d b5 q G E a:=by
 have cz:s.fx[fx.length]? =M y:=by rw[bI];simp
 have fn:y∈s.fx:=by rw[bI];simp
 have cu:s.fx.length=fx.length+1:=by rw[bI];simp
 have e9:fx.length<=30:=by have:=K.fx;omega
 obtain⟨A,ej,eP,a6,eS,ep⟩:=N.call cz;obtain⟨ba,bc,b9⟩:=fd (N.fr _ _ cz).st;have eR:w.cell? ⟨mb,3,U⟩=M ( .slice (M ⟨A,0,U⟩) (fx.length+1) ej):=by rw[<-cu,<-eP];exact N.eH.cell 3
 have br:w.cell? ⟨A,fx.length*5+4,U⟩=M ( .slice ba y.1.stk.length bc):=by rw[<-b9];exact ep 4 (by omega)
 have cs:=ev w (zC #[J I b5,J I q,J I G] 60);have eg:=Oz w #[J I b5,J I q,J I G] 60;have b5:A<bn:=ak.vc A a6;have d1:∀r,bn<=r->¬(Value.slice ba y.1.stk.length bc).ownBlock=M r:=λr er a=>by have:=(ak.fr y fn).2 r (by rw[b9];exact a);omega
 obtain⟨bn,H,bM,bn,fc,bn,ca,eK⟩:=eN dp
 cases fc
 have bk:=Ou eK;have e3:=Ou dp;have e2:=Ou N;have b7:=Ou et;have ad:=Ou bI;have bh:=Ou b9;have l:=Ou K;have bn:=Ou cu;have fa:=ap (fQ p) K.z;have d2:=iA K.F;clear N eK dp ep cu eP cz bI b9 K et;go_in
 go_wp2_with fail;generalize w.alloc _=Wb at *;refine(rz Wb mb A fx.length ej e9 (Oq cs _ _ eR)).mono ?_;rintro a m ⟨rfl,cp⟩;have eo:=eu cs cp;have bf:=eg.bl cp;have bn:=bf.c0;have bn:=bf.c1;have ei:=bf.c2;have d4:=Oq eo;replace br:=d4 _ _ br;have f3:=Oo br;have bn:=bf.lt;dsimp only at f3;have L:=Ou d4;have f:=Ou (e2.below eo (ai _));have bn:=d1 w.heap.size e6;have bn:¬w.heap.size=A:=by omega
 have d0:=λ(a:List LVal) (hx:a.length<=2) (g:Array Value) (e:g.toList=fY a) (b:Nat) (d:b=a.length)=>f.drew.tR ad a6 l.sl a hx e b m.heap.size d rfl rfl;rw[ea bh]at d0;have e4:=Ou d0;clear eg bf cs cp eR d4 d0;go_upto_region 3 with fail
 rcases l.op with rfl | rfl | rfl | rfl | rfl
 .obtain⟨e,rfl,x⟩:=l.cls rfl;have D:=zk l.F (c:=(e:Int)) (by omega) (by omega);go_wp2_with fail;refine(Es f b7 d2 l.z l.jR e x (by omega)).mono ?_;rintro a o j;unfold qI at j
  by_cases h:s.ox.length=100
  .rw [am h]at j;obtain⟨rfl,rfl⟩:=j;have g:jo p (s.ox.map Prod.fst) s.fx.length d 9 (e:Int)=8:=(by unfold jo;rw[am rfl,aZ,am h])
   have B:Hid (pt p w0 mb vp ask s fx y d 9 (e:Int) G o (zR (J I 8))):=by
    refine⟨by rw[g],λ_=>⟨ρ,ea f⟩,λa=>?_⟩;rw[g]at a;cases a
   clear g h;go_wp2;go_ret;exact B
  .rw [af h]at j;obtain⟨rfl,⟨x,x,x,k⟩,u⟩:=j;have g:jo p (s.ox.map Prod.fst) s.fx.length d 9 (e:Int)=0:=(by unfold jo;rw[am rfl,aZ,af h]);have t:=k.tR ad a6 l.sl [ju (e:Int) s.ox.length] (by simp) (news:= #[J I 2,J I ((s.ox.length:Int)+1)]) rfl 1 o.heap.size rfl rfl rfl;rw[ea bh]at t;obtain⟨bo,bs,be,an,⟨b6,Y⟩,⟨e1,en⟩,a5,a3,a4⟩:=t
   have j:o.cell? ⟨A,fx.length*5+4,U⟩=M ( .slice ba y.1.stk.length bc):=by
    obtain⟨j,_,_,o,_,B⟩:=k.call (i:=fx.length) (y:=y) (by show s.fx[fx.length]? =_;rw[ea ad];simp);have C:M A=M j:=a6.symm.trans o
    cases C
    rw[<-ea bh];exact B 4 (by omega)
   have B:Hid (pt p w0 mb vp ask s fx y d 9 (e:Int) G (be.setCell ⟨A,fx.length*5+4,U⟩ ( .slice bo (y.1.stk.length+1) bs)) (zR (J I 0))):=by
    refine⟨by rw[g],λa=>absurd g a,λ_=>⟨b6,_,Y,?_,?_,rfl,rfl,rfl,rfl⟩⟩
    .show (fx++ [_]).map Prod.fst=_
     rw[aM];unfold mz nS;rw[am rfl,af (by decide),bL,aZ];rfl
    .show (s.ox++ [_]).map Prod.fst=_
     rw[aM];unfold pP;rw[am rfl];rfl
   have ac:((s.ox.length:Int)+1 == 0)=false:=(by simp;omega);have e:¬(s.ox.length:Int)+1=0:=(by omega);clear Y a5 a3 a4 g h k u;go_wp2_with (at_builtin;refine OA rfl (.tmp 26) (.tmp 29) 181 rfl _ _ rfl rfl an ?_)
   go_ret;exact B
 .obtain⟨b,g,t,C,j,rfl,b8⟩:=l.im (.inl rfl);obtain⟨u,W,D,Q,ds,P,cc⟩:=f.sE j;obtain⟨X,R⟩:=f.ob b g j;have cA:=(ag.1 j).1;have aa:m.cell? ⟨mb,2,U⟩=M ( .slice (M ⟨u,0,U⟩) s.ox.length W):=by rw[<-D];exact f.eH.cell 2
  have o:=l.l1 (by decide);obtain⟨h,k⟩:=bk 0 o;obtain rfl:=ca (eW o);rw[cr,bK]at h k;obtain⟨S,h⟩:=iw h;replace k:=(iw k).2;dsimp only at S;replace h:=ea L _ _ h;replace k:=ea L _ _ k;rw[OW o]at C;have ar:eI d[0]=(b:Int)+1:=by unfold eI;rw[C]
  have d3:=l.jR;have d6:=fp b;have d9:(b:Int)<(s.ox.length:Int):=by omega
  have ec:IntKind.i64.wrap (b:Int)=(b:Int):=by rw[IntKind.wrap_i64];omega
  have cf:eI d[0]-1=(b:Int):=by omega
  have d5:(0:Int)<(d.length:Int):=by omega
  have a0:=Oo aa;have a1:=Oo P;have a2:=Oo h;dsimp only at a0 a1 a2;have V:(s.ox.map Prod.fst).getD b ⟨0,[]⟩=g.1:=by rw[aj,aU,j];rfl
  have T:nh (d.getD 0 eO)=b:=by unfold nh;rw[OW o,C];rfl
  obtain⟨x,ck,a8,e7,Z,bz⟩:=jH X (by omega);have es:g.1.fO[t]? =M g.1.fO[t]:=ae b8;have cm:=bz (t*2+0) (by omega);have cn:=bz (t*2+1) (by omega);rw[vg es (by omega),pG]at cm cn;rw[a8]at cc;have cb:∀r d,ρ r=d->d≠(2,fx.length)->¬(Value.slice ba y.1.stk.length bc).ownBlock=M r:=λr d b ao a=>ao (b▸(f.fr fx.length y (by rw[ea ad];simp)).r2 r (by rw[ea bh];exact a));have ab:∀r d,ρ r=d->d≠(6,0)->¬r=A:=λr d b ao a=>by subst a;exact ao (b▸f.jV _ a6)
  have bf:=cb mb _ f.iv (by simp);have fo:=ab mb _ f.iv (by simp);have bf:=cb u _ (f.kO u Q) (by simp);have fs:=ab u _ (f.kO u Q) (by simp);have bf:=cb x _ (R x Z) (by simp);have ft:=ab x _ (R x Z) (by simp);have bf:=d1 H S;have f0:¬H=A:=by omega
  obtain⟨bo,bs,be,an,⟨b6,Y⟩,⟨e1,en⟩,a5,a3,a4⟩:=e4 [g.1.fO[t]] (by simp) #[J I (fq g.1.fO[t]),J I (eI g.1.fO[t])] (tX _).symm 1 rfl
  have B:Hid (pt p w0 mb vp ask s fx y d 10 q (t:Int) (be.setCell ⟨A,fx.length*5+4,U⟩ ( .slice bo (y.1.stk.length+1) bs)) (zR (J I 0))):=by
   refine⟨rfl,λa=>absurd rfl a,λ_=>⟨b6,_,Y,?_,rfl,rfl,rfl,rfl,rfl⟩⟩
   show (fx++ [_]).map Prod.fst=_
   rw[aM];unfold mz nS;rw[af (by decide),am rfl,af (by decide),bL,T,V,aK,OW b8];rfl
  generalize g.1.fO[t]=v at *;have e5:=kK m (zC #[J I (fq v),J I (eI v)] 183) _ _ br;have bf:m.cell? ⟨x,t*2,U⟩=M (J I (fq v)):=cm;have bn:m.cell? ⟨x,t*2+1,U⟩=M (J I (eI v)):=cn;have f4:=Oo bf;dsimp only at f4;have f1:=fp t;have f2:(t:Int)<(g.1.fO.length:Int):=by omega
  have ac:=Ou a5;have cg:=Ou a3;have ci:=Ou a4;generalize eI d[0]=nu at *;clear Y a5 a3 a4 cb ab es cm cn bz a8 Z D Q j C X R ar V T P;go_wp2;refine iY (iD m.heap.size ( .slice ba y.1.stk.length bc) A (fx.length*5+4) m) (λ_ _ _ _ _=>rfl) λhHeld=>?_;refine dZ 35 0 ?_;refine dZ 36 1 ?_;refine dZ 37 2 ?_;refine dZ 38 3 ?_;refine dZ 40 5 ?_;refine dZ 41 6 ?_;refine dZ 42 7 ?_;refine dZ 43 8 ?_;refine dZ 44 9 ?_;refine dZ 45 10 ?_;refine dZ 46 11 ?_;refine dZ 47 12 ?_;refine dZ 48 13 ?_;refine dZ 49 14 ?_;refine dZ 50 15 ?_;refine dZ 51 16 ?_;refine dZ 52 17 ?_;refine dZ 53 18 ?_;refine dZ 54 19 ?_;refine dZ 55 20 ?_;refine iu 4 21 (λK e=>?_) λK e=>?_;go_simp;refine e.out _ _ (λ_ _ _ _ _=>rfl) λhHeld=>?_;clear e K hHeld;refine el 21 (λK e=>?_);go_simp;refine e.out _ _ ac λhHeld=>?_;clear e K hHeld;rotate_left;go_simp;refine e.out _ _ ac λhHeld=>?_;clear e K hHeld;refine el 4 (λK e=>?_);go_simp;refine e.out _ _ ac λhHeld=>?_;clear e K hHeld
  all_goals
   refine el 22 (λK e=>?_);refine ON (.tmp 39) (.tmp 56) 181 rfl _ _ rfl rfl an ?_;go_simp;refine e.out _ _ cg λhHeld=>?_;refine dZ 58 23 ?_;refine dZ 59 24 ?_;refine el 25 (λK e=>?_);go_simp;refine e.out _ _ ci λhHeld=>?_;refine ig ?_;clear an hHeld;go_wp2;go_ret;exact B
 .obtain⟨b,g,t,C,j,rfl,b8⟩:=l.im (.inr rfl);obtain⟨u,W,D,Q,ds,P,cc⟩:=f.sE j;obtain⟨X,R⟩:=f.ob b g j;have cA:=(ag.1 j).1;have aa:m.cell? ⟨mb,2,U⟩=M ( .slice (M ⟨u,0,U⟩) s.ox.length W):=by rw[<-D];exact f.eH.cell 2
  have o:=l.l1 (by decide);obtain⟨h,k⟩:=bk 0 o;obtain rfl:=ca (eW o);rw[cr,bK]at h k;obtain⟨S,h⟩:=iw h;replace k:=(iw k).2;dsimp only at S;replace h:=ea L _ _ h;replace k:=ea L _ _ k;rw[OW o]at C;have ar:eI d[0]=(b:Int)+1:=by unfold eI;rw[C]
  have d3:=l.jR;have d6:=fp b;have d9:(b:Int)<(s.ox.length:Int):=by omega
  have ec:IntKind.i64.wrap (b:Int)=(b:Int):=by rw[IntKind.wrap_i64];omega
  have cf:eI d[0]-1=(b:Int):=by omega
  have d5:(0:Int)<(d.length:Int):=by omega
  have a0:=Oo aa;have a1:=Oo P;have a2:=Oo h;dsimp only at a0 a1 a2;have V:(s.ox.map Prod.fst).getD b ⟨0,[]⟩=g.1:=by rw[aj,aU,j];rfl
  have T:nh (d.getD 0 eO)=b:=by unfold nh;rw[OW o,C];rfl
  have a4:=l.l2 rfl;obtain⟨Y,ac⟩:=bk 1 a4;rw[Nat.one_mul]at Y ac;replace Y:=ea L _ _ (iw Y).2;replace ac:=ea L _ _ (iw ac).2;obtain⟨x,ck,a8,e7,Z,bz⟩:=jH X (by omega);rw[a8]at cc;have ab:∀r d,ρ r=d->d≠(4,b)->¬r=x:=λr d b ao a=>by subst a;exact ao (b▸R _ Z)
  have fo:=ab mb _ f.iv (by simp);have fs:=ab u _ (f.kO u Q) (by simp);have f0:¬H=x:=by have:=ak.ob g (aB j) x Z;omega
  have Y:¬w.heap.size=x:=by have:=ak.ob g (aB j) x Z;omega
  have ft:∀b,¬b=x->¬(Value.slice (M ⟨x,0,U⟩) g.1.fO.length ck).ownBlock=M b:=λb d a=>d (aT a).symm;obtain⟨Y,bs,cb,e⟩:=f.drew.im j a8 b8 d[1]
  have B:Hid (∀E,ed E x 183 (OL Y (t*2) (lK d[1]))->ee (λb=>b=x) m.drew E->pt p w0 mb vp ask s fx y d 11 q (t:Int) E (zR (J I 0))):=λE a5 bo=>by
   obtain⟨a3,an⟩:=e E a5 bo;refine⟨rfl,λa=>absurd rfl a,λ_=>⟨a3,_,an,?_,?_,rfl,rfl,rfl,rfl⟩⟩
   .show s.fx.map Prod.fst=_
    rw[ea ad,aM];unfold mz nS;rw[af (by decide),af (by decide),af (by decide),af (by decide),bL];rfl
   .show (s.ox.set b _).map Prod.fst=_
    unfold pP;rw[af (by decide),am rfl,T,V,aK,OW a4,List.map_set]
  have a3:=xB d[1];rw[pG]at B a3;generalize d[1]=v at *;have f1:=fp t;have f2:(t:Int)<(g.1.fO.length:Int):=by omega
  have Y:(1:Int)<(d.length:Int):=by omega
  generalize eI d[0]=nu at *;clear ab bz a8 Z D Q j C X R ar V T P e;go_wp2;refine iY (iD m.heap.size ( .slice (M ⟨x,0,U⟩) g.1.fO.length ck) x 0 m) (λ_ _ _ _ _=>rfl) λhHeld=>?_;refine dZ 62 0 ?_;refine dZ 63 1 ?_;refine dZ 64 2 ?_;refine dZ 65 3 ?_;refine dZ 66 4 ?_;refine dZ 67 5 ?_;refine dZ 68 6 ?_;refine dZ 69 7 ?_;refine dZ 70 8 ?_;refine dZ 71 9 ?_;refine dZ 72 10 ?_;refine dZ 73 11 ?_;refine dZ 74 12 ?_;refine dZ 75 13 ?_;refine dZ 76 14 ?_;refine dZ 77 15 ?_;refine dZ 78 16 ?_;refine dZ 79 17 ?_;refine el 18 (λK e=>?_);refine kS uw bs (t*2) [J I (fq v),J I (eI v)] rfl cb a3 (.tmp 79) (.tmp 78) rfl rfl rfl ?_;intro be b6 an Y;refine e.out _ _ (iD.of (an.vK.mono λb _ a=>by subst a;rfl)) λhHeld=>?_;refine ig ?_;clear hHeld;go_wp2;go_ret;exact B _ b6 an
 .have o:=l.l1 (by decide);obtain⟨D,T⟩:=l.c17 rfl;rw[OW o]at D T;obtain⟨h,k⟩:=bk 0 o;obtain rfl:=ca (eW o);rw[cr,bK]at h k;obtain⟨S,h⟩:=iw h;replace k:=(iw k).2;dsimp only at S;replace h:=ea L _ _ h;replace k:=ea L _ _ k;have d5:(0:Int)<(d.length:Int):=by omega
  have a2:=Oo h;dsimp only at a2
  have bz:jo p (s.ox.map Prod.fst) s.fx.length d 17 q=if eI d[0]≠0/\fD p (jD (s.ox.map Prod.fst) d[0]) q=false then 4 else 0:=by
   unfold jo;rw[af (by decide),am rfl,OW o]
  have X:=Ou bz
  have a8:mz (s.ox.map Prod.fst) d 17 q G y.1= { y.1 with stk:=y.1.stk++ [d[0]] } :=by
   unfold mz;rw[af (by decide),af (by decide),am rfl,OW o]
  have b8:=Ou a8;generalize d[0]=v at *;clear bz a8;go_upto_if 86 with fail
  go_cut [] (λa=>Below m.heap.size m a/\jo p (s.ox.map Prod.fst) s.fx.length d 17 q=0)
  case first=>
   rcases pf D T with ⟨Q,C,Z⟩ | ⟨b,a5,Q,C,Z,bs,a3⟩
   .have Y:Hid (jo p (s.ox.map Prod.fst) s.fx.length d 17 q=0):=(by show _=_;rw[ea X,af (λN=>N.1 Q)]);have ac:¬0<eI v:=(by omega);clear Q C Z;go_wp2
    go_meet
    case rel=>exact ⟨ay _ _,ea Y⟩
   .rw [aU]at C;obtain⟨g,j,rfl⟩:=aW.1 C;obtain⟨u,W,a4,_,ds,P,_⟩:=f.sE j;have cA:=(ag.1 j).1;have d3:=l.jR;have aa:m.cell? ⟨mb,2,U⟩=M ( .slice (M ⟨u,0,U⟩) s.ox.length W):=(by rw[<-a4];exact f.eH.cell 2);have b6:=f.out.eH.c0;have ab:=l.O.cls g.1 (bF.2 ⟨g,aB j,rfl⟩);have ar:=Ou a3;have a0:=Oo aa;have a1:=Oo P;dsimp only at a0 a1;have bo:=Ou (eA (Oq f.bel) b7);have d6:=fp b;have d9:(b:Int)<(s.ox.length:Int):=(by omega);have ec:IntKind.i64.wrap (b:Int)=(b:Int):=(by rw[IntKind.wrap_i64];omega);have cf:eI v-1=(b:Int):=(by omega);have ac:0<eI v:=(by omega);have be:Hid (eI v≠0):=(by show _≠_;omega);generalize g.1.cls=cl at *;obtain⟨a8,_,_,a8,ao,_⟩:=b7;rw[ao]at b6;clear Q C Z bs a3 j a4 D T;go_wp2;refine fk (jC m.heap.size m) (λ_ _ _=>rfl) λhHeld=>?_;refine dZ 87 0 ?_;refine dZ 88 1 ?_;refine dZ 89 2 ?_;refine dZ 90 3 ?_;refine dZ 91 4 ?_;refine dZ 92 5 ?_;refine dZ 93 6 ?_;refine dZ 94 7 ?_;refine dZ 95 8 ?_;refine dZ 96 9 ?_;refine dZ 97 10 ?_;refine dZ 98 11 ?_;refine dZ 99 12 ?_;refine dZ 100 13 ?_;refine dZ 101 14 ?_;refine dZ 102 15 ?_;refine dZ 103 16 ?_;refine dZ 104 17 ?_;refine el 18 (λK e=>?_);go_simp;have V:=xG p vp cl q m.drew bo d2 (by omega) ab.2 fa;rw[ao]at V;refine V.mono ?_;rintro a x ⟨rfl,Q⟩;have an:=mA Q;clear V;go_wp2_with fail;refine e.out _ _ (λb a5 d=>an.cell (p:=⟨b,a5,U⟩) d) λhHeld=>?_;refine dZ 9 19 ?_;refine eV ?_;clear hHeld ao
    cases R:fD p cl q with
    | true =>
     have Y:Hid (jo p (s.ox.map Prod.fst) s.fx.length d 17 q=0):=by show _=_;rw[ea X,ea ar,R,af (λN=>by cases N.2)]
     clear R;go_wp2
     go_meet
     case rel=>exact ⟨an,ea Y⟩
    | false =>
     have t:jo p (s.ox.map Prod.fst) s.fx.length d 17 q=4:=(by rw[ea X,ea ar,R,am ⟨ea be,rfl⟩])
     have B:Hid (pt p w0 mb vp ask s fx y d 17 q G x (zR (J I 4))):=by
      refine⟨by rw[t],λ_=>⟨ρ,f.below an (ai _)⟩,λa=>?_⟩;rw[t]at a;cases a
     clear R t;go_wp2;go_ret;exact B
  case rest=>
   obtain⟨x,g⟩:=hcut
   rename World=>j
   have C:=Ou (f.below x (ai _));have t:=C.drew.tR ad a6 l.sl [v] (by simp) (news:= #[J I (fq v),J I (eI v)]) (tX _).symm 1 j.heap.size rfl rfl rfl;rw[ea bh]at t;obtain⟨bo,bs,be,an,⟨b6,Y⟩,⟨e1,en⟩,a5,a3,a4⟩:=t
   have B:Hid (pt p w0 mb vp ask s fx y d 17 q G (be.setCell ⟨A,fx.length*5+4,U⟩ ( .slice bo (y.1.stk.length+1) bs)) (zR (J I 0))):=by
    refine⟨by rw[g],λa=>absurd g a,λ_=>⟨b6,_,Y,?_,rfl,rfl,rfl,rfl,rfl⟩⟩
    show (fx++ [_]).map Prod.fst=_
    rw[aM,ea b8];unfold nS;rw[af (by decide),bL];rfl
   have u:=Oq x;have C:=u _ _ br;have P:=u _ _ h;have P:=u _ _ k;have e5:=kK j (zC #[J I (fq v),J I (eI v)] 183) _ _ C;have C:=x.size;have x:A<j.heap.size:=(by omega);have x:H<j.heap.size:=(by omega);have x:=d1 H S;have x:¬H=A:=(by omega);have ac:=Ou a5;have cg:=Ou a3;have ci:=Ou a4;clear Y a5 a3 a4 g u D T;go_wp2;refine iY (iD j.heap.size ( .slice ba y.1.stk.length bc) A (fx.length*5+4) j) (λ_ _ _ _ _=>rfl) λhHeld=>?_;refine dZ 108 0 ?_;refine dZ 109 1 ?_;refine dZ 110 2 ?_;refine dZ 111 3 ?_;refine dZ 113 5 ?_;refine dZ 114 6 ?_;refine dZ 115 7 ?_;refine iu 4 8 (λK e=>?_) λK e=>?_;go_simp;refine e.out _ _ (λ_ _ _ _ _=>rfl) λhHeld=>?_;clear e K hHeld;refine el 8 (λK e=>?_);go_simp;refine e.out _ _ ac λhHeld=>?_;clear e K hHeld;rotate_left;go_simp;refine e.out _ _ ac λhHeld=>?_;clear e K hHeld;refine el 4 (λK e=>?_);go_simp;refine e.out _ _ ac λhHeld=>?_;clear e K hHeld
   all_goals
    refine el 9 (λK e=>?_);refine ON (.tmp 112) (.tmp 116) 181 rfl _ _ rfl rfl an ?_;go_simp;refine e.out _ _ cg λhHeld=>?_;refine dZ 118 10 ?_;refine dZ 119 11 ?_;refine el 12 (λK e=>?_);go_simp;refine e.out _ _ ci λhHeld=>?_;refine ig ?_;clear an hHeld;go_wp2;go_ret;exact B
 .obtain⟨b,g,C,j,cm,A,ck⟩:=l.call rfl;obtain⟨u,W,D,Q,ds,P,cc⟩:=f.sE j;obtain⟨X,R⟩:=f.ob b g j;have cA:=(ag.1 j).1;have aa:m.cell? ⟨mb,2,U⟩=M ( .slice (M ⟨u,0,U⟩) s.ox.length W):=by rw[<-D];exact f.eH.cell 2
  have o:=l.l1 (by decide);obtain⟨h,k⟩:=bk 0 o;obtain rfl:=ca (eW o);rw[cr,bK]at h k;obtain⟨S,h⟩:=iw h;replace k:=(iw k).2;dsimp only at S;replace h:=ea L _ _ h;replace k:=ea L _ _ k;rw[OW o]at C;have ar:eI d[0]=(b:Int)+1:=by unfold eI;rw[C]
  have d3:=l.jR;have d6:=fp b;have d9:(b:Int)<(s.ox.length:Int):=by omega
  have ec:IntKind.i64.wrap (b:Int)=(b:Int):=by rw[IntKind.wrap_i64];omega
  have cf:eI d[0]-1=(b:Int):=by omega
  have d5:(0:Int)<(d.length:Int):=by omega
  have a0:=Oo aa;have a1:=Oo P;have a2:=Oo h;dsimp only at a0 a1 a2;have V:(s.ox.map Prod.fst).getD b ⟨0,[]⟩=g.1:=by rw[aj,aU,j];rfl
  have T:nh (d.getD 0 eO)=b:=by unfold nh;rw[OW o,C];rfl
  have a4:jD (s.ox.map Prod.fst) (d.getD 0 eO)=g.1.cls:=by
   unfold jD;rw[OW o,C];exact cP fL.cls V
  have b6:=f.eH.cell 3;obtain⟨A,a6,a8⟩:=fd f.cal;have ba:m.cell? ⟨mb,3,U⟩=M ( .slice A s.fx.length a6):=by rw[<-a8];exact f.eH.cell 3
  by_cases bo:30<=s.fx.length
  .have t:jo p (s.ox.map Prod.fst) s.fx.length d 12 q=7:=(by unfold jo;rw[af (by decide),af (by decide),am rfl,am bo])
   have B:Hid (pt p w0 mb vp ask s fx y d 12 q G m (zR (J I 7))):=by
    refine⟨by rw[t],λ_=>⟨ρ,ea f⟩,λa=>?_⟩;rw[t]at a;cases a
   have ac:(30:Int)<=(s.fx.length:Int):=(by omega);clear t a4 b6 a8 X R V T ar C j D Q;go_wp2;go_ret;exact B
  .have t:jo p (s.ox.map Prod.fst) s.fx.length d 12 q=0:=(by unfold jo;rw[af (by decide),af (by decide),am rfl,af bo]);have ac:¬(30:Int)<=(s.fx.length:Int):=(by omega);have ab:=l.O.cls g.1 (bF.2 ⟨g,aB j,rfl⟩);have ci:fq d[0]=2:=(by unfold fq;rw[C]);have bs:=y7 (xZ (fN.trans iR L) e3) 1 o;have an:=Eo f.drew b7 d2 l.z (by have:=l.fx;omega) g.1.cls G ab.1 ab.2 cm (ju g.1.cls b) (d.drop 1) _ _ _ bs (by rw[cv];omega) ck;rw[show fq (ju g.1.cls b)=2 from rfl,show eI (ju g.1.cls b)=(b:Int)+1 from rfl]at an;have b8:=Ou an;have Y:=Ou t;have be:=Ou (aq T a4);have cb:=Ou D;rw[ci]at h;rw[ar]at k;have cn:∀r,s.vc.ownBlock=M r->¬u=r:=λr er a=>by subst a;have:=f.kO _ Q;rw[f.out.jV _ er]at this;simp at this
   have ao:¬u=mb:=λa=>by have:=f.kO _ Q;rw[a,f.out.iv]at this;simp at this
   have bz:¬H=mb:=(by have:=ak.mb;omega);have en:¬w.heap.size=mb:=(by have:=ak.mb;omega);have a5:=ak.vc;generalize g.1.cls=cl at *;have f:((b:Int)+1)-1=(b:Int):=(by omega);have f:(0:Int)<=1:=(by omega);clear t a4 b6 a8 X R V T ar j D bs an cf;go_wp2;refine fk (λE=>E.cell? ⟨mb,2,U⟩=M ( .slice (M ⟨u,0,U⟩) s.ox.length W)/\E.cell? ⟨H,bM,U⟩=M (J I 2)/\E.cell? ⟨H,bM+1,U⟩=M (J I ((b:Int)+1))/\E.cell? ⟨u,b*2,U⟩=M (J I cl)/\E.cell? ⟨w.heap.size,2,U⟩=M (J I G)) ⟨aa,h,k,P,ei⟩ λhHeld=>?_;refine dZ 128 0 ?_;refine dZ 129 1 ?_;refine dZ 130 2 ?_;refine dZ 131 3 ?_;refine dZ 132 4 ?_;refine dZ 133 5 ?_;refine dZ 134 6 ?_;refine dZ 135 7 ?_;refine dZ 136 8 ?_;refine dZ 137 9 ?_;refine dZ 138 10 ?_;refine dZ 139 11 ?_;refine dZ 140 12 ?_;refine dZ 141 13 ?_;refine dZ 142 14 ?_;refine dZ 143 15 ?_;refine dZ 144 16 ?_;refine dZ 145 17 ?_;refine dZ 146 18 ?_;refine jm (M 147) (i:=19) (v:=( .slice (qU (M ⟨H,bM,U⟩) ce 1) (d.length-1) (ce-1))) rfl rfl (by kernel_rfl) (by kernel_rfl) (by kernel_rfl) (λ_ _ _ N=>N) (dd ⟨by rfl,λE f=>zg (n:=1) rfl rfl rfl rfl o E⟩) (by assumption) ?_;refine el 20 (λK e=>?_);go_simp;refine b8.mono ?_;rintro a x ⟨rfl,⟨es,f,f,a3⟩,Z⟩
   have cg:x.cell? ⟨mb,2,U⟩=M ( .slice (M ⟨u,0,U⟩) s.ox.length W)/\x.cell? ⟨H,bM,U⟩=M (J I 2)/\x.cell? ⟨H,bM+1,U⟩=M (J I ((b:Int)+1))/\x.cell? ⟨u,b*2,U⟩=M (J I cl)/\x.cell? ⟨w.heap.size,2,U⟩=M (J I G):=by
    refine⟨?_,Z.cell (w:=m.drew) h ?_,Z.cell (w:=m.drew) k ?_,Z.cell (w:=m.drew) P ?_,Z.cell (w:=m.drew) ei ?_⟩
    .rw [<-ea cb];exact a3.eH.cell 2
    .exact λa=>a.elim bz (λa=>by have:=a5 H a;omega)
    .exact λa=>a.elim bz (λa=>by have:=a5 H a;omega)
    .exact λa=>a.elim ao (λa=>cn _ a rfl)
    .exact λa=>a.elim en (λa=>by have:=a5 w.heap.size a;omega)
   have B:Hid (pt p w0 mb vp ask s fx y d 12 q G x (zR (J I 0))):=by
    refine⟨by rw[ea Y],λa=>absurd Y a,λ_=>⟨es,_,a3,?_,rfl,rfl,rfl,rfl,rfl⟩⟩
    show (s.fx++ [_]).map Prod.fst=_
    rw[ea ad,aM,aM];unfold mz nS;rw[af (by decide),af (by decide),af (by decide),am rfl,be.out.1,be.out.2];rfl
   clear a3 Z;go_wp2_with fail;refine e.out _ _ cg λhHeld=>?_;refine eV ?_;clear hHeld;go_wp2;go_ret;exact B
end
def oB (objs:List fL)(v:LVal)(t:Int):Int:=if t=0 then eI v else if 0<eI v then jD objs v else -1
theorem KN(a):¬(O U 0 0).ownBlock=M a:=λa=>by cases a
section
variable {p : List eb} {w0 w : World} {ρ : Nat -> Nat × Nat} {mb : Nat} {vp : Value} {ask : Bool} {s : RS}
theorem Mz(x:fh p w0 w ρ mb vp ask s)(o:s.ox.length<=100)(a b)(r:b≠0->fv (s.ox.map Prod.fst) a/\iy a.kind=K):
  Calls Tryz.prog 218 #[zP (M ⟨mb,0,U⟩),.agg #[J I (fq a),J I (eI a)],J I b] w λc n=>c=zR (.tuple #[])/\fh p w0 n ρ mb vp ask { s with k:=1,v:=oB (s.ox.map Prod.fst) a b }/\ee (λd=>d=mb) w n:=by
 have o:=ev w (zC #[J I (fq a),J I (eI a)] 183);have H:=Oz w #[J I (fq a),J I (eI a)] 183;have n:=x.below o (ai _);have o:=n.set (s':= { s with k:=1 }) 4 (J I 1);have j:=o.set (s':= { s with k:=1,v:=eI a }) 5 (J I (eI a));have R:=j.set (s':= { s with k:=1,v:= -1 }) 5 (J I (-1));have ao:=x.eH.lt;have x:w.heap.size≠mb:=by omega
 have ao:=n.eH.c4;have ao:=n.eH.frozen 4;have n:=H.gP (p:=⟨mb,4,U⟩) x (J I 1);have ab:=o.eH.cell 5;have H:=o.eH.frozen 5;have ad:=n.cell 1;have o:=n.gP (p:=⟨mb,5,U⟩) x (J I (eI a));have ac:=j.eH.cell 5;have n:=j.eH.frozen 5;have z:=o.gP (p:=⟨mb,5,U⟩) x (J I (-1));have ak:=z.cell 1;have n:ee (λd=>d=mb) w (((w.alloc (zC #[J I (fq a),J I (eI a)] 183)).setCell ⟨mb,4,U⟩ (J I 1)).setCell ⟨mb,5,U⟩ (J I (eI a))):=(((Ow _ w).alloc _).trans (jG _ _ _ _) (λ_ _ c=>c)).trans (jG _ _ _ _) (λ_ _ c=>c);have N:=Ou n;have A:=Ou (n.trans (jG _ mb 5 (J I (-1))) (λ_ _ c=>c));generalize n:w.alloc (zC #[J I (fq a),J I (eI a)] 183)=W1 at *;generalize n:W1.setCell ⟨mb,4,U⟩ (J I 1)=W2 at *;generalize n:W2.setCell ⟨mb,5,U⟩ (J I (eI a))=W3 at *;generalize n:W3.setCell ⟨mb,5,U⟩ (J I (-1))=W4 at *;have n:W2.cell? ⟨mb,5,U⟩=M (J I s.v):=ab;have n:W2.cell? ⟨w.heap.size,1,U⟩=M (J I (eI a)):=ad;have n:W3.cell? ⟨mb,5,U⟩=M (J I (eI a)):=ac;have an:W4.cell? ⟨w.heap.size,1,U⟩=M (J I (eI a)):=ak;have L:=Ou j;have e:=Ou R;have j:=Ou z
 by_cases f:b=0
 .have T:(b != 0)=F:=by simpa using f
  have h:Hid (fh p w0 W3 ρ mb vp ask { s with k:=1,v:=oB (s.ox.map Prod.fst) a b }):=by
   show fh _ _ _ _ _ _ _ _
   rw[show oB (s.ox.map Prod.fst) a b=eI a from am f];exact L
  go_in
  go_wp2;go_end0;exact⟨rfl,ea h,ea N⟩
 .have T:(b != 0)=K:=by simpa using f
  obtain⟨t,q⟩:=r f
  rcases pf t q with ⟨l,i,m⟩ | ⟨d,j,l,i,m,Q,B⟩
  .have G:¬0<eI a:=(by omega)
   have h:Hid (fh p w0 W4 ρ mb vp ask { s with k:=1,v:=oB (s.ox.map Prod.fst) a b }):=by
    show fh _ _ _ _ _ _ _ _
    rw[show oB (s.ox.map Prod.fst) a b= -1 by unfold oB;rw[af f,af G]];exact e
   clear f l i m t q r;go_in
   go_wp2;go_end0;exact⟨rfl,ea h,ea A⟩
  .rw [aU]at i;obtain⟨g,u,rfl⟩:=aW.1 i;obtain⟨y,j,E,D,n,aa,_⟩:=e.sE u;have n:=(ag.1 u).1
   have Z:W4.cell? ⟨mb,2,U⟩=M (O (M ⟨y,0,U⟩) s.ox.length j):=by
    have:=e.eH.cell 2;rw[show s.vo=_ from E]at this;exact this
   have j:=e.out.eH.c5;have j:=e.eH.frozen 5;have C:=e.set (s':= { s with k:=1,v:=g.1.cls }) 5 (J I g.1.cls)
   have h:Hid (fh p w0 (W4.setCell ⟨mb,5,U⟩ (J I g.1.cls)) ρ mb vp ask { s with k:=1,v:=oB (s.ox.map Prod.fst) a b }):=by
    show fh _ _ _ _ _ _ _ _
    rw[show oB (s.ox.map Prod.fst) a b=g.1.cls by unfold oB;rw[af f,am (by omega),B]];exact C
   have G:0<eI a:=(by omega);have b:=fp d;have b:(d:Int)<(s.ox.length:Int):=(by omega);have b:IntKind.i64.wrap (d:Int)=(d:Int):=(by rw[IntKind.wrap_i64];omega);have b:eI a-1=(d:Int):=(by omega);have X:=Oo Z;have Y:=Oo aa;have V:=Oo an;have a:¬y=mb:=λc=>by have:=e.kO y D;rw[c,e.out.iv]at this;simp at this
   have a:=KN;have P:=Ou (iD.set (W:=W4) (v:=O U 0 0) (cb:=mb) (oc:=5) (v':=J I g.1.cls) (Ow _ W4));dsimp only at X Y V;generalize g.1.cls=cl at *;clear f l i m Q B t q r C u E D;go_in
   go_wp2;refine iY (iD W4.heap.size (O U 0 0) mb 5 W4) (λ_ _ _ _ _=>rfl) λhHeld=>?_;refine dZ 25 0 ?_;refine dZ 26 1 ?_;refine dZ 27 2 ?_;refine dZ 28 3 ?_;refine dZ 29 4 ?_;refine dZ 30 5 ?_;refine dZ 31 6 ?_;refine dZ 32 7 ?_;refine dZ 33 8 ?_;refine dZ 34 9 ?_;refine dZ 35 10 ?_;refine dZ 36 11 ?_;refine dZ 37 12 ?_;refine dZ 38 13 ?_;refine el 14 (λa S=>?_);go_simp;refine S.out _ _ P λhHeld=>?_;refine ig ?_;go_wp2;go_end0;exact⟨rfl,h.drew,(A.trans (jG _ _ _ _) (λ_ _ c=>c)).drew⟩
def yg (p:On)(w0:World)(mb:Nat)(vp:Value)(ask:Bool)(s:RS)(fx:List (eD×gD))(v:LVal)(t:Int)(w w':World)(e:Ending):Prop:=
 (∀N b o,pX N mb s->N<=b->b<w.heap.size->w'.cell? ⟨b,o,U⟩=w.cell? ⟨b,o,U⟩)/\(fx= []->e=zR (zB F)/\nX p w0 mb vp ask w' [] (s.ox.map Prod.fst) s.out (s.steps+1) 1 (oB (s.ox.map Prod.fst) v t))/\
  ∀fx0 y0,fx=fx0++ [y0]->e=zR (zB K)/\nX p w0 mb vp ask w' (fx0.map Prod.fst++ [{ y0.1 with stk:=y0.1.stk++ [v] }]) (s.ox.map Prod.fst) s.out (s.steps+1) s.k s.v
theorem Md(l:fh p w0 w ρ mb vp ask s){d H}(r:s.fx=d++ [H])(bk:d.length<=30)(br:s.ox.length<=100)(Y:s.steps<=5000)(bn:∀W∈d,W.1.stk.length<=4194304)(b k)(bo:k≠0->fv (s.ox.map Prod.fst) b/\iy b.kind=K):
  Calls Tryz.prog 179 #[zP (M ⟨mb,0,U⟩),.agg #[J I (fq b),J I (eI b)],J I k] w λc B=>yg p w0 mb vp ask s d b k w B c:=by
 have A:s.fx[d.length]? =M H:=by rw[r];simp
 have bh:s.fx.length=d.length+1:=by rw[r];simp
 obtain⟨g,j,W,S,B,B⟩:=l.call A;have B:=ev w (zC #[J I (fq b),J I (eI b)] 183);have ab:=Oz w #[J I (fq b),J I (eI b)] 183;have A:=l.below B (ai _);have B:=A.set (s':= { s with steps:=s.steps+1 }) 7 (J I ((s.steps:Int)+1));have:=l.eH.lt;have Y:w.heap.size≠mb:=by omega
 have:=A.eH.c7;have:=A.eH.frozen 7;have A:=ab.gP (p:=⟨mb,7,U⟩) Y (J I ((s.steps:Int)+1));have:((w.alloc (zC #[J I (fq b),J I (eI b)] 183)).setCell ⟨mb,7,U⟩ (J I ((s.steps:Int)+1))).cell? ⟨mb,3,U⟩=M (O (M ⟨g,0,U⟩) (d.length+1) j):=by rw[<-bh,<-W];exact B.eH.cell 3
 have:=B.eH.frozen 3;have a5:=B.drew.pop (fx:=d) (y:=H) r W;have ac:=A.drew.gP (p:=⟨mb,3,U⟩) Y (O (M ⟨g,0,U⟩) d.length j);generalize a8:w.alloc (zC #[J I (fq b),J I (eI b)] 183)=W1 at *;generalize ba:W1.setCell ⟨mb,7,U⟩ (J I ((s.steps:Int)+1))=W2 at *
 have A:ee (λa=>a=mb) w (W2.drew.setCell ⟨mb,3,U⟩ (O (M ⟨g,0,U⟩) d.length j)):=by
  rw[<-ba,<-a8];exact(((Ow _ w).alloc _).trans (jG _ _ _ _) (λ_ _ c=>c)).drew.trans (jG _ _ _ _) (λ_ _ c=>c)
 have a0:=Ou A;have ar:=Ou a5;have an:=Ou ac;have L:=Ou bk;have a1:=Ou l.ry;have:=l.ry.vc g S;have N:=Ou r;have ao:=Ou S;have bs:=fp d.length;have bz:(d.length:Int)<=(j:Int):=by omega
 have:((d.length:Int)+1)-1=(d.length:Int):=by omega
 have:IntKind.i64.wrap (d.length:Int)=(d.length:Int):=by rw[IntKind.wrap_i64];omega
 go_in
 go_upto_region 2 with fail
 go_cut [] (λc=>fh p w0 c ρ mb vp ask { s with steps:=s.steps+1,fx:=d,vc:=O (M ⟨g,0,U⟩) d.length j }/\ed c w.heap.size 183 [J I (fq b),J I (eI b)]/\ee (λa=>a=mb) w c)
 case first=>
  refine iY (λ_=>True) trivial λhHeld=>?_;refine dZ 17 0 ?_;refine dZ 18 1 ?_;refine dZ 19 2 ?_;refine dZ 20 3 ?_;refine dZ 22 5 ?_;refine dZ 23 6 ?_;refine dZ 24 7 ?_;refine iu 4 8 (λe a=>?_) λe a=>?_;go_simp;refine a.out _ _ trivial λhHeld=>?_;refine el 8 (λe a=>?_);go_simp;refine a.out _ _ trivial λhHeld=>?_;refine dZ 26 9 ?_;refine dZ 27 10 ?_;rotate_left;go_simp;refine a.out _ _ trivial λhHeld=>?_;refine dZ 26 9 ?_;refine dZ 27 10 ?_;refine el 4 (λe a=>?_);go_simp;refine a.out _ _ trivial λhHeld=>?_
  all_goals
   refine dZ 28 11 ?_;refine dZ 29 12 ?_;refine dZ 30 13 ?_;refine el 14 (λe a=>?_);go_simp;refine a.out _ _ trivial λhHeld=>?_;refine ig ?_;go_wp2
   go_meet
   case rel=>exact ⟨ea ar,ea an,ea a0⟩
 case rest=>
  obtain⟨R,C,l⟩:=hcut;have u:=Ou l
  rename World=>aa
  have X:=R.eH.c3;have z:=C.c0;have P:=C.c1;have v:=Ou R;have:=Ou C
  rcases bX d with n | ⟨h,f,n⟩
  .subst n;go_wp2_with fail;refine(Mz v br b k bo).mono ?_;rintro c i ⟨rfl,o,d⟩;have t:Hid (yg p w0 mb vp ask s [] b k w i (zR (zB F))):=⟨λad a m e be D=>World.cell?_of_block ((u.trans d (λ_ _ c=>c)).block a D (by have:=e.mb;omega)),λ_=>⟨rfl,ρ,_,o,rfl,rfl,rfl,rfl,rfl,rfl⟩,λh f c=>by simp at c⟩;go_wp2;go_ret;exact t
  .rw [cR]at n;subst n;have d:(h++ [f]).length=h.length+1:=(by simp);rw[d]at X v L bs bz;have:¬((h.length:Int)+1)=0:=(by omega);have d:f∈s.fx:=(by rw[ea N];simp);have a2:=Ou (a1.fr f d).2;go_wp2_with fail;refine(rz aa mb g h.length j (by have:=ea L;omega) X).mono ?_;rintro c i ⟨rfl,o⟩;have x:=Ou (v.below o (ai _));have T:(h++ [f])[h.length]? =M f:=(by simp);obtain⟨d,_,_,j,_,bf⟩:=x.call T;have a4:M g=M d:=j
   cases a4
   obtain⟨E,G,q⟩:=fd (x.fr _ _ T).st;have Q:i.cell? ⟨g,h.length*5+4,U⟩=M (O E f.1.stk.length G):=(by rw[<-q];exact bf 4 (by omega));have V:=x.drew.tR (fx:=h) (y:=f) rfl (cb:=g) rfl (bn f (by simp)) [b] (by simp) (news:= #[J I (fq b),J I (eI b)]) (tX _).symm 1 i.heap.size rfl rfl rfl;rw[q]at V;obtain⟨d,j,l,bc,⟨b5,a6⟩,⟨n,n⟩,bM,bI,Z⟩:=V
   have t:Hid (yg p w0 mb vp ask s (h++ [f]) b k w (l.setCell ⟨g,h.length*5+4,U⟩ (O d (f.1.stk.length+1) j)) (zR (zB K))):=by
    refine⟨λad a m e be D=>?_,λc=>by simp at c,λd d c=>⟨rfl,b5,_,a6,?_,rfl,rfl,rfl,rfl,rfl⟩⟩
    .have:=o.size;have:=u.size;have:=e.mb;have:=e.vc g ao;have d:i.cell? ⟨a,m,U⟩=w.cell? ⟨a,m,U⟩:=(o.cell (p:=⟨a,m,U⟩) (show a<aa.heap.size by omega)).trans (World.cell?_of_block (u.block a D (by omega)));rw[<-d];refine Z a m (show a<i.heap.size by omega) (λc=>?_) (by omega);have:=(e.fr f (by rw[ea N];simp)).2 a (by rw[q];exact c);omega
    have ak:=di c rfl;obtain⟨rfl,a3⟩:=ak
    cases a3
    show (h++ [_]).map Prod.fst=_
    rw[aM];rfl
   have D:=Oq o;replace z:=D _ _ z;replace P:=D _ _ P;have a3:=Oo Q;have be:=Oo z;dsimp only at a3 be;have:¬(O E f.1.stk.length G).ownBlock=M w.heap.size:=λc=>by have:=ea a2 w.heap.size (by rw[q];exact c);omega
   have:¬w.heap.size=g:=(by omega);have:=kK i (zC #[J I (fq b),J I (eI b)] 183) _ _ Q;have m:=Ou bM;have ad:=Ou bI;have ak:=Ou Z;go_wp2;refine iY (iD i.heap.size (O E f.1.stk.length G) g (h.length*5+4) i) (λ_ _ _ _ _=>rfl) λhHeld=>?_;refine dZ 43 0 ?_;refine dZ 44 1 ?_;refine dZ 45 2 ?_;refine dZ 46 3 ?_;refine dZ 48 5 ?_;refine iu 4 6 (λe a=>?_) λe a=>?_;go_simp;refine a.out _ _ (λ_ _ _ _ _=>rfl) λhHeld=>?_;clear a e hHeld;refine el 6 (λe a=>?_);go_simp;refine a.out _ _ m λhHeld=>?_;clear a e hHeld;rotate_left;go_simp;refine a.out _ _ m λhHeld=>?_;clear a e hHeld;refine el 4 (λe a=>?_);go_simp;refine a.out _ _ m λhHeld=>?_;clear a e hHeld
   all_goals
    refine el 7 (λe a=>?_);refine ON (.tmp 47) (.tmp 49) 181 rfl _ _ rfl rfl bc ?_;go_simp;refine a.out _ _ ad λhHeld=>?_;refine dZ 51 8 ?_;refine dZ 52 9 ?_;refine el 10 (λe a=>?_);go_simp;refine a.out _ _ ak λhHeld=>?_;refine ig ?_;go_wp2;go_ret;exact t
end
end
end Go.Proofs.YtiiokkllmchohaaGreat
