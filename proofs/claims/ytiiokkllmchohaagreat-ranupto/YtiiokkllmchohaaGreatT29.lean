/- The machine: work. -/
import Derived.WalkMore
import Derived.Test.YtiiokkllmchohaaGreatT25
import Derived.Test.YtiiokkllmchohaaGreatT28
set_option maxHeartbeats 0
set_option maxRecDepth 99999
namespace Go.Proofs.YtiiokkllmchohaaGreat
open Go.Value renaming int->J,slice->O,pointer->zP,bool->zB
open Go.IntKind renaming i64->I
open Option renaming none->U,some->M
open Bool renaming true->K,false->F
open Go.Ending renaming returned->zR
open Go.Obj renaming cells->zC
open Go.RowKit Go.Shelf
section
attribute [local go_sem ↓] Go.wp_at_zero Go.wp_at_succ
attribute [local go_sem] eZ
attribute [local go_sem] qY qZ zj
def uv (w0:World)(mb:Nat)(vp:Value)(fuel:Int)(ask:Bool)(R:eJ×Int)(w':World)(e:Ending):Prop:=e=zR (J I R.2)/\∃A,vS w0 w' mb vp fuel ask R.1 A
def v9 (p:On)(w0:World)(mb:Nat)(vp:Value)(fuel:Int)(ask:Bool)(R:eJ×Int)(V:World):Prop:=
 ∃n st A,sX p fuel n st/\runM p fuel n st=M R/\(st.steps:Int)<=fuel/\vS w0 V mb vp fuel ask st A
def tF:Option Value->Nat
 | some (.int _ n) => n.toNat
 | _ => 0
theorem add_block(a:Addr)(b):(a.add b).block=a.block:=by unfold Addr.add;split <;> rfl
theorem Bg:jJ Tryz.prog 60 3:=⟨by kernel_rfl,by kernel_rfl⟩
section
variable {w0 w w' : World} {ρ : Nat -> Nat × Nat} {mb : Nat} {vp : Value} {fuel : Int} {ask : Bool} {st : eJ} {A : List Nat} {X : List gv} {Y : List Value} {vr eE : Value} {i : Nat} {f : eD} {x : gv}
theorem fE.jump (d:fE w0 w ρ mb vp fuel ask st A X Y vr eE)(g:st.frames[i]? =M f)(hx:X[i]? =M x)(b:Nat) :
  (∃ k,fE w0 (w.setCell ⟨x.fb,7,U⟩ (J I (b:Int))) k mb vp fuel ask (fM st i f b f.stk) A (X.set i { x with vs:=x.vs }) Y vr eE)/\w.cell? ⟨x.fb,7,U⟩=M (J I (f.pc:Int))/\w.frozen? ⟨x.fb,7,U⟩=F:=by
 have a:=d.fr i f x g hx;have h:=a.fr.l7;have c:ee (λc=>c=x.fb) w (w.setCell ⟨x.fb,7,U⟩ (J I (b:Int))):=(Ow (λc=>c=x.fb) w).setCell (p:=⟨x.fb,7,U⟩) (λ_=>rfl) _;have e:=a.fr.blk.setCell 7 (J I (b:Int))
 have j:(x.mc++ [J I (f.pc:Int),x.vl,x.vs]).set 7 (J I (b:Int))=x.mc++ [J I (b:Int),x.vl,x.vs]:=by
  rw[bS _ _ (by omega),h];rfl
 rw[j]at e;refine⟨d.upd g hx c (λc _ b=>.inl (b▸a.r0)) (pc:=b) (loc:=f.loc) (stk:=f.stk) (vs':=x.vs) ⟨e,h,a.fr.base,eX a.fr.lo c (λd c b=>OO a.fr.lo a.fr.blk mQ (b▸c)),eX a.fr.st c (λd c b=>OO a.fr.st a.fr.blk mQ (b▸c)),a.fr.ne⟩ (.inl rfl) a.lI a.oks,a.fr.c7.1,a.fr.blk.frozen 7⟩
theorem fE.qB (a:fE w0 w ρ mb vp fuel ask st A X Y vr eE):fE w0 (w.setCell ⟨mb,9,U⟩ (J I ((st.steps:Int)+1))) ρ mb vp fuel ask (OP st) A X Y vr eE/\w.cell? ⟨mb,9,U⟩=M (J I (st.steps:Int))/\w.frozen? ⟨mb,9,U⟩=F:=by
 have b:ee (λa=>a=mb) w (w.setCell ⟨mb,9,U⟩ (J I ((st.steps:Int)+1))):=(Ow (λa=>a=mb) w).setCell (p:=⟨mb,9,U⟩) (λ_=>rfl) _;exact⟨a.own b (frs:=st.frames) (X':=X) (told:=st.told) (steps:=st.steps+1) (a.eH.setCell 9 _) (eX a.run b (λd c b=>OO a.run a.eH rE (b▸c))) rfl a.lx (λ_ _ _ a b=>⟨a,b⟩) a.qu,a.eH.cell 9,a.eH.frozen 9⟩
end
theorem rH{p}{w0 wr b:World}{mb vp fuel ask h g st a}(m:sX p fuel (g+1) st)(c:runM p fuel (g+1) st=M h)(j:OQ p fuel st= .inl (OP a)){ρ A X Y vr eE}(k:fE w0 b ρ mb vp fuel ask a A X Y vr eE)(d:a.steps=st.steps)(n:(st.steps:Int)<fuel)(l:wr.cell? ⟨mb,9,U⟩=M (J I (st.steps:Int))):
  v9 p w0 mb vp fuel ask h (b.setCell ⟨mb,9,U⟩ (J I ((st.steps:Int)+1)))/\fuel.toNat-tF ((b.setCell ⟨mb,9,U⟩ (J I ((st.steps:Int)+1))).cell? ⟨mb,9,U⟩)<fuel.toNat-tF (wr.cell? ⟨mb,9,U⟩):=by
 have e:=k.qB.1;rw[d]at e;refine⟨⟨g,OP a,A,m.2 _ j,?_,?_,ρ,X,Y,vr,eE,e⟩,?_⟩
 .unfold runM at c;rw[j]at c;exact c
 .show ((a.steps+1:Nat):Int)<=fuel
  rw[d];omega
 .have b:=e.eH.c9;rw[b,l]
  show fuel.toNat-((a.steps+1:Nat):Int).toNat<fuel.toNat-(st.steps:Int).toNat
  rw[d];omega
theorem ui{p fuel b e st}(a:runM p fuel (e+1) st=M b){c}(d:OQ p fuel st= .inr c):b=c:=by
 unfold runM at a;rw[d]at a;exact(aT a).symm
theorem Kn(p vp w0 w mb fuel ask ad)(gb:ask=K\/ad.2≠5)(S:v9 p w0 mb vp fuel ask ad w)(h9:fuel<=5000)(a5:Good p)(cp:eQ w0 vp p)(hN:∀j o,(fy p j o).isSome=K->0<=j->j<(p.length:Int)->(ew p j o).args.length<=4194303):
  Calls Tryz.prog 113 #[zP (M ⟨mb,0,U⟩)] w λd w'=>uv w0 mb vp fuel ask ad w' d:=by
 have hr:=Ou S;have hv:=Ou gb;clear S gb;go_in
 go_wp2_with fail
 go_step3
 go_wp2_with fail
 go_step3
 go_wp2
 go_loopw [] (λwr=>v9 p w0 mb vp fuel ask ad wr) (λwr=>fuel.toNat-tF (wr.cell? ⟨mb,9,U⟩))
 case atStart=>exact ea hr
 case round=>
  obtain⟨g7,st,A,e3,e6,h1,hM⟩:=hrel;obtain⟨ρ,X,Y,vr,eE,an⟩:=hM
  cases g7 with
  | zero => cases e6
  | succ g7 =>
  have cm:=e3.1;obtain⟨h5,ds,rfl⟩:=fd an.run;have fc:wr.cell? ⟨mb,3,U⟩=M (O h5 X.length ds):=an.eH.cell 3;have ak:wr.cell? ⟨mb,9,U⟩=M (J I (st.steps:Int)):=an.eH.cell 9;have bs:=an.lx;have ck:=cm.len;have n:=Ou (aq e3 e6);have d2:=Ou an;clear e3 e6
  by_cases f9:X.length=0
  .have g:OQ p fuel st= .inr (st,1):=by
    have c:st.frames= []:=aV (by omega);unfold OQ;rw[c];rfl
   have e:=ui n.out.2 g;have c:¬(0:Int)<(X.length:Int):=(by omega);clear f9 g bs an;go_wp2;go_ret;rw[e];exact⟨rfl,A,ρ,_,_,_,_,ea d2⟩
  .obtain⟨eg,f,br⟩:=pM (l:=st.frames) (by omega);obtain⟨c,x,rfl⟩:=pM (l:=X) (by omega);have bI:c.length=eg.length:=(by rw[br]at bs;simpa using bs);have g6:(c++ [x]).length=c.length+1:=(by simp);have bc:st.frames.getLast? =M f:=(by rw[br,bu]);have q:st.frames[c.length]? =M f:=(by rw[br,bI];simp);have s:(c++ [x])[c.length]? =M x:=(by simp);have gn:st.frames.length-1=c.length:=(by rw[br];simp;omega);have ce:=cm.fr f bc;obtain⟨bn,e3,gm,_,_,g2⟩:=jH an.run (by omega);simp only[Value.slice.injEq,true_and]at gm;obtain⟨rfl,rfl⟩:=gm
   have hk:wr.cell? ⟨bn,c.length,U⟩=M (zP (M ⟨x.fb,0,U⟩)):=by
    rw[g2 _ (by omega),aM,aP (by simp)];simp
   rw[g6]at fc;have e3:c.length<30:=(by omega);have e3:IntKind.i64.wrap (c.length:Int)=(c.length:Int):=(by rw[IntKind.wrap_i64];omega);have e3:(0:Int)<=(c.length:Int):=(by omega);have e3:(c.length:Int)<(c.length:Int)+1:=(by omega);have e3:(0:Int)<(c.length:Int)+1:=(by omega);have d9:=Ou (aq bI (aq gn bs));have d6:=Ou cm;clear g2 f9 an bI gn bs g6 ck cm;go_wp2;refine fk (λw'=>w'.cell? ⟨mb,3,U⟩=M (O (M ⟨bn,0,U⟩) (c.length+1) ds)/\w'.cell? ⟨bn,c.length,U⟩=M (zP (M ⟨x.fb,0,U⟩))) ⟨fc,hk⟩ λhHeld=>?_;refine dZ 22 0 ?_;refine dZ 23 1 ?_;refine dZ 24 2 ?_;refine dZ 25 3 ?_;refine dZ 26 4 ?_;refine dZ 27 5 ?_;refine dZ 28 6 ?_;refine dZ 29 7 ?_;refine dZ 30 8 ?_;refine dZ 31 9 ?_;refine dZ 32 10 ?_;refine dZ 33 11 ?_;refine dZ 3 12 ?_;refine eV ?_;go_wp2_with fail
   have C:ask=K\/gg p fuel st.steps f≠5:=hv.out.imp id (λc d=>c (by
    have g:OQ p fuel st= .inr (st,5):=by
     unfold OQ;rw[bc];dsimp only;rw[am (by rw[d];decide),d]
    rw[ui n.out.2 g]))
   refine(Kf p vp w0 wr.drew ρ mb fuel ask st A (c++ [x]) Y _ eE d2.out.drew a5 cp hN c.length f x q s ce C).mono ?_;clear C;rintro d L ⟨rfl,an⟩;have a6:=Ou (d2.out.drew.below an (ai _));obtain⟨a3,D⟩:∃a3,a3=gg p fuel st.steps f:=⟨_,rfl⟩;rw[<-D];have d3:=Ou D;clear D
   cases e1:a3 != 0 with
   | true =>
    have k:a3≠0:=(by simpa using e1)
    have g:OQ p fuel st= .inr (st,a3):=by
     unfold OQ;rw[bc];dsimp only;rw[am (by rw[<-ea d3];exact k),<-ea d3]
    have e:=ui n.out.2 g
    have h:Hid (uv w0 mb vp fuel ask ad L (zR (J I a3))):=by
     rw[e];exact⟨rfl,A,ρ,_,_,_,_,ea a6⟩
    clear g k e;go_wp2_with fail;rw[Exit.noGoto_ret];go_ret;exact ea h
   | false =>
    obtain rfl:a3=0:=by simpa using e1
    have D:=d3.out.symm
    have cs:f.pc<f.m.code.length:=by
     have:=ce.pc
     rcases bt f.pc f.m.code.length with S | S
     .exact S
     .exfalso
      have e:f.pc=f.m.code.length:=(by omega);unfold gg at D;rw[am e]at D
      cases D
    have h0:(st.steps:Int)<fuel:=by
     rcases Int.lt_or_eq_of_le h1 with S | S
     .exact S
     .exfalso
      unfold gg at D;rw[af (by omega),am S]at D
      cases D
    have b9:=d6.out.ok f bc D;have b8:=d6.out.cl f bc D;have ca:=a6.out.fr c.length f x q s;obtain⟨an,an,an,hV,hK⟩:=ca.mt;obtain⟨h2,g4,h3⟩:=hK;obtain⟨an,bk,bM,f4,rfl,an,hO,gf⟩:=eN g4;obtain rfl:=hO (eW cs);obtain⟨hn,ho,hp⟩:=gf f.pc cs;have cu:=Oq a6.out.bel;have b5:=cu _ _ hn;have b6:=cu _ _ ho;have b7:=cu _ _ hp;have en:ey f.m f.pc=f.m.code[f.pc]:=(by unfold ey;rw[ae cs];rfl);have ec:lP p f.m (f.m.code[f.pc]).op (f.m.code[f.pc]).a (f.m.code[f.pc]).b:=kM (ce.ins _ (av cs));have e7:OQ p fuel st=lu p st c.length f (f.m.code[f.pc]).op (f.m.code[f.pc]).a (f.m.code[f.pc]).b:=ud bc D d9.out.2.1 en;rw[en]at b9 b8;generalize f.m.code[f.pc]=ins at *;obtain⟨k,j,o⟩:=ins;dsimp only at b5 b6 b7 ec b9 b8 e7
    have ci:L.cell? ⟨x.fb,5,U⟩=M (O (M ⟨bk,bM,U⟩) f.m.code.length f4):=by
     rw[ca.fr.blk.cell,hV];rfl
    have r:=ca.fr.c7.1;have an:(0:Int)<=(f.pc:Int):=(by omega);have an:(f.pc:Int)<(f.m.code.length:Int):=(by omega);have u:=Ou (aq b9 (aq b8 ec));have ac:=Ou e7;have ab:=Ou h0;clear b9 b8 ec e7 hn ho hp cu gf g4 h2 h3 ca en D e1;go_wp2;refine fk (λw'=>w'.cell? ⟨x.fb,5,U⟩=M (O (M ⟨bk,bM,U⟩) f.m.code.length f4)/\w'.cell? ⟨x.fb,7,U⟩=M (J I (f.pc:Int))/\w'.cell? ⟨bk,bM+f.pc*3,U⟩=M (J I k)/\w'.cell? ⟨bk,bM+f.pc*3+1,U⟩=M (J I j)/\w'.cell? ⟨bk,bM+f.pc*3+2,U⟩=M (J I o)) ⟨ci,r,b5,b6,b7⟩ λhHeld=>?_;refine dZ 40 0 ?_;refine dZ 41 1 ?_;refine dZ 42 2 ?_;refine dZ 43 3 ?_;refine dZ 44 4 ?_;refine dZ 45 5 ?_;refine dZ 46 6 ?_;refine dZ 47 7 ?_;refine dZ 48 8 ?_;refine dZ 49 9 ?_;refine dZ 50 10 ?_;refine el 11 (λhH eo=>?_);go_simp;have eK:Below L.heap.size L (L.drew.alloc (zC #[J I 0,J I 0,J I 0] 60)):=⟨rfl,rfl,rfl,by simp,λi c=>cO L.drew _ i c⟩;have be:=Oq eK;refine eo.out _ _ ⟨be _ _ ci,be _ _ r,be _ _ b5,be _ _ b6,be _ _ b7⟩ λhHeld=>?_;refine el 12 (λhH eo=>?_);refine kS Bg (Oz L.drew #[J I 0,J I 0,J I 0] 60) 0 [J I k,J I j,J I o] rfl (by simp) (λa0 ar=>by simp only[aE,aF,or_false]at ar;rcases ar with rfl | rfl | rfl <;> rfl) (.tmp 5) (.tmp 50) rfl rfl rfl ?_;intro R ao ga hZ;rw[fw (by rfl)]at ao;have eP:Below L.heap.size L R:=eK.trans (ga.below (by simp) (λc e0 d=>by have:L.drew.heap.size=L.heap.size:=rfl;omega));have bf:=Oq eP;refine eo.out _ _ ⟨bf _ _ ci,bf _ _ r,bf _ _ b5,bf _ _ b6,bf _ _ b7⟩ λhHeld=>?_;try simp only[Act.put]
    refine eV ?_;obtain⟨a1,eR⟩:∃a1,a1=L.heap.size:=⟨_,rfl⟩
    change ed R L.heap.size 60 [J I k,J I j,J I o]at ao
    rw[<-eR]at ao ⊢;have P:=Ou (a6.out.below eP (ai _));have D:R.cell? ⟨a1,0,U⟩=M (J I k):=ao.cell 0;have D:R.cell? ⟨a1,1,U⟩=M (J I j):=ao.cell 1;have D:R.cell? ⟨a1,2,U⟩=M (J I o):=ao.cell 2;have cc:=Ou ao;have D:x.fb<a1:=(by rw[eR];exact(a6.out.fr c.length f x q s).fr.blk.lt);clear eK be bf ga hZ eP eR ci r b5 b6 b7 a6 ao fc hk
    cases fn:k == 7 with
    | true =>
     obtain rfl:k=7:=by simpa using fn
     obtain⟨cf,cg⟩:=u.out.2.2.jmp (.inl rfl);obtain⟨g,rfl⟩:∃g:Nat,j=(g:Int):=⟨j.toNat,by omega⟩;obtain⟨⟨a4,e⟩,r,Z⟩:=P.out.jump q s g;have h:=e.qB.2;have G:=Ou e;have y:Hid (OQ p fuel st= .inl (OP (fM st c.length f g f.stk))):=ac.out.trans (EN p st c.length f g o);obtain⟨h,H⟩:=h;have bh:(R.setCell ⟨x.fb,7,U⟩ (J I (g:Int))).cell? ⟨mb,9,U⟩=M (J I (st.steps:Int)):=h;clear e h fn;go_wp2_with fail;have t:=rH n.out.1 n.out.2 y.out G.out rfl ab.out ak;exact t
    | false =>
    have D:(f.pc:Int)<40:=(by have:=ce.c40;omega);have D:=P.out.bel.size
    cases hi:k == 8 with
    | true =>
     obtain rfl:k=8:=by simpa using hi
     obtain⟨cf,cg⟩:=u.out.2.2.jmp (.inr (.inl rfl));obtain⟨g,rfl⟩:∃g:Nat,j=(g:Int):=⟨j.toNat,by omega⟩;have aa:=u.out.1.stk.s1 (by omega);have e9:=u.out.1.sl;have y:=Ou (lM (l:=f.stk) aa);have cn:f.stk.dropLast.length=f.stk.length-1:=aI;go_wp2_with fail;have E:=P.fr c.length f x q s;have N:=jT _ A x.fb x.mc (f.pc:Int) x.vl f.loc x.vs f.stk.dropLast (em f.stk) R (by rw[<-ea y];exact E.fr) (by omega);refine N.mono ?_;rintro d t z;have ba:=cc.mods z.choose_spec.2.2.2 (by omega);obtain⟨rfl,a8,bo,v⟩:=P.pop q s y z;have T:=Ou v;have cb:=ba.c1;have W:=sI q f.loc f.stk.dropLast;have a2:=oX s { x with vs:=bo };unfold ff;clear E N z v y
     cases Q:(em f.stk).num == 0 with
     | true =>
      have B:Hid (OQ p fuel st= .inl (OP (fM st c.length f g f.stk.dropLast))):=ac.out.trans (EO p st c.length f g o (by simpa using Q));obtain⟨⟨a4,e⟩,r,Z⟩:=T.jump W a2 g;obtain⟨h,H⟩:=e.qB.2
      have G:=Ou (show fE _ _ _ _ _ _ _ (fM st c.length f g f.stk.dropLast) _ _ _ _ _ from by
       have d:fM (fP st c.length f f.loc f.stk.dropLast) c.length { f with loc:=f.loc,stk:=f.stk.dropLast } g f.stk.dropLast=fM st c.length f g f.stk.dropLast:=(by unfold fM fP;simp[List.set_set])
       rw[<-d];exact e)
      have bh:(t.setCell ⟨x.fb,7,U⟩ (J I ((g:Nat):Int))).cell? ⟨mb,9,U⟩=M (J I (st.steps:Int)):=h;clear e h;go_wp2_with fail;exact rH n.1 n.2 B G rfl ab ak
     | false =>
      have B:Hid (OQ p fuel st= .inl (OP (fM st c.length f (f.pc+1) f.stk.dropLast))):=ac.out.trans (EP p st c.length f g o (by simpa using Q));obtain⟨⟨a4,e⟩,r,Z⟩:=T.jump W a2 (f.pc+1);obtain⟨h,H⟩:=e.qB.2
      have G:=Ou (show fE _ _ _ _ _ _ _ (fM st c.length f (f.pc+1) f.stk.dropLast) _ _ _ _ _ from by
       have d:fM (fP st c.length f f.loc f.stk.dropLast) c.length { f with loc:=f.loc,stk:=f.stk.dropLast } (f.pc+1) f.stk.dropLast=fM st c.length f (f.pc+1) f.stk.dropLast:=(by unfold fM fP;simp[List.set_set])
       rw[<-d];exact e)
      have bh:(t.setCell ⟨x.fb,7,U⟩ (J I ((f.pc:Int)+1))).cell? ⟨mb,9,U⟩=M (J I (st.steps:Int)):=h;have bz:(t.setCell ⟨x.fb,7,U⟩ (J I ((f.pc:Int)+1))).frozen? ⟨mb,9,U⟩=F:=H;clear e h H;go_wp2_with fail;exact rH n.1 n.2 B G rfl ab ak
    | false =>
    cases ha:k == 18 with
    | true =>
     obtain rfl:k=18:=by simpa using ha
     obtain⟨cf,cg⟩:=u.out.2.2.jmp (.inr (.inr rfl));obtain⟨g,rfl⟩:∃g:Nat,j=(g:Int):=⟨j.toNat,by omega⟩;have aa:=u.out.1.stk.s1 (by omega);have e9:=u.out.1.sl;have y:=Ou (lM (l:=f.stk) aa);have cn:f.stk.dropLast.length=f.stk.length-1:=aI;go_wp2_with fail;have E:=P.fr c.length f x q s;have N:=jT _ A x.fb x.mc (f.pc:Int) x.vl f.loc x.vs f.stk.dropLast (em f.stk) R (by rw[<-ea y];exact E.fr) (by omega);refine N.mono ?_;rintro d t z;have ba:=cc.mods z.choose_spec.2.2.2 (by omega);obtain⟨rfl,a8,bo,v⟩:=P.pop q s y z;have T:=Ou v;have cb:=ba.c1;have W:=sI q f.loc f.stk.dropLast;have a2:=oX s { x with vs:=bo };unfold ff;clear E N z v y
     cases Q:(em f.stk).obj with
     | none =>
      have B:Hid (OQ p fuel st= .inl (OP (fM st c.length f g f.stk.dropLast))):=ac.out.trans (EL p st c.length f g o Q);unfold ic;obtain⟨⟨a4,e⟩,r,Z⟩:=T.jump W a2 g;obtain⟨h,H⟩:=e.qB.2
      have G:=Ou (show fE _ _ _ _ _ _ _ (fM st c.length f g f.stk.dropLast) _ _ _ _ _ from by
       have d:fM (fP st c.length f f.loc f.stk.dropLast) c.length { f with loc:=f.loc,stk:=f.stk.dropLast } g f.stk.dropLast=fM st c.length f g f.stk.dropLast:=(by unfold fM fP;simp[List.set_set])
       rw[<-d];exact e)
      have bh:(t.setCell ⟨x.fb,7,U⟩ (J I ((g:Nat):Int))).cell? ⟨mb,9,U⟩=M (J I (st.steps:Int)):=h;clear e h;go_wp2_with fail;exact rH n.1 n.2 B G rfl ab ak
     | some V =>
      have B:Hid (OQ p fuel st= .inl (OP (fM st c.length f (f.pc+1) f.stk.dropLast))):=ac.out.trans (EM p st c.length f g o (by rw[Q];simp));unfold ic;obtain⟨⟨a4,e⟩,r,Z⟩:=T.jump W a2 (f.pc+1);obtain⟨h,H⟩:=e.qB.2
      have G:=Ou (show fE _ _ _ _ _ _ _ (fM st c.length f (f.pc+1) f.stk.dropLast) _ _ _ _ _ from by
       have d:fM (fP st c.length f f.loc f.stk.dropLast) c.length { f with loc:=f.loc,stk:=f.stk.dropLast } (f.pc+1) f.stk.dropLast=fM st c.length f (f.pc+1) f.stk.dropLast:=(by unfold fM fP;simp[List.set_set])
       rw[<-d];exact e)
      have bh:(t.setCell ⟨x.fb,7,U⟩ (J I ((f.pc:Int)+1))).cell? ⟨mb,9,U⟩=M (J I (st.steps:Int)):=h;have bz:(t.setCell ⟨x.fb,7,U⟩ (J I ((f.pc:Int)+1))).frozen? ⟨mb,9,U⟩=F:=H;clear e h H;go_wp2_with fail;exact rH n.1 n.2 B G rfl ab ak
    | false =>
    cases g9:k == 12 with
    | true =>
     obtain rfl:k=12:=by simpa using g9
     have d1:=u.out.2.1 rfl;obtain⟨cf,cg⟩:=u.out.2.2.cls (by omega);have hW:=u.out.2.2.call rfl;have e9:=u.out.1.sl;have hP:=d1.len;have hz:=Ou d1.obj;have hX:R.cell? ⟨mb,0,U⟩=M vp:=P.out.eH.cell 0;clear d1;go_wp2_with fail;refine(tI p vp j o w0 R mb cp P.out.bel hX a5.sup a5.sz cf cg hW).mono ?_;rintro d t ⟨D,D,D,rfl,hL,gc⟩;obtain⟨hR,hS,hT⟩:=hL;obtain⟨D,_,_,D,rfl,_⟩:=hR;have T:=Ou (P.out.below gc (ai _));have hw:=Ou (cc.out.below gc cc.out.lt);obtain⟨a4,e2⟩:∃a4,a4=(ew p j o).args.length:=⟨_,rfl⟩;have d4:=Ou e2;unfold fB;rw[<-e2]at hP ⊢;clear e2 hS hT;obtain⟨g,bz⟩:∃g,g=f.stk.take (f.stk.length-a4):=⟨_,rfl⟩;obtain⟨W,bo⟩:∃W,W=f.stk.drop (f.stk.length-a4):=⟨_,rfl⟩;have D:g.length=f.stk.length-a4:=(by rw[bz,aR];omega);have cn:W.length=a4:=(by rw[bo,cv];omega);have hG:=Ou (ac.out.trans (vD p st c.length f j o));have d5:=Ou (aq bz bo);go_wp2_with fail;have aa:=T.out.fr c.length f x q s;refine(Dy w0.heap.size A x.fb x.mc (f.pc:Int) x.vl f.loc x.vs f.stk a4 t aa.fr (by omega) (by omega)).mono ?_;rintro d hm ⟨d0,h6,hl,rfl,D,gq,g3,e5,ej,g0,ep⟩;rw[<-bz]at ej;rw[<-bo]at e5
     have g5:∀v,d0=M v->∀z E,(fF A W)[z]? =M E->v.block≠x.fb:=λv d z E a2 c=>by
      have h:z<(fF A W).length:=(ag.1 a2).1;rw[sf,cn]at h;obtain⟨h,e,y⟩:=g3 (by omega);rw[d]at e;obtain rfl:=aT e;exact OO aa.fr.st aa.fr.blk mQ (by rw[y];exact cP M c)
     have fo:∀a0∈g,okV A a0:=λa0 ar=>aa.oks a0 (by rw[bz]at ar;exact cV ar);have hj:∀a0∈W,okV A a0:=λa0 ar=>aa.oks a0 (by rw[bo]at ar;exact List.mem_of_mem_drop ar);obtain⟨h8,ba⟩:=T.out.upd q s ep (λc _ d=>.inl (d▸aa.r0)) (pc:=f.pc) (loc:=f.loc) (stk:=g) ej (.inl g0) aa.lI fo;have cb:=Ou ba;have hx:=Ou (hw.out.mods ep (by omega));have hD:=Ou e5;have f3:=Ou g5;have hB:=Ou gq;have hC:=Ou hj;have gl:=oX q { f with pc:=f.pc,loc:=f.loc,stk:=g };have fa:=oX s { x with vs:=hl };have f2:=Ou (lM (l:=g) (by omega));have D:g.dropLast.length=g.length-1:=aI;have hY:=pd fo;clear bz bo aa g3 e5 ej g0 ep ba g5 gq hj fo;go_wp2_with fail;have f0:=cb.out.fr c.length _ _ gl fa;refine(jT w0.heap.size A x.fb x.mc (f.pc:Int) x.vl f.loc hl g.dropLast (em g) hm (by rw[<-ea f2];exact f0.fr) (by omega)).mono ?_;rintro d N et;have er:=et.choose_spec.2.2.2;obtain⟨rfl,fs,D,C⟩:=cb.out.pop gl fa f2.out et;have hE:Hid (∀v,d0=M v->∀z E,(fF A W)[z]? =M E->N.cell? (v.add z)=M E):=λv d z E a2=>er.cell (hD.out v d z E a2) (by rw[add_block];exact f3.out v d z E a2);have hy:=Ou (hx.out.mods er (by omega))
     have f1:Hid (∃a8,(a8[c.length]? =M { x with vs:=D })/\a8.length=c.length+1/\fE w0 N fs mb vp fuel ask (fM st c.length f f.pc g.dropLast) A a8 Y (O (M ⟨bn,0,U⟩) (c++ [x]).length ds) eE):=by
      refine⟨_,oX fa _,by simp,?_⟩;have e:fP { st with frames:=st.frames.set c.length { f with pc:=f.pc,loc:=f.loc,stk:=g } } c.length { f with pc:=f.pc,loc:=f.loc,stk:=g } f.loc g.dropLast=fM st c.length f f.pc g.dropLast:=(by unfold fP fM;simp[List.set_set]);rw[<-e];exact C
     have gk:ff A (em g)= [J I (em g).kind,J I (em g).num,ic A (em g).obj]:=rfl;rw[gk];clear f0 et er C gk;have y:=ea hG;unfold oL at y;dsimp only at y;rw[<-ea d4,<-d5.out.1,<-d5.out.2]at y;have D:st.frames.length=c.length+1:=(by have:=d9.out.2.2;rw[<-this];simp)
     cases Q:(em g).obj with
     | none =>
      rw[Q]at y;have e:=ui n.out.2 y;obtain⟨a8,_,_,C⟩:=ea f1
      have h:Hid (uv w0 mb vp fuel ask ad N (zR (J I 2))):=by
       rw[e];exact⟨rfl,A,fs,_,_,_,_,C⟩
      unfold ic;clear e C y;go_wp2_with fail;rw[Exit.noGoto_ret];go_ret;exact ea h
     | some V =>
      rw[Q]at y;dsimp only at y;have hU:V<A.length:=hY V Q;obtain⟨cz,gx⟩:∃cz,A[V]? =M cz:=⟨_,ae hU⟩
      have e4:ic A (M V)=zP (M ⟨cz,0,U⟩):=by
       show Value.pointer (M ⟨A.getD V 0,0,U⟩)=_
       rw[aj,gx];rfl
      rw[e4];obtain⟨a8,h4,D,C⟩:=ea f1
      have D:N.cell? ⟨mb,3,U⟩=M (O (M ⟨bn,0,U⟩) (c.length+1) ds):=by
       have:=C.eH.cell 3;rw[this]
       show M (O _ (c++ [x]).length _)=_
       rw[aw];rfl
      by_cases ck:c.length+1=30
      .rw [am (by omega)]at y;have e:=ui n.out.2 y
       have h:Hid (uv w0 mb vp fuel ask ad N (zR (J I 7))):=by
        rw[e];exact⟨rfl,A,fs,_,_,_,_,C⟩
       have hJ:((c.length:Int)+1 == 30)=K:=beq_iff_eq.2 (by omega);clear e C y e4 Q ck;go_wp2_with fail;rw[Exit.noGoto_ret];go_ret;exact ea h
      .rw [af (by omega)]at y;have hJ:((c.length:Int)+1 == 30)=F:=beq_eq_false_iff_ne.2 (by omega);have hQ:(fM st c.length f f.pc g.dropLast).frames[c.length]? =M { f with pc:=f.pc,stk:=g.dropLast } :=oX q _;obtain⟨⟨hq,e⟩,r,Z⟩:=C.jump hQ h4 (f.pc+1);have hI:N.cell? ⟨x.fb,7,U⟩=M (J I (f.pc:Int)):=r;have D:N.frozen? ⟨x.fb,7,U⟩=F:=Z;obtain⟨g8,hc,hf,hg,hh⟩:=hz.out V (by rw[<-ea d4,<-d5.out.1];exact Q);have gp:=e.la;obtain⟨cA,g1⟩:∃cA,st.objs[V]? =M cA:=⟨_,ae (by have:A.length=st.objs.length:=gp;omega)⟩;have gs:gu st V=cA:=(by unfold gu;rw[g1];rfl);rw[gs]at g8 hc hf hg hh y;have es:ee (λc=>c=x.fb) N (N.setCell ⟨x.fb,7,U⟩ (J I ((f.pc+1:Nat):Int))):=(Ow (λc=>c=x.fb) N).setCell (p:=⟨x.fb,7,U⟩) (λ_=>rfl) _;have hF:Hid (∀v,d0=M v->∀z E,(fF A W)[z]? =M E->(N.setCell ⟨x.fb,7,U⟩ (J I ((f.pc+1:Nat):Int))).cell? (v.add z)=M E):=λv d z E a2=>es.cell (hE.out v d z E a2) (by rw[add_block];exact f3.out v d z E a2);have ft:=hy.out.mods es (by omega);have v:(N.setCell ⟨x.fb,7,U⟩ (J I ((f.pc:Int)+1))).cell? ⟨a1,2,U⟩=M (J I o):=ft.cell 2;have f6:fM (fM st c.length f f.pc g.dropLast) c.length { f with pc:=f.pc,stk:=g.dropLast } (f.pc+1) g.dropLast=fM st c.length f (f.pc+1) g.dropLast:=(by unfold fM;simp[List.set_set]);have G:=Ou (show fE w0 (N.setCell ⟨x.fb,7,U⟩ (J I ((f.pc+1:Nat):Int))) hq mb vp fuel ask (fM st c.length f (f.pc+1) g.dropLast) A _ Y _ eE from f6▸e);have B:=Ou y;have hA:=Ou (show a8.length<=4194304 by omega);clear e C y e4 Q ck es ft f6 r Z gp gs;go_wp2_with fail;have eS:=Dp p vp w0 _ hq mb fuel ask _ A _ Y _ eE G.out cp a5.sup a5.sz V cA cz g1 gx o W d0 h6 g8 hc hf (by rw[cn];exact ea hB) hF.out (by rw[cn,ea d4];exact hg) hh hC.out (by rw[aO];exact ea hA);rw[cn]at eS;refine eS.mono ?_;rintro d h7 ⟨rfl,g,g,g,g,g,ei⟩;obtain⟨h,H⟩:=ei.qB.2;have bh:h7.cell? ⟨mb,9,U⟩=M (J I (st.steps:Int)):=h;have hu:=Ou ei;clear ei eS h;go_wp2_with fail;exact rH n.out.1 n.out.2 B.out hu.out rfl ab.out ak
    | false =>
    cases cf:k == 13 with
    | true =>
     obtain rfl:k=13:=by simpa using cf
     have aa:=u.out.1.stk.s1 (by omega);have e9:=u.out.1.sl;have y:=Ou (lM (l:=f.stk) aa);have cn:f.stk.dropLast.length=f.stk.length-1:=aI;go_wp2_with fail;have E:=P.out.fr c.length f x q s;have Q:=pd E.oks;have N:=jT _ A x.fb x.mc (f.pc:Int) x.vl f.loc x.vs f.stk.dropLast (em f.stk) R (by rw[<-ea y];exact E.fr) (by omega);refine N.mono ?_;rintro d t z;obtain⟨rfl,a8,bo,v⟩:=P.out.pop q s y.out z;have T:=Ou v;clear E N z v y;go_wp2_with fail;have bI:=d9.out.1
     have g:(fP st c.length f f.loc f.stk.dropLast).frames=eg++ [{ f with loc:=f.loc,stk:=f.stk.dropLast }]:=by
      show st.frames.set _ _=_
      rw[br,bI,bS _ _ (ai _),co];rfl
     refine(Kc w0 t a8 mb vp fuel ask _ A _ Y _ eE T.out (em f.stk) Q eg _ g (by rw[aO];simp;omega) (λW V=>?_)).mono ?_
     .rcases bE V with S | rfl
      .exact d6.out.all W S
      .show f.stk.dropLast.length<=_
       omega
     rintro d hm ⟨rfl,h8,C,C,C,C,ba⟩;have B:Hid (OQ p fuel st= .inl (OP (jE (fP st c.length f f.loc f.stk.dropLast) (em f.stk)))):=ac.out.trans (Aw p st c.length f j o)
     have e:(jE (fP st c.length f f.loc f.stk.dropLast) (em f.stk)).steps=st.steps:=by
      unfold jE
      split <;> rfl
     obtain⟨h,H⟩:=ba.qB.2;rw[e]at h;have cb:=Ou ba;have G:=Ou e;clear ba g e;go_wp2_with fail;exact rH n.out.1 n.out.2 B.out cb.out G.out ab.out ak
    | false =>
     have a2:k≠7/\k≠8/\k≠12/\k≠13/\k≠18:=⟨by simpa using fn,by simpa using hi,by simpa using g9,by simpa using cf,by simpa using ha⟩;have T:=Ou a2;clear a2;go_wp2_with fail;refine(Kb p vp w0 R ρ mb fuel ask st A (c++ [x]) Y _ eE c.length f x k j o P.out q s a5 cp u.out.2.2 u.out.1 T.out).mono ?_;rintro d t ⟨rfl,bo,a8,d,d,d,d,N,v⟩;have y:=Ou (ac.out.trans (mw p st c.length f k j o T.out));obtain⟨cg,ba,g,z,aa⟩:=Ch p st c.length f k j o q;obtain⟨d,Q,E⟩:=aW.1 N;generalize gr p st c.length f k j o=dp at *
     cases e0:dp.2 != 0 with
     | true =>
      have e:=ui n.out.2 (y.out.trans (af (by simpa using e0)))
      have h:Hid (uv w0 mb vp fuel ask ad t (zR (J I dp.2))):=by
       rw[e];exact⟨rfl,bo,a8,_,_,_,_,v⟩
      clear e v g Q E N z aa y;go_wp2_with fail;rw[Exit.noGoto_ret];go_ret;exact ea h
     | false =>
      have W:dp.2=0:=(by simpa using e0);have B:=Ou (y.out.trans (am W));obtain⟨⟨a4,e⟩,r,Z⟩:=v.jump g Q (f.pc+1);rw[E]at e r Z;obtain⟨h,H⟩:=e.qB.2
      have V:j6 dp.1 c.length=fM dp.1 c.length { f with loc:=cg,stk:=ba } (f.pc+1) ba:=by
       unfold j6;rw[g];rfl
      have G:=Ou e
      have bh:(t.setCell ⟨x.fb,7,U⟩ (J I ((f.pc:Int)+1))).cell? ⟨mb,9,U⟩=M (J I (st.steps:Int)):=by
       rw[<-z];exact h
      have bz:(t.setCell ⟨x.fb,7,U⟩ (J I ((f.pc:Int)+1))).frozen? ⟨mb,9,U⟩=F:=H;have hI:t.cell? ⟨x.fb,7,U⟩=M (J I (f.pc:Int)):=r;rw[V]at B;have cb:=Ou z;clear e h H V v g Q E N z aa y r W;go_wp2_with fail;exact rH n.out.1 n.out.2 B.out G.out cb.out ab.out ak
theorem Ix(e a d c x f g b):(Instr.field 63 (.agg #[J I e,x,J I a,J I d,J I c,f,g]) 2).run Tryz.prog b= .ok (J I a) b:=by kernel_rfl
attribute [local go_sem] Ix
def kh (st:eJ)(v:LVal)(t:Int):Int:=if t=0 then v.num else match v.obj with
 | none => -1
 | some k => (gu st k).cls
theorem Kl(K h ρ D F z w f b v p G y)(e:fE K h ρ D F z w f b v p G y)(a g)(E:okV b a):
  Calls Tryz.prog 114 #[.agg (ff b a).toArray,J I g] h λx H=>x=zR (J I (kh f a g))/\Below h.heap.size h H:=by
 have j:=ev h (zC #[J I a.kind,J I a.num,ic b a.obj] 170);have l:=Oz h #[J I a.kind,J I a.num,ic b a.obj] 170;have o:=Ou (e.below j (ai _));have:=e.la;have:=e.ly;have u:=l.c1;unfold ff
 cases s:g == 0 with
 | true =>
  have d:kh f a g=a.num:=am (by simpa using s);rw[d];clear d e;go_in
  go_wp2;go_ret;exact⟨rfl,j⟩
 | false =>
  have t:¬g=0:=by simpa using s
  cases m:a.obj with
  | none =>
   have d:kh f a g= -1:=(by unfold kh;rw[af t,m]);rw[d];unfold ic;clear d e l u o j;go_in
   go_wp2;go_ret;exact⟨rfl,ev _ _⟩
  | some c =>
   have A:c<b.length:=E c m;obtain⟨i,q⟩:∃i,b[c]? =M i:=⟨_,ae A⟩;obtain⟨k,r⟩:∃k,f.objs[c]? =M k:=⟨_,ae (by omega)⟩;obtain⟨n,C⟩:∃n,p[c]? =M n:=⟨_,ae (by omega)⟩;have d:kh f a g=k.cls:=(by unfold kh;rw[af t,m];show (gu f c).cls=_;unfold gu;rw[r];rfl);rw[d]
   have B:ic b (M c)=zP (M ⟨i,0,U⟩):=by
    show Value.pointer (M ⟨b.getD c 0,0,U⟩)=_
    rw[aj,q];rfl
   have b:=(e.ob c k i n r q C).blk.c0;rw[B];have:=Oq (ev h (zC #[J I a.kind,J I a.num,zP (M ⟨i,0,U⟩)] 170)) _ _ b;clear d e l u o j;go_in
   go_wp2;go_ret;exact⟨rfl,ev _ _⟩
theorem gX:jJ Tryz.prog 69 4:=⟨by kernel_rfl,by kernel_rfl⟩
def Av:eJ:=⟨[],[],⟨0,0,U⟩,[],0⟩
theorem fE.start{w b h g f e}(l:Below w.heap.size w b)(n:w.heap.size<=e)(k:ed b e 172 [h,J I g,zB f,O U 0 0,J I 0,J I 0,J I 0,zP U,O U 0 0,J I 0]):
  ∃ o,fE w b o e h g f Av [] [] [] (O U 0 0) (O U 0 0):=by
 refine⟨λa=>if a<w.heap.size then (9,0) else (5,0),k,n,?_,World.ownsRow_nil _ _ _ _,λi c=>(by cases c),World.ownsRow_nil _ _ _ _,λi c=>(by cases c),rfl,λb b b m=>(by cases m),rfl,rfl,λa b b b j=>(by cases j),λa d=>(by cases d),l,λa d=>?_⟩
 .show (if _ then _ else _)=_
  rw[af (by omega)]
 .show (if _ then _ else _)=_
  rw[am d]
def ny (p:On)(c slot:Int)(args:Ok):eJ:=qO p { Av with objs:= [⟨c,(OE p c).map fV⟩] } 0 c slot (args.map gt)
def FN (p:On)(c slot:Int)(R:eJ×Int)(w w':World)(e:Ending):Prop:=
 ∃eE,e=zR (.agg #[J I R.2,J I (if R.2=1 then kh R.1 R.1.told (ew p c slot).ret else 0),eE,J I (R.1.steps:Int)])/\w'.ownsRow w.heap.size 3 1 eE R.1.out.length (R.1.out.map (J .i64))/\Below w.heap.size w w'
theorem Dx(p es e g c er k h)(d9:eQ h es p)(q:Good p)(e9:∀V m,(fy p V m).isSome=K->0<=V->V<(p.length:Int)->(ew p V m).args.length<=4194303)(a4:0<=e)(a5:e<(p.length:Int))(d4:(fy p e g).isSome=K)(en:eG 1 (gF h) er c)(fo:1+(c.length:Int)<=(ew p e g).locals)(fs:(ew p e g).locals<=8)(fc:k<=5000)(fa:0<=k)(a2 a)(d6:sX p k a2 (ny p e g c))(ei:runM p k a2 (ny p e g c)=M a)(l)(cA:l=K\/a.2≠5):
  Calls Tryz.prog 62 #[.agg #[es],J I e,J I g,er,J I k,zB l] h λb L=>FN p e g a h L b:=by
 obtain⟨f3,fn,f0,f1,f2⟩:=info_parts wS;have e0:=Ou cA;clear cA;have e1:=Ou d9;have b9:=Ou (aq d6 ei);obtain⟨V,V,V,V,rfl,V,cz,bc⟩:=eN en;obtain⟨ac,_,_,ad,rfl,_⟩:=d9;clear d6 ei en;go_in
 go_wp2_with fail;generalize Y:(h.alloc _).alloc _=W1;have v:Below h.heap.size h W1:=by rw[<-Y];exact gS _ _ _
 have ej:W1.heap.size=h.heap.size+1+1:=by rw[<-Y];simp
 have ak:ed W1 (h.heap.size+1) 69 [J I 0,J I 0,O U 0 0,J I 0]:=by
  rw[<-Y];have:=Oz (h.alloc (zC #[O ac p.length ad] 24)) #[J I 0,J I 0,O U 0 0,J I 0] 69;rw[World.size_alloc]at this;exact this
 clear Y;have ao:=Oz W1 #[O ac p.length ad,J I k,zB l,O U 0 0,J I 0,J I 0,J I 0,zP U,O U 0 0,J I 0] 172;have d0:=ev W1 (zC #[O ac p.length ad,J I k,zB l,O U 0 0,J I 0,J I 0,J I 0,zP U,O U 0 0,J I 0] 172);generalize W1.alloc _=W at *;have be:Below h.heap.size h W:=eu v d0;rw[<-ej];obtain⟨j,bh⟩:∃j,j=W1.heap.size:=⟨_,rfl⟩;obtain⟨X,d1⟩:∃X,X=h.heap.size+1:=⟨_,rfl⟩;rw[<-d1]at ak ⊢;rw[<-bh]at ao ⊢;have V:h.heap.size<X:=by omega
 have h:X<j:=by omega
 have h:=ao.lt;have S:=Ou (eA (Oq v) e1);have b7:=Ou bh;clear d1 bh ej;have h:c.length<=7:=by omega
 go_loopw [14,25] (λH a wr=>∃(d:Nat),d<=c.length/\a=J I d/\wr.ownsRow W.heap.size 170 3 H d (fF [] ((c.take d).map gt))/\Below W.heap.size W wr) (λ_ a _=>c.length-(intOf a).toNat)
 case atStart=>exact ⟨0,az _,rfl,World.ownsRow_nil _ _ _ _,ay _ _⟩
 case round=>
  obtain⟨d,x,rfl,u,w⟩:=hrel;obtain⟨bk,ep,rfl⟩:=fd u
  by_cases bf:d<c.length
  .obtain rfl:=cz (eW bf);have o:=bc d bf;unfold gF gy at o;have d2:=eu be w;have F:=Oq d2 _ _ o;have t:c[d]? =M c[d]:=ae bf;generalize c[d]=an at *;rw[cE]at F;have h:=fp d;have h:(d:Int)<(c.length:Int):=(by omega);have A:=Ou u;have z:=Ou t;clear o u t bc;go_wp2_with fail;refine(sv an _).mono ?_;rintro b N ⟨rfl,h⟩;have n:=eu w h;have s:=eX A (Ox h) (λf a b=>by have:=(A.lt f a).2;omega);obtain⟨h,Q,D,i,r,E⟩:=iN (P:=Tryz.prog) (W:=N) 173 173 170 f3 _ 3 24 Tryz.underlying173 fn f0 f1 f2 rfl (by decide) W.heap.size _ _ _ s #[J I 0,J I an,zP U] rfl (λH a=>by simp only[aE,aF,or_false]at a;rcases a with rfl | rfl | rfl <;> rfl) N.heap.size rfl (by unfold maxLen;omega) (by omega) n.size;obtain⟨B,C,rfl⟩:=fd i
   have y:Hid (Q.ownsRow W.heap.size 170 3 (O B (d+1) C) (d+1) (fF [] ((c.take (d+1)).map gt))/\Below W.heap.size W Q):=by
    refine⟨?_,n.trans (r.below n.size (λf a b=>by have:=(s.lt f b).1;omega))⟩;rw[bd,ea z,aM,se];exact i
   clear i r E s;go_wp2_with (refine OA rfl (.tmp 29) (.tmp 32) 173 rfl _ _ rfl rfl D ?_)
   refine⟨⟨d+1,by omega,by go_num,ea y⟩,by simp[intOf];omega⟩
  .obtain rfl:d=c.length:=by omega
   rw[bG]at u;have d2:=eu be w;have bI:=ao.bl w;have dp:Below W1.heap.size W1 wr:=eu d0 w;obtain⟨h,ci⟩:=fE.start dp (Nat.le_of_eq b7.symm) bI;have A:=Ou u;have h:=be.size;have b6:=Ou ci;clear u bc cz ci bI w;go_wp2_with fail;refine(Dq p _ e W1 wr j k l (O U 0 0) 0 [] ⟨0,0,U⟩ (O U 0 0) 0 S dp (Nat.le_of_eq b7.symm) b6.eH q.sup q.sz a4 a5 (by omega)).mono ?_;rintro b N ⟨m,H,rfl,cc,cs,a8⟩;obtain⟨f6,a6⟩:=b6.newObj cc cs a8;have eR:=Ou a6;have s:=eX A a8 (λf a b=>by have:=(A.lt f a).1;omega);have G:(c.map gt).length=c.length:=(by simp)
   have d5:bk=U->(c.map gt).length=0/\ep=0:=λb=>by
    rcases s.2 with ⟨i,h⟩ | ⟨f,o,cg,i,_⟩
    .simp only [Value.slice.injEq]at i;exact⟨by rw[G];omega,i.2.2⟩
    .rw [b]at i;simp at i
   have d3:fF ([]++ [m]) (c.map gt)=fF [] (c.map gt):=tv [] [m] (λe a=>by obtain⟨bn,_,rfl⟩:=bF.1 a;exact xe _ bn)
   have eg:∀g,bk=M g->∀d e,(fF ([]++ [m]) (c.map gt))[d]? =M e->N.cell? (g.add d)=M e:=λg b d e a=>by
    rw[d3]at a;have n:d<(fF [] (c.map gt)).length:=(ag.1 a).1;rw[sf,G]at n;obtain⟨f,o,i,_,_,r⟩:=jH s (by omega);rw[b]at i;simp only[Value.slice.injEq,aX,true_and]at i;obtain⟨rfl,rfl⟩:=i;rw[yG,bJ,r d n];exact a
   have a0:=Ou (Dp p _ W1 N f6 j k l _ ([]++ [m]) [] _ _ _ a6 S q.sup q.sz 0 ⟨e,(OE p e).map fV⟩ m rfl rfl g (c.map gt) bk ep a4 a5 d4 d5 eg (by rw[G];exact fo) fs (λe a=>by obtain⟨bn,_,rfl⟩:=bF.1 a;exact xe _ bn) (by simp));rw[G]at a0;clear cc cs a8 a6 s d5 d3 eg G;go_wp2_with fail;refine a0.mono ?_;rintro b Q ⟨rfl,cu⟩;have ca:Hid (v9 p W1 j (O ac p.length ad) k l a Q):=⟨a2,ny p e g c,[]++ [m],b9.1,b9.2,fa,cu⟩;clear cu a0 eR;go_wp2_with fail;refine(Kn p _ W1 Q j k l a e0 ca fc q S e9).mono ?_;rintro b i ⟨rfl,bz,c,e5,e6,c,c,r⟩;have R:=Ou r;have bM:=ak.below r.bel ak.lt;obtain⟨n,o,rfl⟩:=fd r.io;have c:=r.eH.c8;have c:=r.eH.c9;have c:=bM.lt;have c:=v.size;have c:=v.trans (r.bel.mono v.size);have ce:=Oz i #[J I a.2,J I 0,O n a.1.out.length o,J I (a.1.steps:Int)] 69;have Z:=ev i (zC #[J I a.2,J I 0,O n a.1.out.length o,J I (a.1.steps:Int)] 69);have ar:=bM.alloc (zC #[J I a.2,J I 0,O n a.1.out.length o,J I (a.1.steps:Int)] 69);have t:=Ou (R.below Z (ai _));have b8:=Ou (aq (Ov R.io v.size) c);clear r ca
   cases x:a.2 == 1 with
   | false =>
    have a1:Hid ((if a.2=1 then kh a.1 a.1.told (ew p e g).ret else 0)=0):=af (by simpa using x)
    go_wp2_with (first
     | refine jv gX ce 0 [J I a.2,J I 0,O n a.1.out.length o,J I (a.1.steps : Int)] rfl (λd e b => by simpa using b) (.tmp 18) rfl rfl rfl ?_
     | (refine fJ gX ar 0 [J I a.2,J I 0,O n a.1.out.length o,J I (a.1.steps : Int)] rfl (by simp) (λH a => by simp only[aE, aF, or_false]at a; rcases a with rfl | rfl | rfl | rfl <;> rfl) (.tmp 12) (.tmp 57) rfl rfl rfl rfl ?_; intro z ck cn c; rw[fw (by rfl)]at ck))
    refine bodyPost_ret (j9 rfl gX ck rfl rfl) rfl ?_;obtain⟨y,aa⟩:=b8;have E:=eu aa Z;refine⟨_,by rw[ea a1],?_,E.trans (cn.below E.size (λd x b=>by omega))⟩;have ab:=eX y (Ox Z) (λf a b=>by have:=(y.lt f a).2;omega)
    exact eX ab cn (λf a b=>by
     obtain⟨cg,F⟩:=j8 ab a;rw[b]at F
     exact absurd (F.uniq ar) (by decide))
   | true =>
    have a1:Hid ((if a.2=1 then kh a.1 a.1.told (ew p e g).ret else 0)=kh a.1 a.1.told (ew p e g).ret):=am (by simpa using x);have bo:=t.out.eH.c5;have br:=t.out.eH.c6;have bs:=t.out.eH.c7;have f4:=t.out.eH.c0;go_wp2_with fail;have c:i.heap.size<(i.alloc (zC #[J I a.2,J I 0,O n a.1.out.length o,J I (a.1.steps:Int)] 69)).heap.size:=(by simp);generalize i.alloc _=U4 at *;refine fk (λL=>L.cell? ⟨j,5,U⟩=M (J I a.1.told.kind)/\L.cell? ⟨j,6,U⟩=M (J I a.1.told.num)/\L.cell? ⟨j,7,U⟩=M (ic bz a.1.told.obj)) ⟨bo,br,bs⟩ λhHeld=>?_;refine dZ 49 0 ?_;refine dZ 50 1 ?_;refine dZ 51 2 ?_;refine dZ 52 3 ?_;refine el 4 (λcb B=>?_);go_simp;refine(tI p _ e g W1 U4.drew j S t.bel.drew f4 q.sup q.sz a4 a5 d4).mono ?_;rintro b et ⟨c,c,c,rfl,e7,c⟩;have D:Below U4.heap.size U4 et:=⟨c.os,c.tape,c.output,c.size,c.block⟩;have c:=Oq D;have e2:=Ou (aq (c _ _ bo) (aq (c _ _ br) (c _ _ bs)));have eS:=Ou (t.below D (ai _));have e4:=ce.bl D;have eK:=ar.bl D;have ft:=R.qu;unfold fB;clear e7;go_wp2_with fail;refine B.out _ _ e2 λhHeld=>?_;refine dZ 54 5 ?_;refine el 6 (λcb B=>?_);go_simp;have ba:=Kl W1 et _ j _ k l a.1 bz e5 e6 _ _ eS a.1.told (ew p e g).ret ft;unfold ff at ba;refine ba.mono ?_;rintro b z ⟨rfl,c⟩;have ds:=eu D c;have h:=Oq ds;have T:=Ou (aq (h _ _ bo) (aq (h _ _ br) (h _ _ bs)));have a3:=e4.bl c;have eP:=eK.bl c;rw[<-ea a1];generalize eo:(if a.2=1 then kh a.1 a.1.told (ew p e g).ret else 0)=vv at *;have e3:=Ou eo;clear eo ba;go_wp2_with fail;refine B.out _ _ T λhHeld=>?_;refine dZ 56 7 ?_;have c:=a3.c1;have c:=a3.frozen 1;have cf:=a3.setCell 1 (J I vv);have b5:=eP.gP (p:=⟨i.heap.size,1,U⟩) (by dsimp only;omega) (J I vv);have C:ee (λd=>d=i.heap.size) z (z.setCell ⟨i.heap.size,1,U⟩ (J I vv)):=(Ow (λd=>d=i.heap.size) z).setCell (p:=⟨i.heap.size,1,U⟩) (λ_=>rfl) _;have c:j<i.heap.size:=R.lt;refine el 8 (λcb B=>?_);go_simp;refine B.out _ _ ⟨C.cell T.1 (by dsimp only;omega),C.cell T.2.1 (by dsimp only;omega),C.cell T.2.2 (by dsimp only;omega)⟩ λhHeld=>?_;refine eV ?_
    change ed _ i.heap.size 69 [J I a.2,J I vv,O n a.1.out.length o,J I (a.1.steps:Int)]at cf
    generalize z.setCell _ _=U7 at *
    go_wp2_with (first
     | refine jv gX cf 0 [J I a.2,J I vv,O n a.1.out.length o,J I (a.1.steps : Int)] rfl (λd e b => by simpa using b) (.tmp 18) rfl rfl rfl ?_
     | (refine fJ gX b5 0 [J I a.2,J I vv,O n a.1.out.length o,J I (a.1.steps : Int)] rfl (by simp) (λH a => by simp only[aE, aF, or_false]at a; rcases a with rfl | rfl | rfl | rfl <;> rfl) (.tmp 12) (.tmp 57) rfl rfl rfl rfl ?_; intro a cm cp a; rw[fw (by rfl)]at cm))
    refine bodyPost_ret (j9 rfl gX cm rfl rfl) rfl ?_;obtain⟨y,aa⟩:=b8;have a:Below i.heap.size i z:=eu Z ds;have ab:=eX y (Ox a) (λf a b=>by have:=(y.lt f a).2;omega);have ec:=eX ab C (λf a b=>by have:=(y.lt f a).2;omega);have E:=eu aa a;have a:=E.trans (C.below E.size (λd x b=>by have:=aa.size;omega));refine⟨_,by rw[ea e3],?_,a.trans (cp.below a.size (λd x b=>by omega))⟩
    exact eX ec cp (λf a b=>by
     obtain⟨cg,F⟩:=j8 ec a;rw[b]at F
     exact absurd (F.uniq b5) (by decide))
end
instance (n:Nat) (t:Int):Decidable (fz n t):=inferInstanceAs (Decidable (0<=t/\t<(n:Int)+3))
section
attribute [local go_sem ↓] Go.wp_at_zero Go.wp_at_succ
attribute [local go_sem] eZ
theorem B9(p x b e i d)(s:eQ d x p)(Z:ez p p.length)(u:eM p<=4194304)(a0:0<=b)(F:b<(p.length:Int))(r:(fy p b e).isSome=K)(X:(ew p b e).args.length=i)(R:∀ak∈(ew p b e).args,ak=0)(a1:i<=4194304):
  Calls Tryz.prog 59 #[.agg #[x],J I b,J I e,J I (i:Int)] d λf an=>f=zR (zB K)/\Below d.heap.size d an:=by
 obtain⟨L,i⟩:=bQ.1 r;have k:=Ou s;have j:=Ou i;obtain⟨v,_,_,w,rfl,_⟩:=s;have o:=ev d (zC #[O v p.length w] 24);have z:=Oz d #[O v p.length w] 24;go_in
 go_wp2_with fail;generalize d.alloc _=W at *;refine(yU p _ b W (eA (Oq o) k) (ap (fQ p) u)).mono ?_;rintro f ao ⟨rfl,m⟩;rw[show fR b p.length=K by unfold fR;simp;omega];have g:=eu o m;have:=(z.bl m).c0;go_wp2_with fail;refine(tm p _ p.length b e d ao k g Z (ai _) (by omega) F u).mono ?_;rintro f y ⟨a,D,G,M,E,H,N,rfl,Q,n⟩;obtain⟨T,V⟩:=Q L j;obtain rfl:=qX j T;have d:(fy p b e).isSome=K:=r;rw[d];obtain⟨ac,_,_⟩:=V;obtain⟨d,d,d,d,t,_,aa,ab⟩:=it ac;simp only[Value.slice.injEq,true_and]at t;obtain⟨rfl,rfl⟩:=t;generalize ew p b e=a at *;have A:=Ou R;have C:=Ou ab;have B:=Ou aa;subst X
 have Y:∀b∈[J .i64 a.slot,O D a.args.length E,J I a.ret,J I a.locals,J I a.stack,O G a.code.length H,O M a.frames.length N],b.oneCell'=K:=λb a=>by
  simp only[aE,aF,or_false]at a
  rcases a with rfl | rfl | rfl | rfl | rfl | rfl | rfl <;> rfl
 go_wp2_with (refine fJ pu (Oz y #[J I 0,O U 0 0,J I 0,J I 0,J I 0,O U 0 0,O U 0 0] 63) 0 _ rfl (by simp) Y (.tmp 9) (.tmp 22) rfl rfl rfl rfl ?_;intro ar l P b;rw[fw (by rfl)]at l;have:=l.c1)
 have b:=(ev y _).trans (P.below (by simp) (λc S f=>by omega));have q:=(eu g n).trans (b.mono (eu g n).size)
 go_loopw [36] (λb wr=>∃(c:Nat),c<=a.args.length/\b=J I c/\wr=ar) (λb _=>a.args.length-(intOf b).toNat)
 case atStart=>exact ⟨0,az _,rfl,rfl⟩
 case round=>
  obtain⟨c,S,rfl,rfl⟩:=hrel
  by_cases h:c<a.args.length
  .obtain rfl:=B (eW h);have ad:=Oq q _ _ (C c h);have b:=A _ (av h);rw[b]at ad;have:=fp c;have:(c:Int)<(a.args.length:Int):=(by omega);go_wp2_with fail;refine⟨⟨c+1,by omega,by go_num,trivial⟩,by simp[intOf];omega⟩
  .obtain rfl:c=a.args.length:=by omega
   go_wp2;go_ret;exact⟨rfl,q⟩
def yA (p:On)(c slot:Int)(R:eJ×Int)(w w':World)(e:Ending):Prop:=
 ∃eE,e=zR (.tuple #[.agg #[J I R.2,J I (if R.2=1 then kh R.1 R.1.told (ew p c slot).ret else 0),eE,J I (R.1.steps:Int)],J I 0])/\w'.ownsRow w.heap.size 3 1 eE R.1.out.length (R.1.out.map (J .i64))/\Below w.heap.size w w'
theorem G2(p S a b d R e f)(N:eQ f S p)(a2:je p)(q:eM p<=4194304)(D:fi p=0)(ab:∀h z,(fy p h z).isSome=K->0<=h->h<(p.length:Int)->(ew p h z).args.length<=4194303)(A:0<=a)(B:a<(p.length:Int))(j:(fy p a b).isSome=K)(Q:eG 1 (gF f) R d)(o:(ew p a b).args.length=d.length)(n:∀a5∈(ew p a b).args,a5=0)(an:1+(d.length:Int)<=(ew p a b).locals)(ao:(ew p a b).locals<=8)(ak:e<=5000)(ad:0<=e)(m c)(ar:sX p e m (ny p a b d))(a0:runM p e m (ny p a b d)=M c):
  Calls Tryz.prog 27 #[.agg #[S],J I a,J I b,R,J I e,zB K] f λg a6=>yA p a b c f a6 g:=by
 have w:=oj D q;have l:=Ou N;have y:=Ou (aq ar a0);have Z:=Ou Q;obtain⟨h,_,_,h,rfl,_⟩:=Q;obtain⟨r,_,_,s,rfl,_⟩:=N;have G:=gS f (zC #[O r p.length s] 24) (zC #[J I 0,J I 0,O U 0 0,J I 0] 69);have t:=(Oz f #[O r p.length s] 24).alloc (zC #[J I 0,J I 0,O U 0 0,J I 0] 69);have k:=Oz (f.alloc (zC #[O r p.length s] 24)) #[J I 0,J I 0,O U 0 0,J I 0] 69;rw[World.size_alloc]at k;have ac:d.length<=4194304:=by omega
 have:¬e<0:=by omega
 have:¬5000<e:=by omega
 have X:=Ou D;have HS:=Ou (aq j (aq o n));go_in
 go_wp2_with fail;generalize (f.alloc _).alloc _=W at *;refine(BJ p _ W (eA (Oq G) l) a2 q).mono ?_;rintro g a8 ⟨rfl,f⟩;rw[ea X];have H:=eu G f;have u:=t.below f (by have:=t.lt;omega);have T:=k.below f (by have:=k.lt;omega);have:=u.c0;go_wp2_with fail;obtain⟨j,o,n⟩:=HS;refine(B9 p _ a b d.length a8 (eA (Oq H) l) w.sup q A B j o n ac).mono ?_;rintro g ba ⟨rfl,f⟩;have i:=eu H f;have h:=u.bl f;have v:=T.bl f;have:=h.c0;have Y:=Ou j;go_wp2_with fail;refine(Dx p _ a b d _ e ba (eA (Oq i) l) w ab A B Y (fu (Oq i) Z) an ao ak ad m c y.1 y.2 K (.inl rfl)).mono ?_;rintro g d ⟨d,rfl,P,F⟩;have V:=v.bl F;obtain⟨a3,a4,rfl⟩:=fd P;generalize a1:(if c.2=1 then kh c.1 c.1.told (ew p a b).ret else 0)=vv at *;have aa:=Ou a1;have x:=Ou P;go_wp2_with (refine fJ gX V 0 [J I c.2,J I vv,O a3 c.1.out.length a4,J I (c.1.steps:Int)] rfl (by simp) (λb a=>by simp only[aE,aF,or_false]at a;rcases a with rfl | rfl | rfl | rfl <;> rfl) (.tmp 12) (.tmp 52) rfl rfl rfl rfl ?_;intro a C E a;rw[fw (by rfl)]at C)
 refine bodyPost_ret (jk rfl gX C rfl rfl) rfl ?_;have L:=eu i F;refine⟨_,by rw[ea aa];rfl,Ov (eX x E (λa b g=>?_)) i.size,L.trans (E.below L.size (λb a g=>by omega))⟩;have:=(x.lt a b).1;have:=v.lt;omega
def mP (p : List eb) (c slot : Int) (n : Nat) : Bool := fR c p.length && (fy p c slot).isSome && decide ((ew p c slot).args.length = n) && (ew p c slot).args.all (· == 0)
theorem qA{p a b c}:mP p a b c=K↔(0<=a/\a<(p.length:Int))/\(fy p a b).isSome=K/\(ew p a b).args.length=c/\∀d∈(ew p a b).args,d=0:=by
 unfold mP;simp only[aD,lh,decide_eq_true_eq,aJ,beq_iff_eq,and_assoc]
theorem G8(p C c d)(h:Nat)(e)(A:eQ e C p)(M:ez p p.length)(B:eM p<=4194304)(a8:h<=4194304):
  Calls Tryz.prog 59 #[.agg #[C],J I c,J I d,J I (h:Int)] e λi ba=>i=zR (zB (mP p c d h))/\Below e.heap.size e ba:=by
 by_cases j:mP p c d h=K
 .rw [j];obtain⟨⟨a,b⟩,g,k,l⟩:=qA.1 j;exact B9 p C c d h e A M B a b g k l a8
 rw[Bool.not_eq_true]at j;rw[j];have ad:=Ou j;clear j;have E:=Ou A;obtain⟨X,_,_,Y,rfl,_⟩:=A;have G:=ev e (zC #[O X p.length Y] 24);have Z:=Oz e #[O X p.length Y] 24;go_in
 go_wp2_with fail;generalize e.alloc _=W at *;refine(yU p _ c W (eA (Oq G) E) (ap (fQ p) B)).mono ?_;rintro i bc ⟨rfl,F⟩;have t:=eu G F
 cases q:fR c p.length with
 | false =>
  clear q;go_wp2;go_ret;exact⟨rfl,t⟩
 | true =>
 obtain⟨j,ar⟩:=lh.1 q;have aa:=Ou q;clear q;have:=(Z.bl F).c0;go_wp2_with fail;refine(tm p _ p.length c d e bc E t M (ai _) (by omega) ar B).mono ?_;rintro i k ⟨a,an,a0,a3,ao,a1,a4,rfl,w,e⟩;have u:=eu t e
 have z:∀b∈[J .i64 a.slot,O an a.args.length ao,J I a.ret,J I a.locals,J I a.stack,O a0 a.code.length a1,O a3 a.frames.length a4],b.oneCell'=K:=λb a=>by
  simp only[aE,aF,or_false]at a
  rcases a with rfl | rfl | rfl | rfl | rfl | rfl | rfl <;> rfl
 cases o:(fy p c d).isSome with
 | false =>
  clear w o;go_wp2_with (refine fJ pu (Oz k #[J I 0,O U 0 0,J I 0,J I 0,J I 0,O U 0 0,O U 0 0] 63) 0 _ rfl (by simp) z (.tmp 9) (.tmp 22) rfl rfl rfl rfl ?_;intro D g l N;rw[fw (by rfl)]at g;have V:=g.c1)
  have m:=(ev k _).trans (l.below (by simp) (λb x i=>by omega));go_ret;exact⟨rfl,eu u m⟩
 | true =>
 obtain⟨a2,v⟩:=bQ.1 o;obtain⟨L,a5⟩:=w a2 v;obtain rfl:=qX v L
 have ak : Hid (¬ ((ew p c d).args.length = h /\ (ew p c d).args.all (· == 0) = K)) := by
  intro g;have b:=ea ad;unfold mP at b;rw[ea aa,o,decide_eq_true g.1,g.2]at b
  cases b
 obtain⟨T,_,_⟩:=a5;obtain⟨e,e,e,e,Q,_,P,R⟩:=it T;simp only[Value.slice.injEq,true_and]at Q;obtain⟨rfl,rfl⟩:=Q;clear v;generalize ew p c d=a at *;have ac:=Ou R;have ab:=Ou P;clear w L o T R P
 by_cases a6:a.args.length=h
 .subst a6;go_wp2_with (refine fJ pu (Oz k #[J I 0,O U 0 0,J I 0,J I 0,J I 0,O U 0 0,O U 0 0] 63) 0 _ rfl (by simp) z (.tmp 9) (.tmp 22) rfl rfl rfl rfl ?_;intro D g l N;rw[fw (by rfl)]at g;have V:=g.c1)
  have m:=(ev k _).trans (l.below (by simp) (λb x i=>by omega));have H:=eu u m
  go_loopw [36] (λc wr => ∃ (b : Nat), b <= a.args.length /\ c =J I b /\ (a.args.take b).all (· == 0) = K /\ wr = D) (λc _ => a.args.length - (intOf c).toNat)
  case atStart=>exact ⟨0,az _,rfl,rfl,rfl⟩
  case round=>
   obtain⟨b,x,rfl,n,rfl⟩:=hrel
   by_cases y:b<a.args.length
   .obtain rfl:=ab (eW y);have:=Oq H _ _ (ac b y);have s:=mH (f:=λr:Int=>r == 0) y;rw[n,bO]at s;have HS:=Ou s;have:=fp b;have:(b:Int)<(a.args.length:Int):=(by omega);clear s n;generalize a.args[b]=r at *
    by_cases S:r=0
    .subst S;go_wp2_with fail;refine⟨⟨b+1,by omega,by go_num,by rw[ea HS];rfl,trivial⟩,by simp[intOf];omega⟩
    .have:(r != 0)=K:=(by simpa using S);go_wp2;go_ret;exact⟨rfl,H⟩
   .obtain rfl:b=a.args.length:=by omega
    exact absurd ⟨by first | trivial | rfl,by rw[bG]at n;exact n⟩ ak
 .have:((a.args.length:Int) != (h:Int))=K:=by
   simp only[bne_iff_ne,ne_eq];omega
  go_wp2_with (refine fJ pu (Oz k #[J I 0,O U 0 0,J I 0,J I 0,J I 0,O U 0 0,O U 0 0] 63) 0 _ rfl (by simp) z (.tmp 9) (.tmp 22) rfl rfl rfl rfl ?_;intro D g l N;rw[fw (by rfl)]at g;have V:=g.c1)
  have m:=(ev k _).trans (l.below (by simp) (λb x i=>by omega));go_ret;exact⟨rfl,eu u m⟩
end
theorem Ik:eM pA<=4194304:=by decide
section
attribute [local go_sem ↓] Go.wp_at_zero Go.wp_at_succ
attribute [local go_sem] eZ
theorem xT{α :Type}(c b):∀a:List α,(∀x∈a,c x<=b)->(a.map c).sum<=a.length*b
 | [], _ => by simp
 | x :: a, h => by
  have:=xT c b a (λb a=>h b (List.mem_cons_of_mem _ a));have:=h x List.mem_cons_self;rw[bC,dk,bA,cq];omega
theorem IF{p}(b:fi p=0):eM p<=1048576:=by
 obtain⟨h,i⟩:=IE b
 have d:∀b∈p,gV b<=142764:=λb hx=>by
  obtain⟨k,a,e⟩:=i b hx
  have c:∀a∈b.ek,fI a<=3568:=λa c=>by
   obtain⟨i,i,i,f,g⟩:=e a c
   have j:∀c∈a.frames,iB c<=84:=λc d=>by
    obtain⟨e,e⟩:=g c d;unfold iB;omega
   have:=xT iB 84 a.frames j;have:a.frames.length*84<=40*84:=bP _ f;unfold fI;omega
  have:=xT fI 3568 b.ek c;have:b.ek.length*3568<=40*3568:=bP _ a;unfold gV;omega
 have:=xT gV 142764 p d;have:p.length*142764<=6*142764:=bP _ h;unfold eM;omega
end
end Go.Proofs.YtiiokkllmchohaaGreat
