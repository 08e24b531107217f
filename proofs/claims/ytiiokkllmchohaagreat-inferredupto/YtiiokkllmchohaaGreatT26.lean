/- The solver: reach, whole; goOn. -/
import Derived.Test.YtiiokkllmchohaaGreatT17
import Derived.Test.YtiiokkllmchohaaGreatT21
import Derived.Test.YtiiokkllmchohaaGreatT23
import Derived.Test.YtiiokkllmchohaaGreatT24
import Derived.Test.YtiiokkllmchohaaGreatT25
set_option maxHeartbeats 4000000
set_option maxRecDepth 100000
namespace Go.Proofs.YtiiokkllmchohaaGreat
open Go.RowKit Go.Shelf
attribute [local go_sem ↓] Go.wp_at_zero Go.wp_at_succ
attribute [local go_sem] bW
attribute [local go_sem] Oper.semAt_some
def oJ (p:List aj)(k:Int)(r:Option aJ)(bs:Nat)(vp:Value)(mc:List Value)(w w':World)(e:Ending):Prop:=
 (∀s',r=some s'→e= .returned (.tuple #[])∧jT w' bs vp mc s'∧nY p k s')∧(r=none→e= .panicked (jB 5))∧ay (fun k=>k=bs) w w'
theorem oJ.yes {p:List aj}{k:Int}{r:Option aJ}{s':aJ}{bs:Nat}{vp:Value}{mc:List Value}{w w':World}{e:Ending}(hr:r=some s')(he:e= .returned (.tuple #[]))(hS:jT w' bs vp mc s')(hT:nY p k s')(hM:ay (fun k=>k=bs) w w'):oJ p k r bs vp mc w w' e:=
 ⟨fun s2 e2=>(by rw [hr] at e2;obtain rfl:=Option.some.inj e2;exact⟨he,hS,hT⟩),fun e2=>(by rw [hr] at e2;cases e2),hM⟩
theorem oJ.no {p:List aj}{k:Int}{r:Option aJ}{bs:Nat}{vp:Value}{mc:List Value}{w w':World}(hr:r=none)(hM:ay (fun k=>k=bs) w w'):oJ p k r bs vp mc w w' (.panicked (jB 5)):=
 ⟨fun s2 e2=>(by rw [hr] at e2;cases e2),fun _=>rfl,hM⟩
theorem Vq (p:List aj)(i:Nat)(g:aH)(c:List Value)(w:World)(bs:Nat)(vp:Value)(mc:List Value)(s:aJ)(h:jT w bs vp mc s)(hm:mc.length=7)(hi:i<40)(hg:eX g c)(hp:aX w vp p)(hs:aU p p.length)(hz:p.length≤4194304)
  (k:Int) (tg:kV p.length k g) (ti:nY p k s) :
  Calls Tryz.prog 78 #[.pointer (some ⟨bs,0,none⟩),.int .i64 (i:Int),.agg c.toArray] w fun e w'=>oJ p k (ji p i g s) bs vp mc w w' e:=by
 have hl:i<s.st.length:=by obtain⟨_,hC,_⟩:=h;rw [hC.l1];exact hi
 cases hre:s.re.getD i false with
 | false =>
  have hr:ji p i g s=some (dK s i g):=by unfold ji;rw [hre];rfl
  refine (akf i g c w bs vp mc s h hm hi hg hre).mono ?_;rintro e w' ⟨h1,h2,h3⟩;exact oJ.yes hr h1 h2 (ti.reach hl tg hr) h3
 | true =>
  cases hb:jw p g (s.st.getD i zeroS) with
  | true =>
   have hr:ji p i g s=some s:=by unfold ji;rw [if_pos hre,if_pos hb]
   refine (akd p i g c w bs vp mc s h hm hi hg hre hp hs hz k k tg (ti.get hl) hb).mono ?_;rintro e w' ⟨h1,h2,h3⟩;exact oJ.yes hr h1 h2 (ti.reach hl tg hr) h3
  | false =>
   refine (ake p i g c w bs vp mc s h hm hi hg hre hp hs hz k k tg (ti.get hl) hb).mono ?_;rintro e w' ⟨h1,h2,h3⟩
   by_cases hq:(s.st.getD i zeroS).stk.length=g.stk.length
   ·have hr:ji p i g s=some (dK s i (jh p (s.st.getD i zeroS) g)):=by unfold ji;rw [if_pos hre,if_neg (by rw [hb];decide),if_pos hq]
    exact oJ.yes hr (h1 hq).1 (h1 hq).2 (ti.reach hl tg hr) h3
   ·have hr:ji p i g s=none:=by unfold ji;rw [if_pos hre,if_neg (by rw [hb];decide),if_neg hq]
    obtain rfl:=h2 hq;exact oJ.no hr h3

def aip (K:Act→World→Prop)(R:Ending→World→Prop):Exit→Act→World→Prop
 | .normal, a, w => K a w
 | .panic c, a, w => a.defers = [] ∧ R (.panicked c) w
 | _, _, _ => False
theorem akt {P:Program}{f:FuncId}{fn:Func}{R:Ending→World→Prop}{a:Act}{w:World}{x y:Code}(h:x.wp P (aip (ng P f y (DJ P fn R)) R) a w):ng P f (Code.seq x y) (DJ P fn R) a w:=by
 refine jY (Code.wp_mono ?_ h);intro e a w hq
 cases e with
 | normal => exact hq
 | panic c =>
  obtain⟨hd,hR⟩:=hq;obtain⟨tmps,defers⟩:=a;obtain rfl:defers= []:=hd;exact hR
 | ret => exact hq.elim
 | exit id => exact hq.elim
 | goto l => exact hq.elim
 | outgrown => exact hq.elim
def jP (m:aC)(va aQ vf:Value):List Value:= [.int .i64 m.slot,va,.int .i64 m.ret,.int .i64 m.locals,.int .i64 m.stack,aQ,vf]
def zu (p:List aj)(k:Int)(n:aH)(outs:List (Int×Bool))(s:aJ)(bs b2 b4:Nat)(vp:Value)(mc cn:List Value)(w:World)(sz:Nat)(xs:List (Int×Bool))(V:World):Prop:=
 ∃s1,jT V bs vp mc s1∧nY p k s1∧lF p n xs s1=lF p n outs s∧(∃dn,outs=dn++xs)∧ay (fun k=>k=bs) w V∧sz≤V.heap.size∧ak V b4 130 cn∧ak V b2 208 [.pointer (some ⟨bs,0,none⟩)]
theorem jT.mods {S:Nat→Prop}{w w':World}{bs:Nat}{vp:Value}{mc:List Value}{s:aJ}(h:jT w bs vp mc s)(m:ay S w w')(hb:¬S bs):jT w' bs vp mc s:=by
 obtain⟨css,hC,hB⟩:=h;exact⟨css,hC,hB.mods m hb⟩
theorem zu.own {p:List aj}{k:Int}{n:aH}{outs:List (Int×Bool)}{s:aJ}{bs b2 b4:Nat}{vp:Value}{mc cn:List Value}{w:World}{sz:Nat}{xs:List (Int×Bool)}{V V':World}(h:zu p k n outs s bs b2 b4 vp mc cn w sz xs V)(hm:ay (fun k=>sz≤k) V V')(h1:bs<sz)(h2:b2<sz)(h4:b4<sz)(hw:w.heap.size≤sz):zu p k n outs s bs b2 b4 vp mc cn w sz xs V':=by
 obtain⟨s1,hA,hT,hR,hd,hM,hz,hB4,hB2⟩:=h;exact⟨s1,hA.mods hm (by omega),hT,hR,hd,hM.trans hm (fun k hk e=>by omega),Nat.le_trans hz hm.size,hB4.mods hm (by omega),hB2.mods hm (by omega)⟩
theorem akb (p:List aj)(vp:Value)(m:aC)(va aQ vf:Value)(i:Nat)(w0 w:World)(bs:Nat)(s:aJ)(h:jT w bs vp (jP m va aQ vf) s)(hp:aX w0 vp p)(hv:bV w0.cell? m va aQ vf)(hbw:Below w0.heap.size w0 w)(hbs:w0.heap.size≤bs)
  (hi:i<m.code.length) (dD:m.code.length≤40) (T:nY p m.stack s) (G:Good p) (M:vJ p m) (hins:∀i∈m.code,bC p m i=true) :
  Calls Tryz.prog 145 #[.pointer (some ⟨bs,0,none⟩),.int .i64 (i:Int)] w fun e w'=>oJ p m.stack (uK p m i s) bs vp (jP m va aQ vf) w w' e:=by
 have HP:=hide hp;have HV:=hide hv;obtain⟨css,hC,hB⟩:=h;have ak9:i<40:=by omega
 have hz:p.length≤4194304:=Nat.le_trans (eG p) G.sz;have hil:i<s.st.length:=by rw [hC.l1];omega
 have hcl:i<css.length:=by rw [hC.lc];omega
 have hgi:eX (s.st.getD i zeroS) css[i]:=by
  have e:s.st.getD i zeroS=s.st[i]:=by rw [List.getD_eq_getElem?_getD,List.getElem?_eq_getElem hil];rfl
  rw [e];exact hC.cs i _ _ (List.getElem?_eq_getElem hil) (List.getElem?_eq_getElem hcl)
 have Oj:=T.get hil;have Wv:Hid (uK p m i s=(jy p m i (s.st.getD i zeroS)).bind fun n=>lF p n (gy (bH m i) i) s):=rfl;obtain⟨pa,_,_,aA,rfl,_⟩:=hp;obtain⟨hva,kG,hvf⟩:=hv;obtain⟨aa,_,_,aI,rfl,_⟩:=hva;obtain⟨fa,_,_,aG,rfl,_⟩:=hvf;obtain⟨ca,cb,off,aF,rfl,TL,hca,hcr⟩:=aZ kG;obtain rfl:=hca (bJ hi);have hX:=hcr i hi;have oM:bH m i=m.code[i]:=by unfold bH;rw [List.getElem?_eq_getElem hi];rfl
 have hsv:=fun j v (e:css[i][j]? =some v)=>PV (vp:=.slice pa p.length aA) hC (show (jP m (.slice aa m.args.length aI) (.slice (some ⟨cb,off,none⟩) m.code.length aF) (.slice fa m.frames.length aG)).length=7 from rfl) (List.getElem?_eq_getElem hcl) j v e;have Dt:=hgi.len;generalize css[i]=ci at *;generalize s.st.getD i zeroS=u at *;generalize m.code[i]=x at *;obtain⟨x0,x1,x2⟩:=hX;clear hcr kG;have HM:=hide M;have HI:=hide hins;have i0:(0:Int)≤(i:Int):=by omega
 have i40:(i:Int)<40:=by omega
 have i41:(i:Int)<(m.code.length:Int):=by omega
 refine Nz Tryz.func145 rfl ?_;simp only [Tryz.ntmps145,List.size_toArray,List.length_cons,List.length_nil,Nat.reduceAdd,Nat.reduceSub,Array.replicate_succ,Array.replicate_zero,List.push_toArray,List.append_toArray,List.nil_append,List.cons_append];refine jY ?_;go_wp2_with fail
 have hbs':=hB.lt;have A0:=hB.alloc (.cells #[.pointer (some ⟨bs,0,none⟩)] 208);have A1:=ak.new w #[.pointer (some ⟨bs,0,none⟩)] 208;have hb1:=aS w (.cells #[.pointer (some ⟨bs,0,none⟩)] 208);generalize w.alloc _=W at *;have hbW:Below w0.heap.size w0 W:=hbw.trans (hb1.mono hbw.size);have a2:W.cell? ⟨w.heap.size,0,none⟩=some (.pointer (some ⟨bs,0,none⟩)):=A1.cell 0;have k0:W.cell? ⟨bs,0,none⟩=some (.slice pa p.length aA):=A0.cell 0;have m0:W.cell? ⟨bs,1,none⟩=some (.int .i64 m.slot):=A0.cell 1;have m1:W.cell? ⟨bs,2,none⟩=some (.slice aa m.args.length aI):=A0.cell 2;have m2:W.cell? ⟨bs,3,none⟩=some (.int .i64 m.ret):=A0.cell 3
 have m3:W.cell? ⟨bs,4,none⟩=some (.int .i64 m.locals):=A0.cell 4;have m4:W.cell? ⟨bs,5,none⟩=some (.int .i64 m.stack):=A0.cell 5;have m5:W.cell? ⟨bs,6,none⟩=some (.slice (some ⟨cb,off,none⟩) m.code.length aF):=A0.cell 6;have m6:W.cell? ⟨bs,7,none⟩=some (.slice fa m.frames.length aG):=A0.cell 7;refine akt ?_
 refine wp_region_held_drew (S:=(fun w'=>ak w' bs 134 (iE (.slice pa p.length aA) (jP m (.slice aa m.args.length aI) (.slice (some ⟨cb,off,none⟩) m.code.length aF) (.slice fa m.frames.length aG)) css s)∧w'.cell? ⟨w.heap.size,0,none⟩=some (.pointer (some ⟨bs,0,none⟩))∧w'.cell? ⟨bs,0,none⟩=some (.slice pa p.length aA)∧w'.cell? ⟨bs,1,none⟩=some (.int .i64 m.slot)∧w'.cell? ⟨bs,2,none⟩=some (.slice aa m.args.length aI)∧w'.cell? ⟨bs,3,none⟩=some (.int .i64 m.ret)∧w'.cell? ⟨bs,4,none⟩=some (.int .i64 m.locals)∧w'.cell? ⟨bs,5,none⟩=some (.int .i64 m.stack)∧w'.cell? ⟨bs,6,none⟩=some (.slice (some ⟨cb,off,none⟩) m.code.length aF)∧w'.cell? ⟨bs,7,none⟩=some (.slice fa m.frames.length aG))) (by kernel_rfl) ?_ (fun hHeld=>?_)
 ·exact⟨A0,a2,k0,m0,m1,m2,m3,m4,m5,m6⟩
 refine au 6 0 ?_;refine au 7 1 ?_;refine au 8 2 ?_;refine au 9 3 ?_;refine au 10 4 ?_;refine au 11 5 ?_;refine au 12 6 ?_;refine au 13 7 ?_;refine au 14 8 ?_;refine au 15 9 ?_;refine au 16 10 ?_;refine au 17 11 ?_;refine au 18 12 ?_;refine au 19 13 ?_;refine dL (some 20) (i:=14) (v:=.agg ci.toArray) rfl rfl (by kernel_rfl) (by kernel_rfl) (by kernel_rfl) (fun _ _ _ h=>h) (Or.inl ⟨by rfl,fun w' hSw=>qQ fM hSw.1 (8+i*17) ci Dt hsv rfl rfl⟩) (by assumption) ?_;try simp only [Act.put,aK,aO,aN]
 have wI:=hide (bV.keep (Keeps.of_below hbW) (ah HV));have jc:=hide (aP (Keeps.of_below hbW) (ah HP))
 have hold:∀U,Below W.heap.size W U→(ak U bs 134 (iE (.slice pa p.length aA) (jP m (.slice aa m.args.length aI) (.slice (some ⟨cb,off,none⟩) m.code.length aF) (.slice fa m.frames.length aG)) css s)∧U.cell? ⟨w.heap.size,0,none⟩=some (.pointer (some ⟨bs,0,none⟩))∧U.cell? ⟨bs,0,none⟩=some (.slice pa p.length aA)∧U.cell? ⟨bs,1,none⟩=some (.int .i64 m.slot)∧U.cell? ⟨bs,2,none⟩=some (.slice aa m.args.length aI)∧U.cell? ⟨bs,3,none⟩=some (.int .i64 m.ret)∧U.cell? ⟨bs,4,none⟩=some (.int .i64 m.locals)∧U.cell? ⟨bs,5,none⟩=some (.int .i64 m.stack)∧U.cell? ⟨bs,6,none⟩=some (.slice (some ⟨cb,off,none⟩) m.code.length aF)∧U.cell? ⟨bs,7,none⟩=some (.slice fa m.frames.length aG)):=fun U hU=>
  have k:=Keeps.of_below hU
  ⟨A0.below hU A0.lt,k _ _ a2,k _ _ k0,k _ _ m0,k _ _ m1,k _ _ m2,k _ _ m3,k _ _ m4,k _ _ m5,k _ _ m6⟩
 have HO:=hide hold;clear hold
 cases hn:jy p m i u with
 | none =>
  have HN:Hid (uK p m i s=none):=by show _=_;rw [ah Wv,hn];rfl
  refine wpAnyH_ready (rs:= [15,16]) (by kernel_rfl) (by simp) ?_;refine AllReadyH.cons rfl (fun K hK=>?_) (AllReadyH.cons rfl (fun K hK=>?_) AllReadyH.nil)
  ·go_simp;refine (NV p _ m _ _ _ i u ci _ (aP (Keeps.of_below ((Below.refl _ _).drew)) (ah jc)) (bV.keep (Keeps.of_below ((Below.refl _ _).drew)) (ah wI)) hi dD hgi Oj G (ah HM) (ah HI)).mono ?_;rintro e w2 ⟨_,h2,hb2⟩;obtain rfl:=h2 hn;have hb2':Below W.heap.size W w2:=⟨hb2.os,hb2.tape,hb2.output,hb2.size,hb2.block⟩;have HF:=hide (fB (S:=fun k=>k=bs) (hb1.trans (hb2'.mono hb1.size)));clear hn h2 hb2 hb2';go_wp2_with fail
   exact⟨rfl,oJ.no (ah HN) (ah HF)⟩
  ·go_simp;have hz1:=aS W.drew (.cells eH.toArray 130);have hz2:Below W.heap.size W (W.drew.alloc (.cells eH.toArray 130)):=⟨hz1.os,hz1.tape,hz1.output,hz1.size,hz1.block⟩;refine hK.out _ _ ((ah HO) _ hz2) (fun hHeld=>?_);clear hK K;try simp only [Act.put,aK,aO,aN]
   refine aW 15 (fun K hK=>?_);go_simp;refine (NV p _ m _ _ _ i u ci _ (aP (Keeps.of_below hz2) (ah jc)) (bV.keep (Keeps.of_below hz2) (ah wI)) hi dD hgi Oj G (ah HM) (ah HI)).mono ?_;rintro e w2 ⟨_,h2,hb2⟩;obtain rfl:=h2 hn;have HF:=hide (fB (S:=fun k=>k=bs) (hb1.trans ((hz2.trans (hb2.mono (by simp))).mono hb1.size)));clear hn h2 hb2;go_wp2_with fail
   exact⟨rfl,oJ.no (ah HN) (ah HF)⟩
 | some n =>
  have HN:Hid (uK p m i s=lF p n (gy x i) s):=by show _=_;rw [ah Wv,hn,oM];rfl
  have hin:=AZ hi (ah HI) hn;rw [oM] at hin;refine wpAnyH_ready (rs:= [15,16]) (by kernel_rfl) (by simp) ?_;refine AllReadyH.cons rfl (fun K hK=>?_) (AllReadyH.cons rfl (fun K hK=>?_) AllReadyH.nil)
  ·go_simp;refine (NV p _ m _ _ _ i u ci _ (aP (Keeps.of_below ((Below.refl _ _).drew)) (ah jc)) (bV.keep (Keeps.of_below ((Below.refl _ _).drew)) (ah wI)) hi dD hgi Oj G (ah HM) (ah HI)).mono ?_;rintro e w2 ⟨h1,_,hb2⟩;obtain⟨cn,rfl,hN,Tj⟩:=h1 n hn;have hb2':Below W.heap.size W w2:=⟨hb2.os,hb2.tape,hb2.output,hb2.size,hb2.block⟩;clear hb2 h1 hn;go_wp2_with fail
   refine hK.out _ _ ((ah HO) _ hb2') (fun hHeld=>?_);clear hK K;try simp only [Act.put,aK,aO,aN]
   refine aW 16 (fun K hK=>?_);go_simp;generalize hV:w2.alloc _=V;have eY:Below W.heap.size W V:=by rw [←hV];exact hb2'.alloc hb2'.size _
   have B4:ak V w2.heap.size 130 eH:=by rw [←hV];exact ak.new w2 eH.toArray 130
   have hz2:=hb2'.size;clear hV;refine hK.out _ _ ((ah HO) _ eY) (fun hHeld=>?_);clear hK K;try simp only [Act.put,aK,aO,aN]
   obtain⟨b4,hb4⟩:∃b,b=w2.heap.size:=⟨_,rfl⟩;have iY:W.heap.size≤b4:=by omega
   rw [←hb4] at B4 ⊢;clear hb4 hb2' hz2 hHeld;refine aW 17 (fun K hK=>?_);refine oZ fM B4 0 cn hN.len (by simp [eH]) hN.one (.tmp 4) (.tmp 21) rfl rfl rfl ?_;intro w3 hB3 dh hs3;rw [gB (by rw [hN.len];rfl)] at hB3;have hb3:Below W.heap.size W w3:=eY.trans (dh.below eY.size (fun k hk e=>by omega));refine hK.out _ _ ((ah HO) _ hb3) (fun hHeld=>?_);clear hK K;try simp only [Act.put]
   refine wpAnyH_done (by kernel_rfl) ?_ _;have HH:=hide ((ah HO) _ hb3);have hbw3:=hb1.trans (hb3.mono hb1.size);have B2:=A1.below hb3 A1.lt;have a2':w3.cell? ⟨w.heap.size,0,none⟩=some (.pointer (some ⟨bs,0,none⟩)):=B2.cell 0;have zq:=A0.below hb3 A0.lt;have LC:w3.cell? ⟨bs,6,none⟩=some (.slice (some ⟨cb,off,none⟩) m.code.length aF):=zq.cell 6;clear hHeld B4 eY hs3 dh hb1 m0 m1 m2 m3 m4 m6 k0 a2 m5 HH HO
   show ng _ _ _ _ _ _
   refine jY ?_;go_wp2_with fail
   refine (NW _ _ _ _ _).mono ?_;rintro e w4 ⟨rfl,hw4⟩;have oN:Below w3.heap.size w3 w4:=by rw [hw4];exact dS _ _ _
   have o1:w4.cell? ⟨w3.heap.size,0,none⟩=some (.slice (some ⟨cb,off,none⟩) m.code.length aF):=by rw [hw4];exact lZ _ _ _ _ 0
   have o2:w4.cell? ⟨w3.heap.size+1,0,none⟩=some (.int .i64 (i:Int)):=by rw [hw4];exact fC _ _ _ _ 0
   clear hw4;have C2:=B2.below oN B2.lt;have C4:=hB3.below oN hB3.lt;have CS:=zq.below oN zq.lt;have jM:=hbw3.trans (oN.mono hbw3.size);have Fj:=hbw.trans (jM.mono hbw.size);have z0:=Keeps.of_below Fj _ _ x0;have z1:=Keeps.of_below Fj _ _ x1;have z2:=Keeps.of_below Fj _ _ x2;have l3:=zq.lt;have Eo:=hide (OY x i m.code.length aF cb off w3.heap.size (w3.heap.size+1) (fun k=>k=bs) w4 hi (by omega) o1 o2 ⟨z0,z1,z2⟩ (by omega) (fun k e=>by have:=CS.lt;omega))
   have HI0:Hid (zu p m.stack n (gy x i) s bs w.heap.size b4 (.slice pa p.length aA) (jP m (.slice aa m.args.length aI) (.slice (some ⟨cb,off,none⟩) m.code.length aF) (.slice fa m.frames.length aG)) cn w w4.heap.size (gy x i) w4):=
    ⟨s,⟨css,hC,CS⟩,T,rfl,⟨[],rfl⟩,fB jM,Nat.le_refl _,C4,C2⟩
   have lb4:=hB3.lt;have lw:=B2.lt;clear a2' LC o1 o2;go_wp2_with fail
   refine D9 ?_
   refine PZ Tryz.func145 (gf:=158) (lb:= #[.pointer (some ⟨w3.heap.size,0,none⟩),.pointer (some ⟨w3.heap.size+1,0,none⟩)]) rfl (enters_of Tryz.func158 (by kernel_rfl) rfl) (ah Eo) rfl (fun k e=>by have:=CS.lt;omega)
    (zu p m.stack n (gy x i) s bs w.heap.size b4 (.slice pa p.length aA) (jP m (.slice aa m.args.length aI) (.slice (some ⟨cb,off,none⟩) m.code.length aF) (.slice fa m.frames.length aG)) cn w w4.heap.size)
    (fun c V=>c=jB 5∧lF p n (gy x i) s=none∧ay (fun k=>k=bs) w V) ?aiv (ah HI0) ?a1x ?adL ?adX ?afE ?aix
   case adL=>
    intro l y V K hK;rw [NY];simp only [List.setIfInBounds_toArray,List.set_cons_zero,List.set_cons_succ]
    gi_wp2
    exact hK
   case aiv=>
    rintro xs V V' hI hm;have:=oN.size;exact hI.own hm (by omega) (by omega) (by omega) (by have:=jM.size;omega)
   case adX=>
    rintro l ⟨y1,y2⟩ xs V ⟨s1,hA,hT,hR,⟨dn,hdn⟩,ru,hsz,EF,ED⟩;obtain⟨hy0,hy1⟩:=hin (y1,y2) (by rw [hdn];simp);dsimp only at hy0 hy1;obtain⟨j,rfl⟩:∃j:Nat,y1=(j:Int):=⟨y1.toNat,by omega⟩;have TT:aX V (.slice pa p.length aA) p:=aP (Keeps.of_below (hbw.trans (ru.below hbw.size (fun k hk e=>by omega)))) (ah HP);have v2:V.cell? ⟨w.heap.size,0,none⟩=some (.pointer (some ⟨bs,0,none⟩)):=ED.cell 0
    gi_wp2_with (refine acW fM EF 0 cn hN.len (fun j v e=>by simpa using e) (.tmp 4) rfl rfl rfl ?_)
    refine⟨trivial,rfl,?_⟩;refine (CallsIn.inRound l (callsIn_wide.2 (Vq p j n cn _ bs _ _ s1 hA rfl (by omega) hN TT G.sup hz m.stack Tj hT))).mono ?_;rintro e V2 ⟨h1,h2,hM2⟩;have hRj:lF p n ((↑j,y2)::xs) s1=(ji p j n s1).bind (lF p n xs):=rfl;rw [hRj] at hR
    cases hr:ji p j n s1 with
    | none =>
     obtain rfl:=h2 hr;rw [hr] at hR;have HR:=hide hR;have Gs:=hide (ru.trans hM2 (fun _ _ e=>e));clear hr h1 h2 hR hRj
     gi_wp2_with fail
     exact⟨rfl,hM2,rfl,(ah HR).symm,ah Gs⟩
    | some s2 =>
     obtain⟨rfl,hA2,hT2⟩:=h1 s2 hr;rw [hr] at hR
     have HI2:Hid (zu p m.stack n (gy x i) s bs w.heap.size b4 (.slice pa p.length aA) (jP m (.slice aa m.args.length aI) (.slice (some ⟨cb,off,none⟩) m.code.length aF) (.slice fa m.frames.length aG)) cn w w4.heap.size xs V2):=
      ⟨s2,hA2,hT2,hR,⟨dn++ [((j:Int),y2)],by rw [hdn];simp⟩,ru.trans hM2 (fun _ _ e=>e),Nat.le_trans hsz hM2.size,EF.mods hM2 (by have:=A0.lt;omega),ED.mods hM2 (by omega)⟩
     clear hr h1 h2 hR hRj hdn
     gi_wp2_with fail
     exact⟨hM2,ah HI2⟩
   case afE=>
    rintro D V hD ⟨s1,hA,hT,hR,_,ru,hsz,EF,ED⟩ hK;have hm:=ay.putObj (S:=fun k=>k=D) (W:=V) (l:=D) (.deferred none) rfl;have:=oN.size
    have hF:oJ p m.stack (uK p m i s) bs (.slice pa p.length aA) (jP m (.slice aa m.args.length aI) (.slice (some ⟨cb,off,none⟩) m.code.length aF) (.slice fa m.frames.length aG)) w (V.putObj D (.deferred none)) (.returned (.tuple #[])):=
     oJ.yes ((ah HN).trans hR.symm) rfl (hA.mods hm (by omega)) hT (ru.trans hm (fun k hk e=>by omega))
    exact UD hK (results_none rfl _ _ _) hF
   case aix=>
    rintro D c V hD ⟨rfl,hR,ru⟩ hK;have hm:=ay.putObj (S:=fun k=>k=D) (W:=V) (l:=D) (.deferred none) rfl;have:=oN.size;exact UC hK (oJ.no ((ah HN).trans hR) (ru.trans hm (fun k hk e=>by have:=jM.size;omega)))
  ·go_simp;have hz1:=aS W.drew (.cells eH.toArray 130);have hz2:Below W.heap.size W (W.drew.alloc (.cells eH.toArray 130)):=⟨hz1.os,hz1.tape,hz1.output,hz1.size,hz1.block⟩;refine hK.out _ _ ((ah HO) _ hz2) (fun hHeld=>?_);clear hK K;try simp only [Act.put,aK,aO,aN]
   refine aW 15 (fun K hK=>?_);go_simp;refine (NV p _ m _ _ _ i u ci _ (aP (Keeps.of_below hz2) (ah jc)) (bV.keep (Keeps.of_below hz2) (ah wI)) hi dD hgi Oj G (ah HM) (ah HI)).mono ?_;rintro e V ⟨h1,_,hb2⟩;obtain⟨cn,rfl,hN,Tj⟩:=h1 n hn;have hb2':Below (W.heap.size+1) (W.drew.alloc (.cells eH.toArray 130)) V:=⟨hb2.os,hb2.tape,hb2.output,by have:=hb2.size;simpa using this,fun i hi=>hb2.block i (by simpa using hi)⟩;have eY:Below W.heap.size W V:=hz2.trans (hb2'.mono (by simp));have BA:ak (W.drew.alloc (.cells eH.toArray 130)) W.heap.size 130 eH:=ak.new W.drew eH.toArray 130;have B4:=BA.below hb2' (by omega);clear hb2 h1 hn
   go_wp2_with fail
   refine hK.out _ _ ((ah HO) _ eY) (fun hHeld=>?_);clear hK K;try simp only [Act.put,aK,aO,aN]
   obtain⟨b4,hb4⟩:∃b,b=W.heap.size:=⟨_,rfl⟩;have iY:W.heap.size≤b4:=by omega
   rw [←hb4] at B4 ⊢;clear hb4 hb2' hz2 hz1 hHeld BA;refine aW 17 (fun K hK=>?_);refine oZ fM B4 0 cn hN.len (by simp [eH]) hN.one (.tmp 4) (.tmp 21) rfl rfl rfl ?_;intro w3 hB3 dh hs3;rw [gB (by rw [hN.len];rfl)] at hB3;have hb3:Below W.heap.size W w3:=eY.trans (dh.below eY.size (fun k hk e=>by omega));refine hK.out _ _ ((ah HO) _ hb3) (fun hHeld=>?_);clear hK K;try simp only [Act.put]
   refine wpAnyH_done (by kernel_rfl) ?_ _;have HH:=hide ((ah HO) _ hb3);have hbw3:=hb1.trans (hb3.mono hb1.size);have B2:=A1.below hb3 A1.lt;have a2':w3.cell? ⟨w.heap.size,0,none⟩=some (.pointer (some ⟨bs,0,none⟩)):=B2.cell 0;have zq:=A0.below hb3 A0.lt;have LC:w3.cell? ⟨bs,6,none⟩=some (.slice (some ⟨cb,off,none⟩) m.code.length aF):=zq.cell 6;clear hHeld B4 eY hs3 dh hb1 m0 m1 m2 m3 m4 m6 k0 a2 m5 HH HO
   show ng _ _ _ _ _ _
   refine jY ?_;go_wp2_with fail
   refine (NW _ _ _ _ _).mono ?_;rintro e w4 ⟨rfl,hw4⟩;have oN:Below w3.heap.size w3 w4:=by rw [hw4];exact dS _ _ _
   have o1:w4.cell? ⟨w3.heap.size,0,none⟩=some (.slice (some ⟨cb,off,none⟩) m.code.length aF):=by rw [hw4];exact lZ _ _ _ _ 0
   have o2:w4.cell? ⟨w3.heap.size+1,0,none⟩=some (.int .i64 (i:Int)):=by rw [hw4];exact fC _ _ _ _ 0
   clear hw4;have C2:=B2.below oN B2.lt;have C4:=hB3.below oN hB3.lt;have CS:=zq.below oN zq.lt;have jM:=hbw3.trans (oN.mono hbw3.size);have Fj:=hbw.trans (jM.mono hbw.size);have z0:=Keeps.of_below Fj _ _ x0;have z1:=Keeps.of_below Fj _ _ x1;have z2:=Keeps.of_below Fj _ _ x2;have l3:=zq.lt;have Eo:=hide (OY x i m.code.length aF cb off w3.heap.size (w3.heap.size+1) (fun k=>k=bs) w4 hi (by omega) o1 o2 ⟨z0,z1,z2⟩ (by omega) (fun k e=>by have:=CS.lt;omega))
   have HI0:Hid (zu p m.stack n (gy x i) s bs w.heap.size b4 (.slice pa p.length aA) (jP m (.slice aa m.args.length aI) (.slice (some ⟨cb,off,none⟩) m.code.length aF) (.slice fa m.frames.length aG)) cn w w4.heap.size (gy x i) w4):=
    ⟨s,⟨css,hC,CS⟩,T,rfl,⟨[],rfl⟩,fB jM,Nat.le_refl _,C4,C2⟩
   have lb4:=hB3.lt;have lw:=B2.lt;clear a2' LC o1 o2;go_wp2_with fail
   refine D9 ?_
   refine PZ Tryz.func145 (gf:=158) (lb:= #[.pointer (some ⟨w3.heap.size,0,none⟩),.pointer (some ⟨w3.heap.size+1,0,none⟩)]) rfl (enters_of Tryz.func158 (by kernel_rfl) rfl) (ah Eo) rfl (fun k e=>by have:=CS.lt;omega)
    (zu p m.stack n (gy x i) s bs w.heap.size b4 (.slice pa p.length aA) (jP m (.slice aa m.args.length aI) (.slice (some ⟨cb,off,none⟩) m.code.length aF) (.slice fa m.frames.length aG)) cn w w4.heap.size)
    (fun c V=>c=jB 5∧lF p n (gy x i) s=none∧ay (fun k=>k=bs) w V) ?aiw (ah HI0) ?a1y ?adM ?adY ?afF ?aiy
   case adM=>
    intro l y V K hK;rw [NY];simp only [List.setIfInBounds_toArray,List.set_cons_zero,List.set_cons_succ]
    gi_wp2
    exact hK
   case aiw=>
    rintro xs V V' hI hm;have:=oN.size;exact hI.own hm (by omega) (by omega) (by omega) (by have:=jM.size;omega)
   case adY=>
    rintro l ⟨y1,y2⟩ xs V ⟨s1,hA,hT,hR,⟨dn,hdn⟩,ru,hsz,EF,ED⟩;obtain⟨hy0,hy1⟩:=hin (y1,y2) (by rw [hdn];simp);dsimp only at hy0 hy1;obtain⟨j,rfl⟩:∃j:Nat,y1=(j:Int):=⟨y1.toNat,by omega⟩;have TT:aX V (.slice pa p.length aA) p:=aP (Keeps.of_below (hbw.trans (ru.below hbw.size (fun k hk e=>by omega)))) (ah HP);have v2:V.cell? ⟨w.heap.size,0,none⟩=some (.pointer (some ⟨bs,0,none⟩)):=ED.cell 0
    gi_wp2_with (refine acW fM EF 0 cn hN.len (fun j v e=>by simpa using e) (.tmp 4) rfl rfl rfl ?_)
    refine⟨trivial,rfl,?_⟩;refine (CallsIn.inRound l (callsIn_wide.2 (Vq p j n cn _ bs _ _ s1 hA rfl (by omega) hN TT G.sup hz m.stack Tj hT))).mono ?_;rintro e V2 ⟨h1,h2,hM2⟩;have hRj:lF p n ((↑j,y2)::xs) s1=(ji p j n s1).bind (lF p n xs):=rfl;rw [hRj] at hR
    cases hr:ji p j n s1 with
    | none =>
     obtain rfl:=h2 hr;rw [hr] at hR;have HR:=hide hR;have Gs:=hide (ru.trans hM2 (fun _ _ e=>e));clear hr h1 h2 hR hRj
     gi_wp2_with fail
     exact⟨rfl,hM2,rfl,(ah HR).symm,ah Gs⟩
    | some s2 =>
     obtain⟨rfl,hA2,hT2⟩:=h1 s2 hr;rw [hr] at hR
     have HI2:Hid (zu p m.stack n (gy x i) s bs w.heap.size b4 (.slice pa p.length aA) (jP m (.slice aa m.args.length aI) (.slice (some ⟨cb,off,none⟩) m.code.length aF) (.slice fa m.frames.length aG)) cn w w4.heap.size xs V2):=
      ⟨s2,hA2,hT2,hR,⟨dn++ [((j:Int),y2)],by rw [hdn];simp⟩,ru.trans hM2 (fun _ _ e=>e),Nat.le_trans hsz hM2.size,EF.mods hM2 (by have:=A0.lt;omega),ED.mods hM2 (by omega)⟩
     clear hr h1 h2 hR hRj hdn
     gi_wp2_with fail
     exact⟨hM2,ah HI2⟩
   case afF=>
    rintro D V hD ⟨s1,hA,hT,hR,_,ru,hsz,EF,ED⟩ hK;have hm:=ay.putObj (S:=fun k=>k=D) (W:=V) (l:=D) (.deferred none) rfl;have:=oN.size
    have hF:oJ p m.stack (uK p m i s) bs (.slice pa p.length aA) (jP m (.slice aa m.args.length aI) (.slice (some ⟨cb,off,none⟩) m.code.length aF) (.slice fa m.frames.length aG)) w (V.putObj D (.deferred none)) (.returned (.tuple #[])):=
     oJ.yes ((ah HN).trans hR.symm) rfl (hA.mods hm (by omega)) hT (ru.trans hm (fun k hk e=>by omega))
    exact UD hK (results_none rfl _ _ _) hF
   case aiy=>
    rintro D c V hD ⟨rfl,hR,ru⟩ hK;have hm:=ay.putObj (S:=fun k=>k=D) (W:=V) (l:=D) (.deferred none) rfl;have:=oN.size;exact UC hK (oJ.no ((ah HN).trans hR) (ru.trans hm (fun k hk e=>by have:=jM.size;omega)))
end Go.Proofs.YtiiokkllmchohaaGreat
namespace Go.Proofs.YtiiokkllmchohaaGreat
open Go.RowKit Go.Shelf
attribute [local go_sem ↓] Go.wp_at_zero Go.wp_at_succ
attribute [local go_sem] bW
def Ez (p:List aj)(k:Int)(r:Option (aJ×Bool))(bs:Nat)(vp:Value)(mc:List Value)(w w':World)(e:Ending):Prop:=
 (∀s' b,r=some (s',b)→e= .returned (.bool b)∧jT w' bs vp mc s'∧nY p k s')∧(r=none→e= .panicked (jB 5))∧ay (fun k=>k=bs) w w'
theorem Ez.yes {p:List aj}{k:Int}{r:Option (aJ×Bool)}{s':aJ}{b:Bool}{bs:Nat}{vp:Value}{mc:List Value}{w w':World}{e:Ending}(hr:r=some (s',b))(he:e= .returned (.bool b))(hS:jT w' bs vp mc s')(hT:nY p k s')(hM:ay (fun k=>k=bs) w w'):Ez p k r bs vp mc w w' e:=
 ⟨fun s2 b2 e2=>(by rw [hr] at e2;simp only [Option.some.injEq,Prod.mk.injEq] at e2;obtain⟨rfl,rfl⟩:=e2;exact⟨he,hS,hT⟩),fun e2=>(by rw [hr] at e2;cases e2),hM⟩
theorem Ez.no {p:List aj}{k:Int}{r:Option (aJ×Bool)}{bs:Nat}{vp:Value}{mc:List Value}{w w':World}(hr:r=none)(hM:ay (fun k=>k=bs) w w'):Ez p k r bs vp mc w w' (.panicked (jB 5)):=
 ⟨fun s2 b2 e2=>(by rw [hr] at e2;cases e2),fun _=>rfl,hM⟩
theorem ai7 {p:List aj}{m:aC}{s:aJ}{k:Nat}(h:lQ p m s k=none):∀n,k≤n→lQ p m s n=none:=by
 intro n hn
 induction n with
 | zero => obtain rfl : k = 0 := by omega
           exact h
 | succ n ih =>
  rcases Nat.lt_or_ge n k with h1 | h1
  ·obtain rfl:k=n+1:=by omega
   exact h
  ·unfold lQ;rw [ih h1];rfl
def Nq (p:List aj)(m:aC)(s:aJ)(bs:Nat)(vp:Value)(mc:List Value)(w:World)(k:Nat)(b:Bool)(V:World):Prop:=
 ∃s1,lQ p m s k=some (s1,b)∧jT V bs vp mc s1∧nY p m.stack s1∧ay (fun k=>k=bs) w V
theorem akc (p:List aj)(vp:Value)(m:aC)(va aQ vf:Value)(w0 w:World)(bs:Nat)(s:aJ)(h:jT w bs vp (jP m va aQ vf) s)(hp:aX w0 vp p)(hv:bV w0.cell? m va aQ vf)(hbw:Below w0.heap.size w0 w)(hbs:w0.heap.size≤bs)
  (dD:m.code.length≤40) (T:nY p m.stack s) (G:Good p) (M:vJ p m) (hins:∀i∈m.code,bC p m i=true) :
  Calls Tryz.prog 80 #[.pointer (some ⟨bs,0,none⟩)] w fun e w'=>Ez p m.stack (lQ p m s m.code.length) bs vp (jP m va aQ vf) w w' e:=by
 have HI0:Hid (Nq p m s bs vp (jP m va aQ vf) w 0 false w):=⟨s,rfl,h,T,ay.refl _ _⟩;have HV:=hide hv;have HG:=hide (And.intro G (And.intro M hins));obtain⟨css,hC,hB⟩:=h;obtain⟨hva,kG,hvf⟩:=hv;obtain⟨aa,_,_,aI,rfl,_⟩:=hva;obtain⟨fa,_,_,aG,rfl,_⟩:=hvf;obtain⟨ca,_,_,aF,rfl,_⟩:=kG;have m5:w.cell? ⟨bs,6,none⟩=some (.slice ca m.code.length aF):=hB.cell 6;clear G M hins T hC hB;have n40:(m.code.length:Int)≤40:=by omega
 go_enter Tryz.func80,Tryz.ntmps80
 go_wp2_with fail
 go_loopw [3,11] (fun b i wr=>∃(k:Nat) (q:Bool),k≤m.code.length∧i= .int .i64 k∧b= .bool q∧Nq p m s bs vp (jP m (.slice aa m.args.length aI) (.slice ca m.code.length aF) (.slice fa m.frames.length aG)) w k q wr) (fun _ i _=>m.code.length-(intOf i).toNat)
 case atStart=>exact ⟨0,false,Nat.zero_le _,rfl,rfl,ah HI0⟩
 case round=>
  obtain⟨k,q,hk,rfl,rfl,hI⟩:=hrel;obtain⟨s1,hR,hA,hT,hM⟩:=hI;have eY:Below w0.heap.size w0 wr:=hbw.trans (hM.below hbw.size (fun k hk e=>by omega))
  by_cases hlt:k<m.code.length
  ·have k0:(0:Int)≤(k:Int):=by omega
   have k40:(k:Int)<40:=by omega
   have k41:(k:Int)<(m.code.length:Int):=by omega
   have HA:=hide hA;have HT:=hide hT;have HM:=hide hM;obtain⟨css,hC,hB⟩:=hA;have r0:wr.cell? ⟨bs,728+k,none⟩=some (.bool (s1.ra.getD k false)):=by rw [hB.cell];exact PS hC rfl (by omega)
   cases hra:s1.ra.getD k false with
   | false =>
    rw [hra] at r0
    have HI:Hid (Nq p m s bs vp (jP m (.slice aa m.args.length aI) (.slice ca m.code.length aF) (.slice fa m.frames.length aG)) w (k+1) q wr):=by
     refine⟨s1,?_,ah HA,hT,hM⟩
     show (lQ p m s k).bind (pG p m k)=_
     rw [hR]
     show pG p m k (s1,q)=_
     unfold pG;rw [if_neg (by rw [hra];decide)]
    clear hra hB hC hR hT hM;go_wp2_with fail
    refine⟨⟨k+1,q,by omega,by go_num,rfl,ah HI⟩,by simp [intOf];omega⟩
   | true =>
    rw [hra] at r0
    have HS:Hid (lQ p m s (k+1)=(uK p m k { s1 with ra:=s1.ra.set k false }).map fun s'=>(s',true)):=by
     show (lQ p m s k).bind (pG p m k)=_
     rw [hR]
     show pG p m k (s1,q)=_
     unfold pG;rw [if_pos hra]
    have f0:=hB.frozen (728+k);have hB2:=hB.setCell (728+k) (.bool false);rw [PU hC rfl (by omega)] at hB2;have HA2:Hid (jT (wr.setCell ⟨bs,728+k,none⟩ (.bool false)) bs vp (jP m (.slice aa m.args.length aI) (.slice ca m.code.length aF) (.slice fa m.frames.length aG)) { s1 with ra:=s1.ra.set k false }):=⟨css,hC.Pz k false,hB2⟩;have lW:=hide (hM.setCell (p:=⟨bs,728+k,none⟩) (fun _=>rfl) (.bool false));have ags:=eY.setCell (p:=⟨bs,728+k,none⟩) hbs (.bool false);clear hra hB hC hR hT hM hB2;go_wp2_with fail
    generalize wr.setCell _ _=V at *;refine (akb p vp m _ _ _ k w0 V bs _ (ah HA2) hp (ah HV) ags hbs hlt dD (ah HT) (ah HG).1 (ah HG).2.1 (ah HG).2.2).mono ?_;rintro e V2 ⟨h1,h2,dh⟩;have BN:=hide ((ah lW).trans dh (fun _ _ e=>e))
    cases hg:uK p m k { s1 with ra:=s1.ra.set k false } with
    | none =>
     obtain rfl:=h2 hg;have HN:Hid (lQ p m s m.code.length=none):=ai7 (k:=k+1) (by rw [ah HS,hg];rfl) _ (by omega);clear hg h1 h2 dh;go_wp2_with fail
     exact⟨rfl,Ez.no (ah HN) (ah BN)⟩
    | some s2 =>
     obtain⟨rfl,hA2,hT2⟩:=h1 s2 hg
     have HI:Hid (Nq p m s bs vp (jP m (.slice aa m.args.length aI) (.slice ca m.code.length aF) (.slice fa m.frames.length aG)) w (k+1) true V2):=
      ⟨s2,by rw [ah HS,hg];rfl,hA2,hT2,ah BN⟩
     clear hg h1 h2 dh hA2 hT2;go_wp2_with fail
     refine⟨⟨k+1,true,by omega,by go_num,rfl,ah HI⟩,by simp [intOf];omega⟩
  ·obtain rfl:k=m.code.length:=by omega
   have HF:=hide (Ez.yes hR rfl hA hT hM);clear hR hA hT hM;go_wp2_with fail
   go_ret;exact ah HF
def dX (m:aC)(s:aJ):Nat→List bF
 | 0 => []
 | k + 1 => dX m s k ++ (if s.re.getD k false then [⟨(k : Int), (s.st.getD k zeroS).loc.take m.locals.toNat, (s.st.getD k zeroS).stk⟩] else [])
def gG (w:World)(B:Nat):List Value→List bF→Prop
 | cs, [] => cs = []
 | cs, f :: l => ∃ b c r, cs = .int .i64 f.pc :: b :: c :: r ∧ w.ownsRow B 43 1 b f.locals.length (f.locals.map (Value.int .i64)) ∧ w.ownsRow B 43 1 c f.stack.length (f.stack.map (Value.int .i64)) ∧ gG w B r l
def lT (w:World)(B:Nat)(v:Value)(l:List bF):Prop:=
 ∃cs,w.ownsRow B 42 3 v l.length cs∧gG w B cs l∧((v::cs).filterMap Value.ownBlock).Nodup
theorem gG.mods {S:Nat→Prop}{w w':World}{B:Nat}(m:ay S w w'):∀(l:List bF) (cs:List Value),gG w B cs l→(∀g∈cs.filterMap Value.ownBlock,¬S g)→gG w' B cs l
 | [], _, h, _ => h
 | f :: l, _, ⟨b, c, r, rfl, h2, h3, h4⟩, hS => by
  refine⟨b,c,r,rfl,eP h2 m (fun g hg=>hS g ?_),eP h3 m (fun g hg=>hS g ?_),gG.mods m l r h4 (fun g hg=>hS g ?_)⟩
  ·exact List.mem_filterMap.2 ⟨b,by simp,hg⟩
  ·exact List.mem_filterMap.2 ⟨c,by simp,hg⟩
  ·obtain⟨x,hx,hx'⟩:=List.mem_filterMap.1 hg;exact List.mem_filterMap.2 ⟨x,by simp [hx],hx'⟩
theorem gG.snoc {w:World}{B:Nat}{vl vs:Value}{f:bF}(h1:w.ownsRow B 43 1 vl f.locals.length (f.locals.map (Value.int .i64)))(h2:w.ownsRow B 43 1 vs f.stack.length (f.stack.map (Value.int .i64))) :
  ∀(l:List bF) (cs:List Value),gG w B cs l→gG w B (cs++ [.int .i64 f.pc,vl,vs]) (l++ [f])
 | [], _, h => by
  obtain rfl:_= []:=h;exact⟨_,_,_,rfl,h1,h2,rfl⟩
 | g :: l, _, ⟨b, c, r, rfl, g2, g3, g4⟩ => ⟨b, c, _, rfl, g2, g3, gG.snoc h1 h2 l r g4⟩
theorem gG.lt {w:World}{B:Nat} :∀(l:List bF) (cs:List Value),gG w B cs l→∀g∈cs.filterMap Value.ownBlock,B≤g∧g<w.heap.size
 | [], _, h, g, hg => by
  obtain rfl:_= []:=h;simp at hg
 | f :: l, _, ⟨b, c, r, rfl, h2, h3, h4⟩, g, hg => by
  obtain⟨x,hx,hx'⟩:=List.mem_filterMap.1 hg
  rcases List.mem_cons.1 hx with rfl | hx
  ·cases hx'
  ·rcases List.mem_cons.1 hx with rfl | hx
   ·exact h2.lt g hx'
   ·rcases List.mem_cons.1 hx with rfl | hx
    ·exact h3.lt g hx'
    ·exact gG.lt l r h4 g (List.mem_filterMap.2 ⟨x,hx,hx'⟩)
theorem gG.base {w:World}{B B':Nat}(hB:B'≤B):∀(l:List bF) (cs:List Value),gG w B cs l→gG w B' cs l
 | [], _, h => h
 | f :: l, _, ⟨b, c, r, rfl, h2, h3, h4⟩ => ⟨b, c, r, rfl, own_base h2 hB, own_base h3 hB, gG.base hB l r h4⟩
theorem Ud:(Tryz.prog.info? 42).map (fun i=>(i.zero,i.size,i.bytes))=some (some (.agg #[.int .i64 0,.slice none 0 0,.slice none 0 0]),3,56):=by kernel_rfl
theorem abw {l:List Nat}{a:List Nat}(h:l.Nodup)(ha:a.Nodup)(hd:∀x∈l,x∉a):(l++a).Nodup:=List.nodup_append.2 ⟨h,ha,fun x hx _ hy e=>hd x hx (e▸hy)⟩
theorem wp_append_run {P:Program}{w w':World}{o:Oper}{a:Act}{K:Act→World→Prop}{Q:Exit→Act→World→Prop}(s x:Operand)(t:TypeId)
  (ho:o.op= .call { callee:=.builtin .append,args:= #[s,x],argTypes:= #[t,t] }) (v u:Value) (hs:a.eval s=v) (hx:a.eval x=u) {v':Value}
  (hr:(Builtin.append_ #[t,t] o.type #[v,u]).run P w= .ok v' w') (h:K (a.put o.dst v') w'):o.wp P a w K Q:=by
 unfold Oper.wp execOp;simp only [ho,resolve,invoke,builtin,Sem.run_bind,Sem.run_pure,Result.andThen_ok,List.map_toArray,List.map_cons,List.map_nil,hs,hx,hr];exact h
theorem lT.snoc {w W:World}{B:Nat}{v v':Value}{l:List bF}{cs:List Value}{f:bF}{vl vs:Value}(h2:gG w B cs l)(h3:((v::cs).filterMap Value.ownBlock).Nodup)
  (o1:w.ownsRow B 43 1 vl f.locals.length (f.locals.map (Value.int .i64))) (o2:w.ownsRow B 43 1 vs f.stack.length (f.stack.map (Value.int .i64))) (hd:([vl,vs].filterMap Value.ownBlock).Nodup) (hn:∀g∈[vl,vs].filterMap Value.ownBlock,g∉(v::cs).filterMap Value.ownBlock)
  (hW:W.ownsRow B 42 3 v' (l.length+1) (cs++ [.int .i64 f.pc,vl,vs])) (hM:ay (fun k=>v.ownBlock=some k) w W) (hv:v'.ownBlock=v.ownBlock∨∃k,w.heap.size≤k∧v'.ownBlock=some k):lT W B v' (l++ [f]):=by
 have e0:∀(a:Value) (r:List Value),(a::r).filterMap Value.ownBlock=(match a.ownBlock with | some k=> [k] | none=> [])++r.filterMap Value.ownBlock:=fun a r=>by
  rw [List.filterMap_cons];cases a.ownBlock <;> rfl
 have hcs:(cs.filterMap Value.ownBlock).Nodup:=by
  rw [e0] at h3;exact (List.nodup_append.1 h3).2.1
 have kG:∀k,v.ownBlock=some k→k∉cs.filterMap Value.ownBlock:=fun k hk hx=>by
  rw [e0,hk] at h3;exact (List.nodup_append.1 h3).2.2 k (by simp) k hx rfl
 have hvn:∀g∈[vl,vs].filterMap Value.ownBlock,v.ownBlock≠some g:=fun g hg e=>hn g hg (by rw [e0,e];simp);have hfr:=gG.snoc o1 o2 l cs h2
 have hfm:(cs++ [.int .i64 f.pc,vl,vs]).filterMap Value.ownBlock=cs.filterMap Value.ownBlock++ [vl,vs].filterMap Value.ownBlock:=by
  rw [List.filterMap_append];congr 1
 have hno:((cs++ [.int .i64 f.pc,vl,vs]).filterMap Value.ownBlock).Nodup:=by
  rw [hfm];exact abw hcs hd (fun x hx hx'=>hn x hx' (by rw [e0];exact List.mem_append.2 (.inr hx)))
 refine⟨_,by simpa using hW,gG.mods hM _ _ hfr (fun g hg e=>?_),?_⟩
 ·rw [hfm] at hg
  rcases List.mem_append.1 hg with hg | hg
  ·exact kG g e hg
  ·exact hvn g hg e
 ·rw [e0];refine abw (by cases v'.ownBlock <;> simp) hno (fun x hx hx'=>?_)
  rcases hv with e | ⟨k,hk,e⟩
  ·rw [e] at hx;rw [hfm] at hx'
   cases hq:v.ownBlock with
   | none => rw [hq] at hx; simp at hx
   | some k =>
    rw [hq] at hx;obtain rfl:x=k:=by simpa using hx
    rcases List.mem_append.1 hx' with hg | hg
    ·exact kG x hq hg
    ·exact hvn x hg hq
  ·rw [e] at hx;obtain rfl:x=k:=by simpa using hx
   have:=(gG.lt _ _ hfr x hx').2;omega
def MH (m:aC)(s:aJ)(w:World)(k:Nat)(v:Value)(V:World):Prop:=lT V w.heap.size v (dX m s k)∧Below w.heap.size w V
theorem N8 (m:aC)(s:aJ):∀k,(dX m s k).length≤k
 | 0 => Nat.le_refl _
 | k + 1 => by
  have:=N8 m s k;unfold dX;rw [List.length_append]
  split <;> simp <;> omega
theorem aj9 (vp:Value)(m:aC)(va aQ vf:Value)(w:World)(bs:Nat)(s:aJ)(h:jT w bs vp (jP m va aQ vf) s)(hv:bV w.cell? m va aQ vf)(dD:m.code.length≤40)(hl0:0≤m.locals)(AA:m.locals≤8) :
  Calls Tryz.prog 81 #[.pointer (some ⟨bs,0,none⟩)] w fun e w'=>∃v,e= .returned v∧MH m s w m.code.length v w':=by
 obtain⟨j0,Kv,Kw,Ky,Kz⟩:=info_parts Ud;have HI0:Hid (MH m s w 0 (.slice none 0 0) w):=⟨⟨[],World.ownsRow_nil _ _ _ _,rfl,(List.nodup_nil:([]:List Nat).Nodup)⟩,Below.refl _ _⟩;obtain⟨css,hC,hB⟩:=h;obtain⟨hva,kG,hvf⟩:=hv;obtain⟨aa,_,_,aI,rfl,_⟩:=hva;obtain⟨fa,_,_,aG,rfl,_⟩:=hvf;obtain⟨ca,_,_,aF,rfl,_⟩:=kG;have m5:w.cell? ⟨bs,6,none⟩=some (.slice ca m.code.length aF):=hB.cell 6;have n40:(m.code.length:Int)≤40:=by omega
 obtain⟨ln,hln⟩:∃ln:Nat,m.locals=(ln:Int):=⟨m.locals.toNat,by omega⟩;go_enter Tryz.func81,Tryz.ntmps81
 go_wp2_with fail
 go_loopw [3,11] (fun v i wr=>∃(k:Nat),k≤m.code.length∧i= .int .i64 k∧MH m s w k v wr) (fun _ i _=>m.code.length-(intOf i).toNat)
 case atStart=>exact ⟨0,Nat.zero_le _,rfl,ah HI0⟩
 case round=>
  obtain⟨k,hk,rfl,hI⟩:=hrel;have HI:=hide hI;obtain⟨⟨cs,hO,hF,hD⟩,hb⟩:=hI;obtain⟨ra,jA,rfl⟩:=cZ hO
  by_cases hlt:k<m.code.length
  ·have k0:(0:Int)≤(k:Int):=by omega
   have k40:(k:Int)<40:=by omega
   have k41:(k:Int)<(m.code.length:Int):=by omega
   have pK:=hB.below hb hB.lt;have r0:wr.cell? ⟨bs,688+k,none⟩=some (.bool (s.re.getD k false)):=by rw [pK.cell];exact FU hC rfl (by omega)
   cases hre:s.re.getD k false with
   | false =>
    rw [hre] at r0
    have HI2:Hid (MH m s w (k+1) (.slice ra (dX m s k).length jA) wr):=by
     have e:dX m s (k+1)=dX m s k:=by
      show dX m s k++_=_
      rw [hre];simp
     show lT _ _ _ _∧_
     rw [e];exact ah HI
    clear hre hO hF hD;go_wp2_with fail
    refine⟨⟨k+1,by omega,by go_num,ah HI2⟩,by simp [intOf];omega⟩
   | true =>
    rw [hre] at r0;have hil:k<s.st.length:=by rw [hC.l1];omega
    have hcl:k<css.length:=by rw [hC.lc];omega
    have hgi:eX (s.st.getD k zeroS) css[k]:=by
     have e:s.st.getD k zeroS=s.st[k]:=by rw [List.getD_eq_getElem?_getD,List.getElem?_eq_getElem hil];rfl
     rw [e];exact hC.cs k _ _ (List.getElem?_eq_getElem hil) (List.getElem?_eq_getElem hcl)
    have hsv:=fun j v (e:css[k][j]? =some v)=>PV (vp:=vp) hC (show (jP m (.slice aa m.args.length aI) (.slice ca m.code.length aF) (.slice fa m.frames.length aG)).length=7 from rfl) (List.getElem?_eq_getElem hcl) j v e;have Dt:=hgi.len
    have HE:Hid (dX m s (k+1)=dX m s k++ [⟨(k:Int),(s.st.getD k zeroS).loc.take ln,(s.st.getD k zeroS).stk⟩]):=by
     show dX m s k++_=_
     rw [hre,hln];rfl
    generalize css[k]=ci at *;generalize s.st.getD k zeroS=u at *;have c4:wr.cell? ⟨bs,4,none⟩=some (.int .i64 (ln:Int)):=by rw [pK.cell,←hln];rfl
    go_wp2_with fail
    refine wp_region_noPanic ?_;refine wp_region_held_drew (S:=(fun w'=>ak w' bs 134 (iE vp (jP m (.slice aa m.args.length aI) (.slice ca m.code.length aF) (.slice fa m.frames.length aG)) css s)∧w'.cell? ⟨bs,4,none⟩=some (.int .i64 (ln:Int)))) (by kernel_rfl) ?_ (fun hHeld=>?_)
    ·exact⟨pK,c4⟩
    refine au 20 0 ?_;refine au 21 1 ?_;refine au 22 2 ?_;refine au 23 3 ?_;refine au 24 4 ?_;refine au 25 5 ?_;refine dL (some 26) (i:=6) (v:=.agg ci.toArray) rfl rfl (by kernel_rfl) (by kernel_rfl) (by kernel_rfl) (fun _ _ _ h=>h) (Or.inl ⟨by rfl,fun w' hSw=>qQ fM hSw.1 (8+k*17) ci Dt hsv rfl rfl⟩) (by assumption) ?_;try simp only [Act.put,aK,aO,aN]
    refine au 27 7 ?_;refine au 28 8 ?_;refine au 29 9 ?_;refine au 30 10 ?_;refine au 31 11 ?_;refine au 32 12 ?_;refine aW 13 (fun K hK=>?_);go_simp;refine (ajX u ci _ ln _ hgi (by omega)).mono ?_;rintro e w2 ⟨vl,vs,rfl,o1,o2,od,hb2⟩;have hb2':Below wr.heap.size wr w2:=⟨hb2.os,hb2.tape,hb2.output,hb2.size,hb2.block⟩;obtain⟨la,fG,rfl⟩:=cZ o1;obtain⟨sa,scap,rfl⟩:=cZ o2;have Zo:=pK.below hb2' pK.lt;have hsz:=hb.size;have hm2:=ay.of_below hb2';have hlt1:=gG.lt _ _ hF;have hlt0:=hO.lt;have hO2:=eP hO hm2 (fun g hg e=>by have:=(hlt0 g hg).2;omega);have hF2:=gG.mods hm2 _ _ hF (fun g hg e=>by have:=(hlt1 g hg).2;omega)
    have hfl:=N8 m s k
    obtain⟨v3,w3,happ,hO3,dh,hv3⟩:=qN (P:=Tryz.prog) (W:=w2) 36 36 42 j0 _ 3 56 Tryz.underlying36 Kv Kw Ky Kz rfl (by decide) w.heap.size _ _ _ hO2 #[.int .i64 (k:Int),.slice la ln fG,.slice sa u.stk.length scap] rfl
     (fun v hv=>by
       simp only [List.mem_cons,List.not_mem_nil,or_false] at hv
       rcases hv with rfl | rfl | rfl <;> rfl) w2.heap.size rfl (by unfold maxLen;omega) (by omega) (Nat.le_trans hsz hb2'.size)
    have hD1:∀g∈[Value.slice la ln fG,.slice sa u.stk.length scap].filterMap Value.ownBlock,wr.heap.size≤g:=fun g hg=>by
     obtain⟨x,hx,hx'⟩:=List.mem_filterMap.1 hg;simp only [List.mem_cons,List.not_mem_nil,or_false] at hx
     rcases hx with rfl | rfl
     ·exact (o1.lt g hx').1
     ·exact (o2.lt g hx').1
    have HF3:Hid (lT w3 w.heap.size v3 (dX m s (k+1))):=by
     show lT _ _ _ _
     rw [ah HE];have ul:=hgi.ok.1;refine lT.snoc (f:=⟨(k:Int),u.loc.take ln,u.stk⟩) hF2 hD (own_base (by simpa [ul,show min ln 8=ln by omega] using o1) hsz) (own_base o2 hsz) ?_ (fun g hg hg'=>?_) hO3 dh hv3
     ·show (List.filterMap _ _).Nodup
      simp only [List.filterMap_cons,List.filterMap_nil]
      cases h1:(Value.slice la ln fG).ownBlock with
      | none => cases h2 : (Value.slice sa u.stk.length scap).ownBlock <;> simp
      | some x =>
       cases h2:(Value.slice sa u.stk.length scap).ownBlock with
       | none => simp
       | some y =>
        have:=od x h1;rw [h2] at this;simp only [ne_eq,Option.some.injEq] at this;simp only [List.nodup_cons,List.mem_singleton,List.not_mem_nil,not_false_eq_true,List.nodup_nil,and_true];exact fun e=>this e.symm
     ·have h1:=hD1 g hg;obtain⟨x,hx,hx'⟩:=List.mem_filterMap.1 hg'
      rcases List.mem_cons.1 hx with rfl | hx
      ·have:=(hlt0 g hx').2;omega
      ·have:=(hlt1 g (List.mem_filterMap.2 ⟨x,hx,hx'⟩)).2;omega
    obtain⟨a3,cap3,rfl⟩:=cZ hO3;have hb3:Below w.heap.size w w3:=hb.trans ((hb2'.mono hsz).trans (dh.below (Nat.le_trans hsz hb2'.size) (fun g hg e=>by have:=(hlt0 g e).1;omega)));have hbs:=hB.lt;have Zq:=hB.below hb3 hB.lt;have c42:w2.cell? ⟨bs,4,none⟩=some (.int .i64 (ln:Int)):=Keeps.of_below hb2' _ _ c4;have c43:w3.cell? ⟨bs,4,none⟩=some (.int .i64 (ln:Int)):=by rw [Zq.cell,←hln];rfl
    have Zp:=Zo.alloc (.cells #[.int .i64 (k:Int),.slice la ln fG,.slice sa u.stk.length scap] 42);have ad3:(w2.alloc (.cells #[.int .i64 (k:Int),.slice la ln fG,.slice sa u.stk.length scap] 42)).cell? ⟨bs,4,none⟩=some (.int .i64 (ln:Int)):=by rw [Zp.cell,←hln];rfl
    clear hD hF hO hF2 hO2 hO3 dh hv3 o1 o2 od hlt0 hlt1 hD1 hm2;go_wp2_with fail
    refine hK.out _ _ ⟨Zo,c42⟩ (fun hHeld=>?_);clear hK K;try simp only [Act.put,aK,aO,aN]
    refine aW 14 (fun K hK=>?_);go_simp;refine hK.out _ _ ⟨Zp,ad3⟩ (fun hHeld=>?_);clear hK K;try simp only [Act.put,aK,aO,aN]
    refine aW 15 (fun K hK=>?_);refine wp_append_run (.tmp 20) (.tmp 34) 36 rfl _ _ rfl rfl happ ?_;go_simp;refine hK.out _ _ ⟨Zq,c43⟩ (fun hHeld=>?_);clear hK K;try simp only [Act.put,aK,aO,aN]
    refine au 3 16 ?_;refine wpAnyH_done (by kernel_rfl) ?_ _;refine NoPanic.normal ?_;clear happ;go_wp2_with fail
    refine⟨⟨k+1,by omega,by go_num,ah HF3,hb3⟩,by simp [intOf];omega⟩
  ·obtain rfl:k=m.code.length:=by omega
   go_wp2_with fail
   go_ret;exact⟨_,rfl,ah HI⟩
end Go.Proofs.YtiiokkllmchohaaGreat
namespace Go.Proofs.YtiiokkllmchohaaGreat
open Go.RowKit Go.Shelf
theorem LG {vs:List Value}(h:(vs.filterMap Value.ownBlock).Nodup){i j:Nat}{a b:Value}{g:Nat}(hij:i≠j)(hi:vs[i]? =some a)(hj:vs[j]? =some b)(ha:a.ownBlock=some g):b.ownBlock≠some g:=fun hb=>by
 have hp:vs.Pairwise fun a b=>∀x,a.ownBlock=some x→∀y,b.ownBlock=some y→x≠y:=List.pairwise_filterMap.1 h;rw [List.pairwise_iff_getElem] at hp;obtain⟨hi',ei⟩:=List.getElem?_eq_some_iff.1 hi;obtain⟨hj',ej⟩:=List.getElem?_eq_some_iff.1 hj
 rcases Nat.lt_or_ge i j with h1 | h1
 ·exact hp i j hi' hj' h1 g (by rw [ei];exact ha) g (by rw [ej];exact hb) rfl
 ·exact hp j i hj' hi' (by omega) g (by rw [ej];exact hb) g (by rw [ei];exact ha) rfl
theorem gG.at_ {w:World}{B:Nat} :∀ {l:List bF} {cs:List Value},gG w B cs l→∀ {k:Nat} {f:bF},l[k]? =some f→∃b c,kX cs k 3= [.int .i64 f.pc,b,c]∧cs[k*3+1]? =some b∧cs[k*3+2]? =some c∧w.ownsRow B 43 1 b f.locals.length (f.locals.map (Value.int .i64))∧w.ownsRow B 43 1 c f.stack.length (f.stack.map (Value.int .i64))
 | [], _, _, k, f, hk => by simp at hk
 | x :: l, _, ⟨b, c, r, rfl, h2, h3, h4⟩, 0, f, hk => by
  cases hk
  exact⟨b,c,rfl,rfl,rfl,h2,h3⟩
 | x :: l, _, ⟨b, c, r, rfl, h2, h3, h4⟩, k + 1, f, hk => by
  obtain⟨b',c',e0,e1,e2,e3,e4⟩:=gG.at_ h4 (k:=k) (f:=f) (by simpa using hk);refine⟨b',c',?_,?_,?_,e3,e4⟩
  ·unfold kX at e0 ⊢;rw [show (k+1)*3=k*3+3 by omega];exact e0
  ·rw [show (k+1)*3+1=k*3+1+3 by omega];exact e1
  ·rw [show (k+1)*3+2=k*3+2+3 by omega];exact e2
def CX (cs:List Value)(k:Nat):Nat→Prop:=fun g=>(∃b,cs[k*3+1]? =some b∧b.ownBlock=some g)∨∃c,cs[k*3+2]? =some c∧c.ownBlock=some g
theorem Ku {cs:List Value}{k g:Nat}(h:CX cs k g):∃i b,(i=k*3+1∨i=k*3+2)∧cs[i]? =some b∧b.ownBlock=some g:=by
 rcases h with ⟨b,h1,h2⟩ | ⟨b,h1,h2⟩
 ·exact⟨_,b,.inl rfl,h1,h2⟩
 ·exact⟨_,b,.inr rfl,h1,h2⟩
theorem agc {w:World}{B:Nat}{v:Value}{l:List bF}(h:lT w B v l):∃D,mO 42 3 Ee w D v l∧∀g,D g→B≤g:=by
 obtain⟨cs,hO,hF,hN⟩:=h;refine⟨fun g=>v.ownBlock=some g∨∃k,k<l.length∧CX cs k g,⟨B,cs,CX cs,hO,fun k f hk=>?_,fun j k g hjk h1 h2=>?_,fun k g h1 h2=>?_,fun g=>Iff.rfl⟩,fun g hg=>?_⟩
 ·obtain⟨b,c,e0,e1,e2,e3,e4⟩:=hF.at_ hk;refine⟨b,c,e0,⟨B,_,e3⟩,⟨B,_,e4⟩,fun g hg=>LG hN (i:=k*3+2) (j:=k*3+3) (by omega) e1 e2 hg,fun g=>?_⟩;unfold CX;rw [e1,e2]
  constructor
  ·rintro (⟨x,e,hx⟩ | ⟨x,e,hx⟩)
   ·cases e;exact .inl hx
   ·cases e;exact .inr hx
  ·rintro (hx | hx)
   ·exact .inl ⟨b,rfl,hx⟩
   ·exact .inr ⟨c,rfl,hx⟩
 ·obtain⟨i,b,hi,e1,e2⟩:=Ku h1;obtain⟨i',b',hi',e1',e2'⟩:=Ku h2;exact LG hN (i:=i+1) (j:=i'+1) (by omega) (by simpa using e1) (by simpa using e1') e2 e2'
 ·obtain⟨i,b,hi,e1,e2⟩:=Ku h1;exact LG hN (i:=0) (j:=i+1) (by omega) rfl (by simpa using e1) h2 e2
 ·rcases hg with hg | ⟨k,hk,hg⟩
  ·exact (hO.lt g hg).1
  ·obtain⟨b,c,e0,e1,e2,e3,e4⟩:=hF.at_ (List.getElem?_eq_getElem hk)
   rcases hg with ⟨x,h1,h2⟩ | ⟨x,h1,h2⟩
   ·rw [e1] at h1
    cases h1
    exact (e3.lt g h2).1
   ·rw [e2] at h1
    cases h1
    exact (e4.lt g h2).1
theorem Zg {w:World}{B:Nat}{v:Value}{l:List bF}(h:lT w B v l):aV 3 (Cb w) v l:=by
 obtain⟨cs,hO,hF,_⟩:=h;refine IC hO fun g hg _ hc j f hj=>?_;have hl:=(List.getElem?_eq_some_iff.1 hj).1;obtain⟨b,c,e0,e1,e2,e3,e4⟩:=hF.at_ hj
 have e9:cs[j*3]? =some (.int .i64 f.pc):=by
  have:=CP (xs:=cs) (k:=j) (sz:=3) (r:=0) (by omega);rw [e0] at this;exact this.symm
 exact⟨b,c,(hc _ (by omega)).trans e9,(hc _ (by omega)).trans e1,(hc _ (by omega)).trans e2,dA jk (rQ (S:=fun k=>B≤k) e3 (fun g hg=>(e3.lt g hg).1)),dA jk (rQ (S:=fun k=>B≤k) e4 (fun g hg=>(e4.lt g hg).1))⟩
theorem agd {w W:World}{B B':Nat}{v0 v:Value}{l l':List bF}{cs cs':List Value}{C:bF→List Value→Prop}(hF:gG w B cs l)(hN:((v0::cs).filterMap Value.ownBlock).Nodup)(ag0:∀(i j:Nat) (f g:bF),l'[i]? =some f→l'[j]? =some g→f.pc=g.pc→i=j)
  (hO:W.ownsRow B' 42 3 v l'.length cs') (hR:iU 3 C cs' l') (hC:∀f c,C f c→∃i,l[i]? =some f∧c=(cs.drop (i*3)).take 3) (hw:∀g,B≤g→g<w.heap.size→W.heap[g]? =w.heap[g]?) (hB:B≤B'):∃D,mO 42 3 Ee W D v l'∧∀g,D g→B≤g:=by
 have hidx:∀k,∃i,∀f,l'[k]? =some f→l[i]? =some f∧kX cs' k 3=kX cs i 3:=fun k=>by
  cases hk:l'[k]? with
  | none => exact ⟨0, fun f e => by cases e⟩
  | some f =>
   obtain⟨i,h1,h2⟩:=hC f _ (hR.2 k f hk);exact⟨i,fun f' e=>by cases e;exact⟨h1,h2⟩⟩
 obtain⟨ix,hix⟩:∃ix:Nat→Nat,∀k f,l'[k]? =some f→l[ix k]? =some f∧kX cs' k 3=kX cs (ix k) 3:=⟨fun k=>(hidx k).choose,fun k=>(hidx k).choose_spec⟩
 have hown:∀k f,l'[k]? =some f→∃b c,kX cs' k 3= [.int .i64 f.pc,b,c]∧cs[ix k*3+1]? =some b∧cs[ix k*3+2]? =some c∧W.ownsRow B 43 1 b f.locals.length (f.locals.map (Value.int .i64))∧W.ownsRow B 43 1 c f.stack.length (f.stack.map (Value.int .i64)):=fun k f hk=>by
  obtain⟨h1,h2⟩:=hix k f hk;obtain⟨b,c,e0,e1,e2,e3,e4⟩:=hF.at_ h1;exact⟨b,c,by rw [h2];exact e0,e1,e2,Ba e3 (fun g hg=>hw g (e3.lt g hg).1 (e3.lt g hg).2),Ba e4 (fun g hg=>hw g (e4.lt g hg).1 (e4.lt g hg).2)⟩
 have hty:∀g,v.ownBlock=some g→∃c,ak W g 42 c:=fun g hg=>lD hO hg;refine⟨fun g=>v.ownBlock=some g∨∃k,k<l'.length∧(k<l'.length∧CX cs (ix k) g),⟨B',cs',fun k g=>k<l'.length∧CX cs (ix k) g,hO,fun k f hk=>?_,fun j k g hjk h1 h2=>?_,fun k g h1 h2=>?_,fun g=>Iff.rfl⟩,fun g hg=>?_⟩
 ·obtain⟨b,c,e0,e1,e2,e3,e4⟩:=hown k f hk;have hkl:=(List.getElem?_eq_some_iff.1 hk).1;refine⟨b,c,e0,⟨B,_,e3⟩,⟨B,_,e4⟩,fun g hg=>LG hN (i:=ix k*3+2) (j:=ix k*3+3) (by omega) e1 e2 hg,fun g=>?_⟩
  show (k<l'.length∧CX cs (ix k) g)↔_
  unfold CX;rw [e1,e2]
  constructor
  ·rintro ⟨_,⟨x,e,hx⟩ | ⟨x,e,hx⟩⟩
   ·cases e;exact .inl hx
   ·cases e;exact .inr hx
  ·rintro (hx | hx)
   ·exact⟨hkl,.inl ⟨b,rfl,hx⟩⟩
   ·exact⟨hkl,.inr ⟨c,rfl,hx⟩⟩
 ·obtain⟨hj1,hf1⟩:=h1;obtain⟨hk1,hf2⟩:=h2;obtain⟨i,b,hi,e1,e2⟩:=Ku hf1;obtain⟨i',b',hi',e1',e2'⟩:=Ku hf2
  have hne:ix j≠ix k:=fun e=>by
   have a1:=(hix j _ (List.getElem?_eq_getElem hj1)).1;have a2:=(hix k _ (List.getElem?_eq_getElem hk1)).1;have a3:some l'[j]=some l'[k]:=by rw [←a1,e,a2]
   have a4:l'[j]=l'[k]:=Option.some.inj a3;exact hjk (ag0 j k _ _ (List.getElem?_eq_getElem hj1) (List.getElem?_eq_getElem hk1) (congrArg bF.pc a4))
  exact LG hN (i:=i+1) (j:=i'+1) (by omega) (by simpa using e1) (by simpa using e1') e2 e2'
 ·obtain⟨b,c,e0,e1,e2,e3,e4⟩:=hown k _ (List.getElem?_eq_getElem h1.1);obtain⟨cur,hb⟩:=hty g h2
  rcases h1.2 with ⟨x,e,hx⟩ | ⟨x,e,hx⟩
  ·rw [e1] at e
   cases e
   obtain⟨cur',hb'⟩:=lD e3 hx;exact absurd (hb.uniq hb') (by decide)
  ·rw [e2] at e
   cases e
   obtain⟨cur',hb'⟩:=lD e4 hx;exact absurd (hb.uniq hb') (by decide)
 ·rcases hg with hg | ⟨k,hk,_,hg⟩
  ·exact Nat.le_trans hB (hO.lt g hg).1
  ·obtain⟨b,c,e0,e1,e2,e3,e4⟩:=hown k _ (List.getElem?_eq_getElem hk)
   rcases hg with ⟨x,h1,h2⟩ | ⟨x,h1,h2⟩
   ·rw [e1] at h1
    cases h1
    exact (e3.lt g h2).1
   ·rw [e2] at h1
    cases h1
    exact (e4.lt g h2).1
end Go.Proofs.YtiiokkllmchohaaGreat
namespace Go.Proofs.YtiiokkllmchohaaGreat
open Go.RowKit Go.Shelf
attribute [local go_sem ↓] Go.wp_at_zero Go.wp_at_succ
attribute [local go_sem] bW
structure LVal where
 kind:Int
 num:Int
 obj:Option Nat
theorem O6 {w:World}{B:Nat}{e:TypeId}{sz:Nat}{v:Value}{n:Nat}{xs:List Value}(h:w.ownsRow B e sz v n xs)(hn:0<n):∃g cap,v= .slice (some ⟨g,0,none⟩) n cap∧n≤cap∧v.ownBlock=some g∧∀j,j<n*sz→w.cell? ⟨g,j,none⟩=xs[j]? :=by
 rcases h.2 with ⟨_,e2⟩ | ⟨g,cap,cur,rfl,h2,h3,h4,h5,h6,h7⟩
 ·omega
 ·refine⟨g,cap,rfl,h4,rfl,fun j hj=>?_⟩;rw [←h7,List.getElem?_take,if_pos hj];unfold World.cell?;simp only [h3];simp
section
variable {w : World} {B : Nat} {A : List Nat} {fb : Nat} {mc : List Value} {pc : Int} {vl : Value} {loc : List LVal} {vs : Value} {stk : List LVal}
end
section
variable {w w' : World} {B : Nat} {A : List Nat} {fb : Nat} {mc : List Value} {pc : Int} {vl : Value} {loc : List LVal} {vs : Value} {stk : List LVal}
end
section
variable (B : Nat) (A : List Nat) (fb : Nat) (mc : List Value) (pc : Int) (vl : Value) (loc : List LVal) (vs : Value) (stk : List LVal) (a b : Int) (w : World)
end
theorem CU (k n:Int)(o:Value)(w:World):(Instr.field 170 (.agg #[.int .i64 k,.int .i64 n,o]) 1).run Tryz.prog w= .ok (.int .i64 n) w:=by kernel_rfl
theorem CV (k n:Int)(o:Value)(w:World):(Instr.field 170 (.agg #[.int .i64 k,.int .i64 n,o]) 2).run Tryz.prog w= .ok o w:=by kernel_rfl
attribute [local go_sem] CU CV
section
variable (B : Nat) (A : List Nat) (fb : Nat) (mc : List Value) (pc : Int) (vl : Value) (loc : List LVal) (vs : Value) (stk : List LVal) (a b : Int) (w : World)
end
end Go.Proofs.YtiiokkllmchohaaGreat
namespace Go.Proofs.YtiiokkllmchohaaGreat
open Go.RowKit Go.Shelf
structure sD where
 m:aC
 pc:Nat
 loc:List LVal
 stk:List LVal
structure adt where
 cls:Int
 akG:List LVal
structure qJ where
 frames:List sD
 objs:List adt
 told:LVal
 out:List Int
 steps:Nat
structure nD where
 fb:Nat
 mc:List Value
 vl:Value
 vs:Value
section
variable {w0 w w' : World} {ρ ρ' : Nat → Nat × Nat} {A : List Nat} {S : Nat → Prop}
end
section
variable {w0 w w' : World} {ρ : Nat → Nat × Nat} {mb : Nat} {vp : Value} {fuel : Int} {ask : Bool} {st : qJ} {A : List Nat} {X : List nD} {Y : List Value} {vr yc : Value}
end
end Go.Proofs.YtiiokkllmchohaaGreat
namespace Go.Proofs.YtiiokkllmchohaaGreat
open Go.RowKit Go.Shelf
attribute [local go_sem ↓] Go.wp_at_zero Go.wp_at_succ
attribute [local go_sem] bW
end Go.Proofs.YtiiokkllmchohaaGreat
namespace Go.Proofs.YtiiokkllmchohaaGreat
open Go.RowKit Go.Shelf
section
variable {w0 w w' : World} {ρ : Nat → Nat × Nat} {mb : Nat} {vp : Value} {fuel : Int} {ask : Bool} {st : qJ} {A : List Nat} {X : List nD} {Y : List Value} {vr yc : Value}
end
end Go.Proofs.YtiiokkllmchohaaGreat
namespace Go.Proofs.YtiiokkllmchohaaGreat
open Go.RowKit Go.Shelf
attribute [local go_sem ↓] Go.wp_at_zero Go.wp_at_succ
attribute [local go_sem] bW
section
variable {w0 w w' : World} {ρ : Nat → Nat × Nat} {mb : Nat} {vp : Value} {fuel : Int} {ask : Bool} {st : qJ} {A : List Nat} {X : List nD} {Y : List Value} {vr yc : Value}
end
section
variable (p : List aj) (vp : Value) (w0 w : World) (mb fb : Nat) (a b : Int)
end
theorem SG (s r l k:Int)(x y z:Value)(w:World):(Instr.field 63 (.agg #[.int .i64 s,x,.int .i64 r,.int .i64 l,.int .i64 k,y,z]) 1).run Tryz.prog w= .ok x w:=by kernel_rfl
attribute [local go_sem] SG
section
variable (p : List aj) (vp : Value) (w0 w : World) (mb fb : Nat) (a b : Int)
end
structure Gu (p:List aj)(m:aC)(op a b:Int):Prop where
 op0:0≤op
 op1:op≤20
 cls:(op=9∨op=17∨op=10∨op=11∨op=12)→0≤a∧a<(p.length:Int)
 loc:(op=1∨op=2)→0≤a∧a<m.locals
 pJ:(op=10∨op=11)→0≤b∧b<((fieldsOf p a).length:Int)
 call:op=12→(fO p a b).isSome=true
 jmp:(op=7∨op=8∨op=18)→0≤a∧a<(m.code.length:Int)
theorem AO {p:List aj}{m:aC}{op a b:Int}(hi:bC p m ⟨op,a,b⟩=true):Gu p m op a b:=by
 have hop:0≤op∧op≤20:=by
  unfold bC at hi;dsimp only at hi
  repeat' split at hi
  all_goals first | omega | (simp only [Bool.and_eq_true,oU] at hi;omega)
 refine⟨hop.1,hop.2,fun ho=>?_,fun ho=>?_,fun ho=>?_,fun ho=>?_,fun ho=>?_⟩
 ·unfold bC at hi;dsimp only at hi
  rcases ho with rfl | rfl | rfl | rfl | rfl <;> simp [oU] at hi <;> exact hi.1
 ·unfold bC at hi;dsimp only at hi
  rcases ho with rfl | rfl <;> simp [oU] at hi <;> exact hi.1
 ·unfold bC at hi;dsimp only at hi
  rcases ho with rfl | rfl <;> simp [oU] at hi <;> exact hi.2
 ·subst ho;unfold bC at hi;dsimp only at hi;simp [oU] at hi;exact hi.2
 ·unfold bC at hi;dsimp only at hi
  rcases ho with rfl | rfl | rfl <;> simp [oU] at hi <;> exact hi.1
end Go.Proofs.YtiiokkllmchohaaGreat
namespace Go.Proofs.YtiiokkllmchohaaGreat
open Go.RowKit Go.Shelf
attribute [local go_sem ↓] Go.wp_at_zero Go.wp_at_succ
attribute [local go_sem] bW
attribute [local go_sem] CU CV
section
variable (p : List aj) (vp : Value) (w0 w : World) (ρ : Nat → Nat × Nat) (mb : Nat) (fuel : Int) (ask : Bool) (st : qJ) (A : List Nat) (X : List nD) (Y : List Value) (vr yc : Value) (i : Nat) (f : sD) (x : nD) (op a b : Int)
end
section
variable {w0 w w' : World} {ρ : Nat → Nat × Nat} {mb : Nat} {vp : Value} {fuel : Int} {ask : Bool} {st : qJ} {A : List Nat} {X : List nD} {Y : List Value} {vr yc : Value} {i : Nat} {f : sD} {x : nD}
end
section
variable (p : List aj) (vp : Value) (w0 w : World) (ρ : Nat → Nat × Nat) (mb : Nat) (fuel : Int) (ask : Bool) (st : qJ) (A : List Nat) (X : List nD) (Y : List Value) (vr yc : Value) (i : Nat) (f : sD) (x : nD) (a b : Int)
end
section
variable {w0 w w' : World} {ρ : Nat → Nat × Nat} {mb : Nat} {vp : Value} {fuel : Int} {ask : Bool} {st : qJ} {A : List Nat} {X : List nD} {Y : List Value} {vr yc : Value} {i : Nat} {f : sD} {x : nD}
end
section
variable (p : List aj) (vp : Value) (w0 w : World) (ρ : Nat → Nat × Nat) (mb : Nat) (fuel : Int) (ask : Bool) (st : qJ) (A : List Nat) (X : List nD) (Y : List Value) (vr yc : Value) (i : Nat) (f : sD) (x : nD) (a b : Int)
end
section
variable (p : List aj) (vp : Value) (w0 w : World) (ρ : Nat → Nat × Nat) (mb : Nat) (fuel : Int) (ask : Bool) (st : qJ) (A : List Nat) (X : List nD) (Y : List Value) (vr yc : Value) (i : Nat) (f : sD) (x : nD) (a b : Int)
end
section
variable {w0 w w' : World} {ρ : Nat → Nat × Nat} {mb : Nat} {vp : Value} {fuel : Int} {ask : Bool} {st : qJ} {A : List Nat} {X : List nD} {Y : List Value} {vr yc : Value}
end
section
variable (p : List aj) (vp : Value) (w0 w : World) (ρ : Nat → Nat × Nat) (mb : Nat) (fuel : Int) (ask : Bool) (st : qJ) (A : List Nat) (X : List nD) (Y : List Value) (vr yc : Value) (i : Nat) (f : sD) (x : nD) (a b : Int)
end
end Go.Proofs.YtiiokkllmchohaaGreat
namespace Go.Proofs.YtiiokkllmchohaaGreat
open Go.RowKit Go.Shelf
section
variable {p : List aj} {fuel : Int} {st : qJ} {f : sD}
end
end Go.Proofs.YtiiokkllmchohaaGreat
namespace Go.Proofs.YtiiokkllmchohaaGreat
open Go.RowKit Go.Shelf
attribute [local go_sem ↓] Go.wp_at_zero Go.wp_at_succ
attribute [local go_sem] bW
end Go.Proofs.YtiiokkllmchohaaGreat
