/- What is proved: the law Inferred (every Infer and every Certify, of a program and of what Certify makes of it, one behind the other in the same hands, behind the document's example) answers true, and what it was handed reads as it did. Condition: the arguments hold together at most 1048576 values and letters. -/
import Derived.Test.YtiiokkllmchohaaGreatT45
import Derived.Test.YtiiokkllmchohaaGreatT46
import Derived.Test.YtiiokkllmchohaaGreatT47
import Derived.Test.YtiiokkllmchohaaGreatT48
set_option maxHeartbeats 4000000
set_option maxRecDepth 100000
namespace Go.Proofs.YtiiokkllmchohaaGreat
open Go.RowKit Go.Shelf
attribute [local go_sem ↓] Go.wp_at_zero Go.wp_at_succ
structure BQ (w W:World)(bh:Nat)(vp:Value)(cs:List Value)(n:Nat)(es:Nat→List dF)(t:Nat):Prop where
 bel:Below w.heap.size w W
 bp:ak W w.heap.size 24 [vp]
 new:w.heap.size<bh
 inv:gK W bh cs n es
 nle:n≤t*20001
 cnt:∀j,j<6→(es j).length≤t*80004
theorem BQ.did {w W W':World}{bh:Nat}{vp:Value}{cs cs':List Value}{n n' t:Nat}{es es':Nat→List dF}(h:BQ w W bh vp cs n es t)(d:Rj W W' bh cs cs' n n' es es'):BQ w W' bh vp cs' n' es' (t+1):=by
 have hn:=h.new
 have hS:∀k,k<bh→¬(k=bh∨∃f,OwnAt cs f k):=fun k hk x=>by
  rcases x with x | ⟨f,x⟩
  ·omega
  ·have:=(h.inv.own x).2.1;omega
 exact⟨h.bel.trans (d.mods.below h.bel.size (fun k hk e=>hS k (by omega) e)),h.bp.mods d.mods (hS _ (by omega)),hn,d.inv,by have:=h.nle;have:=d.nle;omega,fun j hj=>by have:=h.cnt j hj;have:=d.cnt j hj;omega⟩
theorem BQ.below {w W W':World}{bh:Nat}{vp:Value}{cs:List Value}{n t:Nat}{es:Nat→List dF}(h:BQ w W bh vp cs n es t)(hb:Below W.heap.size W W'):BQ w W' bh vp cs n es t:=
 ⟨h.bel.trans (hb.mono h.bel.size),h.bp.below hb h.bp.lt,h.new,h.inv.below hb,h.nle,h.cnt⟩
theorem afK : (jC Ad yM 9 (dK sv0 0 (dO 0 yM))).map (fun r => r.map fun s => ((dX yM s yM.code.length).length, (dX yM s yM.code.length)[2]?.map (·.stack))) = some (some (3, some [0])) := by kernel_rfl
theorem ahL (p:List aj)(vp:Value)(c k:Int)(w:World)(hp:aX w vp p)(hwf:jq p)(hz:bn p≤1048576) :
  Calls Tryz.prog 4 #[.agg #[vp],.int .i64 c,.int .i64 k] w fun e w'=>e= .returned (.bool true)∧Below w.heap.size w w':=by
 obtain⟨r,hr,hr2⟩:=Option.map_eq_some_iff.1 afK;obtain⟨s,hs,hs3⟩:=Option.map_eq_some_iff.1 hr2;subst hs;simp only [Prod.mk.injEq] at hs3;obtain⟨hs3,hs4⟩:=hs3;have HI:=hide (And.intro hr (And.intro hs3 hs4));clear hr hr2 hs3 hs4;have HP:=hide hp;obtain⟨Q,hQ⟩:=Yb (p:=p);have HQ:=hide hQ;clear hQ;obtain⟨pa,_,_,aA,rfl,_⟩:=hp;have hbel:=aS w (.cells #[.slice pa p.length aA] 24);have B0:=ak.new w #[.slice pa p.length aA] 24;go_enter Tryz.func4,Tryz.ntmps4
 go_wp2_with fail
 generalize w.alloc _=W0 at *;refine (ahJ W0).mono ?_;rintro e W1 ⟨ve,rfl,hE,hb1⟩;have hw1:=hbel.trans (hb1.mono hbel.size);have B1:=B0.below hb1 B0.lt;go_wp2_with fail
 refine (Yz Ad _ 0 0 W1 hE afL (by decide) 9 (some s) (fun m _ hm=>by obtain rfl:=Option.some.inj (YR.symm.trans hm);exact (ah HI).1)).mono ?_;rintro e W2 ⟨_,_,hI,hb2⟩;obtain⟨vf,rfl,hfr⟩:=(hI afJ yM YR).2 s rfl;have hw2:=hw1.trans (hb2.mono hw1.size);have B2:=B1.below hb2 B1.lt
 obtain⟨fb,kU,fc,rfl,sb,FQ,sc,x1,x2⟩:∃fb kU fc,vf= .slice (some ⟨fb,kU,none⟩) 3 fc∧∃sb FQ sc,W2.cell? ⟨fb,kU+8,none⟩=some (.slice (some ⟨sb,FQ,none⟩) 1 sc)∧W2.cell? ⟨sb,FQ,none⟩=some (.int .i64 0):=by
  have hsl:=Zg hfr;obtain⟨_,i1,i2⟩:=ah HI;generalize dX yM s yM.code.length=l at *;obtain⟨fa,fb,kU,fc,rfl,_,hfa,hfx⟩:=aZ hsl;obtain rfl:=hfa (bJ (k:=0) (by omega));rw [i1];refine⟨fb,kU,fc,rfl,?_⟩;have h2:=hfx 2 (by omega);rw [List.getElem?_eq_getElem (by omega),Option.map_some] at i2;replace i2:=Option.some.inj i2;obtain⟨vl,vs,_,_,c2,_,hvs⟩:=h2;rw [i2] at hvs;obtain⟨sa,sb,FQ,sc,rfl,_,hsa,hsr⟩:=aZ hvs;obtain rfl:=hsa (by simp);exact⟨sb,FQ,sc,c2,hsr 0 (by simp)⟩
 have I0:=agn W2;have Dp:=aS W2 (.cells Aq.toArray 53)
 have S0:Hid (BQ w (W2.alloc (.cells Aq.toArray 53)) W2.heap.size (.slice pa p.length aA) Aq 0 (fun _=> []) 0):=
  ⟨hw2.trans (Dp.mono hw2.size),B2.below Dp B2.lt,B2.lt,I0,Nat.zero_le _,fun _ _=>Nat.zero_le _⟩
 have p2:W2.cell? ⟨w.heap.size,0,none⟩=some (.slice pa p.length aA):=B2.cell 0;have l2:=B2.lt;clear hI hfr hE hb1 hb2 Dp I0 HI B0 B1 B2 hw1 hw2 hbel;go_upto_region 5 with fail
 generalize W2.alloc _=W3 at *;obtain⟨bh,Z4⟩:∃bh,bh=W2.heap.size:=⟨_,rfl⟩;rw [←Z4] at S0 ⊢;clear Z4 x1 x2 p2 l2;have hF:=fun (W:World) (cs:List Value) (n:Nat) (es:Nat→List dF) (t:Nat) (S:BQ w W bh (.slice pa p.length aA) cs n es t) (ht:t≤4)=>ahK p (.slice pa p.length aA) c k W bh cs n es S.inv (aP (acV S.bel (by have:=S.new;omega)) (ah HP)) hwf hz (by have:=S.nle;omega) (fun j hj=>by have:=S.cnt j hj;omega);have HF:=hide hF;clear hF;have p3:W3.cell? ⟨w.heap.size,0,none⟩=some (.slice pa p.length aA):=(ah S0).bp.cell 0;go_wp2_with fail
 refine (ah HF W3 _ _ _ 0 (ah S0) (by omega)).mono ?_;rintro e W4 ⟨rfl,G9,n4,Hq,d4⟩;have S4:=hide ((ah S0).did d4);have p4:W4.cell? ⟨w.heap.size,0,none⟩=some (.slice pa p.length aA):=(ah S4).bp.cell 0;clear d4 S0 p3;go_wp2_with fail
 refine (abe p _ W4 bh G9 n4 Hq (ah S4).inv (aP (acV (ah S4).bel (by have:=(ah S4).new;omega)) (ah HP)) hwf hz (by have:=(ah S4).nle;omega) (fun j hj=>by have:=(ah S4).cnt j hj;omega)).mono ?_;rintro e W5 ⟨rfl,Sj,n5,es5,d5⟩;have S5:=hide ((ah S4).did d5);have p5:W5.cell? ⟨w.heap.size,0,none⟩=some (.slice pa p.length aA):=(ah S5).bp.cell 0;clear d5 S4 p4;go_wp2_with fail
 refine (ah HF W5 _ _ _ 2 (ah S5) (by omega)).mono ?_;rintro e W6 ⟨rfl,cs6,n6,es6,d6⟩;have S6:=hide ((ah S5).did d6);have p6:W6.cell? ⟨w.heap.size,0,none⟩=some (.slice pa p.length aA):=(ah S6).bp.cell 0;clear d6 S5 p5 HF;go_wp2_with fail
 have hw6:=(ah S6).bel;refine (ab7 w.heap.size p _ W6 hw6.size (aP (akr (ay.of_below hw6) fun k hk=>⟨fun e=>by omega,hk⟩) (ah HP)) hwf (by omega) Q (ah HQ)).mono ?_;rintro e W7 hC;obtain⟨qa,qn,qc,q,qr,rfl,hq,hqw,hqz,hb7⟩:=hC.form hwf hz (ah HQ);have hbx:=aS W7 (.cells #[.slice qa qn qc] 24);have A7:=ak.new W7 #[.slice qa qn qc] 24;have S7:=hide (((ah S6).below hb7).below hbx);have hl6:=(ah S6).inv.hands.1.lt;have hn6:=(ah S6).new;have HQ7:=hide hq;clear p6 hC hq S6;go_upto_region 9 with fail
 generalize W7.alloc _=W8 at *;have x8:W8.cell? ⟨W7.heap.size,0,none⟩=some (.slice qa qn qc):=A7.cell 0;go_wp2_with fail
 refine (abe q _ W8 bh cs6 n6 es6 (ah S7).inv (aP (ajL hbx (fun k hk=>by omega)) (ah HQ7)) hqw hqz (by have:=(ah S7).nle;omega) (fun j hj=>by have:=(ah S7).cnt j hj;omega)).mono ?_;rintro e W9 ⟨rfl,YF,n9,es9,d9⟩;have S9:=hide ((ah S7).did d9);clear d9 S7 x8;go_wp2_with fail
 go_ret;exact⟨rfl,(ah S9).bel⟩
end Go.Proofs.YtiiokkllmchohaaGreat
namespace Go.Proofs.YtiiokkllmchohaaGreat
open Go.ChangeShapes Go.WideShapes Go.ChangeAt Go.RowKit
theorem adZ {H:Type}{d0 d1 d2:DataW H}(hk:Rows.uptoSmall H ([d0,d1,d2]++ [])=true):Rows.uptoBulk d0+Rows.uptoBulk d1+Rows.uptoBulk d2≤1048576:=by
 have h:=of_decide_eq_true hk;simp only [List.append_nil,Rows.uptoBulkAll] at h;omega

theorem ahj (H:Type)(enc:TypeId×Value→H)(W:World)(base:Nat)(args:Array Value)(ds gs:List (DataW H))(before:List MemPlace)
  (hval:∀(j:Nat) t v,Tryz.f4.params[j]? =some t→args[j]? =some v→Value.okWide Tryz.prog W .any base t v)
  (hW:DataW.Whole enc Tryz.prog Tryz.f4.params.toList Rows.inferredSpec.vars false W args.toList ds gs before) (hk:Rows.uptoSmall H (ds++gs)=true) :
  Calls Tryz.prog 4 args W fun e W'=>∃v,e= .returned v∧Rows.inferredSpec.post enc Tryz.prog Tryz.f4 false true false false W args v W':=by
 have hW':=hW;obtain⟨p,q,hA0,hV,rfl,hfz,hnd⟩:=hW;have hA:DataW.TrodAll enc Tryz.prog W 0 (fun _=>true) true Tryz.f4.params.toList args.toList ds p:=hA0;rw [Tryz.params4] at hA hval;obtain⟨v0,v1,v2,d0,d1,d2,p0,p1,p2,rfl,rfl,rfl,h0,h1,h2⟩:=trodAll_three hA;obtain⟨rfl,rfl⟩:=trodVars_none hV;have akO:=adZ hk;obtain⟨vp,lp,rfl,r0,f0,z0⟩:=aio (hval 0 24 _ rfl rfl) h0;obtain⟨n1,rfl,rfl,_,hf1⟩:=open_int Tryz.underlying3 (hval 1 3 v1 rfl rfl) h1;obtain⟨n2,rfl,rfl,_,hf2⟩:=open_int Tryz.underlying3 (hval 2 3 v2 rfl rfl) h2;clear hA0;refine (ahL lp vp n1 n2 W r0 f0 (by omega)).mono fun e W' ⟨he,hB⟩=>?_;subst he
 have e1:Rows.inferredSpec.fn H ([d0,.lit (.int .i64 n1),.lit (.int .i64 n2)]++ [])= { results:= [.lit (.bool true)],args:= [d0,.lit (.int .i64 n1),.lit (.int .i64 n2)] } :=rfl;refine⟨_,rfl,_,_,_,[],p0++(p1++p2),[],hW',?_,?_,?_,hB.frame _,fun h=>by cases h⟩
 ·rw [e1];exact trodAll_mk1 (shut_bool Tryz.underlying4 _)
 ·rw [e1];exact trodAll_mk3 (Below.trod Ut (by kernel_rfl) (of_decide_eq_true (by kernel_rfl)) h0 hB (fun x hx=>hW'.lt x (by simp [hx]))) (Below.trod Ut (by kernel_rfl) (of_decide_eq_true (by kernel_rfl)) h1 hB (fun x hx=>hW'.lt x (by simp [hx]))) (Below.trod Ut (by kernel_rfl) (of_decide_eq_true (by kernel_rfl)) h2 hB (fun x hx=>hW'.lt x (by simp [hx])))
 ·rw [e1]
  rfl

theorem ahk (os:Os)(started:os.Started)(H:Type)(enc:TypeId×Value→H)(F:Stop.Interp) :
  ReturnsInHanded {} Tryz.checked os 4 .any ((Rows.OpenSpec.upto Rows.inferredSpec).pre6 enc Tryz.prog Tryz.f4 Rows.inferredUptoRow.domain false) (((Rows.OpenSpec.upto Rows.inferredSpec).at F).post enc Tryz.prog Tryz.f4 false true false false):=by
 refine returnsInHanded_of_cond (C:=Tryz.checked) (s:=Rows.OpenSpec.upto Rows.inferredSpec) (k:=Rows.uptoSmall) rfl ahC started (by kernel_rfl) Tryz.func4
  (OpenSpec.witness (enc:=enc) (C:=Tryz.checked) (s:=Rows.OpenSpec.upto Rows.inferredSpec) (k:=Rows.uptoSmall) rfl false ⟨#[],#[.agg #[.slice none 0 0],.int .i64 0,.int .i64 0],[]⟩ 8 (by kernel_rfl) (by kernel_rfl) (by kernel_rfl)
    (x:=([.agg [.nil],.lit (.int .i64 0),.lit (.int .i64 0)],[],[])) (by kernel_rfl) rfl (by kernel_rfl)) ?_
 intro W base args ds gs before hval hW _ hk _;exact ahj H enc W base args ds gs before hval hW hk

theorem ahl:Rows.inferredUptoRow.holds Tryz.pinned (Rows.OpenSpec.upto Rows.inferredSpec):=
 OpenClaim.holds_of_cond 4 Tryz.f4 rfl rfl rfl rfl rfl rfl rfl ⟨rfl,rfl,rfl,rfl,rfl⟩ rfl rfl rfl rfl rfl (by kernel_rfl) Tryz.func4 (by kernel_rfl)
  (of_decide_eq_true (by kernel_rfl)) (by unfold Func.isWrapper;first | (rw [if_pos (by decide +kernel)];kernel_rfl) | (rw [if_neg (by decide +kernel)];exact⟨rfl,rfl⟩))
  (fun os started H enc _ F=>ahk os started H enc F)
theorem inferred_holds:Rows.InferredUptoSaid:=ahl
end Go.Proofs.YtiiokkllmchohaaGreat
