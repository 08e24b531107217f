/- The solver: Solve. -/
import Derived.Laws.Tables
import Derived.Test.YtiiokkllmchohaaGreatT25
import Derived.Test.YtiiokkllmchohaaGreatT26
set_option maxHeartbeats 4000000
set_option maxRecDepth 100000
namespace Go.Proofs.YtiiokkllmchohaaGreat
open Go.RowKit Go.Shelf
attribute [local go_sem ↓] Go.wp_at_zero Go.wp_at_succ
attribute [local go_sem] bW
theorem adC:ni Tryz.prog 134 768:=⟨by kernel_rfl,by kernel_rfl⟩
def Kq:List (List Value):=List.replicate 40 eH
theorem Vo:kD sv0 Kq:=by
 refine⟨by simp [sv0],by simp [sv0],by simp [sv0],by simp [Kq],fun i x c e1 e2=>?_⟩;obtain rfl:=List.eq_of_mem_replicate (List.mem_of_getElem? e1);obtain rfl:=List.eq_of_mem_replicate (List.mem_of_getElem? e2);rw [←akw];exact Rx akx
theorem aj8 (vp a b c d e f g:Value):Tryz.prog.built 134 [(0,.agg #[vp]),(1,.agg #[a,b,c,d,e,f,g])]=some (iE vp [a,b,c,d,e,f,g] Kq sv0).toArray:=by kernel_rfl
theorem aku {P:Program}{ty:TypeId}{w:World}{ops:Array Oper}{rest:List Oper}{o:Oper}{a:Act}{Q:Exit→Act→World→Prop}(x y:Operand){u v:Value}{L:List Value}(hb:P.built ty [(0,u),(1,v)]=some L.toArray)
  (hgd:o.guard=none) (ho:o.op= .build ty #[(0,x),(1,y)]) (hx:a.eval x=u) (hy:a.eval y=v) (h:wpList P ops Q rest (a.put o.dst (.agg L.toArray)) w):wpList P ops Q (o::rest) a w:=by
 refine wpList_plain hgd fun K hK=>?_;unfold Oper.wp execOp;simp only [ho,List.map_toArray,List.map_cons,List.map_nil,hx,hy,Sem.run_bind,run_build w ty #[(0,u),(1,v)] L.toArray hb,Result.andThen_ok,Sem.run_pure];exact hK _ _ h
theorem aj7 {vp:Value}{mc:List Value}{css:List (List Value)}{s:aJ}(h:kD s css)(h1:vp.oneCell'=true)(h2:∀v∈mc,v.oneCell'=true):∀v∈iE vp mc css s,v.oneCell'=true:=by
 intro v hv;unfold iE at hv
 rcases List.mem_append.1 hv with hv | hv
 ·rcases List.mem_cons.1 hv with rfl | hv
  ·exact h1
  ·exact h2 v hv
 ·rcases List.mem_append.1 hv with hv | hv
  ·obtain⟨c,hc,hv⟩:=List.mem_flatten.1 hv;obtain⟨i,hi,rfl⟩:=List.getElem_of_mem hc;have hx:=List.getElem?_eq_getElem (show i<s.st.length by rw [h.l1,←h.lc];exact hi);exact (h.cs i _ _ hx (List.getElem?_eq_getElem hi)).one v hv
  ·rcases List.mem_append.1 hv with hv | hv
   ·obtain⟨b,_,rfl⟩:=List.mem_map.1 hv;rfl
   ·obtain⟨b,_,rfl⟩:=List.mem_map.1 hv;rfl
theorem aj6 {vp:Value}{mc:List Value}{css:List (List Value)}{s:aJ}(h:kD s css)(hm:mc.length=7):(iE vp mc css s).length=768:=by
 unfold iE;rw [List.length_append,List.length_append,List.length_append,List.length_map,List.length_map,yP css h.all,List.length_cons,hm,h.lc,h.l2,h.l3]
theorem ahX {P:Program}{fn:Func}{R:Ending→World→Prop}{tmps:Array Value}{w:World}{v:Value}(hv:(results fn tmps).run P w= .ok v w)(hR:R (.returned v) w) :
  DJ P fn R .ret { tmps:=tmps,defers:= [] } w:=⟨v,hv,hR⟩
theorem aiR (p:List aj)(g:aH):ji p 0 g sv0=some (dK sv0 0 g):=rfl
def Xy (r:Option aJ)(m:aC)(w w':World)(e:Ending):Prop:=
 (∀s',r=some s'→∃v,e= .returned v∧lT w' w.heap.size v (dX m s' m.code.length))∧(r=none→e= .panicked (jB 5))∧Below w.heap.size w w'
def Rw (p:List aj)(m:aC)(r:Option aJ)(bs:Nat)(vp:Value)(mc:List Value)(w:World)(N:Nat)(V:World):Prop:=
 ∃s1,jC p m N s1=some r∧jT V bs vp mc s1∧nY p m.stack s1∧Below w.heap.size w V
theorem acG (p:List aj)(vp:Value)(c:Int)(m:aC)(va aQ vf:Value)(w:World)(hp:aX w vp p)(hv:bV w.cell? m va aQ vf)(G:Good p)(hc0:0≤c)(hc1:c<(p.length:Int))(O:Gw p c m)(hl0:0≤m.locals)(N:Nat)(r:Option aJ)(hN:jC p m N (dK sv0 0 (dO c m))=some r) :
  Calls Tryz.prog 41 #[.agg #[vp],.int .i64 c,bP m va aQ vf] w fun e w'=>Xy r m w w' e:=by
 have HP:=hide hp;have HV:=hide hv;have HN:=hide hN;have hz:p.length≤4194304:=Nat.le_trans (eG p) G.sz;unfold bP;obtain⟨pa,_,_,aA,rfl,_⟩:=hp;obtain⟨hva,kG,hvf⟩:=hv;obtain⟨aa,_,_,aI,rfl,_⟩:=hva;obtain⟨fa,_,_,aG,rfl,_⟩:=hvf;obtain⟨ca,_,_,aF,rfl,_⟩:=kG;clear hN;obtain⟨SL,KF⟩:∃SL,SL=iE (.slice pa p.length aA) [.int .i64 m.slot,.slice aa m.args.length aI,.int .i64 m.ret,.int .i64 m.locals,.int .i64 m.stack,.slice ca m.code.length aF,.slice fa m.frames.length aG] Kq sv0:=⟨_,rfl⟩
 have HB:=hide (aj8 (.slice pa p.length aA) (.int .i64 m.slot) (.slice aa m.args.length aI) (.int .i64 m.ret) (.int .i64 m.locals) (.int .i64 m.stack) (.slice ca m.code.length aF) (.slice fa m.frames.length aG));rw [←KF] at HB
 have hone:∀v∈SL,v.oneCell'=true:=by
  rw [KF];refine aj7 Vo rfl (fun v hv=>?_);simp only [List.mem_cons,List.not_mem_nil,or_false] at hv
  rcases hv with rfl | rfl | rfl | rfl | rfl | rfl | rfl <;> rfl
 have hlen:SL.length=768:=by rw [KF];exact aj6 Vo rfl
 have hzl:Tryz.zeroCells134.toList.length=768:=by rw [Array.length_toList,Tryz.zeroCells134_size]
 have HSL:=hide KF;clear KF;refine Nz Tryz.func41 rfl ?_;simp only [Tryz.ntmps41,List.size_toArray,List.length_cons,List.length_nil,Nat.reduceAdd,Nat.reduceSub,Array.replicate_succ,Array.replicate_zero,List.push_toArray,List.append_toArray,List.nil_append,List.cons_append];refine jY ?_;go_wp2_with fail
 have hb2:Below w.heap.size w ((w.alloc (.cells #[.slice pa p.length aA] 24)).alloc (.cells #[.int .i64 m.slot,.slice aa m.args.length aI,.int .i64 m.ret,.int .i64 m.locals,.int .i64 m.stack,.slice ca m.code.length aF,.slice fa m.frames.length aG] 63)):=dS _ _ _;have B0:=(ak.new w #[.slice pa p.length aA] 24).alloc (.cells #[.int .i64 m.slot,.slice aa m.args.length aI,.int .i64 m.ret,.int .i64 m.locals,.int .i64 m.stack,.slice ca m.code.length aF,.slice fa m.frames.length aG] 63)
 have B1:=ak.new (w.alloc (.cells #[.slice pa p.length aA] 24)) #[.int .i64 m.slot,.slice aa m.args.length aI,.int .i64 m.ret,.int .i64 m.locals,.int .i64 m.stack,.slice ca m.code.length aF,.slice fa m.frames.length aG] 63;have hsz:((w.alloc (.cells #[.slice pa p.length aA] 24)).alloc (.cells #[.int .i64 m.slot,.slice aa m.args.length aI,.int .i64 m.ret,.int .i64 m.locals,.int .i64 m.stack,.slice ca m.code.length aF,.slice fa m.frames.length aG] 63)).heap.size=w.heap.size+1+1:=by simp
 rw [World.size_alloc] at B1;generalize (w.alloc _).alloc _=W at *;have En:=hide hsz;clear hsz;have p0:W.cell? ⟨w.heap.size,0,none⟩=some (.slice pa p.length aA):=B0.cell 0;have m0:W.cell? ⟨w.heap.size+1,0,none⟩=some (.int .i64 m.slot):=B1.cell 0;have m1:W.cell? ⟨w.heap.size+1,1,none⟩=some (.slice aa m.args.length aI):=B1.cell 1;have m2:W.cell? ⟨w.heap.size+1,2,none⟩=some (.int .i64 m.ret):=B1.cell 2;have m3:W.cell? ⟨w.heap.size+1,3,none⟩=some (.int .i64 m.locals):=B1.cell 3;have m4:W.cell? ⟨w.heap.size+1,4,none⟩=some (.int .i64 m.stack):=B1.cell 4;have m5:W.cell? ⟨w.heap.size+1,5,none⟩=some (.slice ca m.code.length aF):=B1.cell 5
 have m6:W.cell? ⟨w.heap.size+1,6,none⟩=some (.slice fa m.frames.length aG):=B1.cell 6;refine jY ?_
 go_wp2_with (first
  | refine aku (.tmp 8) (.tmp 9) (ah HB) rfl rfl rfl rfl ?_
  | (refine iZ adC (ak.new W Tryz.zeroCells134 134) 0 SL hlen (by rw [hzl]; omega) hone (.tmp 7) (.tmp 10) rfl rfl rfl rfl ?_; intro w3 hB3 dh hs3))
 rw [gB (by rw [hlen,hzl])] at hB3;have hsz:=ah En;have hb3:Below W.heap.size W w3:=(aS W _).trans (dh.below (by simp) (fun k hk e=>by omega));have hbw3:=hb2.trans (hb3.mono hb2.size);obtain⟨bs,hbs⟩:∃b,b=W.heap.size:=⟨_,rfl⟩;have hbs':w.heap.size≤bs:=by omega
 rw [←hbs] at hB3 ⊢;have HA:Hid (jT w3 bs (.slice pa p.length aA) (jP m (.slice aa m.args.length aI) (.slice ca m.code.length aF) (.slice fa m.frames.length aG)) sv0):=⟨Kq,Vo,by rw [ah HSL] at hB3;exact hB3⟩;have C1:=B1.below hb3 (by omega);have lb:=hB3.lt;clear hbs hsz En;clear hB3 dh hs3 HSL hlen hone HB hzl B0 B1 p0 m0 m1 m2 m3 m4 m5 m6;have m0:w3.cell? ⟨w.heap.size+1,0,none⟩=some (.int .i64 m.slot):=C1.cell 0;have m1:w3.cell? ⟨w.heap.size+1,1,none⟩=some (.slice aa m.args.length aI):=C1.cell 1;have m2:w3.cell? ⟨w.heap.size+1,2,none⟩=some (.int .i64 m.ret):=C1.cell 2;have m3:w3.cell? ⟨w.heap.size+1,3,none⟩=some (.int .i64 m.locals):=C1.cell 3
 have m4:w3.cell? ⟨w.heap.size+1,4,none⟩=some (.int .i64 m.stack):=C1.cell 4;have m5:w3.cell? ⟨w.heap.size+1,5,none⟩=some (.slice ca m.code.length aF):=C1.cell 5;have m6:w3.cell? ⟨w.heap.size+1,6,none⟩=some (.slice fa m.frames.length aG):=C1.cell 6;refine jY ?_;go_wp2_with fail
 refine (ajV c m _ _ _ _ hc0 (by omega) (bV.keep (Keeps.of_below hbw3) (ah HV)) O.a7).mono ?_;rintro e w4 ⟨rfl,hb4⟩;have jM:=hbw3.trans (hb4.mono hbw3.size);have MK:Hid (jT w4 bs (.slice pa p.length aA) (jP m (.slice aa m.args.length aI) (.slice ca m.code.length aF) (.slice fa m.frames.length aG)) sv0):=(ah HA).mods (ay.of_below hb4) (by omega);have hok:=OX (c:=c) O.a7;have Xe:=hide (aP (Keeps.of_below jM) (ah HP));clear m0 m1 m2 m3 m4 m5 m6 HA hb4;go_wp2_with fail
 have hms:0≤m.stack:=by have:=O.bg.2.2;omega
 refine (Vq p 0 (dO c m) (uV (dO c m)) w4 bs _ _ sv0 (ah MK) rfl (by omega) (Rx hok) (ah Xe) G.sup hz m.stack O.bg (aj3 p hms)).mono ?_;rintro e w5 ⟨h1,_,bU⟩;obtain⟨rfl,Zm,ZH⟩:=h1 _ (aiR p _);have qw:Below w.heap.size w w5:=jM.trans (bU.below jM.size (fun k hk e=>by omega));have HI0:Hid (Rw p m r bs (.slice pa p.length aA) (jP m (.slice aa m.args.length aI) (.slice ca m.code.length aF) (.slice fa m.frames.length aG)) w N w5):=⟨_,ah HN,Zm,ZH,qw⟩;clear h1 bU Zm ZH MK Xe jM hbw3 hb3 C1;go_wp2_with fail
 generalize Value.agg SL.toArray=g10;generalize Value.agg (uV (dO c m)).toArray=g13;generalize Value.agg #[Value.int .i64 m.slot,.slice aa m.args.length aI,.int .i64 m.ret,.int .i64 m.locals,.int .i64 m.stack,.slice ca m.code.length aF,.slice fa m.frames.length aG]=g2;generalize Value.agg #[Value.slice pa p.length aA]=g0;refine P5 ?_;refine D9 ?_
 refine VJ (fun N a V=>∃u,a= { tmps:= #[g0,.int .i64 c,g2,.pointer (some ⟨w.heap.size,0,none⟩),undef,.pointer (some ⟨w.heap.size+1,0,none⟩),.slice none 0 0,.pointer (some ⟨bs,0,none⟩),g0,g2,g10,.int .i64 c,g2,g13,.tuple #[],u,undef],defers:= [] }∧Rw p m r bs (.slice pa p.length aA) (jP m (.slice aa m.args.length aI) (.slice ca m.code.length aF) (.slice fa m.frames.length aG)) w N V) N ⟨undef,rfl,ah HI0⟩ ?_;clear HI0 HN qw;rintro N a V ⟨u,rfl,s1,hsn,hA,hT,hb⟩
 cases N with
 | zero => cases hsn
 | succ n =>
  refine Ea ?_;have Jw:=hide hsn;clear hsn;go_wp2_with fail
  refine (akc p _ m _ _ _ w V bs s1 hA (ah HP) (ah HV) hb hbs' O.c40 hT G O.ok O.ins).mono ?_;rintro e V2 ⟨h1,h2,hM⟩;have hb2:Below w.heap.size w V2:=hb.trans (hM.below hb.size (fun k hk e=>by omega))
  cases hr:lQ p m s1 m.code.length with
  | none =>
   obtain rfl:=h2 hr
   have HR:Hid (r=none):=by
    have h:=ah Jw;unfold jC at h;rw [hr] at h;exact (Option.some.inj h).symm
   clear hr h1 h2;go_wp2_with fail
   exact abq ⟨fun s' e=>(by rw [ah HR] at e;cases e),fun _=>rfl,hb2⟩
  | some x =>
   obtain⟨s2,b⟩:=x;obtain⟨rfl,hA2,hT2⟩:=h1 s2 b hr
   cases b with
   | true =>
    have HI2:Hid (Rw p m r bs (.slice pa p.length aA) (jP m (.slice aa m.args.length aI) (.slice ca m.code.length aF) (.slice fa m.frames.length aG)) w n V2):=by
     refine⟨s2,?_,hA2,hT2,hb2⟩;have h:=ah Jw;unfold jC at h;rw [hr] at h;exact h
    clear hr h1 h2 hA2 hT2;go_wp2_with fail
    exact⟨n,by omega,_,rfl,ah HI2⟩
   | false =>
    have HR:Hid (r=some s2):=by
     have h:=ah Jw;unfold jC at h;rw [hr] at h;exact (Option.some.inj h).symm
    have HA2:=hide hA2;clear hr h1 h2 hA2 hT2;go_wp2_with fail
    refine jY ?_;go_wp2_with fail
    refine (aj9 _ m _ _ _ V2 bs s2 (ah HA2) (bV.keep (Keeps.of_below hb2) (ah HV)) O.c40 hl0 O.ok.loc).mono ?_;rintro e V3 ⟨v,rfl,⟨cs,hO,hF,hD⟩,hb3⟩;obtain⟨ra,jA,rfl⟩:=cZ hO
    have HF:Hid (Xy r m w V3 (.returned (.slice ra (dX m s2 m.code.length).length jA))):=by
     refine⟨fun s' e=>?_,fun e=>(by rw [ah HR] at e;cases e),hb2.trans (hb3.mono hb2.size)⟩;rw [ah HR] at e;obtain rfl:=Option.some.inj e;exact⟨_,rfl,cs,own_base hO hb2.size,gG.base hb2.size _ _ hF,hD⟩
    clear hO hF hD;go_wp2_with fail
    refine Ea ?_;go_wp2_with fail
    exact ahX (results_tmp (t:=6) rfl _ _ _) (ah HF)
def Qe (e:TypeId)(sz n:Nat)(news:List Value)(w w':World)(x:Ending):Prop:=∃v,x= .returned v∧w'.ownsRow w.heap.size e sz v n news∧Below w.heap.size w w'
theorem Uh:(Tryz.prog.info? 43).map (fun i=>(i.zero,i.size,i.bytes))=some (some (.int .i64 0),1,8):=by kernel_rfl
theorem ahm:(Tryz.prog.info? 60).map (fun i=>(i.zero,i.size,i.bytes))=some (some (.agg #[.int .i64 0,.int .i64 0,.int .i64 0]),3,24):=by kernel_rfl
theorem ahq:(Tryz.prog.info? 63).map (fun i=>(i.zero,i.size,i.bytes))=some (some (.agg #[.int .i64 0,.slice none 0 0,.int .i64 0,.int .i64 0,.int .i64 0,.slice none 0 0,.slice none 0 0]),7,104):=by kernel_rfl
theorem grown_below {w w':World}(h:w.grownBy w' none):Below w.heap.size w w':=(((ay.refl (fun _=>False) w).grown h (fun k e=>by cases e))).below (Nat.le_refl _) (fun _ _ f=>f)
theorem RP (sa:Option Addr)(n cap:Nat)(news:List Value)(w:World)(hl:news.length=n*1)(hnil:sa=none→n=0∧cap=0)(hnews:∀ad,sa=some ad→∀j u,news[j]? =some u→w.cell? (ad.add j)=some u)(h1:∀u∈news,u.oneCell'=true)(hn:n≤4194304) :
  Calls Tryz.prog 106 #[.slice sa n cap] w fun e w'=>Qe 43 1 n news w w' e:=by
 obtain⟨iI,hI,hI0,hI1,hI2⟩:=info_parts Uh;go_enter Tryz.func106,Tryz.ntmps106
 go_wp2_with (at_builtin;refine Md rfl (.const (.slice none 0 0)) (.tmp 3) 40 rfl w.heap.size 43 iI _ 1 8 Tryz.underlying40 hI hI0 hI1 hI2 rfl (by decide) (.slice none 0 0) 0 [] rfl (World.ownsRow_nil _ _ _ _) sa n cap news rfl hl hnil hnews h1 (by unfold maxLen;omega) (by omega) (Nat.le_refl _) ?_;intro v' w' hown hgr hbk;rw [Nat.zero_add,List.nil_append] at hown;obtain⟨va,fJ,rfl⟩:=cZ hown)
 go_ret;exact⟨_,rfl,hown,grown_below hgr⟩
theorem aeh (sa:Option Addr)(n cap:Nat)(news:List Value)(w:World)(hl:news.length=n*3)(hnil:sa=none→n=0∧cap=0)(hnews:∀ad,sa=some ad→∀j u,news[j]? =some u→w.cell? (ad.add j)=some u)(h1:∀u∈news,u.oneCell'=true)(hn:n≤4194304) :
  Calls Tryz.prog 163 #[.slice sa n cap] w fun e w'=>Qe 60 3 n news w w' e:=by
 obtain⟨iI,hI,hI0,hI1,hI2⟩:=info_parts ahm;go_enter Tryz.func163,Tryz.ntmps163
 go_wp2_with (at_builtin;refine Md rfl (.const (.slice none 0 0)) (.tmp 3) 61 rfl w.heap.size 60 iI _ 3 24 Tryz.underlying61 hI hI0 hI1 hI2 rfl (by decide) (.slice none 0 0) 0 [] rfl (World.ownsRow_nil _ _ _ _) sa n cap news rfl hl hnil hnews h1 (by unfold maxLen;omega) (by omega) (Nat.le_refl _) ?_;intro v' w' hown hgr hbk;rw [Nat.zero_add,List.nil_append] at hown;obtain⟨va,fJ,rfl⟩:=cZ hown)
 go_ret;exact⟨_,rfl,hown,grown_below hgr⟩
theorem aei (sa:Option Addr)(n cap:Nat)(news:List Value)(w:World)(hl:news.length=n*7)(hnil:sa=none→n=0∧cap=0)(hnews:∀ad,sa=some ad→∀j u,news[j]? =some u→w.cell? (ad.add j)=some u)(h1:∀u∈news,u.oneCell'=true)(hn:n≤4194304) :
  Calls Tryz.prog 162 #[.slice sa n cap] w fun e w'=>Qe 63 7 n news w w' e:=by
 obtain⟨iI,hI,hI0,hI1,hI2⟩:=info_parts ahq;go_enter Tryz.func162,Tryz.ntmps162
 go_wp2_with (at_builtin;refine Md rfl (.const (.slice none 0 0)) (.tmp 3) 64 rfl w.heap.size 63 iI _ 7 104 Tryz.underlying64 hI hI0 hI1 hI2 rfl (by decide) (.slice none 0 0) 0 [] rfl (World.ownsRow_nil _ _ _ _) sa n cap news rfl hl hnil hnews h1 (by unfold maxLen;omega) (by omega) (Nat.le_refl _) ?_;intro v' w' hown hgr hbk;rw [Nat.zero_add,List.nil_append] at hown;obtain⟨va,fJ,rfl⟩:=cZ hown)
 go_ret;exact⟨_,rfl,hown,grown_below hgr⟩
end Go.Proofs.YtiiokkllmchohaaGreat
