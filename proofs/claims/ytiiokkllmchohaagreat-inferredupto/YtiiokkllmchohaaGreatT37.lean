/- The code's Check. -/
import Derived.Test.YtiiokkllmchohaaGreatT14
import Derived.Test.YtiiokkllmchohaaGreatT23
import Derived.Test.YtiiokkllmchohaaGreatT25
import Derived.Test.YtiiokkllmchohaaGreatT29
set_option maxHeartbeats 4000000
set_option maxRecDepth 100000
namespace Go.Proofs.YtiiokkllmchohaaGreat
open Go.RowKit Go.Shelf
attribute [local go_sem ↓] Go.wp_at_zero Go.wp_at_succ
attribute [local go_sem] bW
structure Ji (w:World)(b0 b1 b2:Nat)(p:List aj)(vc:Value)(c:Int)(m:aC)(va aQ vf:Value):Prop where
 c0:ak w b0 24 [vc]
 c1:ak w b1 3 [.int .i64 c]
 c2:ak w b2 63 [.int .i64 m.slot,va,.int .i64 m.ret,.int .i64 m.locals,.int .i64 m.stack,aQ,vf]
 rp:aX w vc p
 gv:bV w.cell? m va aQ vf
theorem Ji.below {w w':World}{b0 b1 b2:Nat}{p:List aj}{vc:Value}{c:Int}{m:aC}{va aQ vf:Value}(h:Ji w b0 b1 b2 p vc c m va aQ vf)(b:Below w.heap.size w w'):Ji w' b0 b1 b2 p vc c m va aQ vf:=
 ⟨h.c0.below b h.c0.lt,h.c1.below b h.c1.lt,h.c2.below b h.c2.lt,aP (Keeps.of_below b) h.rp,bV.keep (Keeps.of_below b) h.gv⟩
theorem Y4 {p:List aj}(h:bD p=0){c k:Int}{m:aC}(hm:bQ p c k=some m):0≤m.locals:=by
 unfold bQ at hm
 split at hm
 ·cases hx:p[c.toNat]? with
  | none => rw [hx] at hm; cases hm
  | some x =>
   rw [hx,Option.bind_some] at hm;have hb:=vO.1 (Hy h hx hm);obtain⟨_,_,a3,ha,hr,hl,AA,hs0,hs8⟩:=hb;omega
 ·cases hm
def Xk (r:Option aJ)(m:aC)(b3:Nat)(w w':World)(e:Ending):Prop:=
 (∀s',r=some s'→∃v,e= .returned (.tuple #[])∧ak w' b3 36 [v]∧lT w' w.heap.size v (dX m s' m.code.length))∧(r=none→e= .panicked (jB 5)∧ak w' b3 36 [.slice none 0 0])∧ay (fun k=>k=b3) w w'
theorem ahf (p:List aj)(vc:Value)(c:Int)(m:aC)(va aQ vf:Value)(b0 b1 b2 b3:Nat)(w:World)(h:Ji w b0 b1 b2 p vc c m va aQ vf)(hb3:ak w b3 36 [.slice none 0 0])(G:Good p)(hc0:0≤c)(hc1:c<(p.length:Int))(O:Gw p c m)(hl0:0≤m.locals)(N:Nat)(r:Option aJ)(hN:jC p m N (dK sv0 0 (dO c m))=some r) :
  Calls Tryz.prog 40 #[.pointer (some ⟨b0,0,none⟩),.pointer (some ⟨b1,0,none⟩),.pointer (some ⟨b2,0,none⟩),.pointer (some ⟨b3,0,none⟩)] w fun e w'=>Xk r m b3 w w' e:=by
 have H:=hide h;have HN:=hide hN;obtain⟨pa,_,_,aA,rfl,_⟩:=h.rp;obtain⟨hva,kG,hvf⟩:=h.gv;obtain⟨aa,_,_,aI,rfl,_⟩:=hva;obtain⟨ca,_,_,aF,rfl,_⟩:=kG;obtain⟨fa,_,_,aG,rfl,_⟩:=hvf;have q0:w.cell? ⟨b0,0,none⟩=some (.slice pa p.length aA):=h.c0.cell 0;have q1:w.cell? ⟨b1,0,none⟩=some (.int .i64 c):=h.c1.cell 0;have m0:w.cell? ⟨b2,0,none⟩=some (.int .i64 m.slot):=h.c2.cell 0;have m1:w.cell? ⟨b2,1,none⟩=some (.slice aa m.args.length aI):=h.c2.cell 1;have m2:w.cell? ⟨b2,2,none⟩=some (.int .i64 m.ret):=h.c2.cell 2;have m3:w.cell? ⟨b2,3,none⟩=some (.int .i64 m.locals):=h.c2.cell 3;have m4:w.cell? ⟨b2,4,none⟩=some (.int .i64 m.stack):=h.c2.cell 4
 have m5:w.cell? ⟨b2,5,none⟩=some (.slice ca m.code.length aF):=h.c2.cell 5;have m6:w.cell? ⟨b2,6,none⟩=some (.slice fa m.frames.length aG):=h.c2.cell 6;clear h hN;go_enter Tryz.func40,Tryz.ntmps40
 go_wp2_with fail
 refine (acG p _ c m _ _ _ _ (ah H).rp (ah H).gv G hc0 hc1 O hl0 N r (ah HN)).mono ?_;rintro e w1 ⟨h1,h2,hb⟩;have B3:=hb3.below hb hb3.lt;have l3:=hb3.lt;clear q0 q1 m0 m1 m2 m3 m4 m5 m6 HN
 cases r with
 | none =>
  obtain rfl:=h2 rfl;clear h1 h2;go_wp2_with fail
  exact⟨rfl,fun s' e=>(by cases e),fun _=>⟨rfl,B3⟩,fB hb⟩
 | some s' =>
  obtain⟨v,rfl,cs,hO,hF,hD⟩:=h1 s' rfl;obtain⟨ra,jA,rfl⟩:=cZ hO;have c3:w1.cell? ⟨b3,0,none⟩=some (.slice none 0 0):=B3.cell 0;have f3:=B3.frozen 0;have hM:ay (fun k=>k=b3) w1 (w1.setCell ⟨b3,0,none⟩ (.slice ra (dX m s' m.code.length).length jA)):=(ay.refl (fun k=>k=b3) w1).setCell (p:=⟨b3,0,none⟩) (fun _=>rfl) _
  have HF:Hid (Xk (some s') m b3 w (w1.setCell ⟨b3,0,none⟩ (.slice ra (dX m s' m.code.length).length jA)) (.returned (.tuple #[]))):=by
   refine⟨fun s2 e=>?_,fun e=>(by cases e),(fB hb).trans hM (fun _ _ e=>e)⟩;obtain rfl:=Option.some.inj e;refine⟨_,rfl,B3.setCell 0 _,cs,eP hO hM (fun g hg e=>by have:=(hO.lt g hg).1;omega),gG.mods hM _ _ hF (fun g hg e=>by have:=(gG.lt _ _ hF g hg).1;omega),hD⟩
  clear h1 h2 hO hF hD hM;go_wp2_with fail
  go_end0;exact ah HF
def Rh (r:Option aJ)(m:aC)(b3:Nat)(w w':World)(e:Ending):Prop:=
 (∀s',r=some s'→∃v,e= .returned (.int .i64 0)∧ak w' b3 36 [v]∧lT w' w.heap.size v (dX m s' m.code.length))∧(r=none→e= .returned (.int .i64 5)∧ak w' b3 36 [.slice none 0 0])∧ay (fun k=>k=b3) w w'
theorem ahh (p:List aj)(vc:Value)(c:Int)(m:aC)(va aQ vf:Value)(b0 b1 b2 b3:Nat)(w:World)(h:Ji w b0 b1 b2 p vc c m va aQ vf)(hb3:ak w b3 36 [.slice none 0 0])(G:Good p)(hc0:0≤c)(hc1:c<(p.length:Int))(O:Gw p c m)(hl0:0≤m.locals)(N:Nat)(r:Option aJ)(hN:jC p m N (dK sv0 0 (dO c m))=some r) :
  Calls Tryz.prog 36 #[.func (.func 40) #[] #[.pointer (some ⟨b0,0,none⟩),.pointer (some ⟨b1,0,none⟩),.pointer (some ⟨b2,0,none⟩),.pointer (some ⟨b3,0,none⟩)]] w fun e w'=>Rh r m b3 w w' e:=by
 have hmf:∀(fn:Fn) (first cap:Array Value) (w:World),(Instr.makeFunc fn first cap).run Tryz.prog w= .ok (.func fn first cap) w:=fun _ _ _ _=>rfl;have H1:=hide (h.below (aS w (.cells #[.int .i64 0] 26)));have HB3:=hide (hb3.alloc (.cells #[.int .i64 0] 26));have be:=ak.new w #[.int .i64 0] 26;have hbw:=aS w (.cells #[.int .i64 0] 26);have HN:=hide hN;have l3:=hb3.lt;clear h hb3 hN
 go_enter_defers Tryz.func36,Tryz.ntmps36
 go_wp2_with fail
 generalize w.alloc _=W at *;refine Calls.mono (ahf p vc c m va aQ vf b0 b1 b2 b3 _ (ah H1) (ah HB3) G hc0 hc1 O hl0 N r (ah HN)) ?_;rintro e w1 ⟨h1,h2,hM⟩;have zQ:=be.mods hM (by omega);have c0:w1.cell? ⟨w.heap.size,0,none⟩=some (.int .i64 0):=zQ.cell 0;have f0:=zQ.frozen 0;have HM:=hide ((fB (S:=fun k=>k=b3) hbw).trans hM (fun _ _ e=>e));have hsz:=hbw.size;clear HN
 cases r with
 | none =>
  obtain⟨rfl,B3⟩:=h2 rfl;clear h1 h2 hM;go_wp2_with fail
  refine leaves_cons (f:=72) (args:= #[.pointer (some ⟨w.heap.size,0,none⟩)]) (by simp) (by simp [go_sem]) ?_;refine (X8 ⟨w.heap.size,0,none⟩ 5 0 _ c0 f0).mono ?_;rintro e u' w2 ⟨rfl,rfl,rfl⟩;have Z0:=((zQ.alloc (.cells #[.int .i64 5] 119)).setCell 0 (.int .i64 5)).cell 0;have Z2:=((ah HM).alloc (.cells #[.int .i64 5] 119)).setCell (p:=⟨w.heap.size,0,none⟩) (fun h=>absurd h (Nat.lt_irrefl _)) (.int .i64 5);have Z3:=(B3.alloc (.cells #[.int .i64 5] 119)).iq (p:=⟨w.heap.size,0,none⟩) (by dsimp only;omega) (.int .i64 5);generalize World.setCell _ _ _=Z at Z0 Z2 Z3 ⊢;replace Z0:Z.cell? ⟨w.heap.size,0,none⟩=some (.int .i64 5):=Z0
  have HF:Hid (Rh none m b3 w Z (.returned (.int .i64 5))):=⟨fun s' e=>(by cases e),fun _=>⟨rfl,Z3⟩,Z2⟩;clear c0 f0;simp [Leaves,settle,results,Tryz.results36,go_sem,Z0];exact ah HF
 | some s' =>
  obtain⟨v,rfl,B3,cs,hO,hF,hD⟩:=h1 s' rfl;have Qz:=hide (And.intro hO (And.intro hF hD));clear h1 h2 hM hO hF hD;go_wp2_with fail
  have Z0:=(zQ.setCell 0 (.int .i64 0)).cell 0;have Z2:=(ah HM).setCell (p:=⟨w.heap.size,0,none⟩) (fun h=>absurd h (Nat.lt_irrefl _)) (.int .i64 0);have Z3:=B3.iq (p:=⟨w.heap.size,0,none⟩) (by dsimp only;omega) (.int .i64 0);have EY:ay (fun k=>k=w.heap.size) w1 (w1.setCell ⟨w.heap.size,0,none⟩ (.int .i64 0)):=(ay.refl (fun k=>k=w.heap.size) w1).setCell (p:=⟨w.heap.size,0,none⟩) (fun _=>rfl) _;generalize World.setCell _ _ _=Z at Z0 Z2 Z3 EY ⊢;replace Z0:Z.cell? ⟨w.heap.size,0,none⟩=some (.int .i64 0):=Z0
  have HF:Hid (Rh (some s') m b3 w Z (.returned (.int .i64 0))):=by
   have hWs:=be.lt;refine⟨fun s2 e=>?_,fun e=>(by cases e),Z2⟩;obtain rfl:=Option.some.inj e;obtain⟨hO,hF,hD⟩:=ah Qz;refine⟨_,rfl,Z3,cs,own_base (eP hO EY (fun g hg e=>by have:=(hO.lt g hg).1;omega)) hsz,gG.base hsz _ _ (gG.mods EY _ _ hF (fun g hg e=>by have:=(gG.lt _ _ hF g hg).1;omega)),hD⟩
  clear c0 f0;refine leaves_cons (f:=72) (args:= #[.pointer (some ⟨w.heap.size,0,none⟩)]) (by simp) (by simp [go_sem]) ?_;refine (catch_idle ⟨w.heap.size,0,none⟩ _).mono ?_;rintro e u' w2 ⟨rfl,rfl,rfl⟩;simp [Leaves,settle,results,Tryz.results36,go_sem,Z0];exact ah HF
def JD (p:List aj)(c k:Int)(r:Option aJ)(w w':World)(e:Ending):Prop:=
 (bD p≠0→e= .returned (.tuple #[.slice none 0 0,.int .i64 (bD p)]))∧(bD p=0→bQ p c k=none→e= .returned (.tuple #[.slice none 0 0,.int .i64 4]))∧
  (bD p=0→∀m,bQ p c k=some m→(r=none→e= .returned (.tuple #[.slice none 0 0,.int .i64 5]))∧(∀s,r=some s→∃v,e= .returned (.tuple #[v,.int .i64 0])∧lT w' w.heap.size v (dX m s m.code.length)))∧Below w.heap.size w w'
theorem Yz (p:List aj)(vc:Value)(c k:Int)(w:World)(hp:aX w vc p)(hwf:jq p)(hz:bn p≤4194304)(N:Nat)(r:Option aJ)(hT:∀m,bD p=0→bQ p c k=some m→jC p m N (dK sv0 0 (dO c m))=some r) :
  Calls Tryz.prog 18 #[.agg #[vc],.int .i64 c,.int .i64 k] w fun e w'=>JD p c k r w w' e:=by
 have hmf:∀(fn:Fn) (first cap:Array Value) (w:World),(Instr.makeFunc fn first cap).run Tryz.prog w= .ok (.func fn first cap) w:=fun _ _ _ _=>rfl;have HP:=hide hp;obtain⟨pa,_,_,aA,rfl,_⟩:=hp;have hbel:Below w.heap.size w ((w.alloc (.cells #[.slice pa p.length aA] 24)).alloc (.cells #[.int .i64 c] 3)):=dS _ _ _;have B0:ak ((w.alloc (.cells #[.slice pa p.length aA] 24)).alloc (.cells #[.int .i64 c] 3)) w.heap.size 24 [.slice pa p.length aA]:=(ak.new w _ _).alloc _
 have B1:ak ((w.alloc (.cells #[.slice pa p.length aA] 24)).alloc (.cells #[.int .i64 c] 3)) (w.heap.size+1) 3 [.int .i64 c]:=by
  have:=ak.new (w.alloc (.cells #[.slice pa p.length aA] 24)) #[.int .i64 c] 3;rw [World.size_alloc] at this;exact this
 have jc:=hide (aP (Keeps.of_below hbel) (ah HP));go_enter Tryz.func18,Tryz.ntmps18
 go_wp2_with fail
 refine (aeJ p _ c k _ (ah jc) hwf hz).mono ?_;rintro e w1 ⟨h1,h2,h3,hb1⟩;replace B0:=B0.below hb1 B0.lt;replace B1:=B1.below hb1 B1.lt;have hbw:=hbel.trans (hb1.mono hbel.size)
 by_cases hF:bD p=0
 ·cases hm:bQ p c k with
  | none =>
   obtain rfl:=h2 hF hm;have kN:=hide (And.intro hF hm);clear h1 h2 h3 hF hm;go_wp2_with (refine iZ nH (ak.new _ _ _) 0 jE rfl (by simp) Eb (.tmp 8) (.tmp 16) rfl rfl rfl rfl ?_;intro w3 hB3 dh hs3)
   refine bodyPost_ret (results_tmp2 rfl _ _ _) rfl ?_;have hb3:=(aS w1 _).trans (dh.below (by simp) (fun k hk e=>by omega));exact⟨fun e=>absurd (ah kN).1 e,fun _ _=>rfl,fun _ m e=>(by rw [(ah kN).2] at e;cases e),hbw.trans (hb3.mono hbw.size)⟩
  | some m =>
   obtain⟨va,aQ,vf,rfl,hv⟩:=h1 m hF hm;obtain⟨o0,o1,O⟩:=qY hF hm;have hl0:=Y4 hF hm;have G:=CW hF hz;have hN:=hT m hF hm;have kN:=hide (And.intro hF hm);have HV:=hide (bV.keep (Keeps.of_below hb1) hv);clear h1 h2 h3 hF hm;unfold bP;obtain⟨hva,kG,hvf⟩:=hv;obtain⟨aa,_,_,aI,rfl,_⟩:=hva;obtain⟨ca,_,_,aF,rfl,_⟩:=kG;obtain⟨fa,_,_,aG,rfl,_⟩:=hvf
   have hone:∀v∈[Value.int .i64 m.slot,.slice aa m.args.length aI,.int .i64 m.ret,.int .i64 m.locals,.int .i64 m.stack,.slice ca m.code.length aF,.slice fa m.frames.length aG],v.oneCell'=true:=fun v hv=>by
    simp only [List.mem_cons,List.not_mem_nil,or_false] at hv
    rcases hv with rfl | rfl | rfl | rfl | rfl | rfl | rfl <;> rfl
   have MS:=hide hN;have HHT:=hide hT;clear hN hT;go_wp2_with (refine iZ nH (ak.new _ _ _) 0 _ rfl (by simp) hone (.tmp 8) (.tmp 16) rfl rfl rfl rfl ?_;intro w3 hB3 dh hs3)
   rw [gB (by rfl)] at hB3;have hb3:=(aS w1 _).trans (dh.below (by simp) (fun k hk e=>by omega));have hbw3:=hbw.trans (hb3.mono hbw.size);rw [World.size_alloc] at hs3;have hb4:=hb3.trans ((aS w3 (.cells #[.slice none 0 0] 36)).mono hb3.size);have jM:=hbw.trans (hb4.mono hbw.size);have B3:=ak.new w3 #[.slice none 0 0] 36;rw [hs3] at B3;have hw1:=hbw.size;refine (ahh p _ c m _ _ _ w.heap.size (w.heap.size+1) w1.heap.size (w1.heap.size+1) _ ⟨B0.below hb4 B0.lt,B1.below hb4 B1.lt,hB3.alloc _,aP (Keeps.of_below jM) (ah HP),bV.keep (Keeps.of_below hb4) (ah HV)⟩ B3 G o0 o1 O hl0 N r (ah MS)).mono ?_;rintro e w5 ⟨g1,g2,bU⟩
   have hb5:Below w.heap.size w w5:=jM.trans (bU.below jM.size (fun k hk e=>by omega));clear MS HHT hB3 dh hb3 hbw3 hb4 hone
   cases r with
   | none =>
    obtain⟨rfl,C3⟩:=g2 rfl;have c3:w5.cell? ⟨w1.heap.size+1,0,none⟩=some (.slice none 0 0):=C3.cell 0
    have HF:Hid (JD p c k none w w5 (.returned (.tuple #[.slice none 0 0,.int .i64 5]))):=
     ⟨fun e=>absurd (ah kN).1 e,fun _ e=>(by rw [(ah kN).2] at e;cases e),fun _ m2 e=>⟨fun _=>rfl,fun s e=>(by cases e)⟩,hb5⟩
    clear g1 g2;go_wp2_with fail
    refine bodyPost_ret (results_tmp2 rfl _ _ _) rfl ?_;exact ah HF
   | some s =>
    obtain⟨v,rfl,C3,hFr⟩:=g1 s rfl;obtain⟨ra,jA,hv⟩:=cZ hFr.choose_spec.1;have c3:w5.cell? ⟨w1.heap.size+1,0,none⟩=some v:=C3.cell 0;rw [hv] at c3
    have HF:Hid (JD p c k (some s) w w5 (.returned (.tuple #[v,.int .i64 0]))):=by
     refine⟨fun e=>absurd (ah kN).1 e,fun _ e=>(by rw [(ah kN).2] at e;cases e),fun _ m2 e=>⟨fun e=>(by cases e),fun s' e'=>?_⟩,hb5⟩;obtain rfl:=Option.some.inj e';rw [(ah kN).2] at e;obtain rfl:=Option.some.inj e;obtain⟨cs,hO,hC,hD⟩:=hFr;exact⟨_,rfl,cs,own_base hO jM.size,gG.base jM.size _ _ hC,hD⟩
    rw [hv] at HF;clear g1 g2 hFr hv;go_wp2_with fail
    refine bodyPost_ret (results_tmp2 rfl _ _ _) rfl ?_;exact ah HF
 ·obtain rfl:=h3 hF;have yA:=hide hF;have hF':(bD p != 0)=true:=by simpa using hF
  clear h1 h2 h3 hF;go_wp2_with (refine iZ nH (ak.new _ _ _) 0 jE rfl (by simp) Eb (.tmp 8) (.tmp 16) rfl rfl rfl rfl ?_;intro w3 hB3 dh hs3)
  refine bodyPost_ret (results_tmp2 rfl _ _ _) rfl ?_;have hb3:=(aS w1 _).trans (dh.below (by simp) (fun k hk e=>by omega));exact⟨fun _=>rfl,fun e=>absurd e (ah yA),fun e=>absurd e (ah yA),hbw.trans (hb3.mono hbw.size)⟩
end Go.Proofs.YtiiokkllmchohaaGreat
