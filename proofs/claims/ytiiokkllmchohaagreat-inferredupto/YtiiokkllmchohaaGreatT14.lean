/- Walks of the code's own tests: all classes. -/
import Derived.Laws.DeepNot64
import Derived.Defers
import Derived.Recover
import Derived.Test.YtiiokkllmchohaaGreatT01
import Derived.Test.YtiiokkllmchohaaGreatT03
import Derived.Test.YtiiokkllmchohaaGreatT07
import Derived.Test.YtiiokkllmchohaaGreatT12
import Derived.Test.YtiiokkllmchohaaGreatT13
set_option maxHeartbeats 4000000
set_option maxRecDepth 100000
namespace Go.Proofs.YtiiokkllmchohaaGreat
open Go.RowKit
attribute [local go_sem ↓] Go.wp_at_zero Go.wp_at_succ
def wR (p:List aj)(c:Nat):Bool:=match p[c]? with
 | none => true
 | some x => (decide ((fieldsOf p c).length ≤ 8) && x.fields.all (fF p.length)) && (decide (x.aB.length ≤ 6) && (List.range x.aB.length).all (Au p x))
theorem Nw {p:List aj}{c:Nat}{x:aj}(h:p[c]? =some x):wR p c=((decide ((fieldsOf p c).length≤8) && x.fields.all (fF p.length)) && (decide (x.aB.length≤6) && (List.range x.aB.length).all (Au p x))):=by unfold wR;rw [h]
def uG (p:List aj):Bool:= !(decide (p.length<1) || decide (6<p.length)) && ((List.range p.length).all (qF p) && (List.range p.length).all (wR p))
theorem aex (p:List aj)(c:Nat):uD p c=(qF p c && wR p c):=by
 cases h:p[c]? with
 | none => unfold uD qF wR; rw [h]; rfl
 | some x =>
  have e:rU p c x=wR p c:=by
   rw [Nw h]
   show (x.fields.all (fF p.length) && decide ((fieldsOf p c).length≤8) && decide (x.aB.length≤6) && (List.range x.aB.length).all (Au p x))=_
   cases x.fields.all (fF p.length) <;> cases decide ((fieldsOf p c).length≤8) <;> cases decide (x.aB.length≤6) <;> rfl
  show (match p[c]? with | none=>true | some x=>nP c x && rU p c x)=_
  rw [h,PN h,←e]
theorem adD {α :Type}(l:List α)(f g: α→Bool):l.all (fun a=>f a && g a)=(l.all f && l.all g):=by
 induction l with
 | nil => rfl
 | cons a r ih => rw [List.all_cons, List.all_cons, List.all_cons, ih]; cases f a <;> cases g a <;> cases r.all f <;> rfl
theorem afY (p:List aj):bD p=if uG p=true then (if p.all (fun x=>x.aB.all (iL p))=true then 0 else 3) else 2:=by
 have e:(List.range p.length).all (uD p)=((List.range p.length).all (qF p) && (List.range p.length).all (wR p)):=by
  rw [←adD];congr 1;funext c;exact aex p c
 unfold bD uG;rw [e]
 by_cases h:p.length<1∨6<p.length
 ·rw [if_pos h];have:(decide (p.length<1) || decide (6<p.length))=true:=by simpa using h
  rw [this];rfl
 ·rw [if_neg h];have:(decide (p.length<1) || decide (6<p.length))=false:=by simpa using h
  rw [this];rfl
theorem acF {p:List aj}(h:(List.range p.length).all (qF p)=true):aU p p.length:=by
 intro c x hc hx;rw [List.all_eq_true] at h;have:=h c (List.mem_range.2 hc)
 rwa [PN hx] at this
theorem YD {p:List aj}{q:Bool}(h:(List.range p.length).all (qF p)=q)(vc:Value)(w:World)(hp:aX w vc p)(hz:bn p≤4194304) :
  Calls Tryz.prog 128 #[.agg #[vc]] w fun e w'=>e= .returned (.bool q)∧Below w.heap.size w w':=h▸ae5 p vc w hp hz
theorem Yu {p:List aj}{c:Nat}{x:aj}{q:Bool}(h:(decide ((fieldsOf p c).length≤8) && x.fields.all (fF p.length))=q)(vc:Value)(w:World)(hp:aX w vc p)(hs:aU p p.length)(hX:p[c]? =some x)(hwf:jq p)(hz:bn p≤4194304) :
  Calls Tryz.prog 129 #[.agg #[vc],.int .i64 c] w fun e w'=>e= .returned (.bool q)∧Below w.heap.size w w':=h▸aeI p vc c x w hp hs hX hwf hz
theorem YC {p:List aj}{x:aj}{q:Bool}(h:(decide (x.aB.length≤6) && (List.range x.aB.length).all (Au p x))=q)(vc:Value)(c:Nat)(w:World)(hp:aX w vc p)(hs:aU p p.length)(hX:p[c]? =some x)(hwf:jq p)(hz:bn p≤4194304) :
  Calls Tryz.prog 130 #[.agg #[vc],.int .i64 c] w fun e w'=>e= .returned (.bool q)∧Below w.heap.size w w':=h▸aeY p vc c x w hp hs hX hwf hz

theorem aeE (p:List aj)(vc:Value)(w:World)(hp:aX w vc p)(hwf:jq p)(hz:bn p≤4194304) :
  Calls Tryz.prog 68 #[.agg #[vc]] w fun e w'=>e= .returned (.bool (uG p))∧Below w.heap.size w w':=by
 have hpl:p.length≤4194304:=Nat.le_trans (eG p) hz;have HP:=hide hp;obtain⟨pa,pb,dB,aA,rfl,_⟩:=hp
 by_cases g1:p.length<1
 ·have g1':(p.length:Int)<1:=by omega
  have HF:=hide (show uG p=false by unfold uG;rw [decide_eq_true g1];rfl);go_enter Tryz.func68,Tryz.ntmps68
  go_wp2_with fail
  go_ret;exact⟨aT (ah HF).symm,aS _ _⟩
 by_cases g2:6<p.length
 ·have g1':¬(p.length:Int)<1:=by omega
  have g2':(6:Int)<p.length:=by omega
  have HF:=hide (show uG p=false by unfold uG;rw [decide_eq_true g2,Bool.or_true];rfl);go_enter Tryz.func68,Tryz.ntmps68
  go_wp2_with fail
  go_ret;exact⟨aT (ah HF).symm,aS _ _⟩
 have g1':¬(p.length:Int)<1:=by omega
 have g2':¬(6:Int)<p.length:=by omega
 have HC:=hide (show uG p=((List.range p.length).all (qF p) && (List.range p.length).all (wR p)) by unfold uG;rw [decide_eq_false g1,decide_eq_false g2];rfl);go_enter Tryz.func68,Tryz.ntmps68
 go_wp2_with fail
 generalize hW:w.alloc _=W;have hbel:Below w.heap.size w W:=by rw [←hW];exact aS _ _
 have hbox:W.cell? ⟨w.heap.size,0,none⟩=some (.slice pa p.length aA):=by rw [←hW];exact iK _ _ _ 0
 clear hW
 cases hsup:(List.range p.length).all (qF p)
 ·refine (YD hsup _ _ (aP (Keeps.of_below hbel) (ah HP)) hz).mono ?_;rintro e w1 ⟨rfl,hb1⟩;go_wp2_with fail
  go_ret;exact⟨aT (by rw [ah HC,hsup];rfl),hbel.trans (hb1.mono hbel.size)⟩
 refine (YD hsup _ _ (aP (Keeps.of_below hbel) (ah HP)) hz).mono ?_;rintro e w1 ⟨rfl,hb1⟩;have hS:=acF hsup;have HSU:=hide hsup;have b1:=Keeps.of_below hb1 _ _ hbox;have hf1:=hbel.trans (hb1.mono hbel.size);clear hsup hb1 hbel hbox;go_wp2_with fail
 go_loopw [20] (fun s wr=>∃c:Nat,c≤p.length∧s= .int .i64 c∧(List.range c).all (wR p)=true∧Below w1.heap.size w1 wr) (fun s _=>p.length-(intOf s).toNat)
 case atStart=>exact ⟨0,Nat.zero_le _,rfl,rfl,Below.refl _ _⟩
 case round=>
  obtain⟨c,hc,rfl,hall,hbr⟩:=hrel;have HA:=hide hall;clear hall;have hfin:Below w.heap.size w wr:=hf1.trans (hbr.mono hf1.size)
  by_cases hlt:c<p.length
  ·have HX:=hide (List.getElem?_eq_getElem hlt);generalize p[c]=x at *;have e0:=Keeps.of_below hbr _ _ b1;have kP:=hide (aP (Keeps.of_below hfin) (ah HP));go_wp2_with fail
   cases hq1:(decide ((fieldsOf p c).length≤8) && x.fields.all (fF p.length))
   ·refine (Yu hq1 _ _ (ah kP) hS (ah HX) hwf hz).mono ?_;rintro e w2 ⟨rfl,hb2⟩;go_wp2_with fail
    go_ret;exact⟨aT (by rw [ah HC,FN (f:=wR p) hlt (by rw [Nw (ah HX),hq1];rfl),Bool.and_false]),hfin.trans (hb2.mono hfin.size)⟩
   refine (Yu hq1 _ _ (ah kP) hS (ah HX) hwf hz).mono ?_;rintro e w2 ⟨rfl,hb2⟩;have e1:=Keeps.of_below hb2 _ _ e0;have ZR:=hbr.trans (hb2.mono hbr.size);have hf2:=hfin.trans (hb2.mono hfin.size);have WZ:=hide (aP (Keeps.of_below hf2) (ah HP));clear e0 hb2 hbr hfin;go_wp2_with fail
   cases hq2:(decide (x.aB.length≤6) && (List.range x.aB.length).all (Au p x))
   ·refine (YC hq2 _ _ _ (ah WZ) hS (ah HX) hwf hz).mono ?_;rintro e w3 ⟨rfl,hb3⟩;go_wp2_with fail
    go_ret;exact⟨aT (by rw [ah HC,FN (f:=wR p) hlt (by rw [Nw (ah HX),hq2,Bool.and_false]),Bool.and_false]),hf2.trans (hb3.mono hf2.size)⟩
   ·refine (YC hq2 _ _ _ (ah WZ) hS (ah HX) hwf hz).mono ?_;rintro e w3 ⟨rfl,hb3⟩;go_wp2_with fail
    exact⟨⟨c+1,by omega,by go_num,by rw [Ph,ah HA,Nw (ah HX),hq1,hq2];rfl,ZR.trans (hb3.mono ZR.size)⟩,by simp [intOf];omega⟩
  ·go_wp2
   go_ret;have:c=p.length:=by omega
   subst this;exact⟨aT (by rw [ah HC,ah HSU,ah HA];rfl),hfin⟩

theorem aeN (p:List aj)(vc:Value)(c:Nat)(slot:Int)(w:World)(hp:aX w vc p)(hs:aU p p.length)(hc:c<p.length)(hz:bn p≤4194304) :
  Calls Tryz.prog 221 #[.agg #[vc],.int .i64 c,.int .i64 slot] w fun e w'=>e= .returned (.bool (fO p c slot).isSome)∧Below w.heap.size w w':=by
 have HP:=hide hp;obtain⟨pa,pb,dB,aA,rfl,_⟩:=hp;go_enter Tryz.func221,Tryz.ntmps221
 go_wp2_with fail
 generalize hW:w.alloc _=W;have hbel:Below w.heap.size w W:=by rw [←hW];exact aS _ _
 clear hW;refine (aeK p _ p.length _ _ _ (aP (Keeps.of_below hbel) (ah HP)) hs (Nat.le_refl _) (by omega) (by omega) hz).mono ?_;rintro e w1 ⟨o,oa,oc,of,rP,uQ,uS,rfl,hfm,hb1⟩;go_wp2_with fail
 go_ret;have h:=hbel.trans (hb1.mono hbel.size);exact⟨rfl,h.alloc h.size _⟩
theorem J8 {p:List aj}{c:Int}{q:Bool}(h:dV c p.length=q)(vc:Value)(w:World)(hp:aX w vc p)(hl:p.length≤4194304) :
  Calls Tryz.prog 108 #[.agg #[vc],.int .i64 c] w fun e w'=>e= .returned (.bool q)∧Below w.heap.size w w':=h▸Yx p vc c w hp hl

theorem aeU (p:List aj)(vc:Value)(m:aC)(aa ca fa:Option Addr)(al aI aF fl aG:Nat)(op a b:Int)(w:World)(hp:aX w vc p)(hz:bn p≤4194304)(_hcl:m.code.length≤4194304)
  (h10:op≠10) (h11:op≠11) (h12:op≠12) :
  Calls Tryz.prog 188 (rG vc m aa ca fa al aI aF fl aG op a b) w fun e w'=>e= .returned (.bool (bC p m ⟨op,a,b⟩))∧Below w.heap.size w w':=by
 have hpl:p.length≤4194304:=Nat.le_trans (eG p) hz;have HP:=hide hp;obtain⟨pa,pb,dB,aA,rfl,Dy,hpa,hpr⟩:=aZ hp;clear hpr hpa hp;unfold rG
 by_cases h0:op=0
 ·subst h0;go_enter Tryz.func188,Tryz.ntmps188
  go_wp2
  go_ret;exact⟨aT (by simp [bC]),iW _ _ _ _⟩
 by_cases h1:op=1∨op=2
 ·have HD:=hide (show bC p m ⟨op,a,b⟩=(dV a m.locals && b == 0) by unfold bC;rcases h1 with rfl | rfl <;> simp)
  cases hq:dV a m.locals <;> rcases h1 with rfl | rfl <;>
  ·go_enter Tryz.func188,Tryz.ntmps188
   go_wp2_with (go_at_call 182;refine (Ac hq _).mono ?_;rintro e w' ⟨rfl,rfl⟩)
   go_ret;exact⟨aT (by rw [ah HD,hq];rfl),iW _ _ _ _⟩
 by_cases h7:op=7∨op=8∨op=18
 ·have HD:=hide (show bC p m ⟨op,a,b⟩=(dV a m.code.length && b == 0) by unfold bC;rcases h7 with rfl | rfl | rfl <;> simp)
  cases hq:dV a m.code.length <;> rcases h7 with rfl | rfl | rfl <;>
  ·go_enter Tryz.func188,Tryz.ntmps188
   go_wp2_with (go_at_call 182;refine (Ac hq _).mono ?_;rintro e w' ⟨rfl,rfl⟩)
   go_ret;exact⟨aT (by rw [ah HD,hq];rfl),iW _ _ _ _⟩
 by_cases h9:op=9∨op=17
 ·have HD:=hide (show bC p m ⟨op,a,b⟩=(dV a p.length && b == 0) by unfold bC;rcases h9 with rfl | rfl <;> simp)
  cases hq:dV a p.length <;> rcases h9 with rfl | rfl <;>
  ·go_enter Tryz.func188,Tryz.ntmps188
   go_wp2_with fail
   generalize hW:((w.alloc _).alloc _).alloc _=W;have hbel:Below w.heap.size w W:=by rw [←hW];exact iW _ _ _ _
   have i2:W.cell? ⟨w.heap.size+1+1,2,none⟩=some (.int .i64 b):=by rw [←hW];exact uy _ _ _ _ _ 2
   clear hW;refine (J8 hq _ _ (aP (Keeps.of_below hbel) (ah HP)) hpl).mono ?_;rintro e w1 ⟨rfl,hb1⟩;have i3:=Keeps.of_below hb1 _ _ i2;go_wp2_with fail
   go_ret;exact⟨aT (by rw [ah HD,hq];rfl),hbel.trans (hb1.mono hbel.size)⟩
 have hdef:bC p m ⟨op,a,b⟩=(dV op 21 && a == 0 && b == 0):=by
  unfold bC;have e1:¬(op=1∨op=2):=h1;have e2:¬(op=7∨op=8∨op=18):=h7;have e3:¬(op=9∨op=17):=h9;have e4:¬(op=10∨op=11):=by omega
  simp only [h0,e1,e2,e3,e4,h12,if_false]
 have HD:=hide hdef;clear hdef;have n1:op≠1:=by omega
 have n2:op≠2:=by omega
 have n7:op≠7:=by omega
 have n8:op≠8:=by omega
 have n18:op≠18:=by omega
 have n9:op≠9:=by omega
 have n17:op≠17:=by omega
 clear h1 h7 h9
 by_cases hin:op=3∨op=4∨op=5∨op=6∨op=13∨op=14∨op=15∨op=16∨op=19∨op=20
 ·have HD2:=hide (show bC p m ⟨op,a,b⟩=(a == 0 && b == 0) by rw [ah HD,oU.2 (by omega:0≤op∧op<21),Bool.true_and]);clear HD
  cases ha0:(a == 0) <;> rcases hin with rfl | rfl | rfl | rfl | rfl | rfl | rfl | rfl | rfl | rfl <;>
  ·go_enter Tryz.func188,Tryz.ntmps188
   go_wp2_with fail
   go_ret;exact⟨aT (by rw [ah HD2,ha0];rfl),iW _ _ _ _⟩
 ·have HD2:=hide (show bC p m ⟨op,a,b⟩=false by rw [ah HD,show dV op 21=false from Bool.eq_false_iff.2 (fun e=>by have:=oU.1 e;omega)];rfl);clear HD;have k3:(op == 3)=false:=by simp;omega
  have k4:(op == 4)=false:=by simp;omega
  have k5:(op == 5)=false:=by simp;omega
  have k6:(op == 6)=false:=by simp;omega
  have k13:(op == 13)=false:=by simp;omega
  have k14:(op == 14)=false:=by simp;omega
  have k15:(op == 15)=false:=by simp;omega
  have k16:(op == 16)=false:=by simp;omega
  have k19:(op == 19)=false:=by simp;omega
  have k20:(op == 20)=false:=by simp;omega
  have k0:(op == 0)=false:=by simp;omega
  have k1:(op == 1)=false:=by simp;omega
  have k2:(op == 2)=false:=by simp;omega
  have k7:(op == 7)=false:=by simp;omega
  have k8:(op == 8)=false:=by simp;omega
  have k9:(op == 9)=false:=by simp;omega
  have k10:(op == 10)=false:=by simp;omega
  have k11:(op == 11)=false:=by simp;omega
  have k12:(op == 12)=false:=by simp;omega
  have k17:(op == 17)=false:=by simp;omega
  have k18:(op == 18)=false:=by simp;omega
  clear hin n1 n2 n7 n8 n9 n17 n18 h0 h10 h11 h12;go_enter Tryz.func188,Tryz.ntmps188
  go_wp2_with fail
  go_ret;exact⟨aT (ah HD2).symm,iW _ _ _ _⟩
theorem aeO {p:List aj}{c:Nat}{slot:Int}{q:Bool}(h:(fO p c slot).isSome=q)(vc:Value)(w:World)(hp:aX w vc p)(hs:aU p p.length)(hc:c<p.length)(hz:bn p≤4194304) :
  Calls Tryz.prog 221 #[.agg #[vc],.int .i64 c,.int .i64 slot] w fun e w'=>e= .returned (.bool q)∧Below w.heap.size w w':=h▸aeN p vc c slot w hp hs hc hz

theorem aeT (p:List aj)(vc:Value)(m:aC)(aa ca fa:Option Addr)(al aI aF fl aG:Nat)(op a b:Int)(w:World)(hp:aX w vc p)(hs:aU p p.length)(hz:bn p≤4194304)
  (hop:op=10∨op=11) :
  Calls Tryz.prog 188 (rG vc m aa ca fa al aI aF fl aG op a b) w fun e w'=>e= .returned (.bool (bC p m ⟨op,a,b⟩))∧Below w.heap.size w w':=by
 have hpl:p.length≤4194304:=Nat.le_trans (eG p) hz
 have hdef:bC p m ⟨op,a,b⟩=(dV a p.length && dV b (fieldsOf p a).length):=by
  unfold bC
  rcases hop with rfl | rfl <;> simp
 have HD:=hide hdef;clear hdef;have HP:=hide hp;obtain⟨pa,pb,dB,aA,rfl,Dy,hpa,hpr⟩:=aZ hp;clear hpr hpa hp;unfold rG
 cases hpb:dV a p.length
 ·rcases hop with rfl | rfl
  all_goals
   go_enter Tryz.func188,Tryz.ntmps188
   go_wp2_with fail
   generalize hW:((w.alloc _).alloc _).alloc _=W;have hbel:Below w.heap.size w W:=by rw [←hW];exact iW _ _ _ _
   have i0:W.cell? ⟨w.heap.size,0,none⟩=some (.slice pa p.length aA):=by rw [←hW];exact GN _ _ _ _ _ 0
   have i1:W.cell? ⟨w.heap.size+1+1,1,none⟩=some (.int .i64 a):=by rw [←hW];exact uy _ _ _ _ _ 1
   have i2:W.cell? ⟨w.heap.size+1+1,2,none⟩=some (.int .i64 b):=by rw [←hW];exact uy _ _ _ _ _ 2
   clear hW;have jR:=hide (aP (Keeps.of_below hbel) (ah HP));have jd:=hide (And.intro i0 (And.intro i1 i2));refine wp_region_noPanic ?_;refine wp_region_held_drew (S:=(fun w'=>w'.cell? ⟨w.heap.size,0,none⟩=some (.slice pa p.length aA)∧w'.cell? ⟨w.heap.size+1+1,1,none⟩=some (.int .i64 a)∧w'.cell? ⟨w.heap.size+1+1,2,none⟩=some (.int .i64 b))) (by kernel_rfl) ?_ (fun hHeld=>?_)
   ·exact jd.out
   refine dL (some 57) (i:=0) (v:=.agg #[.slice pa p.length aA]) rfl rfl (by kernel_rfl) (by kernel_rfl) (by kernel_rfl) (fun _ _ _ h=>h) (Or.inl ⟨by rfl,fun w' hSw=>by (try dsimp only at hSw);go_simp⟩) (by assumption) ?_;try simp only [Act.put,aK,aO,aN]
   refine dL (some 58) (i:=1) (v:=.pointer (some ⟨w.heap.size+1+1,1,none⟩)) rfl rfl (by kernel_rfl) (by kernel_rfl) (by kernel_rfl) (fun _ _ _ h=>h) (Or.inl ⟨by rfl,fun w' hSw=>by (try dsimp only at hSw);go_simp⟩) (by assumption) ?_;try simp only [Act.put,aK,aO,aN]
   refine dL (some 59) (i:=2) (v:=.int .i64 a) rfl rfl (by kernel_rfl) (by kernel_rfl) (by kernel_rfl) (fun _ _ _ h=>h) (Or.inl ⟨by rfl,fun w' hSw=>by (try dsimp only at hSw);go_simp⟩) (by assumption) ?_;try simp only [Act.put,aK,aO,aN]
   refine aW 3 (fun K hK=>?_);go_simp;refine (J8 hpb _ _ (aP (Keeps.of_below ((Below.refl _ _).drew)) (ah jR)) hpl).mono ?_;rintro e w1 ⟨rfl,hb1⟩;have HB1:=hide (lY hb1);clear hb1;go_wp2_with fail
   refine hK.out _ _ (nS jd.out HB1.out) (fun agl=>?_);clear hK K hHeld;try simp only [Act.put,aK,aO,aN]
   refine dL (some 61) (i:=4) (v:=.bool false) rfl rfl (by kernel_rfl) (by kernel_rfl) (by kernel_rfl) (fun _ _ _ h=>h) (Or.inl ⟨by rfl,fun w' hSw=>by (try dsimp only at hSw);go_simp⟩) (by assumption) ?_;try simp only [Act.put,aK,aO,aN]
   refine gV 62 5 ?_;refine gV 63 6 ?_;refine gV 64 7 ?_;refine gV 65 8 ?_;refine gV 66 9 ?_;refine gV 67 10 ?_;refine gV 68 11 ?_;refine dL (some 69) (i:=12) (v:=.bool false) rfl rfl (by kernel_rfl) (by kernel_rfl) (by kernel_rfl) (fun _ _ _ h=>h) (Or.inl ⟨by rfl,fun w' hSw=>by (try dsimp only at hSw);go_simp⟩) (by assumption) ?_;try simp only [Act.put,aK,aO,aN]
   refine dL (some 6) (i:=13) (v:=.bool false) rfl rfl (by kernel_rfl) (by kernel_rfl) (by kernel_rfl) (fun _ _ _ h=>h) (Or.inl ⟨by rfl,fun w' hSw=>by (try dsimp only at hSw);go_simp⟩) (by assumption) ?_;try simp only [Act.put,aK,aO,aN]
   refine wpAnyH_done (by kernel_rfl) ?_ _;refine NoPanic.normal ?_;go_wp2_with fail
   go_ret;exact⟨aT (by rw [ah HD,hpb];rfl),hbel.trans (HB1.out.mono hbel.size)⟩
 ·obtain⟨k,rfl,hk⟩:=O7 hpb
  cases La:dV b (fieldsOf p k).length <;> rcases hop with rfl | rfl
  all_goals
   go_enter Tryz.func188,Tryz.ntmps188
   go_wp2_with fail
   generalize hW:((w.alloc _).alloc _).alloc _=W;have hbel:Below w.heap.size w W:=by rw [←hW];exact iW _ _ _ _
   have i0:W.cell? ⟨w.heap.size,0,none⟩=some (.slice pa p.length aA):=by rw [←hW];exact GN _ _ _ _ _ 0
   have i1:W.cell? ⟨w.heap.size+1+1,1,none⟩=some (.int .i64 (k:Int)):=by rw [←hW];exact uy _ _ _ _ _ 1
   have i2:W.cell? ⟨w.heap.size+1+1,2,none⟩=some (.int .i64 b):=by rw [←hW];exact uy _ _ _ _ _ 2
   clear hW;have jR:=hide (aP (Keeps.of_below hbel) (ah HP));have jd:=hide (And.intro i0 (And.intro i1 i2))
   go_region_held3 (fun w'=>w'.cell? ⟨w.heap.size,0,none⟩=some (.slice pa p.length aA)∧w'.cell? ⟨w.heap.size+1+1,1,none⟩=some (.int .i64 (k:Int))∧w'.cell? ⟨w.heap.size+1+1,2,none⟩=some (.int .i64 b))
    (first
      | with_reducible exact nS jd.out HB2.out
      | with_reducible exact nS jd.out HB1.out
      | go_keep)
    (first | ((go_at_call 108;refine (J8 hpb _ _ (aP (Keeps.of_below ((Below.refl _ _).drew)) (ah jR)) hpl).mono ?_);rintro e w1 ⟨rfl,hb1⟩;have HB1:=hide (lY hb1);clear hb1)
           | ((go_at_call 183; refine (RU p _ p.length _ _ (aP (Keeps.of_below HB1.out) (ah jR)) hs (Nat.le_refl _) (by omega) (by omega) hz).mono ?_); rintro e w2 ⟨rfl, hb2⟩; have HB2 := hide (HB1.out.trans (hb2.mono HB1.out.size)); clear hb2)
           | ((go_at_call 182; refine (Ac La _).mono ?_); rintro e w3 ⟨rfl, rfl⟩))
   go_wp2_with fail
   go_ret;exact⟨aT (by rw [ah HD,hpb,La];rfl),hbel.trans (HB2.out.mono hbel.size)⟩

theorem aeS (p:List aj)(vc:Value)(m:aC)(aa ca fa:Option Addr)(al aI aF fl aG:Nat)(a b:Int)(w:World)(hp:aX w vc p)(hs:aU p p.length)(hz:bn p≤4194304) :
  Calls Tryz.prog 188 (rG vc m aa ca fa al aI aF fl aG 12 a b) w fun e w'=>e= .returned (.bool (bC p m ⟨12,a,b⟩))∧Below w.heap.size w w':=by
 have hpl:p.length≤4194304:=Nat.le_trans (eG p) hz;have hdef:bC p m ⟨12,a,b⟩=(dV a p.length && (fO p a b).isSome):=by unfold bC;simp
 have HD:=hide hdef;clear hdef;have HP:=hide hp;obtain⟨pa,pb,dB,aA,rfl,Dy,hpa,hpr⟩:=aZ hp;clear hpr hpa hp;unfold rG;go_enter Tryz.func188,Tryz.ntmps188
 go_wp2_with fail
 generalize hW:((w.alloc _).alloc _).alloc _=W;have hbel:Below w.heap.size w W:=by rw [←hW];exact iW _ _ _ _
 have i0:W.cell? ⟨w.heap.size,0,none⟩=some (.slice pa p.length aA):=by rw [←hW];exact GN _ _ _ _ _ 0
 have i1:W.cell? ⟨w.heap.size+1+1,1,none⟩=some (.int .i64 a):=by rw [←hW];exact uy _ _ _ _ _ 1
 have i2:W.cell? ⟨w.heap.size+1+1,2,none⟩=some (.int .i64 b):=by rw [←hW];exact uy _ _ _ _ _ 2
 clear hW
 cases hpb:dV a p.length
 ·refine (J8 hpb _ _ (aP (Keeps.of_below hbel) (ah HP)) hpl).mono ?_;rintro e w1 ⟨rfl,hb1⟩;go_wp2_with fail
  go_ret;exact⟨aT (by rw [ah HD,hpb];rfl),hbel.trans (hb1.mono hbel.size)⟩
 ·refine (J8 hpb _ _ (aP (Keeps.of_below hbel) (ah HP)) hpl).mono ?_;rintro e w1 ⟨rfl,hb1⟩;obtain⟨k,rfl,hk⟩:=O7 hpb;have hk1:=Keeps.of_below hb1;replace i0:=hk1 _ _ i0;replace i1:=hk1 _ _ i1;replace i2:=hk1 _ _ i2;have hf1:=hbel.trans (hb1.mono hbel.size);clear hk1 hb1 hbel;go_wp2_with fail
  refine (aeO rfl _ _ (aP (Keeps.of_below hf1) (ah HP)) hs (by omega) hz).mono ?_;rintro e w2 ⟨rfl,hb2⟩;go_wp2_with fail
  go_ret;exact⟨aT (by rw [ah HD,hpb];rfl),hf1.trans (hb2.mono hf1.size)⟩

theorem aeR (p:List aj)(vc:Value)(m:aC)(aa ca fa:Option Addr)(al aI aF fl aG:Nat)(i:eF)(w:World)(hp:aX w vc p)(hs:aU p p.length)(hz:bn p≤4194304)(hcl:m.code.length≤4194304) :
  Calls Tryz.prog 188 (rG vc m aa ca fa al aI aF fl aG i.op i.a i.b) w fun e w'=>e= .returned (.bool (bC p m i))∧Below w.heap.size w w':=by
 by_cases h1:i.op=10∨i.op=11
 ·exact aeT p vc m aa ca fa al aI aF fl aG i.op i.a i.b w hp hs hz h1
 by_cases h2:i.op=12
 ·have:=aeS p vc m aa ca fa al aI aF fl aG i.a i.b w hp hs hz;rw [←h2] at this;exact this
 ·exact aeU p vc m aa ca fa al aI aF fl aG i.op i.a i.b w hp hz hcl (fun e=>h1 (.inl e)) (fun e=>h1 (.inr e)) h2
theorem RZ {p:List aj}{l:List Int}{q:Bool}(h:l.all (gZ p.length)=q)(vc v:Value)(w:World)(hp:aX w vc p)(hpl:p.length≤4194304)(hl:aV 1 (jL w) v l)(hw:∀x∈l,I64 x)(hs:l.length≤4194304) :
  Calls Tryz.prog 222 #[.agg #[vc],v] w fun e w'=>e= .returned (.bool q)∧Below w.heap.size w w':=h▸aeX p vc l v w hp hpl hl hw hs

def wZ (n:Nat)(m:aC)(f:bF):Bool:=
 decide ((f.locals.length:Int)=m.locals) && decide ((f.stack.length:Int)≤m.stack) && f.locals.all (gZ n) && f.stack.all (gZ n)

theorem aeL (p:List aj)(vc:Value)(m:aC)(va eU dH:Value)(f:bF)(vl vs:Value)(w:World)(hp:aX w vc p)(hm:qg w m va eU dH)(hfl:aV 1 (jL w) vl f.locals)(hfs:aV 1 (jL w) vs f.stack)(hz:bn p≤4194304)(hfz:iH f≤4194304)(hwf:Je f) :
  Calls Tryz.prog 189 #[.agg #[vc],bP m va eU dH,.agg #[.int .i64 f.pc,vl,vs]] w fun e w'=>e= .returned (.bool (wZ p.length m f))∧Below w.heap.size w w':=by
 have hpl:p.length≤4194304:=Nat.le_trans (eG p) hz;have hll:f.locals.length≤4194304:=by unfold iH at hfz;omega
 have hsl:f.stack.length≤4194304:=by unfold iH at hfz;omega
 have HP:=hide hp;have HL:=hide hfl;have HS:=hide hfs;obtain⟨pa,_,_,aA,rfl,_⟩:=hp;obtain⟨⟨aa,_,_,aI,rfl,_⟩,⟨ca,_,_,aF,rfl,_⟩,⟨fa,_,_,aG,rfl,_⟩⟩:=hm;obtain⟨la,_,_,fG,rfl,_⟩:=hfl;obtain⟨sa,_,_,scap,rfl,_⟩:=hfs;unfold bP
 by_cases q1:(f.locals.length:Int)=m.locals
 ·have k1:((f.locals.length:Int) == m.locals)=true:=by simpa using q1
  have Q1:=hide (decide_eq_true q1);clear q1
  by_cases q2:(f.stack.length:Int)≤m.stack
  ·have Q2:=hide (decide_eq_true q2);go_enter Tryz.func189,Tryz.ntmps189
   go_wp2_with fail
   generalize hW:((w.alloc _).alloc _).alloc _=W;have hbel:Below w.heap.size w W:=by rw [←hW];exact iW _ _ _ _
   have i0:W.cell? ⟨w.heap.size,0,none⟩=some (.slice pa p.length aA):=by rw [←hW];exact GN _ _ _ _ _ 0
   have i2:W.cell? ⟨w.heap.size+1+1,2,none⟩=some (.slice sa f.stack.length scap):=by rw [←hW];exact uy _ _ _ _ _ 2
   clear hW
   cases q3:f.locals.all (gZ p.length)
   ·refine (RZ q3 _ _ _ (aP (Keeps.of_below hbel) (ah HP)) hpl (dA (Keeps.of_below hbel) (ah HL)) hwf.2.1 hll).mono ?_;rintro e w1 ⟨rfl,hb1⟩;go_wp2_with fail
    go_ret;exact⟨aT (by unfold wZ;rw [q3,Bool.and_false,Bool.false_and]),hbel.trans (hb1.mono hbel.size)⟩
   ·refine (RZ q3 _ _ _ (aP (Keeps.of_below hbel) (ah HP)) hpl (dA (Keeps.of_below hbel) (ah HL)) hwf.2.1 hll).mono ?_;rintro e w1 ⟨rfl,hb1⟩;replace i0:=Keeps.of_below hb1 _ _ i0;replace i2:=Keeps.of_below hb1 _ _ i2;have hf1:=hbel.trans (hb1.mono hbel.size);clear hbel hb1;go_wp2_with fail
    refine (RZ rfl _ _ _ (aP (Keeps.of_below hf1) (ah HP)) hpl (dA (Keeps.of_below hf1) (ah HS)) hwf.2.2 hsl).mono ?_;rintro e w2 ⟨rfl,hb2⟩;go_wp2_with fail
    go_ret;exact⟨aT (by unfold wZ;rw [ah Q1,ah Q2,q3];rfl),hf1.trans (hb2.mono hf1.size)⟩
  ·have Q2:=hide (decide_eq_false q2);go_enter Tryz.func189,Tryz.ntmps189
   go_wp2_with fail
   go_ret;exact⟨aT (by unfold wZ;rw [ah Q2,Bool.and_false,Bool.false_and,Bool.false_and]),iW _ _ _ _⟩
 ·have k1:((f.locals.length:Int) == m.locals)=false:=by simpa using q1
  have Q1:=hide (decide_eq_false q1);clear q1;go_enter Tryz.func189,Tryz.ntmps189
  go_wp2_with fail
  go_ret;exact⟨aT (by unfold wZ;rw [ah Q1,Bool.false_and,Bool.false_and,Bool.false_and]),iW _ _ _ _⟩

theorem NZ {n:Nat}{m:aC}{last:Int}{f:bF}{r:List bF} :iP n m last (f::r)=(decide (last<f.pc) && (decide (f.pc<m.code.length) && wZ n m f) && iP n m f.pc r):=by
 have e:uJ n m f=(decide (f.pc<m.code.length) && wZ n m f):=by
  unfold uJ wZ
  cases decide (f.pc<m.code.length) <;> cases decide ((f.locals.length:Int)=m.locals) <;> cases decide ((f.stack.length:Int)≤m.stack) <;> cases f.locals.all (gZ n) <;> rfl
 rw [iP,e]
theorem Yv {p:List aj}{m:aC}{f:bF}{q:Bool}(h:wZ p.length m f=q)(vc va eU dH vl vs:Value)(w:World)(hp:aX w vc p)(hm:qg w m va eU dH)(hfl:aV 1 (jL w) vl f.locals)(hfs:aV 1 (jL w) vs f.stack)(hz:bn p≤4194304)(hfz:iH f≤4194304)(hwf:Je f) :
  Calls Tryz.prog 189 #[.agg #[vc],bP m va eU dH,.agg #[.int .i64 f.pc,vl,vs]] w fun e w'=>e= .returned (.bool q)∧Below w.heap.size w w':=h▸aeL p vc m va eU dH f vl vs w hp hm hfl hfs hz hfz hwf

theorem aeM (p:List aj)(vc:Value)(m:aC)(va eU dH:Value)(w:World)(hp:aX w vc p)(hm:qg w m va eU dH)(hz:bn p≤4194304)(hml:dN m≤4194304)(hwm:zk m) :
  Calls Tryz.prog 132 #[.agg #[vc],bP m va eU dH] w fun e w'=>e= .returned (.bool (iP p.length m (-1) m.frames))∧Below w.heap.size w w':=by
 have hcl:m.code.length≤4194304:=by unfold dN at hml;omega
 have hfl:m.frames.length≤4194304:=Nat.le_trans (Vt m) hml;have ahc:=hwm.2.2.2.2.2.2;have HP:=hide hp;have um:=hide hm;obtain⟨pa,_,_,aA,rfl,_⟩:=hp;obtain⟨⟨aa,_,_,aI,rfl,_⟩,⟨ca,_,_,aF,rfl,_⟩,hf⟩:=hm;obtain⟨fa,fb,kU,aG,rfl,_,hfa,hfr⟩:=aZ hf;have BH:=hide hfr;clear hfr hf;unfold bP;go_enter Tryz.func132,Tryz.ntmps132
 go_wp2_with fail
 generalize hW:(w.alloc _).alloc _=W;have hbel:Below w.heap.size w W:=by rw [←hW];exact dS _ _ _
 have i0:W.cell? ⟨w.heap.size,0,none⟩=some (.slice pa p.length aA):=by rw [←hW];exact lZ _ _ _ _ 0
 have l0:W.cell? ⟨w.heap.size+1,0,none⟩=some (.int .i64 m.slot):=by rw [←hW];exact fC _ _ _ _ 0
 have l1:W.cell? ⟨w.heap.size+1,1,none⟩=some (.slice aa m.args.length aI):=by rw [←hW];exact fC _ _ _ _ 1
 have l2:W.cell? ⟨w.heap.size+1,2,none⟩=some (.int .i64 m.ret):=by rw [←hW];exact fC _ _ _ _ 2
 have l3:W.cell? ⟨w.heap.size+1,3,none⟩=some (.int .i64 m.locals):=by rw [←hW];exact fC _ _ _ _ 3
 have l4:W.cell? ⟨w.heap.size+1,4,none⟩=some (.int .i64 m.stack):=by rw [←hW];exact fC _ _ _ _ 4
 have l5:W.cell? ⟨w.heap.size+1,5,none⟩=some (.slice ca m.code.length aF):=by rw [←hW];exact fC _ _ _ _ 5
 have l6:W.cell? ⟨w.heap.size+1,6,none⟩=some (.slice fa m.frames.length aG):=by rw [←hW];exact fC _ _ _ _ 6
 clear hW
 go_loopw [5,11] (fun s5 s wr=>∃(k:Nat) (from':Int),k≤m.frames.length∧s= .int .i64 k∧s5= .int .i64 from'∧0≤from'∧from'≤m.code.length∧iP p.length m (-1) m.frames=iP p.length m (from'-1) (m.frames.drop k)∧Below W.heap.size W wr) (fun _ s _=>m.frames.length-(intOf s).toNat)
 case atStart=>exact ⟨0,0,Nat.zero_le _,rfl,rfl,by omega,by omega,by rw [List.drop_zero];rfl,Below.refl _ _⟩
 case round=>
  obtain⟨k,from',hk,rfl,rfl,hf0,hf1,hinv,hbr⟩:=hrel;have HI:=hide hinv;clear hinv;have hfin:Below w.heap.size w wr:=hbel.trans (hbr.mono hbel.size)
  by_cases hlt:k<m.frames.length
  ·obtain rfl:=hfa (bJ hlt);obtain⟨vl,vs,c0,c1,c2,hl,hst⟩:=(ah BH k hlt).keep (Keeps.of_below hfin);have HD:=hide (show iP p.length m (-1) m.frames=iP p.length m (from'-1) (m.frames[k]::m.frames.drop (k+1)) by rw [ah HI,List.drop_eq_getElem_cons hlt]);have hwk:=ahc _ (List.getElem_mem hlt);have hfz:iH m.frames[k]≤4194304:=Nat.le_trans (Vs (List.getElem_mem hlt)) hml;have HL:=hide hl;have HST:=hide hst;obtain⟨la,_,_,fG,rfl,_⟩:=hl;obtain⟨sa,_,_,scap,rfl,_⟩:=hst;generalize m.frames[k]=f at *;have Dv:=cell_lt c0;have hk1:=Keeps.of_below hbr;have e0:=hk1 _ _ i0;have r0:=hk1 _ _ l0;have r1:=hk1 _ _ l1;have r2:=hk1 _ _ l2;have r3:=hk1 _ _ l3
   have r4:=hk1 _ _ l4;have r5:=hk1 _ _ l5;have r6:=hk1 _ _ l6;have hlt0:=cell_lt r0;have hlt1:=cell_lt e0;clear hk1;have hbz:=hbr.trans ((aS wr (.cells #[.int .i64 f.pc,.slice la f.locals.length fG,.slice sa f.stack.length scap] 42)).mono hbr.size);have yU:=hbel.trans (hbz.mono hbel.size)
   by_cases g1:f.pc<from'
   ·have HN:=hide (show iP p.length m (-1) m.frames=false by rw [ah HD,NZ,decide_eq_false (by omega)];rfl);go_wp2_with fail
    go_ret;exact⟨aT (ah HN).symm,yU⟩
   by_cases g2:(m.code.length:Int)≤f.pc
   ·have HN:=hide (show iP p.length m (-1) m.frames=false by rw [ah HD,NZ,decide_eq_false (show ¬f.pc<(m.code.length:Int) by omega),Bool.false_and,Bool.and_false];rfl);go_wp2_with fail
    go_ret;exact⟨aT (ah HN).symm,yU⟩
   have d1:=decide_eq_true (show from'-1<f.pc by omega);have d2:=decide_eq_true (show f.pc<(m.code.length:Int) by omega);have Wj:=hide (show iP p.length m (-1) m.frames=(wZ p.length m f && iP p.length m f.pc (m.frames.drop (k+1))) by rw [ah HD,NZ,d1,d2];rfl);clear d1 d2 HD;go_wp2_with fail
   have yC:=hide (aP (Keeps.of_below yU) (ah HP));have Jr:=hide ((ah um).keep (Keeps.of_below yU));have WJ:=hide (dA (zW wr (.cells #[.int .i64 f.pc,.slice la f.locals.length fG,.slice sa f.stack.length scap] 42)) (ah HL));have En:=hide (dA (zW wr (.cells #[.int .i64 f.pc,.slice la f.locals.length fG,.slice sa f.stack.length scap] 42)) (ah HST));have z0:=iK wr #[.int .i64 f.pc,.slice la f.locals.length fG,.slice sa f.stack.length scap] 42 0;obtain⟨wo,rfl⟩:∃wo:World,wo=wr:=⟨_,rfl⟩;generalize wo.alloc _=Z at *;replace z0:Z.cell? ⟨wo.heap.size,0,none⟩=some (.int .i64 f.pc):=z0
   cases hq:wZ p.length m f
   ·refine (Yv hq _ _ _ _ _ _ _ (ah yC) (ah Jr) (ah WJ) (ah En) hz hfz hwk).mono ?_;rintro e w1 ⟨rfl,hb1⟩;go_wp2_with fail
    go_ret;exact⟨aT (by rw [ah Wj,hq];rfl),yU.trans (hb1.mono yU.size)⟩
   ·refine (Yv hq _ _ _ _ _ _ _ (ah yC) (ah Jr) (ah WJ) (ah En) hz hfz hwk).mono ?_;rintro e w1 ⟨rfl,hb1⟩;have z1:=Keeps.of_below hb1 _ _ z0;clear z0;go_wp2_with fail
    exact⟨⟨k+1,f.pc+1,by omega,by go_num,by go_num,by omega,by omega,by rw [ah Wj,hq,Bool.true_and,Int.add_sub_cancel],hbz.trans (hb1.mono hbz.size)⟩,by simp [intOf];omega⟩
  ·go_wp2
   go_ret;have:m.frames.drop k= []:=List.drop_of_length_le (by omega);exact⟨aT (by rw [ah HI,this];rfl),hfin⟩
def wV (p:List aj)(m:aC):Bool:= !(decide (m.code.length<1) || decide (40<m.code.length)) && m.code.all (bC p m)
theorem Zb {n:Nat}{m:aC} :∀(l:List bF) (last:Int),-1≤last→iP n m last l=true→last+l.length<m.code.length∨l= []
 | [], _, _, _ => .inr rfl
 | f :: r, last, hl, h => by
  rw [NZ] at h;simp only [Bool.and_eq_true,decide_eq_true_eq] at h
  rcases Zb r f.pc (by omega) h.2 with g | g
  ·left
   simp only [List.length_cons];omega
  ·subst g
   left
   simp only [List.length_cons,List.length_nil];omega
theorem aez (p:List aj)(m:aC):iL p m=(wV p m && iP p.length m (-1) m.frames):=by
 unfold iL wV
 by_cases h1:m.code.length<1
 ·rw [decide_eq_true h1,decide_eq_false (by omega:¬1≤m.code.length)];rfl
 by_cases h2:40<m.code.length
 ·rw [decide_eq_true h2,Bool.or_true,decide_eq_false (by omega:¬m.code.length≤40),Bool.and_false];rfl
 rw [decide_eq_false h1,decide_eq_false h2,decide_eq_true (by omega:1≤m.code.length),decide_eq_true (by omega:m.code.length≤40)]
 cases hf:iP p.length m (-1) m.frames
 ·rw [Bool.and_false,Bool.and_false]
 ·have:m.frames.length≤40:=by
   rcases Zb m.frames (-1) (by omega) hf with g | g
   ·omega
   ·rw [g];simp
  rw [decide_eq_true this];simp
theorem YA {p:List aj}{m:aC}{i:eF}{q:Bool}(h:bC p m i=q)(vc:Value)(aa ca fa:Option Addr)(al aI aF fl aG:Nat)(w:World)(hp:aX w vc p)(hs:aU p p.length)(hz:bn p≤4194304)(hcl:m.code.length≤4194304) :
  Calls Tryz.prog 188 (rG vc m aa ca fa al aI aF fl aG i.op i.a i.b) w fun e w'=>e= .returned (.bool q)∧Below w.heap.size w w':=h▸aeR p vc m aa ca fa al aI aF fl aG i w hp hs hz hcl

theorem aeF (p:List aj)(vc:Value)(m:aC)(va eU dH:Value)(w:World)(hp:aX w vc p)(hm:qg w m va eU dH)(hs:aU p p.length)(hz:bn p≤4194304)(hml:dN m≤4194304) :
  Calls Tryz.prog 131 #[.agg #[vc],bP m va eU dH] w fun e w'=>e= .returned (.bool (wV p m))∧Below w.heap.size w w':=by
 have hcl:m.code.length≤4194304:=by unfold dN at hml;omega
 have HP:=hide hp;obtain⟨pa,_,_,aA,rfl,_⟩:=hp;obtain⟨⟨aa,_,_,aI,rfl,_⟩,hc,⟨fa,_,_,aG,rfl,_⟩⟩:=hm;obtain⟨ca,cb,nZ,aF,rfl,_,hca,hc0,hc1,hc2⟩:=ae0 hc;have H0:=hide hc0;have H1:=hide hc1;have H2:=hide hc2;clear hc0 hc1 hc2 hc;unfold bP
 by_cases g1:m.code.length<1
 ·have g1':(m.code.length:Int)<1:=by omega
  have HF:=hide (show wV p m=false by unfold wV;rw [decide_eq_true g1];rfl);go_enter Tryz.func131,Tryz.ntmps131
  go_wp2_with fail
  go_ret;exact⟨aT (ah HF).symm,dS _ _ _⟩
 by_cases g2:40<m.code.length
 ·have g1':¬(m.code.length:Int)<1:=by omega
  have g2':(40:Int)<m.code.length:=by omega
  have HF:=hide (show wV p m=false by unfold wV;rw [decide_eq_true g2,Bool.or_true];rfl);go_enter Tryz.func131,Tryz.ntmps131
  go_wp2_with fail
  go_ret;exact⟨aT (ah HF).symm,dS _ _ _⟩
 have g1':¬(m.code.length:Int)<1:=by omega
 have g2':¬(40:Int)<m.code.length:=by omega
 have HC:=hide (show wV p m=m.code.all (bC p m) by unfold wV;rw [decide_eq_false g1,decide_eq_false g2];rfl);go_enter Tryz.func131,Tryz.ntmps131
 go_wp2_with fail
 generalize hW:(w.alloc _).alloc _=W;have hbel:Below w.heap.size w W:=by rw [←hW];exact dS _ _ _
 have i0:W.cell? ⟨w.heap.size,0,none⟩=some (.slice pa p.length aA):=by rw [←hW];exact lZ _ _ _ _ 0
 have l0:W.cell? ⟨w.heap.size+1,0,none⟩=some (.int .i64 m.slot):=by rw [←hW];exact fC _ _ _ _ 0
 have l1:W.cell? ⟨w.heap.size+1,1,none⟩=some (.slice aa m.args.length aI):=by rw [←hW];exact fC _ _ _ _ 1
 have l2:W.cell? ⟨w.heap.size+1,2,none⟩=some (.int .i64 m.ret):=by rw [←hW];exact fC _ _ _ _ 2
 have l3:W.cell? ⟨w.heap.size+1,3,none⟩=some (.int .i64 m.locals):=by rw [←hW];exact fC _ _ _ _ 3
 have l4:W.cell? ⟨w.heap.size+1,4,none⟩=some (.int .i64 m.stack):=by rw [←hW];exact fC _ _ _ _ 4
 have l5:W.cell? ⟨w.heap.size+1,5,none⟩=some (.slice ca m.code.length aF):=by rw [←hW];exact fC _ _ _ _ 5
 have l6:W.cell? ⟨w.heap.size+1,6,none⟩=some (.slice fa m.frames.length aG):=by rw [←hW];exact fC _ _ _ _ 6
 clear hW
 go_loopw [20] (fun s wr=>∃k:Nat,k≤m.code.length∧s= .int .i64 k∧(m.code.take k).all (bC p m)=true∧Below W.heap.size W wr) (fun s _=>m.code.length-(intOf s).toNat)
 case atStart=>exact ⟨0,Nat.zero_le _,rfl,rfl,Below.refl _ _⟩
 case round=>
  obtain⟨k,hk,rfl,hall,hbr⟩:=hrel;have HA:=hide hall;clear hall;have hfin:Below w.heap.size w wr:=hbel.trans (hbr.mono hbel.size)
  by_cases hlt:k<m.code.length
  ·obtain rfl:=hca (bJ hlt);have Oy:=Keeps.of_below hfin;have c0:=Oy _ _ (ah H0 k hlt);have c1:=Oy _ _ (ah H1 k hlt);have c2:=Oy _ _ (ah H2 k hlt);have fK:=hide (fun h:bC p m m.code[k]=false=>GI (f:=bC p m) hlt h);have hS:=vM (f:=bC p m) hlt;rw [HA.out] at hS;have HS:=hide hS;clear hS Oy;generalize m.code[k]=i at *;have hk1:=Keeps.of_below hbr;have e0:=hk1 _ _ i0;have r0:=hk1 _ _ l0;have r1:=hk1 _ _ l1;have r2:=hk1 _ _ l2;have r3:=hk1 _ _ l3;have r4:=hk1 _ _ l4;have r5:=hk1 _ _ l5;have r6:=hk1 _ _ l6;have hlt0:=cell_lt r0;have hlt1:=cell_lt e0;have Dv:=cell_lt c0;clear hk1
   have hbz:=hbr.trans ((aS wr (.cells #[.int .i64 i.op,.int .i64 i.a,.int .i64 i.b] 60)).mono hbr.size);have yU:=hbel.trans (hbz.mono hbel.size);have yC:=hide (aP (Keeps.of_below yU) (ah HP));go_wp2_with fail
   cases hq:bC p m i
   ·refine Calls.mono (YA hq _ aa (some ⟨cb,nZ,none⟩) fa m.args.length aI aF m.frames.length aG _ (ah yC) hs hz hcl) ?_;rintro e w1 ⟨rfl,hb1⟩;go_wp2_with fail
    go_ret;exact⟨aT (by rw [ah HC,ah fK hq]),yU.trans (hb1.mono yU.size)⟩
   ·refine Calls.mono (YA hq _ aa (some ⟨cb,nZ,none⟩) fa m.args.length aI aF m.frames.length aG _ (ah yC) hs hz hcl) ?_;rintro e w1 ⟨rfl,hb1⟩;go_wp2_with fail
    exact⟨⟨k+1,by omega,by go_num,by rw [ah HS,hq];rfl,hbz.trans (hb1.mono hbz.size)⟩,by simp [intOf];omega⟩
  ·go_wp2
   go_ret;exact⟨aT (by rw [ah HC,←HA.out,List.take_of_length_le (by omega)]),hfin⟩

theorem Yq {p:List aj}{m:aC}{q:Bool}(h:wV p m=q)(vc va eU dH:Value)(w:World)(hp:aX w vc p)(hm:qg w m va eU dH)(hs:aU p p.length)(hz:bn p≤4194304)(hml:dN m≤4194304) :
  Calls Tryz.prog 131 #[.agg #[vc],bP m va eU dH] w fun e w'=>e= .returned (.bool q)∧Below w.heap.size w w':=h▸aeF p vc m va eU dH w hp hm hs hz hml
theorem Yw {p:List aj}{m:aC}{q:Bool}(h:iP p.length m (-1) m.frames=q)(vc va eU dH:Value)(w:World)(hp:aX w vc p)(hm:qg w m va eU dH)(hz:bn p≤4194304)(hml:dN m≤4194304)(hwm:zk m) :
  Calls Tryz.prog 132 #[.agg #[vc],bP m va eU dH] w fun e w'=>e= .returned (.bool q)∧Below w.heap.size w w':=h▸aeM p vc m va eU dH w hp hm hz hml hwm

theorem aeB (p:List aj)(vc:Value)(w:World)(hp:aX w vc p)(hs:aU p p.length)(hwf:jq p)(hz:bn p≤4194304) :
  Calls Tryz.prog 69 #[.agg #[vc]] w fun e w'=>e= .returned (.bool (p.all fun x=>x.aB.all (iL p)))∧Below w.heap.size w w':=by
 have hpl:p.length≤4194304:=Nat.le_trans (eG p) hz;have HP:=hide hp;obtain⟨pa,pb,dB,aA,rfl,_,hpa,hpr⟩:=aZ hp;have kP:=hide hpr;clear hp hpr;go_enter Tryz.func69,Tryz.ntmps69
 go_wp2_with fail
 generalize hW:w.alloc _=W;have hbel:Below w.heap.size w W:=by rw [←hW];exact aS _ _
 have hbox:W.cell? ⟨w.heap.size,0,none⟩=some (.slice pa p.length aA):=by rw [←hW];exact iK _ _ _ 0
 clear hW
 go_loopw [10] (fun s wr=>∃c:Nat,c≤p.length∧s= .int .i64 c∧(p.take c).all (fun x=>x.aB.all (iL p))=true∧Below W.heap.size W wr) (fun s _=>p.length-(intOf s).toNat)
 case atStart=>exact ⟨0,Nat.zero_le _,rfl,rfl,Below.refl _ _⟩
 case round=>
  obtain⟨c,hc,rfl,hall,hbr⟩:=hrel;have HA:=hide hall;clear hall;obtain⟨wo,rfl⟩:∃wo:World,wo=wr:=⟨_,rfl⟩;have hfin:Below w.heap.size w wo:=hbel.trans (hbr.mono hbel.size)
  by_cases hlt:c<p.length
  ·obtain rfl:=hpa (bJ hlt);obtain⟨vf,vm,c0,c1,c2,hf,hmt⟩:=(ah kP c hlt).keep (Keeps.of_below hfin);have hwx:=(hwf _ (List.getElem_mem hlt)).2.2;have hxl:gJ p[c]≤4194304:=Nat.le_trans (nR (List.getElem_mem hlt)) hz;have fK:=hide (fun h:p[c].aB.all (iL p)=false=>GI (f:=fun x:aj=>x.aB.all (iL p)) hlt h);have hS:=vM (f:=fun x:aj=>x.aB.all (iL p)) hlt;rw [HA.out] at hS;have HS:=hide hS;clear hS;generalize p[c]=x at *;obtain⟨fa,_,_,aG,rfl,_⟩:=hf;obtain⟨ma,mb,fH,dW,rfl,yV,hma,hmr⟩:=aZ hmt;have pY:=hide hmr;have hms:x.aB.length≤4194304:=Nat.le_trans (tC x) hxl;have Dv:=cell_lt c0;clear hmr hmt
   have e0:=Keeps.of_below hbr _ _ hbox;go_wp2_with fail
   have hbz:=hbr.trans ((aS wo (.cells #[.int .i64 x.sup,.slice fa x.fields.length aG,.slice ma x.aB.length dW] 66)).mono hbr.size);have hk0:=zW wo (.cells #[.int .i64 x.sup,.slice fa x.fields.length aG,.slice ma x.aB.length dW] 66);generalize wo.alloc _=Z at *;have vF:=hide hk0;have b0:=hk0 _ _ e0;clear hk0 c0 c1 c2 e0 hbr hfin;have hfz:=hbel.trans (hbz.mono hbel.size)
   go_loopw [17] (fun s wr=>∃k:Nat,k≤x.aB.length∧s= .int .i64 k∧(x.aB.take k).all (iL p)=true∧Below Z.heap.size Z wr) (fun s _=>x.aB.length-(intOf s).toNat)
   case atStart=>exact ⟨0,Nat.zero_le _,rfl,rfl,Below.refl _ _⟩
   case round=>
    obtain⟨k,hk,rfl,ZN,sS⟩:=hrel;have HA2:=hide ZN;clear ZN;have hf2:Below w.heap.size w wr:=hfz.trans (sS.mono hfz.size)
    by_cases hlt2:k<x.aB.length
    ·obtain rfl:=hma (bJ hlt2);obtain⟨va,eU,dH,hv,m0,m1,m2,m3,m4,m5,m6⟩:=((ah pY k hlt2).keep (ah vF)).keep (Keeps.of_below sS);have hmm:=List.getElem_mem hlt2;have hwm:=hwx _ hmm;have hml:dN x.aB[k]≤4194304:=Nat.le_trans (Bj hmm) hxl;have WQ:=hide (fun h:iL p x.aB[k]=false=>GI (f:=iL p) hlt2 h);have hS2:=vM (f:=iL p) hlt2;rw [HA2.out] at hS2;have HS2:=hide hS2;clear hS2 hmm;generalize x.aB[k]=m at *;have HV:=hide hv;obtain⟨kQ,_,_,jU,rfl,_⟩:=hv.1;obtain⟨ql,_,_,qo,rfl,_⟩:=hv.2.1;obtain⟨fla,_,_,qp,rfl,_⟩:=hv.2.2;have ak0:=cell_lt m0;have e1:=Keeps.of_below sS _ _ b0;have hlt1:=cell_lt e1;clear hv;go_wp2_with fail
     have hby:=sS.trans ((aS wr (.cells #[.int .i64 m.slot,.slice kQ m.args.length jU,.int .i64 m.ret,.int .i64 m.locals,.int .i64 m.stack,.slice ql m.code.length qo,.slice fla m.frames.length qp] 63)).mono sS.size);have hky:=zW wr (.cells #[.int .i64 m.slot,.slice kQ m.args.length jU,.int .i64 m.ret,.int .i64 m.locals,.int .i64 m.stack,.slice ql m.code.length qo,.slice fla m.frames.length qp] 63);have hbl:=ak.new wr #[.int .i64 m.slot,.slice kQ m.args.length jU,.int .i64 m.ret,.int .i64 m.locals,.int .i64 m.stack,.slice ql m.code.length qo,.slice fla m.frames.length qp] 63;obtain⟨w0,rfl⟩:∃w0:World,w0=wr:=⟨_,rfl⟩;generalize w0.alloc _=Y at *
     have Q5:=hide ((ah HV).keep hky);have KY:=hfz.trans (hby.mono hfz.size);have QT:=hide (aP (Keeps.of_below KY) (ah HP));have y0:=hky _ _ e1;clear m0 m1 m2 m3 m4 m5 m6 e1 hky HV;have QX:=hide (aez p m)
     cases hq:wV p m
     ·refine Calls.mono (Yq hq _ _ _ _ _ (ah QT) (ah Q5) hs hz hml) ?_;rintro e w1 ⟨rfl,hb1⟩;go_wp2_with fail
      go_ret;exact⟨aT (ah fK (ah WQ (by rw [ah QX,hq];rfl))).symm,KY.trans (hb1.mono KY.size)⟩
     ·refine Calls.mono (Yq hq _ _ _ _ _ (ah QT) (ah Q5) hs hz hml) ?_;rintro e w1 ⟨rfl,hb1⟩;obtain⟨⟨f0,f1,f2,f3,f4,f5,f6⟩,_⟩:=RH (hbl.below hb1 hbl.lt);have y1:=Keeps.of_below hb1 _ _ y0;have Z5:=hby.trans (hb1.mono hby.size);have aam:=KY.trans (hb1.mono KY.size);have Xa:=hide (aP (Keeps.of_below hb1) (ah QT));have Xg:=hide ((ah Q5).keep (Keeps.of_below hb1));clear y0 hbl hb1;go_wp2_with fail
      cases hq2:iP p.length m (-1) m.frames
      ·refine Calls.mono (Yw hq2 _ _ _ _ _ (ah Xa) (ah Xg) hz hml hwm) ?_;rintro e w2 ⟨rfl,hb2⟩;go_wp2_with fail
       go_ret;exact⟨aT (ah fK (ah WQ (by rw [ah QX,hq2,Bool.and_false]))).symm,aam.trans (hb2.mono aam.size)⟩
      ·refine Calls.mono (Yw hq2 _ _ _ _ _ (ah Xa) (ah Xg) hz hml hwm) ?_;rintro e w2 ⟨rfl,hb2⟩;go_wp2_with fail
       exact⟨⟨k+1,by omega,by go_num,by rw [ah HS2,ah QX,hq,hq2];rfl,Z5.trans (hb2.mono Z5.size)⟩,by simp [intOf];omega⟩
    ·go_wp2
     have agU:x.aB.all (iL p)=true:=by rw [←HA2.out,List.take_of_length_le (by omega)]
     exact⟨⟨c+1,by omega,by go_num,by rw [ah HS,agU];rfl,hbz.trans (sS.mono hbz.size)⟩,by simp [intOf];omega⟩
  ·go_wp2
   go_ret;exact⟨aT (by rw [←HA.out,List.take_of_length_le (by omega)]),hfin⟩
theorem Yp {p:List aj}{q:Bool}(h:uG p=q)(vc:Value)(w:World)(hp:aX w vc p)(hwf:jq p)(hz:bn p≤4194304) :
  Calls Tryz.prog 68 #[.agg #[vc]] w fun e w'=>e= .returned (.bool q)∧Below w.heap.size w w':=h▸aeE p vc w hp hwf hz
theorem Yn {p:List aj}{q:Bool}(h:(p.all fun x=>x.aB.all (iL p))=q)(vc:Value)(w:World)(hp:aX w vc p)(hs:aU p p.length)(hwf:jq p)(hz:bn p≤4194304) :
  Calls Tryz.prog 69 #[.agg #[vc]] w fun e w'=>e= .returned (.bool q)∧Below w.heap.size w w':=h▸aeB p vc w hp hs hwf hz
theorem Yk {p:List aj}(h:uG p=true):aU p p.length:=by
 unfold uG at h;simp only [Bool.and_eq_true] at h;exact acF h.2.1

theorem Yo (p:List aj)(vc:Value)(w:World)(hp:aX w vc p)(hwf:jq p)(hz:bn p≤4194304) :
  Calls Tryz.prog 34 #[.agg #[vc]] w fun e w'=>e= .returned (.int .i64 (bD p))∧Below w.heap.size w w':=by
 have HP:=hide hp;have HF:=hide (afY p);obtain⟨pa,_,_,aA,rfl,_⟩:=hp;go_enter Tryz.func34,Tryz.ntmps34
 go_wp2_with fail
 generalize hW:w.alloc _=W;have hbel:Below w.heap.size w W:=by rw [←hW];exact aS _ _
 have hbox:W.cell? ⟨w.heap.size,0,none⟩=some (.slice pa p.length aA):=by rw [←hW];exact iK _ _ _ 0
 clear hW
 cases hq:uG p
 ·refine Calls.mono (Yp hq _ _ (aP (Keeps.of_below hbel) (ah HP)) hwf hz) ?_;rintro e w1 ⟨rfl,hb1⟩;go_wp2_with fail
  go_ret;exact⟨lN (by rw [ah HF,hq];rfl),hbel.trans (hb1.mono hbel.size)⟩
 refine Calls.mono (Yp hq _ _ (aP (Keeps.of_below hbel) (ah HP)) hwf hz) ?_;rintro e w1 ⟨rfl,hb1⟩;have b1:=Keeps.of_below hb1 _ _ hbox;have hf1:=hbel.trans (hb1.mono hbel.size);clear hbel hbox hb1;go_wp2_with fail
 cases hq2:(p.all fun x=>x.aB.all (iL p))
 ·refine Calls.mono (Yn hq2 _ _ (aP (Keeps.of_below hf1) (ah HP)) (Yk hq) hwf hz) ?_;rintro e w2 ⟨rfl,hb2⟩;go_wp2_with fail
  go_ret;exact⟨lN (by rw [ah HF,hq,hq2];rfl),hf1.trans (hb2.mono hf1.size)⟩
 ·refine Calls.mono (Yn hq2 _ _ (aP (Keeps.of_below hf1) (ah HP)) (Yk hq) hwf hz) ?_;rintro e w2 ⟨rfl,hb2⟩;go_wp2_with fail
  go_ret;exact⟨lN (by rw [ah HF,hq,hq2];rfl),hf1.trans (hb2.mono hf1.size)⟩

def jB (why:Int):List PanicEntry:= [{ v:=.iface 119 (.agg #[.int .i64 why]),recovered:=false }]

theorem RX (why:Int)(w:World):Calls Tryz.prog 140 #[.int .i64 why] w fun e w'=>e= .panicked (jB why)∧w'=w:=by
 go_enter Tryz.func140,Tryz.ntmps140
 go_wp2
 exact⟨rfl,rfl,rfl⟩
abbrev Rl (α :Type):=World→Nat→Nat→List Value→α→Prop
section
variable {α : Type} {sz : Nat} {R : Rl α} {t : TypeId}
end
end Go.Proofs.YtiiokkllmchohaaGreat
namespace Go.Proofs.YtiiokkllmchohaaGreat
open Go.RowKit
theorem adG {P:Program}{W:World}(t ty e:TypeId)(i:TypeInfo)(z:Value)(size bytes:Nat)(ht:P.underlying t=some (.slice e))(hi:P.info? e=some i)(hz:i.zero=some z)
  (hsize:i.size=size) (hby:i.bytes=bytes) (hzs:z.cells.size=size) (hsz:0<size) (base:Nat) (v:Value) (n:Nat) (xs:List Value) (hown:W.ownsRow base e size v n xs)
  (news:Array Value) (hl:news.size=size) (h1:∀u∈news.toList,u.oneCell'=true) (H:Nat) (hH:W.heap.size=H) (h63:n+1≤maxLen) (hbytes:(n+1)*bytes≤140737488355328) (hbase:base≤W.heap.size) :
  ∃v' W',(Builtin.append_ #[t,t] ty #[v,.slice (some ⟨H,0,none⟩) 1 1]).run P (W.alloc (.cells news e))= .ok v' W'∧W'.ownsRow base e size v' (n+1) (xs++news.toList)∧
   ay (fun k=>v.ownBlock=some k) W W'∧(v'.ownBlock=v.ownBlock∨∃k,H≤k∧v'.ownBlock=some k)∧
   ∀g cur,v.ownBlock=some g→ak W g e cur→∃cur',ak W' g e cur'∧cur'.take (n*size)=xs:=by
 have hown':=eP hown ((ay.refl (fun _=>False) W).alloc (.cells news e)) (fun _ _ f=>f)
 have hnews:∀j u,news.toList[j]? =some u→(W.alloc (.cells news e)).cell? ((⟨H,0,none⟩:Addr).add j)=some u:=fun j u h=>by
  subst hH;have:=(ak.new W news e).cell j;rw [show (⟨W.heap.size,0,none⟩:Addr).add j=⟨W.heap.size,j,none⟩ by unfold Addr.add;split <;> simp_all,this];exact h
 have hl':news.toList.length=1*size:=by simpa using hl
 obtain⟨v',W',hr,h2,h3,_,h5⟩:=run_append_own_at (P:=P) (W.alloc (.cells news e)) base t ty e i z size bytes ht hi hz hsize hby hzs hsz v n xs hown' ⟨H,0,none⟩ 1 1 news.toList hl' hnews h1 h63 hbytes (by simp;omega);refine⟨v',W',hr,h2,((ay.refl _ W).alloc _).grown h3 (fun k e _=>e),?_,fun g cur hg hb=>?_⟩
 ·rcases h5 with h5 | h5
  ·exact .inl h5
  ·exact .inr ⟨_,by simp [hH],h5⟩
 ·rcases h5 with h5 | h5
  ·rw [hg] at h5
   rcases h2.2 with ⟨rfl,_⟩ | ⟨g',cap,cur',rfl,_,hg',_,_,_,htk⟩
   ·cases h5
   ·obtain rfl:g'=g:=by simpa [Value.ownBlock] using h5
    refine⟨cur'.toList,by unfold ak;simpa using hg',?_⟩;have e1:cur'.toList.take (n*size)=(cur'.toList.take ((n+1)*size)).take (n*size):=by rw [List.take_take,Nat.min_eq_left (Nat.mul_le_mul_right _ (by omega))]
    rw [e1,htk,←hown.1];exact List.take_left
  ·have hgs:g≠(W.alloc (.cells news e)).heap.size:=by have:=hb.lt;simp;omega
   rcases hown'.2 with ⟨rfl,_⟩ | ⟨g',cap,Sl,rfl,_,hg0,hnc,_,hcs,htk⟩
   ·cases hg
   ·obtain rfl:g'=g:=by simpa [Value.ownBlock] using hg
    by_cases hroom:n+1≤cap
    ·have hfit:n*i.size+news.toList.length≤Sl.size:=by rw [hl',hcs,hsize,←Nat.add_mul];exact Nat.mul_le_mul_right _ hroom
     have hr2:=run_append_room (P:=P) (W.alloc (.cells news e)) t ty e i ht hi g' n cap Sl hg0 ⟨H,0,none⟩ 1 1 news.toList (by rw [hsize];exact hl') hnews h1 hroom hfit;rw [hr] at hr2;simp only [Result.ok.injEq] at hr2;rw [hr2.1] at h5;simp [Value.ownBlock] at h5;exact absurd h5 (by simpa using hgs)
    ·have hr2:=run_append_grow (P:=P) (W.alloc (.cells news e)) t ty e i z ht hi hz ⟨g',0,none⟩ n cap xs (by rw [hsize];exact hown.1) (hown'.cells (g:=g') rfl) ⟨H,0,none⟩ 1 1 news.toList (by rw [hsize];exact hl') hnews (by omega) (by simp only [maxLen] at h63;omega) (growslice_fits (by omega) (by rw [hby];exact hbytes));rw [hr] at hr2;simp only [Result.ok.injEq] at hr2;refine⟨Sl.toList,?_,htk⟩;rw [hr2.2];unfold ak;rw [Below.heap_alloc _ _ _ (by show g'<(W.alloc (.cells news e)).heap.size;exact (Array.getElem?_eq_some_iff.1 hg0).1)]
     show (W.alloc (.cells news e)).heap[g']? =_
     simpa using hg0

def kT (p:List Value)(n:Nat):List Value:=(List.replicate n ()).flatMap fun _=>p
theorem NT (p:List Value)(n:Nat):kT p (n+1)=kT p n++p:=by
 unfold kT;rw [List.replicate_succ',List.flatMap_append];simp
theorem NS {p:List Value}{sz:Nat}(h:p.length=sz)(n:Nat):(kT p n).length=n*sz:=by
 induction n with
 | zero => simp [kT]
 | succ n ih => rw [NT, List.length_append, ih, h, Nat.succ_mul]
theorem afN {p:List Value}{sz:Nat}(h:p.length=sz){n i r:Nat}(hi:i<n)(hr:r<sz):(kT p n)[i*sz+r]? =p[r]? :=by
 unfold kT;rw [flat_get (f:=fun (_:Unit)=>p) (s:=sz) (fun _=>h) _ i r hr];simp [hi]

structure dF where
 a:Option Nat
 len:Nat
 cap:Nat
 m:Int
def dF.sl (e:dF):Value:=.slice (e.a.map fun g=>⟨g,0,none⟩) e.len e.cap
def dF.mv (e:dF):Value:=.int .i64 e.m
def F9 (w:World)(ei:TypeId)(sz:Nat)(pat:Int→List Value)(e:dF):Prop:=(e.a=none→e.len=0)∧e.len≤1048576∧∀g,e.a=some g→∃cs,ak w g ei cs∧cs.take (e.len*sz)=kT (pat e.m) e.len
theorem F9.mods {w w':World}{ei:TypeId}{sz:Nat}{pat:Int→List Value}{e:dF}{S:Nat→Prop}(h:F9 w ei sz pat e)(m:ay S w w')(hs:∀g,e.a=some g→¬S g):F9 w' ei sz pat e:=
 ⟨h.1,h.2.1,fun g hg=>by obtain⟨cs,h1,h2⟩:=h.2.2 g hg;exact⟨cs,h1.mods m (hs g hg),h2⟩⟩

def qy:Nat→TypeId
 | 0 => 40
 | 1 => 61
 | 2 => 36
 | 3 => 64
 | 4 => 22
 | _ => 51
def rM:Nat→TypeId
 | 0 => 43
 | 1 => 60
 | 2 => 42
 | 3 => 63
 | 4 => 66
 | _ => 3
def jO:Nat→Nat
 | 0 => 1
 | 1 => 3
 | 2 => 3
 | 3 => 7
 | 4 => 3
 | _ => 1
def ig:Nat→Int→List Value
 | 0, m => [.int .i64 m]
 | 1, m => [.int .i64 m, .int .i64 0, .int .i64 0]
 | 2, m => [.int .i64 m, .slice none 0 0, .slice none 0 0]
 | 3, m => [.int .i64 m, .slice none 0 0, .int .i64 0, .int .i64 0, .int .i64 0, .slice none 0 0, .slice none 0 0]
 | 4, m => [.int .i64 m, .slice none 0 0, .slice none 0 0]
 | _, m => [.int .i64 m]
def OwnAt (cs:List Value)(f k:Nat):Prop:=∃v,cs[f]? =some v∧v.ownBlock=some k
def fty (f:Nat):TypeId:=if f % 2=1 then qy ((f-7) / 2) else 3
structure jr (w:World)(bh:Nat)(cs:List Value)(n:Nat)(es:Nat→List dF)(rs:Nat→List Value):Prop where
 hands:ug w bh cs
 nil:∀j,j<6→cs[j]? =some (.slice none 0 0)
 c6:cs[6]? =some (.int .i64 (n:Int))
 row:∀f,7≤f→f<19→∃v,cs[f]? =some v∧w.ownsRow (bh+1) (fty f) 1 v (rs f).length (rs f)
 apart:∀f f' k,OwnAt cs f k→OwnAt cs f' k→f=f'
 ent:∀i,i<6→∀e∈es i,F9 w (rM i) (jO i) (ig i) e
 off:∀i,i<6→∀e∈es i,∀g,e.a=some g→g≠bh∧∀f,¬OwnAt cs f g
def kJ (es:Nat→List dF)(f:Nat):List Value:=if f % 2=1 then (es ((f-7) / 2)).map dF.sl else (es ((f-8) / 2)).map dF.mv
abbrev gK (w:World)(bh:Nat)(cs:List Value)(n:Nat)(es:Nat→List dF):Prop:=jr w bh cs n es (kJ es)
def upd {α :Type}(g:Nat→α)(i:Nat)(x: α):Nat→α :=fun j=>if j=i then x else g j
theorem Bl {α :Type}(g:Nat→α)(i:Nat)(x: α):upd g i x i=x:=by unfold upd;rw [if_pos rfl]
theorem upd_ne {α :Type}(g:Nat→α){i j:Nat}(x: α)(h:j≠i):upd g i x j=g j:=by unfold upd;rw [if_neg h]
section
variable {w w' : World} {bh : Nat} {cs : List Value} {n : Nat} {es : Nat → List dF} {rs : Nat → List Value}
theorem jr.own (h:jr w bh cs n es rs){f k:Nat}(hf:OwnAt cs f k):(7≤f∧f<19)∧bh<k∧k<w.heap.size:=by
 obtain⟨v,hv,hk⟩:=hf;have hl:=h.hands.2;have akS:f<cs.length:=(List.getElem?_eq_some_iff.1 hv).1
 rcases Nat.lt_or_ge f 6 with h6 | h6
 ·rw [h.nil f h6] at hv;cases hv;cases hk
 rcases Nat.eq_or_lt_of_le h6 with h6 | h6
 ·subst h6;rw [h.c6] at hv;cases hv;cases hk
 ·obtain⟨v',hv',hr⟩:=h.row f h6 (by omega);rw [hv] at hv'
  cases hv'
  have:=hr.lt k hk;omega
theorem jr.mods {S:Nat→Prop}(h:jr w bh cs n es rs)(m:ay S w w')(hb:¬S bh)(hr:∀f k,OwnAt cs f k→¬S k)(he:∀i,i<6→∀e∈es i,∀g,e.a=some g→¬S g):jr w' bh cs n es rs:=
 ⟨⟨h.hands.1.mods m hb,h.hands.2⟩,h.nil,h.c6,fun i h7 h19=>by obtain⟨v,h1,h2⟩:=h.row i h7 h19;exact⟨v,h1,eP h2 m (fun g hg=>hr _ g ⟨v,h1,hg⟩)⟩,h.apart,fun i hi e hm=>(h.ent i hi e hm).mods m (he i hi e hm),h.off⟩
theorem jr.congr {rs':Nat→List Value}(h:jr w bh cs n es rs)(e:∀f,7≤f→f<19→rs f=rs' f):jr w bh cs n es rs':=
 ⟨h.hands,h.nil,h.c6,fun f h7 h19=>by rw [←e f h7 h19];exact h.row f h7 h19,h.apart,h.ent,h.off⟩
theorem jr.mark (h:jr w bh cs n es rs)(n':Nat)(hh:ug w' bh (cs.set 6 (.int .i64 (n':Int))))(m:ay (fun k=>k=bh) w w'):jr w' bh (cs.set 6 (.int .i64 (n':Int))) n' es rs∧∀f k,OwnAt (cs.set 6 (.int .i64 (n':Int))) f k→OwnAt cs f k:=by
 have hl:=h.hands.2
 have ho:∀f k,OwnAt (cs.set 6 (.int .i64 (n':Int))) f k→OwnAt cs f k:=fun f k hf=>by
  obtain⟨v,hv,hk⟩:=hf
  by_cases e:f=6
  ·subst e;rw [List.getElem?_set_self (by omega)] at hv
   cases hv;cases hk
  ·rw [List.getElem?_set_ne (fun x=>e x.symm)] at hv;exact⟨v,hv,hk⟩
 refine⟨⟨hh,fun j hj=>by rw [List.getElem?_set_ne (by omega)];exact h.nil j hj,List.getElem?_set_self (by omega),fun f h7 h19=>?_,fun f f' k a b=>h.apart f f' k (ho _ _ a) (ho _ _ b),fun i hi e he=>(h.ent i hi e he).mods m (fun g hg=>(h.off i hi e he g hg).1),fun i hi e he g hg=>⟨(h.off i hi e he g hg).1,fun f hf=>(h.off i hi e he g hg).2 f (ho _ _ hf)⟩⟩,ho⟩;obtain⟨v,hv,hr⟩:=h.row f h7 h19;exact⟨v,by rw [List.getElem?_set_ne (by omega)];exact hv,eP hr m (fun g hg=>by have:=hr.lt g hg;omega)⟩
theorem jr.push (h:jr w bh cs n es rs){f:Nat}(h7:7≤f)(h19:f<19){tt:TypeId}{i0:TypeInfo}{z:Value}{bytes:Nat}(ht:Tryz.prog.underlying tt=some (.slice (fty f)))(hi:Tryz.prog.info? (fty f)=some i0)(hz:i0.zero=some z)(hs:i0.size=1)(hb:i0.bytes=bytes)(hzc:z.cells.size=1)
  (hby:bytes≤24) (x:Value) (hx:x.oneCell'=true) (hlen:(rs f).length+1≤268435456) {H:Nat} (hH:w.heap.size=H) {v:Value} (hv:cs[f]? =some v) :
  ∃a cap w1,(Builtin.append_ #[tt,tt] tt #[v,.slice (some ⟨H,0,none⟩) 1 1]).run Tryz.prog (w.alloc (.cells #[x] (fty f)))= .ok (.slice a ((rs f).length+1) cap) w1∧ak w1 bh 53 cs∧
   jr (w1.setCell ⟨bh,f,none⟩ (.slice a ((rs f).length+1) cap)) bh (cs.set f (.slice a ((rs f).length+1) cap)) n es (upd rs f (rs f++ [x]))∧
   ay (fun k=>k=bh∨v.ownBlock=some k) w (w1.setCell ⟨bh,f,none⟩ (.slice a ((rs f).length+1) cap))∧w.heap.size≤w1.heap.size∧
   ∀f' k,OwnAt (cs.set f (.slice a ((rs f).length+1) cap)) f' k→OwnAt cs f' k∨w.heap.size≤k:=by
 have hl:=h.hands.2;have hbl:=h.hands.1.lt;obtain⟨v',hv',hr⟩:=h.row f h7 h19;rw [hv] at hv'
 cases hv'
 have hbb:((rs f).length+1)*bytes≤((rs f).length+1)*24:=Nat.mul_le_mul_left _ hby;obtain⟨v1,w1,happ,hown,hm,hat⟩:=qN (P:=Tryz.prog) (W:=w) tt tt (fty f) i0 z 1 bytes ht hi hz hs hb hzc (by decide) (bh+1) v (rs f).length (rs f) hr #[x] rfl (by simpa using hx) H hH (by unfold maxLen;omega) (by omega) (by omega);obtain⟨a,cap,rfl⟩:=cZ hown;have agE:∀k,v.ownBlock=some k→k≠bh:=fun k hk=>by have:=hr.lt k hk;omega
 have hb1:ak w1 bh 53 cs:=h.hands.1.mods hm (fun e=>agE bh e rfl);have hM:ay (fun k=>k=bh∨v.ownBlock=some k) w (w1.setCell ⟨bh,f,none⟩ (.slice a ((rs f).length+1) cap)):=(hm.mono (fun _ _ e=>.inr e)).setCell (p:=⟨bh,f,none⟩) (fun _=>.inl rfl) _;have hM1:ay (fun k=>k=bh) w1 (w1.setCell ⟨bh,f,none⟩ (.slice a ((rs f).length+1) cap)):=(ay.refl (fun k=>k=bh) w1).setCell (p:=⟨bh,f,none⟩) (fun _=>rfl) _
 have ho:∀f' k,OwnAt (cs.set f (.slice a ((rs f).length+1) cap)) f' k→(f'≠f∧OwnAt cs f' k)∨(f'=f∧(OwnAt cs f k∨w.heap.size≤k)):=fun f' k hf=>by
  obtain⟨u,hu,hk⟩:=hf
  by_cases e:f'=f
  ·subst e;rw [List.getElem?_set_self (by omega)] at hu;simp only [Option.some.injEq] at hu;subst hu;refine .inr ⟨rfl,?_⟩
   rcases hat with hat | ⟨k',h1,h2⟩
   ·exact .inl ⟨v,hv,hat▸hk⟩
   ·rw [h2] at hk
    cases hk
    exact .inr (by omega)
  ·rw [List.getElem?_set_ne (fun x=>e x.symm)] at hu;exact .inl ⟨e,u,hu,hk⟩
 have hS:∀i,i<6→∀e∈es i,∀g,e.a=some g→¬(g=bh∨v.ownBlock=some g):=fun i hi e he g hg hk=>by
  rcases hk with hk | hk
  ·exact (h.off i hi e he g hg).1 hk
  ·exact (h.off i hi e he g hg).2 f ⟨v,hv,hk⟩
 refine⟨a,cap,w1,happ,hb1,⟨⟨hb1.setCell f _,by rw [List.length_set];exact hl⟩,fun j hj=>by rw [List.getElem?_set_ne (by omega)];exact h.nil j hj,by rw [List.getElem?_set_ne (by omega)];exact h.c6,fun f' Zl agk=>?_,fun f1 f2 k h1 h2=>?_,fun i hi e he=>(h.ent i hi e he).mods hM (hS i hi e he),fun i hi e he g hg=>⟨(h.off i hi e he g hg).1,fun f' hf=>?_⟩⟩,hM,hm.size,fun f' k hf=>?_⟩
 ·by_cases e:f'=f
  ·subst e;refine⟨_,List.getElem?_set_self (by omega),?_⟩;rw [Bl,List.length_append];exact eP (S:=fun k=>k=bh) hown hM1 (fun g e=>by have:=hown.lt g e;omega)
  ·obtain⟨u,hu,hru⟩:=h.row f' Zl agk;rw [upd_ne _ _ e];refine⟨u,by rw [List.getElem?_set_ne (fun x=>e x.symm)];exact hu,eP hru hM (fun g hg hk=>?_)⟩
   rcases hk with hk | hk
   ·have:=hru.lt g hg;omega
   ·exact e (h.apart f' f g ⟨u,hu,hg⟩ ⟨v,hv,hk⟩)
 ·rcases ho f1 k h1 with ⟨e1,g1⟩ | ⟨rfl,g1⟩ <;> rcases ho f2 k h2 with ⟨e2,g2⟩ | ⟨e2,g2⟩
  ·exact h.apart f1 f2 k g1 g2
  ·subst e2
   rcases g2 with g2 | g2
   ·exact h.apart f1 f2 k g1 g2
   ·have:=h.own g1;omega
  ·rcases g1 with g1 | g1
   ·exact h.apart f1 f2 k g1 g2
   ·have:=h.own g2;omega
  ·exact e2.symm
 ·rcases ho f' g hf with ⟨_,g1⟩ | ⟨_,g1 | g1⟩
  ·exact (h.off i hi e he g hg).2 f' g1
  ·exact (h.off i hi e he g hg).2 f g1
  ·obtain⟨c,hc,_⟩:=(h.ent i hi e he).2.2 g hg;have:=hc.lt;omega
 ·rcases ho f' k hf with ⟨_,g1⟩ | ⟨rfl,g1 | g1⟩
  ·exact .inl g1
  ·exact .inl g1
  ·exact .inr g1
end
end Go.Proofs.YtiiokkllmchohaaGreat
namespace Go.Proofs.YtiiokkllmchohaaGreat
open Go.RowKit
attribute [local go_sem ↓] Go.wp_at_zero Go.wp_at_succ
section
variable {α : Type} {sz : Nat} {R : Rl α} {p : List UInt8 → Option (α × List UInt8)} {ty : TypeId} {n : Nat} {s : List UInt8} {br g : Nat} {w wr : World} {k : Nat} {t : List UInt8} {cs : List Value} {done : List α}
end

end Go.Proofs.YtiiokkllmchohaaGreat
namespace Go.Proofs.YtiiokkllmchohaaGreat
open Go.RowKit
theorem catch_idle (p:Addr)(w:World) :
  CallsD Tryz.prog 72 #[.pointer (some p)] .returning w fun e u' w'=>e= .returned (.tuple #[])∧u'= .returning∧w'=w:=by
 refine callsD_of_wpS Tryz.func72 rfl fun c₀ cs hu=>?_
 apply wpS_seq
 apply wpS_region
 simp [wpOpsS,go_sem,recoverD,hu,Tryz.ntmps72,Exit.thenS,Array.replicate];refine wpS_of_wp ?_
 go_wp2
 cases c₀
 simp_all [bodyPostS,results,Tryz.results72]
theorem X8 (p:Addr)(why x:Int)(w:World)(hc:w.cell? p=some (.int .i64 x))(hz:w.frozen? p=false) :
  CallsD Tryz.prog 72 #[.pointer (some p)] (.panicking (jB why)) w fun e u' w'=>
   e= .returned (.tuple #[])∧u'= .panicking [{ v:=.iface 119 (.agg #[.int .i64 why]),recovered:=true }]∧w'=(w.alloc (.cells #[.int .i64 why] 119)).setCell p (.int .i64 why):=by
 refine callsD_of_wpS Tryz.func72 rfl fun c₀ cs hu=>?_;unfold jB at hu;have hta:∀W:World,(Instr.typeAssert (.iface 119 (.agg #[.int .i64 why])) 20 119 true).run Tryz.prog W= .ok (.tuple #[.agg #[.int .i64 why],.bool true]) W:=fun W=>by kernel_rfl
 apply wpS_seq
 apply wpS_region
 simp [wpOpsS,go_sem,recoverD,hu,Tryz.ntmps72,Exit.thenS,Array.replicate];refine wpS_of_wp ?_;have hc':∀o,(w.alloc o).cell? p=some (.int .i64 x):=fun o=>zW w o _ _ hc;have hz':∀o,(w.alloc o).frozen? p=false:=fun o=>by rw [World.frozen?_alloc_old _ _ _ (Nat.ne_of_lt (cell_lt hc))];exact hz
 go_wp2_with fail
 cases c₀
 simp_all [bodyPostS,results,Tryz.results72]

end Go.Proofs.YtiiokkllmchohaaGreat
