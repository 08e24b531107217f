/- Walk of the code: a type below another one. -/
import Derived.Test.YtiiokkllmchohaaGreatT12
import Derived.Test.YtiiokkllmchohaaGreatT18
set_option maxHeartbeats 4000000
set_option maxRecDepth 100000
namespace Go.Proofs.YtiiokkllmchohaaGreat
open Go.RowKit
attribute [local go_sem ↓] Go.wp_at_zero Go.wp_at_succ
theorem Nu {p:List aj}{t o:Int}(h:t=o∨o=2):bf p t o=true:=by
 unfold bf
 rcases h with rfl | rfl <;> simp
theorem XL {p:List aj}{t o:Int}(h1:t≠o)(h2:o≠2)(h3:o<3):bf p t o=false:=by
 unfold bf;rw [beq_eq_false_iff_ne.2 h1,beq_eq_false_iff_ne.2 h2,decide_eq_false (by omega)];rfl
theorem XM {p:List aj}{o:Int}(h3:3≤o):bf p 1 o=true:=by
 unfold bf;simp [h3]
theorem RD {p:List aj}{t o:Int}(h1:t≠o)(h2:o≠2)(ht:t≠1)(h3:t<3):bf p t o=false:=by
 unfold bf;rw [beq_eq_false_iff_ne.2 h1,beq_eq_false_iff_ne.2 h2,beq_eq_false_iff_ne.2 ht,decide_eq_false (p:=3≤t) (by omega)];simp
theorem XI {p:List aj}{t o:Int}(h1:t≠o)(ht:3≤t)(h3:3≤o):bf p t o=gY p (t-3) (o-3):=by
 unfold bf;rw [beq_eq_false_iff_ne.2 h1,beq_eq_false_iff_ne.2 (show o≠2 by omega),beq_eq_false_iff_ne.2 (show t≠1 by omega),decide_eq_true ht,decide_eq_true h3];rfl

theorem adU {A B:World}{a0:Addr}{x0:Value}(h:A.cell? a0=some x0)(k:Below A.heap.size A B):B.cell? a0=some x0:=Keeps.of_below k _ _ h

theorem Ko (p:List aj)(vc:Value)(t o:Int)(w:World)(hp:aX w vc p)(hs:aU p p.length)(hz:p.length≤4194304)(ht:bT p.length t)(ho:bT p.length o) :
  Calls Tryz.prog 198 #[.agg #[vc],.int .i64 t,.int .i64 o] w fun e w'=>e= .returned (.bool (bf p t o))∧Below w.heap.size w w':=by
 have HP:=hide hp;obtain⟨a,b,off,cap,rfl,_,_,_⟩:=aZ hp;clear hp;obtain⟨t0,t1⟩:=ht;obtain⟨o0,o1⟩:=ho;go_enter Tryz.func198,Tryz.ntmps198
 have hbel:Below w.heap.size w (w.alloc (.cells #[.slice a p.length cap] 24)):=aS _ _;have hbox:(w.alloc (.cells #[.slice a p.length cap] 24)).cell? ⟨w.heap.size,0,none⟩=some (.slice a p.length cap):=iK _ _ _ 0
 by_cases h1:t=o
 ·subst h1;go_wp2_with fail
  go_ret;exact⟨aT (Nu (.inl rfl)).symm,hbel⟩
 by_cases h2:o=2
 ·subst h2;have h1':(t == 2)=false:=by simpa using h1
  go_wp2_with fail
  go_ret;exact⟨aT (Nu (.inr rfl)).symm,hbel⟩
 have h1':(t == o)=false:=by simpa using h1
 have h2':(o == 2)=false:=by simpa using h2
 by_cases h3:3≤o
 ·have h3':decide (3≤o)=true:=decide_eq_true h3;go_wp2_with fail
  generalize w.alloc _=W at *;refine Calls.mono (J9 o W) ?_;rintro e w' ⟨rfl,rfl⟩;rw [h3'];go_wp2_with fail
  have hdr:Below w'.heap.size w' w'.drew:=(Below.refl _ _).drew
  by_cases ht1:t=1
  ·subst ht1;refine wp_region_noPanic ?_;refine wp_region_held_drew (S:=(fun w'=>w'.cell? ⟨w.heap.size,0,none⟩=some (.slice a p.length cap))) (by kernel_rfl) ?_ (fun hHeld=>?_)
   ·exact hbox
   refine dL (some 17) (i:=0) (v:=.int .i64 1) rfl rfl (by kernel_rfl) (by kernel_rfl) (by kernel_rfl) (fun _ _ _ h=>h) (Or.inl ⟨by rfl,fun w' hSw=>by (try dsimp only at hSw);go_simp⟩) (by assumption) ?_;try simp only [Act.put,aK,aO,aN]
   refine dL (some 18) (i:=1) (v:=.bool true) rfl rfl (by kernel_rfl) (by kernel_rfl) (by kernel_rfl) (fun _ _ _ h=>h) (Or.inl ⟨by rfl,fun w' hSw=>by (try dsimp only at hSw);go_simp⟩) (by assumption) ?_;try simp only [Act.put,aK,aO,aN]
   refine dL (some 19) (i:=2) (v:=.bool true) rfl rfl (by kernel_rfl) (by kernel_rfl) (by kernel_rfl) (fun _ _ _ h=>h) (Or.inl ⟨by rfl,fun w' hSw=>by (try dsimp only at hSw);go_simp⟩) (by assumption) ?_;try simp only [Act.put,aK,aO,aN]
   refine gV 20 3 ?_;refine gV 21 4 ?_;refine gV 22 5 ?_;refine gV 23 6 ?_;refine gV 24 7 ?_;refine gV 25 8 ?_;refine gV 26 9 ?_;refine gV 27 10 ?_;refine gV 28 11 ?_;refine gV 29 12 ?_;refine dL (some 30) (i:=13) (v:=.bool true) rfl rfl (by kernel_rfl) (by kernel_rfl) (by kernel_rfl) (fun _ _ _ h=>h) (Or.inl ⟨by rfl,fun w' hSw=>by (try dsimp only at hSw);go_simp⟩) (by assumption) ?_;try simp only [Act.put,aK,aO,aN]
   refine dL (some 6) (i:=14) (v:=.bool true) rfl rfl (by kernel_rfl) (by kernel_rfl) (by kernel_rfl) (fun _ _ _ h=>h) (Or.inl ⟨by rfl,fun w' hSw=>by (try dsimp only at hSw);go_simp⟩) (by assumption) ?_;try simp only [Act.put,aK,aO,aN]
   refine wpAnyH_done (by kernel_rfl) ?_ _;refine NoPanic.normal ?_;go_wp2_with fail
   go_ret;exact⟨aT (XM h3).symm,hbel.trans (hdr.mono hbel.size)⟩
  ·have ht1':(t == 1)=false:=by simpa using ht1
   refine wp_region_noPanic ?_;refine wp_region_held_drew (S:=(fun w'=>w'.cell? ⟨w.heap.size,0,none⟩=some (.slice a p.length cap))) (by kernel_rfl) ?_ (fun hHeld=>?_)
   ·exact hbox
   refine dL (some 17) (i:=0) (v:=.int .i64 t) rfl rfl (by kernel_rfl) (by kernel_rfl) (by kernel_rfl) (fun _ _ _ h=>h) (Or.inl ⟨by rfl,fun w' hSw=>by (try dsimp only at hSw);go_simp⟩) (by assumption) ?_;try simp only [Act.put,aK,aO,aN]
   refine dL (some 18) (i:=1) (v:=.bool false) rfl rfl (by kernel_rfl) (by kernel_rfl) (by kernel_rfl) (fun _ _ _ h=>h) (Or.inl ⟨by rfl,fun w' hSw=>by (try dsimp only at hSw);go_simp⟩) (by assumption) ?_;try simp only [Act.put,aK,aO,aN]
   refine dL (some 19) (i:=2) (v:=.bool false) rfl rfl (by kernel_rfl) (by kernel_rfl) (by kernel_rfl) (fun _ _ _ h=>h) (Or.inl ⟨by rfl,fun w' hSw=>by (try dsimp only at hSw);go_simp⟩) (by assumption) ?_;try simp only [Act.put,aK,aO,aN]
   refine dL (some 20) (i:=3) (v:=.int .i64 t) rfl rfl (by kernel_rfl) (by kernel_rfl) (by kernel_rfl) (fun _ _ _ h=>h) (Or.inl ⟨by rfl,fun w' hSw=>by (try dsimp only at hSw);go_simp⟩) (by assumption) ?_;try simp only [Act.put,aK,aO,aN]
   refine aW 4 (fun K hK=>?_);go_simp;refine (J9 t _).mono ?_;rintro e w1 ⟨rfl,rfl⟩
   by_cases ht3:3≤t
   ·have TV:decide (3≤t)=true:=decide_eq_true ht3;rw [TV];go_wp2_with fail
    refine hK.out _ _ hbox (fun hHeld=>?_);clear hK K;try simp only [Act.put,aK,aO,aN]
    refine dL (some 22) (i:=5) (v:=.bool true) rfl rfl (by kernel_rfl) (by kernel_rfl) (by kernel_rfl) (fun _ _ _ h=>h) (Or.inl ⟨by rfl,fun w' hSw=>by (try dsimp only at hSw);go_simp⟩) (by assumption) ?_;try simp only [Act.put,aK,aO,aN]
    refine dL (some 23) (i:=6) (v:=.agg #[.slice a p.length cap]) rfl rfl (by kernel_rfl) (by kernel_rfl) (by kernel_rfl) (fun _ _ _ h=>h) (Or.inl ⟨by rfl,fun w' hSw=>by (try dsimp only at hSw);go_simp⟩) (by assumption) ?_;try simp only [Act.put,aK,aO,aN]
    refine dL (some 24) (i:=7) (v:=.int .i64 t) rfl rfl (by kernel_rfl) (by kernel_rfl) (by kernel_rfl) (fun _ _ _ h=>h) (Or.inl ⟨by rfl,fun w' hSw=>by (try dsimp only at hSw);go_simp⟩) (by assumption) ?_;try simp only [Act.put,aK,aO,aN]
    refine dL (some 26) (i:=9) (v:=.int .i64 o) rfl rfl (by kernel_rfl) (by kernel_rfl) (by kernel_rfl) (fun _ _ _ h=>h) (Or.inl ⟨by rfl,fun w' hSw=>by (try dsimp only at hSw);go_simp⟩) (by assumption) ?_;try simp only [Act.put,aK,aO,aN]
    refine aW 8 (fun K hK=>?_);go_simp;refine (RS t t0 (by omega) _).mono ?_;rintro e w2 ⟨rfl,rfl⟩;go_wp2_with fail
    refine hK.out _ _ hbox (fun hHeld=>?_);clear hK K;try simp only [Act.put,aK,aO,aN]
    refine aW 10 (fun K hK=>?_);go_simp;refine (RS o o0 (by omega) _).mono ?_;rintro e w2 ⟨rfl,rfl⟩;go_wp2_with fail
    refine hK.out _ _ hbox (fun hHeld=>?_);clear hK K;try simp only [Act.put,aK,aO,aN]
    refine aW 11 (fun K hK=>?_);go_simp;refine (aeG p _ (t-3) (o-3) _ (aP (Keeps.of_below (hbel.trans (hdr.mono hbel.size))) (ah HP)) hs (by omega) (by omega) hz).mono ?_;rintro e w3 ⟨rfl,hb3⟩;have HB3:=hide (hdr.trans (hb3.mono hdr.size));clear hb3;go_wp2_with fail
    refine hK.out _ _ (adU hbox HB3.out) (fun hHeld=>?_);clear hK K;try simp only [Act.put,aK,aO,aN]
    refine dL (some 29) (i:=12) (v:=.bool (gY p (t-3) (o-3))) rfl rfl (by kernel_rfl) (by kernel_rfl) (by kernel_rfl) (fun _ _ _ h=>h) (Or.inl ⟨by rfl,fun w' hSw=>by (try dsimp only at hSw);go_simp⟩) (by assumption) ?_;try simp only [Act.put,aK,aO,aN]
    refine dL (some 30) (i:=13) (v:=.bool (gY p (t-3) (o-3))) rfl rfl (by kernel_rfl) (by kernel_rfl) (by kernel_rfl) (fun _ _ _ h=>h) (Or.inl ⟨by rfl,fun w' hSw=>by (try dsimp only at hSw);go_simp⟩) (by assumption) ?_;try simp only [Act.put,aK,aO,aN]
    refine dL (some 6) (i:=14) (v:=.bool (gY p (t-3) (o-3))) rfl rfl (by kernel_rfl) (by kernel_rfl) (by kernel_rfl) (fun _ _ _ h=>h) (Or.inl ⟨by rfl,fun w' hSw=>by (try dsimp only at hSw);go_simp⟩) (by assumption) ?_;try simp only [Act.put,aK,aO,aN]
    refine wpAnyH_done (by kernel_rfl) ?_ _;refine NoPanic.normal ?_;go_wp2_with fail
    go_ret;exact⟨aT (XI h1 ht3 h3).symm,hbel.trans (HB3.out.mono hbel.size)⟩
   ·have TV:decide (3≤t)=false:=decide_eq_false ht3;rw [TV];go_wp2_with fail
    refine hK.out _ _ hbox (fun hHeld=>?_);clear hK K;try simp only [Act.put,aK,aO,aN]
    refine dL (some 22) (i:=5) (v:=.bool false) rfl rfl (by kernel_rfl) (by kernel_rfl) (by kernel_rfl) (fun _ _ _ h=>h) (Or.inl ⟨by rfl,fun w' hSw=>by (try dsimp only at hSw);go_simp⟩) (by assumption) ?_;try simp only [Act.put,aK,aO,aN]
    refine gV 23 6 ?_;refine gV 24 7 ?_;refine gV 25 8 ?_;refine gV 26 9 ?_;refine gV 27 10 ?_;refine gV 28 11 ?_;refine dL (some 29) (i:=12) (v:=.bool false) rfl rfl (by kernel_rfl) (by kernel_rfl) (by kernel_rfl) (fun _ _ _ h=>h) (Or.inl ⟨by rfl,fun w' hSw=>by (try dsimp only at hSw);go_simp⟩) (by assumption) ?_;try simp only [Act.put,aK,aO,aN]
    refine dL (some 30) (i:=13) (v:=.bool false) rfl rfl (by kernel_rfl) (by kernel_rfl) (by kernel_rfl) (fun _ _ _ h=>h) (Or.inl ⟨by rfl,fun w' hSw=>by (try dsimp only at hSw);go_simp⟩) (by assumption) ?_;try simp only [Act.put,aK,aO,aN]
    refine dL (some 6) (i:=14) (v:=.bool false) rfl rfl (by kernel_rfl) (by kernel_rfl) (by kernel_rfl) (fun _ _ _ h=>h) (Or.inl ⟨by rfl,fun w' hSw=>by (try dsimp only at hSw);go_simp⟩) (by assumption) ?_;try simp only [Act.put,aK,aO,aN]
    refine wpAnyH_done (by kernel_rfl) ?_ _;refine NoPanic.normal ?_;go_wp2_with fail
    go_ret;exact⟨aT (RD h1 h2 ht1 (by omega)).symm,hbel.trans (hdr.mono hbel.size)⟩
 ·have h3':decide (3≤o)=false:=decide_eq_false h3;go_wp2_with fail
  generalize w.alloc _=W at *;refine Calls.mono (J9 o W) ?_;rintro e w' ⟨rfl,rfl⟩;rw [h3'];go_wp2_with fail
  go_ret;exact⟨aT (XL h1 h2 (by omega)).symm,hbel⟩
structure eX (s:aH)(cs:List Value):Prop where
 ok:okS s
 len:cs.length=17
 ints:∀v∈cs,∃x,v= .int .i64 x
 loc:∀(i:Nat) (x:Int),s.loc[i]? =some x→cs[i]? =some (.int .i64 x)
 stk:∀(i:Nat) (x:Int),s.stk[i]? =some x→cs[8+i]? =some (.int .i64 x)
 ht:cs[16]? =some (.int .i64 (s.stk.length:Int))
theorem eX.one {s:aH}{cs:List Value}(h:eX s cs):∀v∈cs,v.oneCell'=true:=fun v hv=>by
 obtain⟨x,rfl⟩:=h.ints v hv
 rfl
theorem ints_set {cs:List Value}(h:∀v∈cs,∃x,v= .int .i64 x)(i:Nat)(x:Int):∀v∈cs.set i (.int .i64 x),∃x,v= .int .i64 x:=fun v hv=>by
 rcases List.mem_or_eq_of_mem_set hv with h1 | h1
 ·exact h v h1
 ·exact⟨x,h1⟩
def xW (s:aH)(t:Int):aH:= { s with stk:=s.stk++ [t] }
def DT (s:aH):aH:= { s with stk:=s.stk.dropLast }
def xZ (s:aH)(i:Nat)(t:Int):aH:= { s with loc:=s.loc.set i t }
theorem eX.push {s:aH}{cs:List Value}(h:eX s cs)(t:Int)(hl:s.stk.length<8):eX (xW s t) ((cs.set (8+s.stk.length) (.int .i64 t)).set 16 (.int .i64 ((s.stk.length:Int)+1))):=by
 have hc:=h.len;refine⟨⟨h.ok.1,by simp [xW];omega⟩,by simp [hc],ints_set (ints_set h.ints _ _) _ _,fun i x e=>?_,fun i x e=>?_,?_⟩
 ·have hi:i<8:=by have:=(List.getElem?_eq_some_iff.1 e).1;have h1:=h.ok.1;simp only [xW] at this;omega
  rw [List.getElem?_set_ne (by omega),List.getElem?_set_ne (by omega)];exact h.loc i x e
 ·have hi:i<s.stk.length+1:=by have:=(List.getElem?_eq_some_iff.1 e).1;simpa [xW] using this
  rw [List.getElem?_set_ne (by omega)]
  by_cases hq:i=s.stk.length
  ·subst hq;rw [List.getElem?_set_self (by omega)];simp [xW] at e;rw [e]
  ·rw [List.getElem?_set_ne (by omega)];refine h.stk i x ?_;simp only [xW] at e;rw [List.getElem?_append_left (by omega)] at e;exact e
 ·rw [List.getElem?_set_self (by simp [hc])];simp [xW]
theorem eX.pop {s:aH}{cs:List Value}(h:eX s cs)(hl:0<s.stk.length):eX (DT s) (cs.set 16 (.int .i64 ((s.stk.length:Int)-1))):=by
 have hc:=h.len;have h8:=h.ok.2;refine⟨⟨h.ok.1,by simp [DT];omega⟩,by simp [hc],ints_set h.ints _ _,fun i x e=>?_,fun i x e=>?_,?_⟩
 ·have hi:i<8:=by have:=(List.getElem?_eq_some_iff.1 e).1;have h1:=h.ok.1;simp only [DT] at this;omega
  rw [List.getElem?_set_ne (by omega)];exact h.loc i x e
 ·have hi:i<s.stk.length-1:=by have:=(List.getElem?_eq_some_iff.1 e).1;simpa [DT] using this
  rw [List.getElem?_set_ne (by omega)];refine h.stk i x ?_;simp only [DT] at e;rw [List.getElem?_dropLast,if_pos (by omega)] at e;exact e
 ·rw [List.getElem?_set_self (by omega)];simp only [DT,List.length_dropLast,Option.some.injEq,Value.int.injEq,true_and];omega
theorem eX.set {s:aH}{cs:List Value}(h:eX s cs)(i:Nat)(t:Int)(hi:i<8):eX (xZ s i t) (cs.set i (.int .i64 t)):=by
 have hc:=h.len;have h1:=h.ok.1;have h8:=h.ok.2;refine⟨⟨by simp [xZ,h1],h8⟩,by simp [hc],ints_set h.ints _ _,fun j x e=>?_,fun j x e=>?_,?_⟩
 ·simp only [xZ,List.getElem?_set] at e;rw [List.getElem?_set]
  by_cases hq:i=j
  ·subst hq;rw [if_pos rfl] at e ⊢;rw [if_pos (by omega)] at e;rw [if_pos (by omega)];simp only [Option.some.injEq] at e;rw [e]
  ·rw [if_neg hq] at e ⊢;exact h.loc j x e
 ·have:=(List.getElem?_eq_some_iff.1 e).1;simp only [xZ] at this;rw [List.getElem?_set_ne (by omega)];exact h.stk j x e
 ·rw [List.getElem?_set_ne (by omega)];exact h.ht
theorem eX.Zj {s:aH}{cs:List Value}(h:eX s cs){i:Nat}(hi:i<8):cs[i]? =some (.int .i64 (s.loc.getD i 0)):=by
 have h1:=h.ok.1;refine h.loc i _ ?_;rw [List.getD_eq_getElem?_getD,List.getElem?_eq_getElem (by omega)]
 rfl
theorem eX.getTop {s:aH}{cs:List Value}(h:eX s cs){x:Int}(hx:s.stk.getLast? =some x):cs[8+(s.stk.length-1)]? =some (.int .i64 x):=by
 refine h.stk _ x ?_;rw [List.getLast?_eq_getElem?] at hx;exact hx
theorem eX.has {s:aH}{cs:List Value}(h:eX s cs){i:Nat}(hi:i<17):∃v,cs[i]? =some v:=⟨cs[i]'(by rw [h.len];exact hi),List.getElem?_eq_getElem _⟩

theorem acC (s:aH)(cs:List Value)(w:World)(h:eX s cs):Calls Tryz.prog 225 #[.agg cs.toArray] w fun e w'=>e= .returned (.int .i64 (s.stk.length:Int))∧Below w.heap.size w w':=by
 have hb:(w.alloc (.cells cs.toArray 130)).cell? ⟨w.heap.size,16,none⟩=some (.int .i64 (s.stk.length:Int)):=by rw [iK];simpa using h.ht
 go_enter Tryz.func225,Tryz.ntmps225
 go_wp2_with fail
 go_ret;exact⟨rfl,aS _ _⟩
theorem ajY (s:aH)(cs:List Value)(i:Nat)(w:World)(h:eX s cs)(hi:i<8):Calls Tryz.prog 204 #[.agg cs.toArray,.int .i64 (i:Int)] w fun e w'=>e= .returned (.int .i64 (s.loc.getD i 0))∧Below w.heap.size w w':=by
 have hb:(w.alloc (.cells cs.toArray 130)).cell? ⟨w.heap.size,i,none⟩=some (.int .i64 (s.loc.getD i 0)):=by rw [iK];simpa using h.Zj hi
 have h0:(0:Int)≤(i:Int):=by omega
 have h8:(i:Int)<8:=by omega
 generalize s.loc.getD i 0=x at *;go_enter Tryz.func204,Tryz.ntmps204
 go_wp2_with fail
 go_ret;exact⟨rfl,aS _ _⟩

def nX (w:World)(bl:Nat)(pre:List Value)(s:aH):Prop:=pre.length=8∧∃cs,eX s cs∧ak w bl 222 (pre++cs)
theorem nX.lt {w:World}{bl:Nat}{pre:List Value}{s:aH}(h:nX w bl pre s):bl<w.heap.size:=by
 obtain⟨h0,cs,h1,h2⟩:=h;exact h2.lt
theorem nX.below {w w':World}{bl:Nat}{pre:List Value}{s:aH}(h:nX w bl pre s)(k:Below w.heap.size w w'):nX w' bl pre s:=by
 obtain⟨h0,cs,h1,h2⟩:=h;exact⟨h0,cs,h1,h2.below k h2.lt⟩
theorem Py {pre cs:List Value}(h:pre.length=8)(i:Nat)(v:Value):(pre++cs).set (8+i) v=pre++cs.set i v:=by
 rw [List.set_append,if_neg (by omega),h]
 congr 2
 omega
theorem Ag {pre cs:List Value}(h:pre.length=8)(i:Nat):(pre++cs)[8+i]? =cs[i]? :=by
 rw [List.getElem?_append_right (by omega),h]
 congr 1
 omega
theorem ah2 (w:World)(b i j:Nat)(x y:Value):ay (fun k=>k=b) w ((w.setCell ⟨b,i,none⟩ x).setCell ⟨b,j,none⟩ y):=
 ((ay.refl (fun k=>k=b) w).setCell (p:=⟨b,i,none⟩) (fun _=>rfl) x).setCell (p:=⟨b,j,none⟩) (fun _=>rfl) y
theorem ajZ (s:aH)(t:Int)(w:World)(bl:Nat)(pre:List Value)(h:nX w bl pre s)(hl:s.stk.length<8) :
  Calls Tryz.prog 226 #[.pointer (some ⟨bl,8,none⟩),.int .i64 t] w fun e w'=>e= .returned (.tuple #[])∧nX w' bl pre (xW s t)∧ay (fun k=>k=bl) w w':=by
 obtain⟨h0,cs,h1,h2⟩:=h;obtain⟨v,hv⟩:=h1.has (i:=8+s.stk.length) (by omega);have c0:w.cell? ⟨bl,24,none⟩=some (.int .i64 (s.stk.length:Int)):=by rw [h2.cell,show 24=8+16 from rfl,Ag h0];exact h1.ht
 have c1:w.cell? ⟨bl,16+s.stk.length,none⟩=some v:=by rw [h2.cell,show 16+s.stk.length=8+(8+s.stk.length) by omega,Ag h0];exact hv
 have f0:=h2.frozen 24;have f1:=h2.frozen (16+s.stk.length);have i0:(0:Int)≤(s.stk.length:Int):=by omega
 have i8:(s.stk.length:Int)<8:=by omega
 have Z:=h2.setCell (16+s.stk.length) (.int .i64 t)
 have e0:(w.setCell ⟨bl,16+s.stk.length,none⟩ (.int .i64 t)).cell? ⟨bl,24,none⟩=some (.int .i64 (s.stk.length:Int)):=by
  rw [Z.cell,List.getElem?_set_ne (by omega),show 24=8+16 from rfl,Ag h0];exact h1.ht
 have g0:=Z.frozen 24;have Z0:=Z.setCell 24 (.int .i64 ((s.stk.length:Int)+1));have Z1:=h1.push t hl;have Z2:=ah2 w bl (16+s.stk.length) 24 (.int .i64 t) (.int .i64 ((s.stk.length:Int)+1));rw [show 16+s.stk.length=8+(8+s.stk.length) by omega,Py h0,show 24=8+16 from rfl,Py h0] at Z0;rw [show 8+(8+s.stk.length)=16+s.stk.length by omega] at Z0;have HZ:=hide Z0;have HZ1:=hide Z1;have HZ2:=hide Z2;clear Z Z0 Z1 Z2 h1 h2 hv;have QO:Hid (xW s t=xW s t):=rfl;generalize hn:s.stk.length=n at *;clear hn;go_enter Tryz.func226,Tryz.ntmps226
 go_wp2_with fail
 go_region_held3 (fun w'=>w'.cell? ⟨bl,24,none⟩=some (.int .i64 (n:Int)))
  (first | (exact c0) | (exact e0) | go_keep)
  (fail)
 go_wp2_with fail
 go_end0;exact⟨rfl,⟨h0,_,ah HZ1,(ah HZ).drew⟩,(ah HZ2).drew⟩
theorem st_pop (s:aH)(x:Int)(w:World)(bl:Nat)(pre:List Value)(h:nX w bl pre s)(hx:s.stk.getLast? =some x) :
  Calls Tryz.prog 227 #[.pointer (some ⟨bl,8,none⟩)] w fun e w'=>e= .returned (.int .i64 x)∧nX w' bl pre (DT s)∧ay (fun k=>k=bl) w w':=by
 obtain⟨h0,cs,h1,h2⟩:=h
 have hl:0<s.stk.length:=by
  rcases Nat.eq_zero_or_pos s.stk.length with e | e
  ·rw [List.eq_nil_of_length_eq_zero e] at hx;cases hx
  ·exact e
 have h8:=h1.ok.2;have c0:w.cell? ⟨bl,24,none⟩=some (.int .i64 (s.stk.length:Int)):=by rw [h2.cell,show 24=8+16 from rfl,Ag h0];exact h1.ht
 have f0:=h2.frozen 24;have Z:=h2.setCell 24 (.int .i64 ((s.stk.length:Int)-1));rw [show 24=8+16 from rfl,Py h0] at Z;have Z1:=h1.pop hl
 have e0:(w.setCell ⟨bl,24,none⟩ (.int .i64 ((s.stk.length:Int)-1))).cell? ⟨bl,24,none⟩=some (.int .i64 ((s.stk.length:Int)-1)):=by
  have:=Z.cell (8+16);rw [Ag h0] at this;rw [show (24:Nat)=8+16 from rfl,this,List.getElem?_set_self (by rw [h1.len];omega)]
 have e1:(w.setCell ⟨bl,24,none⟩ (.int .i64 ((s.stk.length:Int)-1))).cell? ⟨bl,16+(s.stk.length-1),none⟩=some (.int .i64 x):=by
  have:=Z.cell (8+(8+(s.stk.length-1)));rw [Ag h0,List.getElem?_set_ne (by omega),h1.getTop hx] at this;rw [show 16+(s.stk.length-1)=8+(8+(s.stk.length-1)) by omega];exact this
 have Z2:=(ay.refl (fun k=>k=bl) w).setCell (p:=⟨bl,24,none⟩) (fun _=>rfl) (.int .i64 ((s.stk.length:Int)-1));have HZ:=hide Z;have HZ1:=hide Z1;have HZ2:=hide Z2;clear Z Z1 Z2 h1 h2;clear hx;generalize s.stk.length=n at *;obtain⟨m,rfl⟩:∃m,n=m+1:=⟨n-1,by omega⟩;have e2:((m+1:Nat):Int)-1=(m:Int):=by omega
 rw [e2] at e0 e1 HZ HZ1 HZ2;rw [show m+1-1=m from rfl] at e1;have i0:(0:Int)≤(m:Int):=by omega
 have i8:(m:Int)<8:=by omega
 go_enter Tryz.func227,Tryz.ntmps227
 go_wp2_with fail
 go_region_held3 (fun w'=>w'.cell? ⟨bl,24,none⟩=some (.int .i64 (m:Int))∧w'.cell? ⟨bl,16+m,none⟩=some (.int .i64 x))
  (first | (exact⟨e0,e1⟩) | go_keep)
  (fail)
 go_wp2_with fail
 go_ret;exact⟨rfl,⟨h0,_,ah HZ1,(ah HZ).drew⟩,(ah HZ2).drew⟩
theorem ajg (p:List aj)(vc:Value)(c o:Int)(w:World)(hp:aX w vc p)(hs:aU p p.length)(hc: -1≤c)(hcn:c<p.length)(_hz:p.length≤4194304) :
  Calls Tryz.prog 201 #[.agg #[vc],.int .i64 c,.int .i64 o] w fun e w'=>e= .returned (.bool (gY p c o))∧Below w.heap.size w w':=by
 obtain⟨a,b,off,cap,rfl,hcap,ha,hr⟩:=aZ hp;go_enter Tryz.func201,Tryz.ntmps201
 go_wp2
 generalize hW:w.alloc _=W;have hbel:Below w.heap.size w W:=hW▸aS _ _;have hbox:W.cell? ⟨w.heap.size,0,none⟩=some (.slice a p.length cap):=hW▸iK w #[.slice a p.length cap] 24 0;clear hW
 go_loop [1] (fun s=>∃c':Int,-1≤c'∧c'<p.length∧s= .int .i64 c'∧gY p c o=gY p c' o) (fun s=>(intOf s+1).toNat)
 case atStart=>exact ⟨c,hc,hcn,rfl,rfl⟩
 case round=>
  obtain⟨c',h1,h2,rfl,hm⟩:=hrel;have HM:=hide hm;clear hm
  rcases Int.lt_or_le c' 0 with hneg | hpos
  ·go_wp2
   go_ret;exact⟨aT (by rw [ah HM,YK p o hneg]),hbel⟩
  ·obtain⟨i,rfl⟩:=Int.eq_ofNat_of_zero_le hpos;have hi:i<p.length:=by omega
   obtain rfl:=ha (bJ hi);obtain⟨vf,vm,c0,c1,c2,hf,hmm⟩:=(hr i hi).keep (Keeps.of_below hbel);have HX:=hide (List.getElem?_eq_getElem hi);clear hr hmm hf c1 c2;generalize p[i]=x at *
   by_cases hq:(i:Int)=o
   ·have hq':((i:Int) == o)=true:=by simpa using hq
    go_wp2_with fail
    go_ret;exact⟨aT (by rw [ah HM,NI p hs o hi (ah HX),hq'];rfl),hbel⟩
   ·have hq':((i:Int) == o)=false:=by simpa using hq
    go_wp2_with fail
    have hsup:=pV (hs i x (by omega) (ah HX));exact⟨⟨x.sup,hsup.1,by omega,rfl,by rw [ah HM,NI p hs o hi (ah HX),hq'];rfl⟩,by simp [intOf];omega⟩
theorem IL (p:List aj)(vc:Value)(t o:Int)(w:World)(hp:aX w vc p)(hs:aU p p.length)(hz:p.length≤4194304)(ht:bT p.length t)(ho:bT p.length o) :
  Calls Tryz.prog 154 #[.agg #[vc],.int .i64 t,.int .i64 o] w fun e w'=>e= .returned (.bool (bf p t o))∧Below w.heap.size w w':=by
 have HP:=hide hp;obtain⟨a,b,off,cap,rfl,_,_,_⟩:=aZ hp;clear hp;obtain⟨t0,t1⟩:=ht;obtain⟨o0,o1⟩:=ho;have hbel:Below w.heap.size w (w.alloc (.cells #[.slice a p.length cap] 24)):=aS _ _;go_enter Tryz.func154,Tryz.ntmps154
 by_cases h1:t=o
 ·subst h1;go_wp2_with fail
  go_ret;exact⟨aT (Nu (.inl rfl)).symm,hbel⟩
 have h1':(t == o)=false:=by simpa using h1
 by_cases h2:o=2
 ·subst h2;go_wp2_with fail
  go_ret;exact⟨aT (Nu (.inr rfl)).symm,hbel⟩
 have h2':(o == 2)=false:=by simpa using h2
 by_cases h3:o<3
 ·have HN:=hide (XL (p:=p) h1 h2 h3);go_wp2_with fail
  go_ret;exact⟨aT (ah HN).symm,hbel⟩
 by_cases ht0:t=0
 ·subst ht0;have HN:=hide (RD (p:=p) h1 h2 (by omega) (by omega));go_wp2_with fail
  go_ret;exact⟨aT (ah HN).symm,hbel⟩
 have ht0':(t == 0)=false:=by simpa using ht0
 by_cases ht2:t=2
 ·subst ht2;have HN:=hide (RD (p:=p) h1 h2 (by omega) (by omega));go_wp2_with fail
  go_ret;exact⟨aT (ah HN).symm,hbel⟩
 have alq:(t == 2)=false:=by simpa using ht2
 by_cases ht1:t=1
 ·subst ht1;have HN:=hide (XM (p:=p) (o:=o) (by omega));go_wp2_with fail
  go_ret;exact⟨aT (ah HN).symm,hbel⟩
 have ht1':(t == 1)=false:=by simpa using ht1
 have HN:=hide (XI (p:=p) h1 (show 3≤t by omega) (show 3≤o by omega));go_wp2_with fail
 refine (ajg p _ (t-3) (o-3) _ (aP (Keeps.of_below hbel) (ah HP)) hs (by omega) (by omega) hz).mono ?_;rintro e w1 ⟨rfl,hb1⟩;rw [←ah HN];go_wp2_with fail
 go_ret;exact⟨rfl,hbel.trans (hb1.mono hbel.size)⟩
end Go.Proofs.YtiiokkllmchohaaGreat
