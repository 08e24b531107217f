/- The code looks whether an instruction fits: what it takes and leaves. -/
import Derived.Deep.DeepCutAuto
import Derived.RangeFuncLeaves
import Derived.Shelf.Abstract
import Derived.OwnWalkIn
import Derived.TacticsInMore
import Derived.Test.YtiiokkllmchohaaGreatT01
import Derived.Test.YtiiokkllmchohaaGreatT11
import Derived.Test.YtiiokkllmchohaaGreatT12
import Derived.Test.YtiiokkllmchohaaGreatT14
import Derived.Test.YtiiokkllmchohaaGreatT19
import Derived.Test.YtiiokkllmchohaaGreatT20
set_option maxHeartbeats 4000000
set_option maxRecDepth 100000
namespace Go.Proofs.YtiiokkllmchohaaGreat
open Go.RowKit
attribute [local go_sem ↓] Go.wp_at_zero Go.wp_at_succ
theorem fB {w w':World}{S:Nat→Prop}(h:Below w.heap.size w w'):ay S w w':=(ay.of_below h).mono (fun i hi e=>absurd e (by omega))
theorem fM:ni Tryz.prog 130 17:=⟨by kernel_rfl,by kernel_rfl⟩
theorem Hw (w:World):Calls Tryz.prog 157 #[] w fun e w'=>e= .panicked (jB 5)∧w'=w:=by
 go_enter Tryz.func157,Tryz.ntmps157
 go_wp2_with (go_at_call 140;refine (RX _ _).mono ?_;rintro e w' ⟨rfl,rfl⟩)
 exact⟨rfl,rfl,rfl⟩
theorem nX.state {w:World}{bl:Nat}{pre:List Value}{s:aH}(h:nX w bl pre s):∃cs,eX s cs∧cs.length=17∧ak w bl 222 (pre++cs)∧∀j v,cs[j]? =some v→(pre++cs)[8+j]? =some v:=by
 obtain⟨h0,cs,h1,h2⟩:=h;exact⟨cs,h1,h1.len,h2,fun j v e=>by rw [Ag h0];exact e⟩
theorem aj0 (s:aH)(i:Nat)(t:Int)(w:World)(bl:Nat)(pre:List Value)(h:nX w bl pre s)(hi:i<8) :
  Calls Tryz.prog 205 #[.pointer (some ⟨bl,8,none⟩),.int .i64 (i:Int),.int .i64 t] w fun e w'=>e= .returned (.tuple #[])∧nX w' bl pre (xZ s i t)∧ay (fun k=>k=bl) w w':=by
 obtain⟨h0,cs,h1,h2⟩:=h;have c0:w.cell? ⟨bl,8+i,none⟩=some (.int .i64 (s.loc.getD i 0)):=by rw [h2.cell,Ag h0];exact h1.Zj hi
 have f0:=h2.frozen (8+i);have Z:=h2.setCell (8+i) (.int .i64 t);rw [Py h0] at Z;have HZ:=hide Z;have HZ1:=hide (h1.set i t hi);have i0:(0:Int)≤(i:Int):=by omega
 have i8:(i:Int)<8:=by omega
 clear Z h1 h2;go_enter Tryz.func205,Tryz.ntmps205
 go_wp2_with fail
 go_end0;exact⟨rfl,⟨h0,_,ah HZ1,ah HZ⟩,(ay.refl (fun k=>k=bl) w).setCell (p:=⟨bl,8+i,none⟩) (fun _=>rfl) _⟩

theorem FB (s:aH)(w:World)(bl:Nat)(pre:List Value)(h:nX w bl pre s) :
  Calls Tryz.prog 206 #[.pointer (some ⟨bl,0,none⟩)] w fun e w'=>(∀x s',fA s=some (x,s')→e= .returned (.int .i64 x)∧nX w' bl pre s')∧(fA s=none→e= .panicked (jB 5))∧ay (fun k=>k=bl) w w':=by
 obtain⟨cs,hS,hl,hB,hg⟩:=h.state;go_enter Tryz.func206,Tryz.ntmps206
 go_wp2_with (refine yj fM hB 8 cs hl hg (.tmp 5) rfl rfl rfl ?_)
 refine Calls.mono (acC s cs w hS) ?_;rintro e w1 ⟨rfl,hb1⟩;have h1:=h.below hb1;have m1:ay (fun k=>k=bl) w w1:=fB hb1
 cases hx:s.stk.getLast? with
 | none =>
  have hn:s.stk.length=0:=by
   rw [List.getLast?_eq_none_iff] at hx;rw [hx];rfl
  have HN:Hid (fA s=none):=by show _=_;unfold fA;rw [hx];rfl
  rw [hn];clear hn hx;go_wp2_with (go_at_call 157;refine (Hw _).mono ?_;rintro e w' ⟨rfl,rfl⟩)
  exact⟨rfl,fun x s' e=>(by rw [ah HN] at e;cases e),fun _=>rfl,m1⟩
 | some x =>
  have hn:¬(s.stk.length:Int)=0:=by
   intro e;rw [List.eq_nil_of_length_eq_zero (by omega:s.stk.length=0)] at hx;cases hx
  have hn':((s.stk.length:Int) == 0)=false:=by simpa using hn
  have HN:Hid (fA s=some (x,DT s)):=by show _=_;unfold fA;rw [hx];rfl
  have HX:=hide hx;clear hx hn;go_wp2_with fail
  refine Calls.mono (st_pop s x w1 bl pre h1 (ah HX)) ?_;rintro e w2 ⟨rfl,h2,m2⟩;go_wp2_with fail
  go_ret;refine⟨fun x' s' e=>?_,fun e=>(by rw [ah HN] at e;cases e),m1.trans m2 (fun _ _ e=>e)⟩;rw [ah HN] at e;simp only [Option.some.injEq,Prod.mk.injEq] at e;obtain⟨rfl,rfl⟩:=e;exact⟨rfl,h2⟩
theorem YW (t:Int)(w:World):Calls Tryz.prog 203 #[.int .i64 t] w fun e w'=>(∀x,lM t=some x→e= .returned (.int .i64 x))∧(lM t=none→e= .panicked (jB 5))∧w'=w:=by
 by_cases ht:t=2
 ·subst ht;go_enter Tryz.func203,Tryz.ntmps203
  go_wp2_with (go_at_call 157;refine (Hw _).mono ?_;rintro e w' ⟨rfl,rfl⟩)
  exact⟨rfl,fun x e=>(by simp [lM] at e),fun _=>rfl,rfl⟩
 ·have ht':(t == 2)=false:=by simpa using ht
  go_enter Tryz.func203,Tryz.ntmps203
  go_wp2_with fail
  go_ret;refine⟨fun x e=>?_,fun e=>?_,rfl⟩
  ·simp [lM,ht] at e;subst e;rfl
  ·simp [lM,ht] at e
theorem ay.acK {S:Nat→Prop}{W w':World}(h:ay S W.drew w'):ay S W w':=⟨h.os,h.tape,h.output,h.size,h.block⟩
def kV (n:Nat)(k:Int)(s:aH):Prop:=(∀x∈s.loc,bT n x)∧(∀x∈s.stk,bT n x)∧(s.stk.length:Int)≤k
structure fQ (w0 w:World)(bl:Nat)(p:List aj)(vc:Value)(m:aC)(pre:List Value)(s:aH):Prop where
 lk:nX w bl pre s
 pr:aX w0 vc p
 b0:Below w0.heap.size w0 w
 le:w0.heap.size≤bl
 p0:pre[0]? =some vc
 p3:pre[3]? =some (.int .i64 m.ret)
 p5:pre[5]? =some (.int .i64 m.stack)
 ty:kV p.length m.stack s
section
variable {w0 w w' : World} {bl : Nat} {p : List aj} {vc : Value} {m : aC} {pre : List Value} {s s' : aH}
theorem fQ.next (h:fQ w0 w bl p vc m pre s)(hl:nX w' bl pre s')(hm:ay (fun k=>k=bl) w w')(ht:kV p.length m.stack s'):fQ w0 w' bl p vc m pre s':=
 have hle:=h.le
 ⟨hl,h.pr,h.b0.trans (hm.below h.b0.size (fun k hk e=>by omega)),hle,h.p0,h.p3,h.p5,ht⟩
theorem fQ.below (h:fQ w0 w bl p vc m pre s)(hb:Below w.heap.size w w'):fQ w0 w' bl p vc m pre s:=h.next (h.lk.below hb) (fB hb) h.ty
theorem fQ.cell (h:fQ w0 w bl p vc m pre s){i:Nat}{v:Value}(hi:i<8)(hv:pre[i]? =some v):w.cell? ⟨bl,i,none⟩=some v:=by
 obtain⟨h0,cs,_,h2⟩:=h.lk;rw [h2.cell,List.getElem?_append_left (by omega)];exact hv
theorem fQ.rp (h:fQ w0 w bl p vc m pre s):aX w vc p:=aP (Keeps.of_below h.b0) h.pr
end
theorem FV {n:Nat}{k:Int}{s s':aH}{x:Int}(h:fA s=some (x,s'))(ht:kV n k s):bT n x∧kV n k s':=by
 unfold fA at h
 cases e:s.stk.getLast? with
 | none => rw [e] at h; cases h
 | some y =>
  rw [e] at h;simp only [Option.map_some,Option.some.injEq,Prod.mk.injEq] at h;obtain⟨rfl,rfl⟩:=h;exact⟨ht.2.1 y (List.mem_of_getLast? e),ht.1,fun x hx=>ht.2.1 x (List.dropLast_subset _ hx),by have:=ht.2.2;simp only [List.length_dropLast];omega⟩
theorem ahN {n:Nat}{m:aC}{t:Int}{s s':aH}(h:bM m t s=some s')(ht:kV n m.stack s)(hx:bT n t):kV n m.stack s':=by
 unfold bM at h
 split at h
 ·cases h
 ·rename_i hne
  cases h
  refine⟨ht.1,fun x hx'=>?_,?_⟩
  ·rcases List.mem_append.1 hx' with g | g
   ·exact ht.2.1 x g
   ·rw [List.mem_singleton.1 g];exact hx
  ·have:=ht.2.2;simp only [List.length_append,List.length_singleton];omega

theorem qA (t:Int)(p:List aj)(vc:Value)(m:aC)(s:aH)(w0 w:World)(bl:Nat)(pre:List Value)(h:fQ w0 w bl p vc m pre s)(hs:aU p p.length)(hz:p.length≤4194304)(ht:bT p.length t) :
  Calls Tryz.prog 207 #[.pointer (some ⟨bl,0,none⟩),.int .i64 t] w fun e w'=>(∀s',dw p t s=some s'→e= .returned (.tuple #[])∧fQ w0 w' bl p vc m pre s')∧(dw p t s=none→e= .panicked (jB 5))∧ay (fun k=>k=bl) w w':=by
 have c0:=h.cell (by omega) h.p0;have H:=hide h;obtain⟨va,_,_,fJ,rfl,_⟩:=h.pr;clear h;go_enter Tryz.func207,Tryz.ntmps207
 go_wp2_with fail
 refine wp_region_held_drew (S:=(fun w'=>w'.cell? ⟨bl,0,none⟩=some (.slice va p.length fJ))) (by kernel_rfl) ?_ (fun hHeld=>?_)
 ·exact c0
 refine au 4 0 ?_;refine au 5 1 ?_;refine au 6 2 ?_;refine au 7 3 ?_;refine au 8 4 ?_;refine au 10 6 ?_;refine aW 5 (fun K hK=>?_);go_simp;refine (FB s _ bl pre ((ah H).below ((Below.refl _ _).drew)).lk).mono ?_;rintro e w1 ⟨h1,h2,m1⟩;have qB:ay (fun k=>k=bl) w w1:=m1.acK
 cases htk:fA s with
 | none =>
  obtain rfl:=h2 htk;have HN:Hid (dw p t s=none):=by show _=_;unfold dw;rw [htk];rfl
  clear htk h1 h2;go_wp2_with fail
  exact⟨rfl,fun s' e=>(by rw [ah HN] at e;cases e),fun _=>rfl,qB⟩
 | some y =>
  obtain⟨x,s1⟩:=y;obtain⟨rfl,hl1⟩:=h1 x s1 htk;have hty:=FV htk (ah H).ty;have L1:=(ah H).next hl1 qB hty.2;have wJ:=hide L1;have hx:=hty.1;have d0:=L1.cell (by omega) L1.p0;have HW:Hid (dw p t s=if bf p x t then some s1 else none):=by show _=_;unfold dw;rw [htk];rfl
  have vG:=hide qB;clear htk h1 h2 hl1 hty m1 qB L1;go_wp2_with fail
  refine hK.out _ _ d0 (fun hHeld=>?_);clear hK K;try simp only [Act.put,aK,aO,aN]
  refine aW 7 (fun K hK=>?_);go_simp;refine (Ko p _ x t _ (ah wJ).rp hs hz hx ht).mono ?_;rintro e w2 ⟨rfl,hb2⟩;have L2:=hide ((ah wJ).below hb2);have lW:=hide ((ah vG).trans (fB (S:=fun k=>k=bl) hb2) (fun _ _ e=>e));have d2:=(ah L2).cell (by omega) (ah L2).p0;clear hb2;go_wp2_with fail
  refine hK.out _ _ d2 (fun hHeld=>?_);clear hK K;try simp only [Act.put,aK,aO,aN]
  refine au 12 8 ?_;refine wpAnyH_done (by kernel_rfl) ?_ _
  cases hq:bf p x t with
  | false =>
   have HN:Hid (dw p t s=none):=by show _=_;rw [ah HW,hq];rfl
   clear hq;go_wp2_with (go_at_call 157;refine (Hw _).mono ?_;rintro e w' ⟨rfl,rfl⟩)
   exact⟨rfl,fun s' e=>(by rw [ah HN] at e;cases e),fun _=>rfl,ah lW⟩
  | true =>
   have HN:Hid (dw p t s=some s1):=by show _=_;rw [ah HW,hq];rfl
   clear hq;go_wp2_with fail
   go_end0;refine⟨fun s' e=>?_,fun e=>(by rw [ah HN] at e;cases e),ah lW⟩;rw [ah HN] at e;simp only [Option.some.injEq] at e;subst e;exact⟨rfl,ah L2⟩
theorem abn (p:List aj)(vc:Value)(m:aC)(s:aH)(w0 w:World)(bl:Nat)(pre:List Value)(h:fQ w0 w bl p vc m pre s) :
  Calls Tryz.prog 209 #[.pointer (some ⟨bl,0,none⟩)] w fun e w'=>(∀s',jX s=some s'→e= .returned (.tuple #[])∧fQ w0 w' bl p vc m pre s')∧(jX s=none→e= .panicked (jB 5))∧ay (fun k=>k=bl) w w':=by
 go_enter Tryz.func209,Tryz.ntmps209
 go_wp2_with fail
 refine (FB s _ bl pre h.lk).mono ?_;rintro e w1 ⟨h1,h2,m1⟩
 cases htk:fA s with
 | none =>
  obtain rfl:=h2 htk;have HN:Hid (jX s=none):=by show _=_;unfold jX;rw [htk];rfl
  clear htk h1 h2;go_wp2_with fail
  exact⟨rfl,fun s' e=>(by rw [ah HN] at e;cases e),fun _=>rfl,m1⟩
 | some y =>
  obtain⟨x,s1⟩:=y;obtain⟨rfl,hl1⟩:=h1 x s1 htk;have hty:=FV htk h.ty;have wJ:=hide (h.next hl1 m1 hty.2);have HW:Hid (jX s=if qC x then some s1 else none):=by show _=_;unfold jX;rw [htk];rfl
  clear htk h1 h2 hl1 hty;go_wp2_with fail
  refine (aeW x _).mono ?_;rintro e w2 ⟨rfl,rfl⟩
  cases hq:qC x with
  | false =>
   have HN:Hid (jX s=none):=by show _=_;rw [ah HW,hq];rfl
   clear hq;go_wp2_with (go_at_call 157;refine (Hw _).mono ?_;rintro e w' ⟨rfl,rfl⟩)
   exact⟨rfl,fun s' e=>(by rw [ah HN] at e;cases e),fun _=>rfl,m1⟩
  | true =>
   have HN:Hid (jX s=some s1):=by show _=_;rw [ah HW,hq];rfl
   clear hq;go_wp2_with fail
   go_end0;refine⟨fun s' e=>?_,fun e=>(by rw [ah HN] at e;cases e),m1⟩;rw [ah HN] at e;simp only [Option.some.injEq] at e;subst e;exact⟨rfl,ah wJ⟩
theorem rO (t:Int)(p:List aj)(vc:Value)(m:aC)(s:aH)(w0 w:World)(bl:Nat)(pre:List Value)(h:fQ w0 w bl p vc m pre s)(ht:bT p.length t)(h8:m.stack≤8) :
  Calls Tryz.prog 202 #[.pointer (some ⟨bl,0,none⟩),.int .i64 t] w fun e w'=>(∀s',bM m t s=some s'→e= .returned (.tuple #[])∧fQ w0 w' bl p vc m pre s')∧(bM m t s=none→e= .panicked (jB 5))∧ay (fun k=>k=bl) w w':=by
 obtain⟨cs,hS,hl,hB,hg⟩:=h.lk.state;have c5:=h.cell (by omega) h.p5;go_enter Tryz.func202,Tryz.ntmps202
 go_wp2_with fail
 refine wp_region_held_drew (S:=(fun w'=>w'.cell? ⟨bl,5,none⟩=some (.int .i64 m.stack)∧ak w' bl 222 (pre++cs))) (by kernel_rfl) ?_ (fun hHeld=>?_)
 ·exact (And.intro c5 hB)
 refine au 4 0 ?_;refine au 5 1 ?_;refine au 6 2 ?_;refine dL (some 7) (i:=3) (v:=.agg cs.toArray) rfl rfl (by kernel_rfl) (by kernel_rfl) (by kernel_rfl) (fun _ _ _ h=>h) (Or.inl ⟨by rfl,fun w' hSw=>qQ fM hSw.2 8 cs hl hg rfl rfl⟩) (by assumption) ?_;try simp only [Act.put,aK,aO,aN]
 refine au 9 5 ?_;refine au 10 6 ?_;refine au 11 7 ?_;refine au 12 8 ?_;refine au 13 9 ?_;refine aW 4 (fun K hK=>?_);go_simp;refine (acC s cs _ hS).mono ?_;rintro e w1 ⟨rfl,hb1⟩;have hb1':Below w.heap.size w w1:=⟨hb1.os,hb1.tape,hb1.output,hb1.size,hb1.block⟩;have L1:=hide (h.below hb1');have d5:=(ah L1).cell (by omega) (ah L1).p5;have hB1:=hB.below hb1' hB.lt;have m1:ay (fun k=>k=bl) w w1:=fB hb1';go_wp2_with fail
 refine hK.out _ _ (And.intro d5 hB1) (fun hHeld=>?_);clear hK K;try simp only [Act.put,aK,aO,aN]
 refine au 14 10 ?_;refine wpAnyH_done (by kernel_rfl) ?_ _
 by_cases hq:(s.stk.length:Int)=m.stack
 ·have HN:Hid (bM m t s=none):=by show _=_;unfold bM;rw [if_pos hq]
  have hq':((s.stk.length:Int) == m.stack)=true:=by simpa using hq
  clear hq;go_wp2_with (go_at_call 157;refine (Hw _).mono ?_;rintro e w' ⟨rfl,rfl⟩)
  exact⟨rfl,fun s' e=>(by rw [ah HN] at e;cases e),fun _=>rfl,m1⟩
 ·have HN:Hid (bM m t s=some (xW s t)):=by show _=_;unfold bM;rw [if_neg hq];rfl
  have hq':((s.stk.length:Int) == m.stack)=false:=by simpa using hq
  have hlt:s.stk.length<8:=by have:=h.ty.2.2;omega
  have HT:=hide (ahN (ah HN) h.ty ht);clear hq;go_wp2_with fail
  refine (ajZ s t w1 bl pre (ah L1).lk hlt).mono ?_;rintro e w2 ⟨rfl,hl2,m2⟩;have L2:=hide ((ah L1).next hl2 m2 (ah HT));go_wp2_with fail
  go_end0;refine⟨fun s' e=>?_,fun e=>(by rw [ah HN] at e;cases e),m1.trans m2 (fun _ _ e=>e)⟩;rw [ah HN] at e;simp only [Option.some.injEq] at e;subst e;exact⟨rfl,ah L2⟩
theorem Yt (p:List aj)(hs:aU p p.length)(hz:bn p≤4194304):∀(n:Nat) (c:Int) (vc:Value) (w:World),aX w vc p→-1≤c→c<(p.length:Int)→(c+1).toNat≤n→
  Calls Tryz.prog 167 #[.agg #[vc],.int .i64 c] w fun e w'=>∃v',e= .returned v'∧
   w'.ownsRow w.heap.size 43 1 v' (fieldsOf p c).length ((fieldsOf p c).map (Value.int .i64))∧Below w.heap.size w w':=by
 intro n
 induction n with
 | zero =>
  intro c vc w hp h1 h2 h3;obtain⟨pa,_,_,aA,rfl,_⟩:=hp;have hc:c<0:=by omega
  have HF:=hide (Hu p hc);go_enter Tryz.func167,Tryz.ntmps167
  go_wp2_with fail
  go_ret;refine⟨_,rfl,?_,aS _ _⟩;rw [ah HF];exact World.ownsRow_nil _ _ _ _
 | succ n ih =>
  intro c vc w hp h1 h2 h3
  rcases Int.lt_or_le c 0 with hc | hc
  ·obtain⟨pa,_,_,aA,rfl,_⟩:=hp;have HF:=hide (Hu p hc);clear ih;go_enter Tryz.func167,Tryz.ntmps167
   go_wp2_with fail
   go_ret;refine⟨_,rfl,?_,aS _ _⟩;rw [ah HF];exact World.ownsRow_nil _ _ _ _
  ·obtain⟨k,rfl⟩:=Int.eq_ofNat_of_zero_le hc;have IH:=hide ih;clear ih;obtain⟨i0,hi0,hz0,hz1,hz2⟩:=info_parts infoType;have HP:=hide hp;obtain⟨a,b,off,cap,rfl,hcap,ha,hr⟩:=aZ hp;have hi:k<p.length:=by omega
   obtain rfl:=ha (bJ hi);have hX:=List.getElem?_eq_getElem hi;have hsup:=pV (hs k _ hi hX);have hfz:=NR p hs hi;have HF:=hide (Kt p hs hi hX);clear hX hp;obtain⟨vf,vm,c0,c1,c2,hf,hmm⟩:=hr k hi
   have hlen:p[k].fields.length≤4194304:=by
    have:=Bh p[k];have:=nR (List.getElem_mem hi);omega
   have Wn:=hide hf;obtain⟨fa,aG,rfl,hnil,hsrc⟩:=rH hf;clear hr hmm hnil hsrc hf;generalize p[k]=x at *;have hki:(k:Int)<(p.length:Int):=by omega
   have hkz:(0:Int)≤(k:Int):=by omega
   go_enter Tryz.func167,Tryz.ntmps167
   go_wp2_with fail
   generalize hW:w.alloc _=W;have hbel:Below w.heap.size w W:=by rw [←hW];exact aS _ _
   have hbox:W.cell? ⟨w.heap.size,0,none⟩=some (.slice (some ⟨b,off,none⟩) p.length cap):=by rw [←hW];exact iK _ _ _ 0
   clear hW;have d0:=Keeps.of_below hbel _ _ c0;have d1:=Keeps.of_below hbel _ _ c1;have jR:=hide (aP (Keeps.of_below hbel) (ah HP));have Qy:=hide (dA (Keeps.of_below hbel) (ah Wn));clear c0 c1 c2;refine wp_region_noPanic ?_;refine wp_region_held_drew (S:=(fun w'=>w'.cell? ⟨w.heap.size,0,none⟩=some (.slice (some ⟨b,off,none⟩) p.length cap)∧w'.cell? ⟨b,off+k*3,none⟩=some (.int .i64 x.sup)∧w'.cell? ⟨b,off+k*3+1,none⟩=some (.slice fa x.fields.length aG))) (by kernel_rfl) ?_ (fun hHeld=>?_)
   ·exact (And.intro hbox (And.intro d0 d1))
   refine au 7 0 ?_;refine au 8 1 ?_;refine au 9 2 ?_;refine au 10 3 ?_;refine au 11 4 ?_;refine au 12 5 ?_;refine au 13 6 ?_;refine au 15 8 ?_;refine au 16 9 ?_;refine au 17 10 ?_;refine au 18 11 ?_;refine au 19 12 ?_;refine au 20 13 ?_;refine aW 7 (fun K hK=>?_);go_simp;refine ((ah IH) x.sup _ _ (aP (Keeps.of_below ((Below.refl _ _).drew)) (ah jR)) hsup.1 (by omega) (by omega)).mono ?_;rintro e w1 ⟨v',rfl,hown,hb1⟩;have hb1':Below W.heap.size W w1:=⟨hb1.os,hb1.tape,hb1.output,hb1.size,hb1.block⟩;have k1:=Keeps.of_below hb1';go_wp2_with fail
   refine hK.out _ _ (And.intro (k1 _ _ hbox) (And.intro (k1 _ _ d0) (k1 _ _ d1))) (fun hHeld=>?_);clear hK K;try simp only [Act.put,aK,aO,aN]
   refine aW 14 (fun K hK=>?_);obtain⟨sa,scap,hsl,hnil,hsrc⟩:=rH (dA k1 (ah Qy));simp only [Value.slice.injEq,true_and] at hsl;obtain⟨rfl,rfl⟩:=hsl
   have hfl:(fieldsOf p x.sup).length+x.fields.length≤4194304:=by
    have h:=congrArg List.length (ah HF);rw [List.length_append] at h;omega
   refine P6 (.tmp 14) (.tmp 20) 40 rfl W.heap.size 43 i0 (.int .i64 0) 1 8 Tryz.underlying40 hi0 hz0 hz1 hz2 rfl (by decide) v' (fieldsOf p x.sup).length ((fieldsOf p x.sup).map (Value.int .i64)) rfl hown fa x.fields.length aG (x.fields.map (Value.int .i64)) rfl (by simp) (fun e=>⟨by rw [(hnil e).1];rfl,(hnil e).2⟩) hsrc (wC _) (by unfold maxLen;omega) (by omega) hb1'.size ?_;intro v2 w2 hown2 hg2 Ol;obtain⟨a2,cap2,rfl⟩:=cZ hown2;have hb2:Below W.heap.size W w2:=hb1'.grown hg2 hb1'.size (fun k e=>by have:=hown.lt k e;exact this.1);have k2:=Keeps.of_below hb2;go_simp;refine hK.out _ _ (And.intro (k2 _ _ hbox) (And.intro (k2 _ _ d0) (k2 _ _ d1))) (fun hHeld=>?_)
   clear hK K;try simp only [Act.put,aK,aO,aN]
   have HO:=hide hown2;clear hown2 hg2 Ol hown hb1 hb1' k1 k2 hnil hsrc;refine au 4 15 ?_;refine wpAnyH_done (by kernel_rfl) ?_ _;refine NoPanic.normal ?_;go_wp2_with fail
   go_ret;refine⟨_,rfl,?_,hbel.trans (hb2.mono hbel.size)⟩;have:=own_base (ah HO) hbel.size;rw [ah HF,List.length_append,List.map_append];exact this
end Go.Proofs.YtiiokkllmchohaaGreat
namespace Go.Proofs.YtiiokkllmchohaaGreat
open Go.RowKit
attribute [local go_sem ↓] Go.wp_at_zero Go.wp_at_succ
attribute [local go_sem] bW
def vU (p:List aj)(m:aC)(a b:Int)(s:aH):Option aH:=(fU p (cO p a b).args.reverse s).bind fun s=>(dw p (a+3) s).bind (bM m (cO p a b).ret)
theorem NU {p:List aj}{a b:Int}{ck:Nat×Nat}{o:aC}(h1:fO p a b=some ck)(h2:sV p ck=some o):cO p a b=o:=by
 unfold cO;rw [h1,Option.bind_some,h2];rfl
theorem acR (p:List aj):∀(l:List Int) (s:aH) (k:Nat),fU p (l.take k) s=none→fU p l s=none
 | [], s, k, h => by simp [fU] at h
 | t :: r, s, 0, h => by simp [fU] at h
 | t :: r, s, k + 1, h => by
  rw [List.take_succ_cons] at h;unfold fU at h ⊢
  cases e:dw p t s with
  | none => rfl
  | some s1 =>
   rw [e] at h;exact acR p r s1 k h
theorem VH (p:List aj)(t:Int):∀(l:List Int) (s:aH),fU p (l++ [t]) s=(fU p l s).bind (dw p t)
 | [], s => by
  simp only [List.nil_append,fU,Option.bind_some]
  cases dw p t s <;> rfl
 | x :: r, s => by
  rw [List.cons_append];unfold fU
  cases dw p x s with
  | none => rfl
  | some s1 => exact VH p t r s1

theorem adN {B:Nat}{w0 W:World}(h:Below B w0 W)(hB:B≤w0.heap.size)(o:Obj):Below B w0 (W.alloc o).drew:=(h.alloc (Nat.le_trans hB h.size) o).drew
theorem adO {B:Nat}{w0 W:World}(h:Below B w0 W)(hB:B≤w0.heap.size)(o:Obj):Below B w0 (W.drew.alloc o):=h.drew.alloc (Nat.le_trans hB h.size) o

theorem ahU (op a b:Int)(p:List aj)(vc:Value)(m:aC)(s:aH)(w0 w:World)(bl:Nat)(pre:List Value)(h:fQ w0 w bl p vc m pre s)(hs:aU p p.length)(hz:bn p≤4194304)(h8:m.stack≤8)
  (ha0:0≤a) (ha1:a<(p.length:Int)) (hmo:(fO p a b).isSome=true) (hty:∀x∈(cO p a b).args,bT p.length x) (hret:bT p.length (cO p a b).ret) :
  Calls Tryz.prog 208 #[.pointer (some ⟨bl,0,none⟩),.agg #[.int .i64 op,.int .i64 a,.int .i64 b]] w fun e w'=>(∀s',vU p m a b s=some s'→e= .returned (.tuple #[])∧fQ w0 w' bl p vc m pre s')∧(vU p m a b s=none→e= .panicked (jB 5))∧ay (fun k=>k=bl) w w':=by
 have hpl:p.length≤4194304:=Nat.le_trans (eG p) hz;obtain⟨ck,hck⟩:=Option.isSome_iff_exists.1 hmo;have H:=hide h;have hbl:=h.lk.lt;have c0:=h.cell (by omega) h.p0;obtain⟨va,_,_,fJ,rfl,_⟩:=h.pr;have MO:=hide hck;clear h hck;go_enter Tryz.func208,Tryz.ntmps208
 go_wp2_with fail
 have HW:=hide ((ah H).below (aS w (.cells #[.int .i64 op,.int .i64 a,.int .i64 b] 60)));have hbel:Below w.heap.size w (w.alloc (.cells #[.int .i64 op,.int .i64 a,.int .i64 b] 60)):=aS _ _;have hBI:=ak.new w #[.int .i64 op,.int .i64 a,.int .i64 b] 60;have hWs:(w.alloc (.cells #[.int .i64 op,.int .i64 a,.int .i64 b] 60)).heap.size=w.heap.size+1:=by simp
 have JB:=hide hWs;clear hWs;generalize w.alloc _=W at *;have x0:W.cell? ⟨bl,0,none⟩=some (.slice va p.length fJ):=(ah HW).cell (by omega) (ah HW).p0;have x1:W.cell? ⟨w.heap.size,1,none⟩=some (.int .i64 a):=hBI.cell 1;have x2:W.cell? ⟨w.heap.size,2,none⟩=some (.int .i64 b):=hBI.cell 2;have jd:=hide (And.intro x0 (And.intro x1 x2))
 go_cut [4,5] (fun s4 s5 wx=>∃(aa ca fa:Option Addr) (ac cc fc bI:Nat),s4= .pointer (some ⟨bI,0,none⟩)∧s5= .bool true∧W.heap.size≤bI∧ak wx bI 63 [.int .i64 (cO p a b).slot,.slice aa (cO p a b).args.length ac,.int .i64 (cO p a b).ret,.int .i64 (cO p a b).locals,.int .i64 (cO p a b).stack,.slice ca (cO p a b).code.length cc,.slice fa (cO p a b).frames.length fc]∧aV 1 (jL w0) (.slice aa (cO p a b).args.length ac) (cO p a b).args∧Below W.heap.size W wx∧sV p ck=some (cO p a b))
 case first=>
  have hb0:=(ah HW).b0;have hpr:=(ah HW).pr;have HB0:=hide hb0;have kP:=hide hpr;clear hb0 hpr
  go_region_held3 (fun w'=>w'.cell? ⟨bl,0,none⟩=some (.slice va p.length fJ)∧w'.cell? ⟨w.heap.size,1,none⟩=some (.int .i64 a)∧w'.cell? ⟨w.heap.size,2,none⟩=some (.int .i64 b))
   (first
     | with_reducible exact nS jd.out (zT (wP HB1.out) (Nat.le_refl _) _ _ _ _ _ _ _).drew.drew
     | with_reducible exact nS jd.out (zT (wP HB1.out) (Nat.le_refl _) _ _ _ _ _ _ _).drew
     | with_reducible exact nS jd.out (zT (wP HB1.out) (Nat.le_refl _) _ _ _ _ _ _ _)
     | with_reducible exact nS jd.out (lY hb1)
     | with_reducible exact nS jd.out ((lY hb1).alloc (lY hb1).size _)
     | with_reducible exact nS jd.out (wP HB1.out)
     | with_reducible exact nS jd.out (Nv _)
     | with_reducible exact nS jd.out (RF _)
     | (with_reducible exact jd.out)
     | go_keep)
   (first | ((go_at_call 109;refine (RV p _ p.length _ _ w0 _ (ah kP) ?_ hs (Nat.le_refl _) (by omega) (by omega) hz).mono ?_);(first | with_reducible exact (ah HB0).drew | with_reducible exact adN (ah HB0) (Nat.le_refl _) _ | with_reducible exact adO (ah HB0) (Nat.le_refl _) _);rintro e w1 ⟨o,oa,oc,of,rP,uQ,uS,rfl,hfm,hb1⟩;(first | (have y1:=XQ hb1;obtain⟨⟨f0,f1,f2,f3,f4,f5,f6⟩,g0,g1,g2,g3,g4,g5,g6⟩:=RH y1;have Y1:=hide y1;have HB1:=hide hb1;have kN:=hide hfm;clear y1 hb1 hfm;skip) | skip)))
  ·obtain⟨hma,hmv⟩:=hfm ck (ah MO);obtain rfl:=NU (ah MO) hma;have hb1':=lY hb1;have hB:=ak.new w1 #[.int .i64 (cO p a b).slot,.slice oa (cO p a b).args.length rP,.int .i64 (cO p a b).ret,.int .i64 (cO p a b).locals,.int .i64 (cO p a b).stack,.slice oc (cO p a b).code.length uQ,.slice of (cO p a b).frames.length uS] 63;have hbz:=hb1'.alloc hb1'.size (.cells #[.int .i64 (cO p a b).slot,.slice oa (cO p a b).args.length rP,.int .i64 (cO p a b).ret,.int .i64 (cO p a b).locals,.int .i64 (cO p a b).stack,.slice oc (cO p a b).code.length uQ,.slice of (cO p a b).frames.length uS] 63);have hsz:=hb1'.size;go_wp2_with fail
   go_meet
   case rel=>exact ⟨oa,oc,of,rP,uQ,uS,w1.heap.size,rfl,rfl,hsz,hB,hmv.1,hbz,hma⟩
  ·obtain⟨hma,hmv⟩:=kN.out ck (ah MO);obtain rfl:=NU (ah MO) hma;have hbz:=zT (wP HB1.out) (Nat.le_refl _) (.int .i64 (cO p a b).slot) (.slice oa (cO p a b).args.length rP) (.int .i64 (cO p a b).ret) (.int .i64 (cO p a b).locals) (.int .i64 (cO p a b).stack) (.slice oc (cO p a b).code.length uQ) (.slice of (cO p a b).frames.length uS);have hB:=O8 (ah Y1) (.int .i64 (cO p a b).slot) (.slice oa (cO p a b).args.length rP) (.int .i64 (cO p a b).ret) (.int .i64 (cO p a b).locals) (.int .i64 (cO p a b).stack) (.slice oc (cO p a b).code.length uQ) (.slice of (cO p a b).frames.length uS);unfold IE at hB
   go_wp2_with fail
   go_meet
   case rel=>exact ⟨oa,oc,of,rP,uQ,uS,W.heap.size,rfl,rfl,Nat.le_refl _,hB,hmv.1,hbz,hma⟩
 case rest=>
  obtain⟨aa,ca,fa,ac,cc,fc,bI,rfl,rfl,hbI,hB,hsl,hbx,hma⟩:=hcut;have hWs:=ah JB;have L1:=(ah HW).below hbx;have Zn:=hBI.below hbx hBI.lt;have M1:ay (fun k=>k=bl) w wc:=(fB hbel).trans (fB (S:=fun k=>k=bl) hbx) (fun _ _ e=>e);clear x0 x1 x2 jd hBI HW H hbel;have q1:wc.cell? ⟨bI,1,none⟩=some (.slice aa (cO p a b).args.length ac):=hB.cell 1;have hlb:bl<w.heap.size:=hbl;have Zy:bI≠bl:=by omega
  have hBb:w.heap.size≠bl:=by omega
  have hargs:(cO p a b).args.length≤4194304:=UG hma hz;clear hma;obtain⟨sa,gb,agj,scap,hse,_,hsa,hsr⟩:=jo hsl;simp only [Value.slice.injEq,true_and] at hse;obtain⟨rfl,rfl⟩:=hse;have wJ:=hide L1;have HB:=hide hB;have dZ:=hide Zn;have vG:=hide M1;have vI:=hide hsr;clear L1 hB Zn M1 hsr hWs hsl hbx;generalize hM:cO p a b=o at *;have lX:=hide hM;clear hM;go_wp2_with fail
  go_loopw [6,22] (fun s6 Vb wr=>∃(k:Nat) (s1:aH),k≤o.args.length∧Vb= .int .i64 k∧fU p (o.args.reverse.take k) s=some s1∧fQ w0 wr bl p (.slice va p.length fJ) m pre s1∧ay (fun k=>k=bl) w wr∧ak wr bI 63 [.int .i64 o.slot,.slice aa o.args.length ac,.int .i64 o.ret,.int .i64 o.locals,.int .i64 o.stack,.slice ca o.code.length cc,.slice fa o.frames.length fc]∧ak wr w.heap.size 60 [.int .i64 op,.int .i64 a,.int .i64 b]) (fun _ Vb _=>o.args.length-(intOf Vb).toNat)
  case atStart=>exact ⟨0,s,Nat.zero_le _,rfl,rfl,ah wJ,ah vG,ah HB,ah dZ⟩
  case round=>
   obtain⟨k,s1,hk,rfl,hws,hL,jg,Oa,SV⟩:=hrel;have q1:wr.cell? ⟨bI,1,none⟩=some (.slice aa o.args.length ac):=Oa.cell 1;have q2:wr.cell? ⟨bI,2,none⟩=some (.int .i64 o.ret):=Oa.cell 2;have r1:wr.cell? ⟨w.heap.size,1,none⟩=some (.int .i64 a):=SV.cell 1;have Nc:=hide hws;have QK:=hide hL;have MR:=hide jg;have o9:=hide Oa;have HBi:=hide SV;clear hws hL jg Oa SV wJ vG HB dZ
   by_cases hlt:k<o.args.length
   ·obtain rfl:=hsa (bJ hlt);obtain⟨j,hj⟩:∃j,j+k+1=o.args.length:=⟨o.args.length-1-k,by omega⟩;have hjl:j<o.args.length:=by omega
    have e0:wr.cell? ⟨gb,agj+j,none⟩=some (.int .i64 o.args[j]):=Keeps.of_below (ah QK).b0 _ _ (ah vI j hjl);have htx:bT p.length o.args[j]:=hty _ (List.getElem_mem hjl)
    have hrev:o.args.reverse.take (k+1)=o.args.reverse.take k++ [o.args[j]]:=by
     rw [List.take_add_one,List.getElem?_reverse (by omega),List.getElem?_eq_getElem (by omega),Option.toList_some]
     congr 3
     omega
    have Xd:=hide hrev;clear hrev;generalize o.args[j]=t at *;have hlt':(k:Int)<(o.args.length:Int):=by omega
    have e1:(o.args.length:Int)-1-(k:Int)=(j:Int):=by omega
    have j0:(0:Int)≤(j:Int):=by omega
    have j1:(j:Int)<(o.args.length:Int):=by omega
    have HJ:=hide hj;clear hj;go_wp2_with fail
    refine Calls.mono (qA t p _ m s1 w0 wr bl pre (ah QK) hs hpl htx) ?_;rintro e w2 ⟨h1,h2,m2⟩
    cases hwt:dw p t s1 with
    | none =>
     obtain rfl:=h2 hwt
     have HN:Hid (vU p m a b s=none):=by
      show _=_
      unfold vU;rw [ah lX,acR p o.args.reverse s (k+1) (by rw [ah Xd,VH,ah Nc];exact hwt)]
      rfl
     have HM:=hide ((ah MR).trans m2 (fun _ _ e=>e));clear hwt h1 h2;go_wp2_with fail
     exact⟨rfl,fun s' e=>(by rw [ah HN] at e;cases e),fun _=>rfl,ah HM⟩
    | some s2 =>
     obtain⟨rfl,hL2⟩:=h1 s2 hwt;have HN:Hid (fU p (o.args.reverse.take (k+1)) s=some s2):=by show _=_;rw [ah Xd,VH,ah Nc];exact hwt
     have HX:=hide (And.intro hL2 (And.intro ((ah MR).trans m2 (fun _ _ e=>e)) (And.intro ((ah o9).mods m2 Zy) ((ah HBi).mods m2 hBb))));clear hwt h1 h2 hL2 m2;go_wp2_with fail
     obtain⟨z1,z2,z3,z4⟩:=ah HX;exact⟨⟨k+1,s2,by omega,by go_num,ah HN,z1,z2,z3,z4⟩,by simp [intOf];omega⟩
   ·have hlt':¬(k:Int)<(o.args.length:Int):=by omega
    have HA:Hid (fU p o.args.reverse s=some s1):=by
     show _=_
     have:=ah Nc
     rwa [List.take_of_length_le (by simp;omega)] at this
    have hta:bT p.length (a+3):=⟨by omega,by omega⟩;clear hlt Nc q1;go_wp2_with fail
    refine (CO a (by omega) (by omega) _).mono ?_;rintro e w2 ⟨rfl,rfl⟩;go_wp2_with fail
    refine (qA (a+3) p _ m s1 w0 _ bl pre (ah QK) hs hpl hta).mono ?_;rintro e w3 ⟨h1,h2,m3⟩
    cases hwt:dw p (a+3) s1 with
    | none =>
     obtain rfl:=h2 hwt
     have HN:Hid (vU p m a b s=none):=by
      show _=_
      unfold vU;rw [ah lX,ah HA,Option.bind_some,hwt]
      rfl
     have HM:=hide ((ah MR).trans m3 (fun _ _ e=>e));clear hwt h1 h2;go_wp2_with fail
     exact⟨rfl,fun s' e=>(by rw [ah HN] at e;cases e),fun _=>rfl,ah HM⟩
    | some s2 =>
     obtain⟨rfl,hL2⟩:=h1 s2 hwt
     have HC:Hid (vU p m a b s=bM m o.ret s2):=by
      show _=_
      unfold vU;rw [ah lX,ah HA,Option.bind_some,hwt]
      rfl
     have HM:=hide ((ah MR).trans m3 (fun _ _ e=>e));have q3:w3.cell? ⟨bI,2,none⟩=some (.int .i64 o.ret):=((ah o9).mods m3 Zy).cell 2;have HL2:=hide hL2;clear hwt h1 h2 hL2 m3 q2 r1;go_wp2_with fail
     refine (rO o.ret p _ m s2 w0 w3 bl pre (ah HL2) hret h8).mono ?_;rintro e w4 ⟨h1,h2,m4⟩;have Gq:=hide ((ah HM).trans m4 (fun _ _ e=>e))
     cases hlv:bM m o.ret s2 with
     | none =>
      obtain rfl:=h2 hlv;have HN:Hid (vU p m a b s=none):=by show _=_;rw [ah HC,hlv]
      clear hlv h1 h2;go_wp2_with fail
      exact⟨rfl,fun s' e=>(by rw [ah HN] at e;cases e),fun _=>rfl,ah Gq⟩
     | some s3 =>
      obtain⟨rfl,hL3⟩:=h1 s3 hlv;have HN:Hid (vU p m a b s=some s3):=by show _=_;rw [ah HC,hlv]
      clear hlv h1 h2;go_wp2_with fail
      go_end0;refine⟨fun s' e=>?_,fun e=>(by rw [ah HN] at e;cases e),ah Gq⟩;rw [ah HN] at e;simp only [Option.some.injEq] at e;subst e;exact⟨rfl,hL3⟩
end Go.Proofs.YtiiokkllmchohaaGreat
namespace Go.Proofs.YtiiokkllmchohaaGreat
open Go.RowKit Go.Shelf
attribute [local go_sem ↓] Go.wp_at_zero Go.wp_at_succ
attribute [local go_sem] Oper.semAt_some
theorem afV (op a b:Int)(w:World):Calls Tryz.prog 159 #[.agg #[.int .i64 op,.int .i64 a,.int .i64 b]] w fun e w'=>e= .returned (.bool (gU ⟨op,a,b⟩))∧Below w.heap.size w w':=by
 unfold gU;dsimp only;have hb:=aS w (.cells #[.int .i64 op,.int .i64 a,.int .i64 b] 60)
 cases h7:op == 7 with
 | true =>
  go_enter Tryz.func159,Tryz.ntmps159
  go_wp2_with fail
  go_ret;exact⟨rfl,hb⟩
 | false =>
  cases h8:op == 8 with
  | true =>
   go_enter Tryz.func159,Tryz.ntmps159
   go_wp2_with fail
   go_ret;exact⟨rfl,hb⟩
  | false =>
   go_enter Tryz.func159,Tryz.ntmps159
   go_wp2_with fail
   go_ret;exact⟨rfl,hb⟩
theorem YZ (op a b:Int)(w:World):Calls Tryz.prog 160 #[.agg #[.int .i64 op,.int .i64 a,.int .i64 b]] w fun e w'=>e= .returned (.bool (qW ⟨op,a,b⟩))∧Below w.heap.size w w':=by
 have hb:=aS w (.cells #[.int .i64 op,.int .i64 a,.int .i64 b] 60)
 by_cases h7:op=7
 ·subst h7;go_enter Tryz.func160,Tryz.ntmps160
  go_wp2_with fail
  go_ret;exact⟨rfl,hb⟩
 ·have Zl:(op != 7)=true:=by simpa using h7
  have HF:Hid (qW ⟨op,a,b⟩=(op != 13)):=by
   show _=_
   unfold qW;simp [h7,bne]
  go_enter Tryz.func160,Tryz.ntmps160
  go_wp2_with fail
  go_ret;rw [ah HF];exact⟨rfl,hb⟩
theorem NW (a:Option Addr)(n cap:Nat)(pc:Int)(w:World):Calls Tryz.prog 103 #[.slice a n cap,.int .i64 pc] w fun e w'=>
  e= .returned (.func (.func 158) #[] #[.pointer (some ⟨w.heap.size,0,none⟩),.pointer (some ⟨w.heap.size+1,0,none⟩)])∧w'=(w.alloc (.cells #[.slice a n cap] 61)).alloc (.cells #[.int .i64 pc] 3):=by
 go_enter Tryz.func103,Tryz.ntmps103
 go_wp2_with fail
 go_ret;exact⟨rfl,rfl⟩
theorem OY (i:eF)(pc n cap cb off b1 b2:Nat)(S:Nat→Prop)(w:World)(hpc:pc<n)(hn:n≤4194304)(h1:w.cell? ⟨b1,0,none⟩=some (.slice (some ⟨cb,off,none⟩) n cap))(h2:w.cell? ⟨b2,0,none⟩=some (.int .i64 (pc:Int)))(hi:zO w i cb (off+pc*3))
  (s2:¬S b2) (hS:∀k,S k→k<w.heap.size) :
  Xx Tryz.prog 158 #[.pointer (some ⟨b1,0,none⟩),.pointer (some ⟨b2,0,none⟩)] S (gy i pc) w:=by
 intro l J Jp W hW hl hlW hJ hY h0;obtain⟨op,a,b⟩:=i;obtain⟨i0,i1,i2⟩:=hi;dsimp only at i0 i1 i2;have kW:=Keeps.of_below hW;have e2:l≠b2:=by have:=cell_lt h2;dsimp only at this;omega
 replace h1:=kW _ _ h1;replace h2:=kW _ _ h2;replace i0:=kW _ _ i0;replace i1:=kW _ _ i1;replace i2:=kW _ _ i2;have p0:(0:Int)≤(pc:Int):=by omega
 have p1:(pc:Int)<(n:Int):=by omega
 refine callsIn_of_wp Tryz.func158 rfl trivial ?_ rfl;simp only [Tryz.ntmps158,List.size_toArray,List.length_cons,List.length_nil,Nat.reduceAdd,Nat.reduceSub,Array.replicate_succ,Array.replicate_zero,List.push_toArray,List.append_toArray,List.nil_append,List.cons_append]
 gi_wp2_with fail
 refine⟨trivial,rfl,?_⟩;refine (callsIn_wide.2 (afV op a b _)).mono ?_;rintro e w1 ⟨rfl,hb1⟩;have hb:=(aS W (.cells #[.int .i64 op,.int .i64 a,.int .i64 b] 60)).trans (hb1.mono (by simp));have hBI:=(ak.new W #[.int .i64 op,.int .i64 a,.int .i64 b] 60).below hb1 (by simp);have hJ1:=hJ _ _ _ h0 hb;have h2':=Keeps.of_below hb _ _ h2;have hsz:W.heap.size<w1.heap.size:=hBI.lt;have r0:w1.cell? ⟨W.heap.size,0,none⟩=some (.int .i64 op):=hBI.cell 0;have r1:w1.cell? ⟨W.heap.size,1,none⟩=some (.int .i64 a):=hBI.cell 1;have r2:w1.cell? ⟨W.heap.size,2,none⟩=some (.int .i64 b):=hBI.cell 2;have hWs:=hW.size;clear h0 h1 h2 i0 i1 i2 kW hb hb1 hW
 cases hj:gU ⟨op,a,b⟩ with
 | true =>
  have ho:gy ⟨op,a,b⟩ pc=(a,true)::(if qW ⟨op,a,b⟩ then [((pc:Int)+1,false)] else []):=by unfold gy;rw [hj];rfl
  rw [ho] at hJ1;obtain⟨fn,tmps,assign,body,hy,hR⟩:=hY _ _ _ hJ1;dsimp only [CQ] at hy;clear ho
  gi_wp2_with fail
  refine⟨rfl,?_⟩;refine hR.mono ?_;rintro e w3 (⟨rfl,KC,hm⟩ | ⟨c,rfl,hp⟩)
  ·have SX:=hBI.mods hm (fun e=>e.elim (fun e=>by have:=hS _ e;omega) (fun e=>by omega));have z0:w3.cell? ⟨W.heap.size,0,none⟩=some (.int .i64 op):=SX.cell 0;have z1:w3.cell? ⟨W.heap.size,1,none⟩=some (.int .i64 a):=SX.cell 1;have z3:w3.cell? ⟨W.heap.size,2,none⟩=some (.int .i64 b):=SX.cell 2;have z2:w3.cell? ⟨b2,0,none⟩=some (.int .i64 (pc:Int)):=hm.cell h2' (fun e=>e.elim s2 (fun e=>e2 e.symm));clear hy hR hm
   gi_wp2_with fail
   refine⟨trivial,rfl,?_⟩;refine (callsIn_wide.2 (YZ op a b _)).mono ?_;rintro e w5 ⟨rfl,hb5⟩;have Ak:=hJ _ _ _ KC hb5;have q2:=Keeps.of_below hb5 _ _ z2;clear KC z0 z1 z2 hb5
   cases hf:qW ⟨op,a,b⟩ with
   | true =>
    rw [hf] at Ak;obtain⟨fn5,akj,adK,body5,Ub,Tv⟩:=hY _ _ _ Ak;dsimp only [CQ] at Ub
    gi_wp2_with fail
    refine⟨rfl,?_⟩;refine Tv.mono ?_;rintro e w6 (⟨rfl,Td,_⟩ | ⟨c,rfl,hp⟩)
    ·gi_wp2_with fail
     go_end0;exact .inl ⟨_,rfl,Td⟩
    ·gi_wp2_with fail
     exact⟨rfl,.inr ⟨c,rfl,hp⟩⟩
   | false =>
    rw [hf] at Ak
    gi_wp2_with fail
    go_end0;exact .inl ⟨_,rfl,Ak⟩
  ·gi_wp2_with fail
   exact⟨rfl,.inr ⟨c,rfl,hp⟩⟩
 | false =>
  have ho:gy ⟨op,a,b⟩ pc=(if qW ⟨op,a,b⟩ then [((pc:Int)+1,false)] else []):=by unfold gy;rw [hj];rfl
  rw [ho] at hJ1;clear ho
  gi_wp2_with fail
  refine⟨fun _ h=>(by cases h),?_⟩;have KC:=hJ1;have z0:=r0;have z1:=r1;have z2:=h2'
  gi_wp2_with fail
  refine⟨trivial,rfl,?_⟩;refine (callsIn_wide.2 (YZ op a b _)).mono ?_;rintro e w5 ⟨rfl,hb5⟩;have Ak:=hJ _ _ _ KC hb5;have q2:=Keeps.of_below hb5 _ _ z2;clear KC z0 z1 z2 hb5
  cases hf:qW ⟨op,a,b⟩ with
  | true =>
   rw [hf] at Ak;obtain⟨fn5,akj,adK,body5,Ub,Tv⟩:=hY _ _ _ Ak;dsimp only [CQ] at Ub
   gi_wp2_with fail
   refine⟨rfl,?_⟩;refine Tv.mono ?_;rintro e w6 (⟨rfl,Td,_⟩ | ⟨c,rfl,hp⟩)
   ·gi_wp2_with fail
    go_end0;exact .inl ⟨_,rfl,Td⟩
   ·gi_wp2_with fail
    exact⟨rfl,.inr ⟨c,rfl,hp⟩⟩
  | false =>
   rw [hf] at Ak
   gi_wp2_with fail
   go_end0;exact .inl ⟨_,rfl,Ak⟩
end Go.Proofs.YtiiokkllmchohaaGreat
