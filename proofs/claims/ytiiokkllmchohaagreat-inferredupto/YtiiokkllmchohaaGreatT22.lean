/- The code looks whether an instruction fits, one by one: those that go step by step. -/
import Derived.Test.YtiiokkllmchohaaGreatT21
set_option maxHeartbeats 4000000
set_option maxRecDepth 100000
namespace Go.Proofs.YtiiokkllmchohaaGreat
open Go.RowKit
attribute [local go_sem ↓] Go.wp_at_zero Go.wp_at_succ
def eu (p:List aj)(m:aC)(i:eF)(s:aH)(w0 w w':World)(bl:Nat)(vc:Value)(pre:List Value)(e:Ending):Prop:=
 (∀s',aY p m i s=some s'→e= .returned (.tuple #[])∧fQ w0 w' bl p vc m pre s')∧(aY p m i s=none→e= .panicked (jB 5))∧ay (fun k=>k=bl) w w'
theorem qG (n:Nat){t:Int}(h0:0≤t)(h2:t≤2):bT n t:=⟨h0,by omega⟩
theorem PW {n:Nat}{a:Int}(h0:0≤a)(h1:a<(n:Int)):bT n (a+3):=⟨by omega,by omega⟩

theorem afh (a b:Int)(p:List aj)(vc:Value)(m:aC)(s:aH)(w0 w:World)(bl:Nat)(pre:List Value)(h:fQ w0 w bl p vc m pre s)(hs:aU p p.length)(hz:bn p≤4194304)(h8:m.stack≤8) :
  Calls Tryz.prog 156 #[.pointer (some ⟨bl,0,none⟩),.agg #[.int .i64 0,.int .i64 a,.int .i64 b]] w fun e w'=>eu p m ⟨0,a,b⟩ s w0 w w' bl vc pre e:=by
 have _hpl:p.length≤4194304:=(fun (_:aU p p.length) (_:m.stack≤8)=>Nat.le_trans (eG p) hz) hs h8;have hbl:=h.lk.lt;have HW:=hide (h.below (aS w (.cells #[.int .i64 0,.int .i64 a,.int .i64 b] 60)));have hBI:=ak.new w #[.int .i64 0,.int .i64 a,.int .i64 b] 60;have HM:=hide (fB (S:=fun k=>k=bl) (aS w (.cells #[.int .i64 0,.int .i64 a,.int .i64 b] 60)));have HT0:Hid (aY p m ⟨0,a,b⟩ s=bM m 0 s):=rfl;unfold eu;go_enter Tryz.func156,Tryz.ntmps156
 go_wp2_with fail
 generalize w.alloc _=W at *;have dZ:=hide hBI;have r0:W.cell? ⟨w.heap.size,0,none⟩=some (.int .i64 0):=hBI.cell 0;have r1:W.cell? ⟨w.heap.size,1,none⟩=some (.int .i64 a):=hBI.cell 1;have r2:W.cell? ⟨w.heap.size,2,none⟩=some (.int .i64 b):=hBI.cell 2;have hne:w.heap.size≠bl:=by omega
 clear hBI h;refine (rO 0 p vc m s w0 _ bl pre (ah HW) (qG _ (by omega) (by omega)) h8).mono ?_;rintro e w1 ⟨h1,h2,mm⟩
 cases hr:bM m 0 s with
 | none =>
  obtain rfl:=h2 hr;have HN:Hid (aY p m ⟨0,a,b⟩ s=none):=by show _=_;rw [ah HT0,hr] <;> rfl
  have bG:=hide ((ah HM).trans mm (fun _ _ e=>e));clear hr h1 h2;go_wp2_with fail
  exact⟨rfl,fun s' e=>(by rw [ah HN] at e;cases e),fun _=>rfl,ah bG⟩
 | some s1 =>
  obtain⟨rfl,hL⟩:=h1 s1 hr;have HN:Hid (aY p m ⟨0,a,b⟩ s=some s1):=by show _=_;rw [ah HT0,hr] <;> rfl
  have HL:=hide hL;have bG:=hide ((ah HM).trans mm (fun _ _ e=>e));clear hr h1 h2;go_wp2_with fail
  go_end0;refine⟨fun s' e=>?_,fun e=>(by rw [ah HN] at e;cases e),ah bG⟩;rw [ah HN] at e;simp only [Option.some.injEq] at e;subst e;exact⟨rfl,ah HL⟩

theorem afv (a b:Int)(p:List aj)(vc:Value)(m:aC)(s:aH)(w0 w:World)(bl:Nat)(pre:List Value)(h:fQ w0 w bl p vc m pre s)(hs:aU p p.length)(hz:bn p≤4194304)(h8:m.stack≤8) :
  Calls Tryz.prog 156 #[.pointer (some ⟨bl,0,none⟩),.agg #[.int .i64 3,.int .i64 a,.int .i64 b]] w fun e w'=>eu p m ⟨3,a,b⟩ s w0 w w' bl vc pre e:=by
 have _hpl:p.length≤4194304:=(fun (_:aU p p.length) (_:m.stack≤8)=>Nat.le_trans (eG p) hz) hs h8;have hbl:=h.lk.lt;have HW:=hide (h.below (aS w (.cells #[.int .i64 3,.int .i64 a,.int .i64 b] 60)));have hBI:=ak.new w #[.int .i64 3,.int .i64 a,.int .i64 b] 60;have HM:=hide (fB (S:=fun k=>k=bl) (aS w (.cells #[.int .i64 3,.int .i64 a,.int .i64 b] 60)));have HT0:Hid (aY p m ⟨3,a,b⟩ s=(dw p 0 s).bind fun s=>(dw p 0 s).bind (bM m 0)):=rfl;unfold eu;go_enter Tryz.func156,Tryz.ntmps156
 go_wp2_with fail
 generalize w.alloc _=W at *;have dZ:=hide hBI;have r0:W.cell? ⟨w.heap.size,0,none⟩=some (.int .i64 3):=hBI.cell 0;have r1:W.cell? ⟨w.heap.size,1,none⟩=some (.int .i64 a):=hBI.cell 1;have r2:W.cell? ⟨w.heap.size,2,none⟩=some (.int .i64 b):=hBI.cell 2;have hne:w.heap.size≠bl:=by omega
 clear hBI h;refine (qA 0 p vc m s w0 _ bl pre (ah HW) hs _hpl (qG _ (by omega) (by omega))).mono ?_;rintro e w1 ⟨h1,h2,mm⟩
 cases hr:dw p 0 s with
 | none =>
  obtain rfl:=h2 hr;have HN:Hid (aY p m ⟨3,a,b⟩ s=none):=by show _=_;rw [ah HT0,hr] <;> rfl
  have bG:=hide ((ah HM).trans mm (fun _ _ e=>e));clear hr h1 h2;go_wp2_with fail
  exact⟨rfl,fun s' e=>(by rw [ah HN] at e;cases e),fun _=>rfl,ah bG⟩
 | some s1 =>
  obtain⟨rfl,hL⟩:=h1 s1 hr;have HT1:Hid (aY p m ⟨3,a,b⟩ s=(dw p 0 s1).bind (bM m 0)):=by show _=_;rw [ah HT0,hr] <;> rfl
  have dI:=hide ((ah dZ).mods mm hne);replace r1:w1.cell? ⟨w.heap.size,1,none⟩=some (.int .i64 a):=(ah dI).cell 1;replace r2:w1.cell? ⟨w.heap.size,2,none⟩=some (.int .i64 b):=(ah dI).cell 2;replace dZ:=dI;replace HW:=hide hL;replace HM:=hide ((ah HM).trans mm (fun _ _ e=>e));clear hr h1 h2 hL mm dI r0;go_wp2_with fail
  refine (qA 0 p vc m s1 w0 _ bl pre (ah HW) hs _hpl (qG _ (by omega) (by omega))).mono ?_;rintro e w2 ⟨h1,h2,mm⟩
  cases hr:dw p 0 s1 with
  | none =>
   obtain rfl:=h2 hr;have HN:Hid (aY p m ⟨3,a,b⟩ s=none):=by show _=_;rw [ah HT1,hr] <;> rfl
   have bG:=hide ((ah HM).trans mm (fun _ _ e=>e));clear hr h1 h2;go_wp2_with fail
   exact⟨rfl,fun s' e=>(by rw [ah HN] at e;cases e),fun _=>rfl,ah bG⟩
  | some s2 =>
   obtain⟨rfl,hL⟩:=h1 s2 hr;have HT2:Hid (aY p m ⟨3,a,b⟩ s=bM m 0 s2):=by show _=_;rw [ah HT1,hr] <;> rfl
   have dI:=hide ((ah dZ).mods mm hne);replace r1:w2.cell? ⟨w.heap.size,1,none⟩=some (.int .i64 a):=(ah dI).cell 1;replace r2:w2.cell? ⟨w.heap.size,2,none⟩=some (.int .i64 b):=(ah dI).cell 2;replace dZ:=dI;replace HW:=hide hL;replace HM:=hide ((ah HM).trans mm (fun _ _ e=>e));clear hr h1 h2 hL mm dI;go_wp2_with fail
   refine (rO 0 p vc m s2 w0 _ bl pre (ah HW) (qG _ (by omega) (by omega)) h8).mono ?_;rintro e w3 ⟨h1,h2,mm⟩
   cases hr:bM m 0 s2 with
   | none =>
    obtain rfl:=h2 hr;have HN:Hid (aY p m ⟨3,a,b⟩ s=none):=by show _=_;rw [ah HT2,hr] <;> rfl
    have bG:=hide ((ah HM).trans mm (fun _ _ e=>e));clear hr h1 h2;go_wp2_with fail
    exact⟨rfl,fun s' e=>(by rw [ah HN] at e;cases e),fun _=>rfl,ah bG⟩
   | some s3 =>
    obtain⟨rfl,hL⟩:=h1 s3 hr;have HN:Hid (aY p m ⟨3,a,b⟩ s=some s3):=by show _=_;rw [ah HT2,hr] <;> rfl
    have HL:=hide hL;have bG:=hide ((ah HM).trans mm (fun _ _ e=>e));clear hr h1 h2;go_wp2_with fail
    go_end0;refine⟨fun s' e=>?_,fun e=>(by rw [ah HN] at e;cases e),ah bG⟩;rw [ah HN] at e;simp only [Option.some.injEq] at e;subst e;exact⟨rfl,ah HL⟩

theorem afw (a b:Int)(p:List aj)(vc:Value)(m:aC)(s:aH)(w0 w:World)(bl:Nat)(pre:List Value)(h:fQ w0 w bl p vc m pre s)(hs:aU p p.length)(hz:bn p≤4194304)(h8:m.stack≤8) :
  Calls Tryz.prog 156 #[.pointer (some ⟨bl,0,none⟩),.agg #[.int .i64 4,.int .i64 a,.int .i64 b]] w fun e w'=>eu p m ⟨4,a,b⟩ s w0 w w' bl vc pre e:=by
 have _hpl:p.length≤4194304:=(fun (_:aU p p.length) (_:m.stack≤8)=>Nat.le_trans (eG p) hz) hs h8;have hbl:=h.lk.lt;have HW:=hide (h.below (aS w (.cells #[.int .i64 4,.int .i64 a,.int .i64 b] 60)));have hBI:=ak.new w #[.int .i64 4,.int .i64 a,.int .i64 b] 60;have HM:=hide (fB (S:=fun k=>k=bl) (aS w (.cells #[.int .i64 4,.int .i64 a,.int .i64 b] 60)));have HT0:Hid (aY p m ⟨4,a,b⟩ s=(dw p 0 s).bind fun s=>(dw p 0 s).bind (bM m 0)):=rfl;unfold eu;go_enter Tryz.func156,Tryz.ntmps156
 go_wp2_with fail
 generalize w.alloc _=W at *;have dZ:=hide hBI;have r0:W.cell? ⟨w.heap.size,0,none⟩=some (.int .i64 4):=hBI.cell 0;have r1:W.cell? ⟨w.heap.size,1,none⟩=some (.int .i64 a):=hBI.cell 1;have r2:W.cell? ⟨w.heap.size,2,none⟩=some (.int .i64 b):=hBI.cell 2;have hne:w.heap.size≠bl:=by omega
 clear hBI h;refine (qA 0 p vc m s w0 _ bl pre (ah HW) hs _hpl (qG _ (by omega) (by omega))).mono ?_;rintro e w1 ⟨h1,h2,mm⟩
 cases hr:dw p 0 s with
 | none =>
  obtain rfl:=h2 hr;have HN:Hid (aY p m ⟨4,a,b⟩ s=none):=by show _=_;rw [ah HT0,hr] <;> rfl
  have bG:=hide ((ah HM).trans mm (fun _ _ e=>e));clear hr h1 h2;go_wp2_with fail
  exact⟨rfl,fun s' e=>(by rw [ah HN] at e;cases e),fun _=>rfl,ah bG⟩
 | some s1 =>
  obtain⟨rfl,hL⟩:=h1 s1 hr;have HT1:Hid (aY p m ⟨4,a,b⟩ s=(dw p 0 s1).bind (bM m 0)):=by show _=_;rw [ah HT0,hr] <;> rfl
  have dI:=hide ((ah dZ).mods mm hne);replace r1:w1.cell? ⟨w.heap.size,1,none⟩=some (.int .i64 a):=(ah dI).cell 1;replace r2:w1.cell? ⟨w.heap.size,2,none⟩=some (.int .i64 b):=(ah dI).cell 2;replace dZ:=dI;replace HW:=hide hL;replace HM:=hide ((ah HM).trans mm (fun _ _ e=>e));clear hr h1 h2 hL mm dI r0;go_wp2_with fail
  refine (qA 0 p vc m s1 w0 _ bl pre (ah HW) hs _hpl (qG _ (by omega) (by omega))).mono ?_;rintro e w2 ⟨h1,h2,mm⟩
  cases hr:dw p 0 s1 with
  | none =>
   obtain rfl:=h2 hr;have HN:Hid (aY p m ⟨4,a,b⟩ s=none):=by show _=_;rw [ah HT1,hr] <;> rfl
   have bG:=hide ((ah HM).trans mm (fun _ _ e=>e));clear hr h1 h2;go_wp2_with fail
   exact⟨rfl,fun s' e=>(by rw [ah HN] at e;cases e),fun _=>rfl,ah bG⟩
  | some s2 =>
   obtain⟨rfl,hL⟩:=h1 s2 hr;have HT2:Hid (aY p m ⟨4,a,b⟩ s=bM m 0 s2):=by show _=_;rw [ah HT1,hr] <;> rfl
   have dI:=hide ((ah dZ).mods mm hne);replace r1:w2.cell? ⟨w.heap.size,1,none⟩=some (.int .i64 a):=(ah dI).cell 1;replace r2:w2.cell? ⟨w.heap.size,2,none⟩=some (.int .i64 b):=(ah dI).cell 2;replace dZ:=dI;replace HW:=hide hL;replace HM:=hide ((ah HM).trans mm (fun _ _ e=>e));clear hr h1 h2 hL mm dI;go_wp2_with fail
   refine (rO 0 p vc m s2 w0 _ bl pre (ah HW) (qG _ (by omega) (by omega)) h8).mono ?_;rintro e w3 ⟨h1,h2,mm⟩
   cases hr:bM m 0 s2 with
   | none =>
    obtain rfl:=h2 hr;have HN:Hid (aY p m ⟨4,a,b⟩ s=none):=by show _=_;rw [ah HT2,hr] <;> rfl
    have bG:=hide ((ah HM).trans mm (fun _ _ e=>e));clear hr h1 h2;go_wp2_with fail
    exact⟨rfl,fun s' e=>(by rw [ah HN] at e;cases e),fun _=>rfl,ah bG⟩
   | some s3 =>
    obtain⟨rfl,hL⟩:=h1 s3 hr;have HN:Hid (aY p m ⟨4,a,b⟩ s=some s3):=by show _=_;rw [ah HT2,hr] <;> rfl
    have HL:=hide hL;have bG:=hide ((ah HM).trans mm (fun _ _ e=>e));clear hr h1 h2;go_wp2_with fail
    go_end0;refine⟨fun s' e=>?_,fun e=>(by rw [ah HN] at e;cases e),ah bG⟩;rw [ah HN] at e;simp only [Option.some.injEq] at e;subst e;exact⟨rfl,ah HL⟩

theorem afx (a b:Int)(p:List aj)(vc:Value)(m:aC)(s:aH)(w0 w:World)(bl:Nat)(pre:List Value)(h:fQ w0 w bl p vc m pre s)(hs:aU p p.length)(hz:bn p≤4194304)(h8:m.stack≤8) :
  Calls Tryz.prog 156 #[.pointer (some ⟨bl,0,none⟩),.agg #[.int .i64 5,.int .i64 a,.int .i64 b]] w fun e w'=>eu p m ⟨5,a,b⟩ s w0 w w' bl vc pre e:=by
 have _hpl:p.length≤4194304:=(fun (_:aU p p.length) (_:m.stack≤8)=>Nat.le_trans (eG p) hz) hs h8;have hbl:=h.lk.lt;have HW:=hide (h.below (aS w (.cells #[.int .i64 5,.int .i64 a,.int .i64 b] 60)));have hBI:=ak.new w #[.int .i64 5,.int .i64 a,.int .i64 b] 60;have HM:=hide (fB (S:=fun k=>k=bl) (aS w (.cells #[.int .i64 5,.int .i64 a,.int .i64 b] 60)));have HT0:Hid (aY p m ⟨5,a,b⟩ s=(dw p 0 s).bind fun s=>(dw p 0 s).bind (bM m 0)):=rfl;unfold eu;go_enter Tryz.func156,Tryz.ntmps156
 go_wp2_with fail
 generalize w.alloc _=W at *;have dZ:=hide hBI;have r0:W.cell? ⟨w.heap.size,0,none⟩=some (.int .i64 5):=hBI.cell 0;have r1:W.cell? ⟨w.heap.size,1,none⟩=some (.int .i64 a):=hBI.cell 1;have r2:W.cell? ⟨w.heap.size,2,none⟩=some (.int .i64 b):=hBI.cell 2;have hne:w.heap.size≠bl:=by omega
 clear hBI h;refine (qA 0 p vc m s w0 _ bl pre (ah HW) hs _hpl (qG _ (by omega) (by omega))).mono ?_;rintro e w1 ⟨h1,h2,mm⟩
 cases hr:dw p 0 s with
 | none =>
  obtain rfl:=h2 hr;have HN:Hid (aY p m ⟨5,a,b⟩ s=none):=by show _=_;rw [ah HT0,hr] <;> rfl
  have bG:=hide ((ah HM).trans mm (fun _ _ e=>e));clear hr h1 h2;go_wp2_with fail
  exact⟨rfl,fun s' e=>(by rw [ah HN] at e;cases e),fun _=>rfl,ah bG⟩
 | some s1 =>
  obtain⟨rfl,hL⟩:=h1 s1 hr;have HT1:Hid (aY p m ⟨5,a,b⟩ s=(dw p 0 s1).bind (bM m 0)):=by show _=_;rw [ah HT0,hr] <;> rfl
  have dI:=hide ((ah dZ).mods mm hne);replace r1:w1.cell? ⟨w.heap.size,1,none⟩=some (.int .i64 a):=(ah dI).cell 1;replace r2:w1.cell? ⟨w.heap.size,2,none⟩=some (.int .i64 b):=(ah dI).cell 2;replace dZ:=dI;replace HW:=hide hL;replace HM:=hide ((ah HM).trans mm (fun _ _ e=>e));clear hr h1 h2 hL mm dI r0;go_wp2_with fail
  refine (qA 0 p vc m s1 w0 _ bl pre (ah HW) hs _hpl (qG _ (by omega) (by omega))).mono ?_;rintro e w2 ⟨h1,h2,mm⟩
  cases hr:dw p 0 s1 with
  | none =>
   obtain rfl:=h2 hr;have HN:Hid (aY p m ⟨5,a,b⟩ s=none):=by show _=_;rw [ah HT1,hr] <;> rfl
   have bG:=hide ((ah HM).trans mm (fun _ _ e=>e));clear hr h1 h2;go_wp2_with fail
   exact⟨rfl,fun s' e=>(by rw [ah HN] at e;cases e),fun _=>rfl,ah bG⟩
  | some s2 =>
   obtain⟨rfl,hL⟩:=h1 s2 hr;have HT2:Hid (aY p m ⟨5,a,b⟩ s=bM m 0 s2):=by show _=_;rw [ah HT1,hr] <;> rfl
   have dI:=hide ((ah dZ).mods mm hne);replace r1:w2.cell? ⟨w.heap.size,1,none⟩=some (.int .i64 a):=(ah dI).cell 1;replace r2:w2.cell? ⟨w.heap.size,2,none⟩=some (.int .i64 b):=(ah dI).cell 2;replace dZ:=dI;replace HW:=hide hL;replace HM:=hide ((ah HM).trans mm (fun _ _ e=>e));clear hr h1 h2 hL mm dI;go_wp2_with fail
   refine (rO 0 p vc m s2 w0 _ bl pre (ah HW) (qG _ (by omega) (by omega)) h8).mono ?_;rintro e w3 ⟨h1,h2,mm⟩
   cases hr:bM m 0 s2 with
   | none =>
    obtain rfl:=h2 hr;have HN:Hid (aY p m ⟨5,a,b⟩ s=none):=by show _=_;rw [ah HT2,hr] <;> rfl
    have bG:=hide ((ah HM).trans mm (fun _ _ e=>e));clear hr h1 h2;go_wp2_with fail
    exact⟨rfl,fun s' e=>(by rw [ah HN] at e;cases e),fun _=>rfl,ah bG⟩
   | some s3 =>
    obtain⟨rfl,hL⟩:=h1 s3 hr;have HN:Hid (aY p m ⟨5,a,b⟩ s=some s3):=by show _=_;rw [ah HT2,hr] <;> rfl
    have HL:=hide hL;have bG:=hide ((ah HM).trans mm (fun _ _ e=>e));clear hr h1 h2;go_wp2_with fail
    go_end0;refine⟨fun s' e=>?_,fun e=>(by rw [ah HN] at e;cases e),ah bG⟩;rw [ah HN] at e;simp only [Option.some.injEq] at e;subst e;exact⟨rfl,ah HL⟩

theorem afy (a b:Int)(p:List aj)(vc:Value)(m:aC)(s:aH)(w0 w:World)(bl:Nat)(pre:List Value)(h:fQ w0 w bl p vc m pre s)(hs:aU p p.length)(hz:bn p≤4194304)(h8:m.stack≤8) :
  Calls Tryz.prog 156 #[.pointer (some ⟨bl,0,none⟩),.agg #[.int .i64 6,.int .i64 a,.int .i64 b]] w fun e w'=>eu p m ⟨6,a,b⟩ s w0 w w' bl vc pre e:=by
 have _hpl:p.length≤4194304:=(fun (_:aU p p.length) (_:m.stack≤8)=>Nat.le_trans (eG p) hz) hs h8;have hbl:=h.lk.lt;have HW:=hide (h.below (aS w (.cells #[.int .i64 6,.int .i64 a,.int .i64 b] 60)));have hBI:=ak.new w #[.int .i64 6,.int .i64 a,.int .i64 b] 60;have HM:=hide (fB (S:=fun k=>k=bl) (aS w (.cells #[.int .i64 6,.int .i64 a,.int .i64 b] 60)));have HT0:Hid (aY p m ⟨6,a,b⟩ s=(dw p 0 s).bind fun s=>(dw p 0 s).bind (bM m 0)):=rfl;unfold eu;go_enter Tryz.func156,Tryz.ntmps156
 go_wp2_with fail
 generalize w.alloc _=W at *;have dZ:=hide hBI;have r0:W.cell? ⟨w.heap.size,0,none⟩=some (.int .i64 6):=hBI.cell 0;have r1:W.cell? ⟨w.heap.size,1,none⟩=some (.int .i64 a):=hBI.cell 1;have r2:W.cell? ⟨w.heap.size,2,none⟩=some (.int .i64 b):=hBI.cell 2;have hne:w.heap.size≠bl:=by omega
 clear hBI h;refine (qA 0 p vc m s w0 _ bl pre (ah HW) hs _hpl (qG _ (by omega) (by omega))).mono ?_;rintro e w1 ⟨h1,h2,mm⟩
 cases hr:dw p 0 s with
 | none =>
  obtain rfl:=h2 hr;have HN:Hid (aY p m ⟨6,a,b⟩ s=none):=by show _=_;rw [ah HT0,hr] <;> rfl
  have bG:=hide ((ah HM).trans mm (fun _ _ e=>e));clear hr h1 h2;go_wp2_with fail
  exact⟨rfl,fun s' e=>(by rw [ah HN] at e;cases e),fun _=>rfl,ah bG⟩
 | some s1 =>
  obtain⟨rfl,hL⟩:=h1 s1 hr;have HT1:Hid (aY p m ⟨6,a,b⟩ s=(dw p 0 s1).bind (bM m 0)):=by show _=_;rw [ah HT0,hr] <;> rfl
  have dI:=hide ((ah dZ).mods mm hne);replace r1:w1.cell? ⟨w.heap.size,1,none⟩=some (.int .i64 a):=(ah dI).cell 1;replace r2:w1.cell? ⟨w.heap.size,2,none⟩=some (.int .i64 b):=(ah dI).cell 2;replace dZ:=dI;replace HW:=hide hL;replace HM:=hide ((ah HM).trans mm (fun _ _ e=>e));clear hr h1 h2 hL mm dI r0;go_wp2_with fail
  refine (qA 0 p vc m s1 w0 _ bl pre (ah HW) hs _hpl (qG _ (by omega) (by omega))).mono ?_;rintro e w2 ⟨h1,h2,mm⟩
  cases hr:dw p 0 s1 with
  | none =>
   obtain rfl:=h2 hr;have HN:Hid (aY p m ⟨6,a,b⟩ s=none):=by show _=_;rw [ah HT1,hr] <;> rfl
   have bG:=hide ((ah HM).trans mm (fun _ _ e=>e));clear hr h1 h2;go_wp2_with fail
   exact⟨rfl,fun s' e=>(by rw [ah HN] at e;cases e),fun _=>rfl,ah bG⟩
  | some s2 =>
   obtain⟨rfl,hL⟩:=h1 s2 hr;have HT2:Hid (aY p m ⟨6,a,b⟩ s=bM m 0 s2):=by show _=_;rw [ah HT1,hr] <;> rfl
   have dI:=hide ((ah dZ).mods mm hne);replace r1:w2.cell? ⟨w.heap.size,1,none⟩=some (.int .i64 a):=(ah dI).cell 1;replace r2:w2.cell? ⟨w.heap.size,2,none⟩=some (.int .i64 b):=(ah dI).cell 2;replace dZ:=dI;replace HW:=hide hL;replace HM:=hide ((ah HM).trans mm (fun _ _ e=>e));clear hr h1 h2 hL mm dI;go_wp2_with fail
   refine (rO 0 p vc m s2 w0 _ bl pre (ah HW) (qG _ (by omega) (by omega)) h8).mono ?_;rintro e w3 ⟨h1,h2,mm⟩
   cases hr:bM m 0 s2 with
   | none =>
    obtain rfl:=h2 hr;have HN:Hid (aY p m ⟨6,a,b⟩ s=none):=by show _=_;rw [ah HT2,hr] <;> rfl
    have bG:=hide ((ah HM).trans mm (fun _ _ e=>e));clear hr h1 h2;go_wp2_with fail
    exact⟨rfl,fun s' e=>(by rw [ah HN] at e;cases e),fun _=>rfl,ah bG⟩
   | some s3 =>
    obtain⟨rfl,hL⟩:=h1 s3 hr;have HN:Hid (aY p m ⟨6,a,b⟩ s=some s3):=by show _=_;rw [ah HT2,hr] <;> rfl
    have HL:=hide hL;have bG:=hide ((ah HM).trans mm (fun _ _ e=>e));clear hr h1 h2;go_wp2_with fail
    go_end0;refine⟨fun s' e=>?_,fun e=>(by rw [ah HN] at e;cases e),ah bG⟩;rw [ah HN] at e;simp only [Option.some.injEq] at e;subst e;exact⟨rfl,ah HL⟩

theorem afA (a b:Int)(p:List aj)(vc:Value)(m:aC)(s:aH)(w0 w:World)(bl:Nat)(pre:List Value)(h:fQ w0 w bl p vc m pre s)(hs:aU p p.length)(hz:bn p≤4194304)(h8:m.stack≤8) :
  Calls Tryz.prog 156 #[.pointer (some ⟨bl,0,none⟩),.agg #[.int .i64 8,.int .i64 a,.int .i64 b]] w fun e w'=>eu p m ⟨8,a,b⟩ s w0 w w' bl vc pre e:=by
 have _hpl:p.length≤4194304:=(fun (_:aU p p.length) (_:m.stack≤8)=>Nat.le_trans (eG p) hz) hs h8;have hbl:=h.lk.lt;have HW:=hide (h.below (aS w (.cells #[.int .i64 8,.int .i64 a,.int .i64 b] 60)));have hBI:=ak.new w #[.int .i64 8,.int .i64 a,.int .i64 b] 60;have HM:=hide (fB (S:=fun k=>k=bl) (aS w (.cells #[.int .i64 8,.int .i64 a,.int .i64 b] 60)));have HT0:Hid (aY p m ⟨8,a,b⟩ s=dw p 0 s):=rfl;unfold eu;go_enter Tryz.func156,Tryz.ntmps156
 go_wp2_with fail
 generalize w.alloc _=W at *;have dZ:=hide hBI;have r0:W.cell? ⟨w.heap.size,0,none⟩=some (.int .i64 8):=hBI.cell 0;have r1:W.cell? ⟨w.heap.size,1,none⟩=some (.int .i64 a):=hBI.cell 1;have r2:W.cell? ⟨w.heap.size,2,none⟩=some (.int .i64 b):=hBI.cell 2;have hne:w.heap.size≠bl:=by omega
 clear hBI h;refine (qA 0 p vc m s w0 _ bl pre (ah HW) hs _hpl (qG _ (by omega) (by omega))).mono ?_;rintro e w1 ⟨h1,h2,mm⟩
 cases hr:dw p 0 s with
 | none =>
  obtain rfl:=h2 hr;have HN:Hid (aY p m ⟨8,a,b⟩ s=none):=by show _=_;rw [ah HT0,hr] <;> rfl
  have bG:=hide ((ah HM).trans mm (fun _ _ e=>e));clear hr h1 h2;go_wp2_with fail
  exact⟨rfl,fun s' e=>(by rw [ah HN] at e;cases e),fun _=>rfl,ah bG⟩
 | some s1 =>
  obtain⟨rfl,hL⟩:=h1 s1 hr;have HN:Hid (aY p m ⟨8,a,b⟩ s=some s1):=by show _=_;rw [ah HT0,hr] <;> rfl
  have HL:=hide hL;have bG:=hide ((ah HM).trans mm (fun _ _ e=>e));clear hr h1 h2;go_wp2_with fail
  go_end0;refine⟨fun s' e=>?_,fun e=>(by rw [ah HN] at e;cases e),ah bG⟩;rw [ah HN] at e;simp only [Option.some.injEq] at e;subst e;exact⟨rfl,ah HL⟩

theorem afs (a b:Int)(p:List aj)(vc:Value)(m:aC)(s:aH)(w0 w:World)(bl:Nat)(pre:List Value)(h:fQ w0 w bl p vc m pre s)(hs:aU p p.length)(hz:bn p≤4194304)(h8:m.stack≤8) :
  Calls Tryz.prog 156 #[.pointer (some ⟨bl,0,none⟩),.agg #[.int .i64 19,.int .i64 a,.int .i64 b]] w fun e w'=>eu p m ⟨19,a,b⟩ s w0 w w' bl vc pre e:=by
 have _hpl:p.length≤4194304:=(fun (_:aU p p.length) (_:m.stack≤8)=>Nat.le_trans (eG p) hz) hs h8;have hbl:=h.lk.lt;have HW:=hide (h.below (aS w (.cells #[.int .i64 19,.int .i64 a,.int .i64 b] 60)));have hBI:=ak.new w #[.int .i64 19,.int .i64 a,.int .i64 b] 60;have HM:=hide (fB (S:=fun k=>k=bl) (aS w (.cells #[.int .i64 19,.int .i64 a,.int .i64 b] 60)));have HT0:Hid (aY p m ⟨19,a,b⟩ s=dw p 0 s):=rfl;unfold eu;go_enter Tryz.func156,Tryz.ntmps156
 go_wp2_with fail
 generalize w.alloc _=W at *;have dZ:=hide hBI;have r0:W.cell? ⟨w.heap.size,0,none⟩=some (.int .i64 19):=hBI.cell 0;have r1:W.cell? ⟨w.heap.size,1,none⟩=some (.int .i64 a):=hBI.cell 1;have r2:W.cell? ⟨w.heap.size,2,none⟩=some (.int .i64 b):=hBI.cell 2;have hne:w.heap.size≠bl:=by omega
 clear hBI h;refine (qA 0 p vc m s w0 _ bl pre (ah HW) hs _hpl (qG _ (by omega) (by omega))).mono ?_;rintro e w1 ⟨h1,h2,mm⟩
 cases hr:dw p 0 s with
 | none =>
  obtain rfl:=h2 hr;have HN:Hid (aY p m ⟨19,a,b⟩ s=none):=by show _=_;rw [ah HT0,hr] <;> rfl
  have bG:=hide ((ah HM).trans mm (fun _ _ e=>e));clear hr h1 h2;go_wp2_with fail
  exact⟨rfl,fun s' e=>(by rw [ah HN] at e;cases e),fun _=>rfl,ah bG⟩
 | some s1 =>
  obtain⟨rfl,hL⟩:=h1 s1 hr;have HN:Hid (aY p m ⟨19,a,b⟩ s=some s1):=by show _=_;rw [ah HT0,hr] <;> rfl
  have HL:=hide hL;have bG:=hide ((ah HM).trans mm (fun _ _ e=>e));clear hr h1 h2;go_wp2_with fail
  go_end0;refine⟨fun s' e=>?_,fun e=>(by rw [ah HN] at e;cases e),ah bG⟩;rw [ah HN] at e;simp only [Option.some.injEq] at e;subst e;exact⟨rfl,ah HL⟩

theorem afB (a b:Int)(p:List aj)(vc:Value)(m:aC)(s:aH)(w0 w:World)(bl:Nat)(pre:List Value)(h:fQ w0 w bl p vc m pre s)(hs:aU p p.length)(hz:bn p≤4194304)(h8:m.stack≤8)(ha0:0≤a)(ha1:a<(p.length:Int)) :
  Calls Tryz.prog 156 #[.pointer (some ⟨bl,0,none⟩),.agg #[.int .i64 9,.int .i64 a,.int .i64 b]] w fun e w'=>eu p m ⟨9,a,b⟩ s w0 w w' bl vc pre e:=by
 have _hpl:p.length≤4194304:=(fun (_:aU p p.length) (_:m.stack≤8)=>Nat.le_trans (eG p) hz) hs h8;have hbl:=h.lk.lt;have HW:=hide (h.below (aS w (.cells #[.int .i64 9,.int .i64 a,.int .i64 b] 60)));have hBI:=ak.new w #[.int .i64 9,.int .i64 a,.int .i64 b] 60;have HM:=hide (fB (S:=fun k=>k=bl) (aS w (.cells #[.int .i64 9,.int .i64 a,.int .i64 b] 60)));have HT0:Hid (aY p m ⟨9,a,b⟩ s=bM m (a+3) s):=rfl;unfold eu;go_enter Tryz.func156,Tryz.ntmps156
 go_wp2_with fail
 generalize w.alloc _=W at *;have dZ:=hide hBI;have r0:W.cell? ⟨w.heap.size,0,none⟩=some (.int .i64 9):=hBI.cell 0;have r1:W.cell? ⟨w.heap.size,1,none⟩=some (.int .i64 a):=hBI.cell 1;have r2:W.cell? ⟨w.heap.size,2,none⟩=some (.int .i64 b):=hBI.cell 2;have hne:w.heap.size≠bl:=by omega
 clear hBI h;refine (CO a (by omega) (by omega) _).mono ?_;rintro e w' ⟨rfl,rfl⟩;go_wp2_with fail
 refine (rO (a+3) p vc m s w0 _ bl pre (ah HW) (PW ha0 ha1) h8).mono ?_;rintro e w1 ⟨h1,h2,mm⟩
 cases hr:bM m (a+3) s with
 | none =>
  obtain rfl:=h2 hr;have HN:Hid (aY p m ⟨9,a,b⟩ s=none):=by show _=_;rw [ah HT0,hr] <;> rfl
  have bG:=hide ((ah HM).trans mm (fun _ _ e=>e));clear hr h1 h2;go_wp2_with fail
  exact⟨rfl,fun s' e=>(by rw [ah HN] at e;cases e),fun _=>rfl,ah bG⟩
 | some s1 =>
  obtain⟨rfl,hL⟩:=h1 s1 hr;have HN:Hid (aY p m ⟨9,a,b⟩ s=some s1):=by show _=_;rw [ah HT0,hr] <;> rfl
  have HL:=hide hL;have bG:=hide ((ah HM).trans mm (fun _ _ e=>e));clear hr h1 h2;go_wp2_with fail
  go_end0;refine⟨fun s' e=>?_,fun e=>(by rw [ah HN] at e;cases e),ah bG⟩;rw [ah HN] at e;simp only [Option.some.injEq] at e;subst e;exact⟨rfl,ah HL⟩

theorem afl (a b:Int)(p:List aj)(vc:Value)(m:aC)(s:aH)(w0 w:World)(bl:Nat)(pre:List Value)(h:fQ w0 w bl p vc m pre s)(hs:aU p p.length)(hz:bn p≤4194304)(h8:m.stack≤8)(ha0:0≤a)(ha1:a<(p.length:Int))(hmo:(fO p a b).isSome=true)(hty:∀x∈(cO p a b).args,bT p.length x)(hret:bT p.length (cO p a b).ret) :
  Calls Tryz.prog 156 #[.pointer (some ⟨bl,0,none⟩),.agg #[.int .i64 12,.int .i64 a,.int .i64 b]] w fun e w'=>eu p m ⟨12,a,b⟩ s w0 w w' bl vc pre e:=by
 have _hpl:p.length≤4194304:=(fun (_:aU p p.length) (_:m.stack≤8)=>Nat.le_trans (eG p) hz) hs h8;have hbl:=h.lk.lt;have HW:=hide (h.below (aS w (.cells #[.int .i64 12,.int .i64 a,.int .i64 b] 60)));have hBI:=ak.new w #[.int .i64 12,.int .i64 a,.int .i64 b] 60;have HM:=hide (fB (S:=fun k=>k=bl) (aS w (.cells #[.int .i64 12,.int .i64 a,.int .i64 b] 60)));have HT0:Hid (aY p m ⟨12,a,b⟩ s=vU p m a b s):=rfl;unfold eu;go_enter Tryz.func156,Tryz.ntmps156
 go_wp2_with fail
 generalize w.alloc _=W at *;have dZ:=hide hBI;have r0:W.cell? ⟨w.heap.size,0,none⟩=some (.int .i64 12):=hBI.cell 0;have r1:W.cell? ⟨w.heap.size,1,none⟩=some (.int .i64 a):=hBI.cell 1;have r2:W.cell? ⟨w.heap.size,2,none⟩=some (.int .i64 b):=hBI.cell 2;have hne:w.heap.size≠bl:=by omega
 clear hBI h;refine (ahU 12 a b p vc m s w0 _ bl pre (ah HW) hs hz h8 ha0 ha1 hmo hty hret).mono ?_;rintro e w1 ⟨h1,h2,mm⟩
 cases hr:vU p m a b s with
 | none =>
  obtain rfl:=h2 hr;have HN:Hid (aY p m ⟨12,a,b⟩ s=none):=by show _=_;rw [ah HT0,hr] <;> rfl
  have bG:=hide ((ah HM).trans mm (fun _ _ e=>e));clear hr h1 h2;go_wp2_with fail
  exact⟨rfl,fun s' e=>(by rw [ah HN] at e;cases e),fun _=>rfl,ah bG⟩
 | some s1 =>
  obtain⟨rfl,hL⟩:=h1 s1 hr;have HN:Hid (aY p m ⟨12,a,b⟩ s=some s1):=by show _=_;rw [ah HT0,hr] <;> rfl
  have HL:=hide hL;have bG:=hide ((ah HM).trans mm (fun _ _ e=>e));clear hr h1 h2;go_wp2_with fail
  go_end0;refine⟨fun s' e=>?_,fun e=>(by rw [ah HN] at e;cases e),ah bG⟩;rw [ah HN] at e;simp only [Option.some.injEq] at e;subst e;exact⟨rfl,ah HL⟩

theorem afm (a b:Int)(p:List aj)(vc:Value)(m:aC)(s:aH)(w0 w:World)(bl:Nat)(pre:List Value)(h:fQ w0 w bl p vc m pre s)(hs:aU p p.length)(hz:bn p≤4194304)(h8:m.stack≤8)(hrt:bT p.length m.ret) :
  Calls Tryz.prog 156 #[.pointer (some ⟨bl,0,none⟩),.agg #[.int .i64 13,.int .i64 a,.int .i64 b]] w fun e w'=>eu p m ⟨13,a,b⟩ s w0 w w' bl vc pre e:=by
 have _hpl:p.length≤4194304:=(fun (_:aU p p.length) (_:m.stack≤8)=>Nat.le_trans (eG p) hz) hs h8;have hbl:=h.lk.lt;have HW:=hide (h.below (aS w (.cells #[.int .i64 13,.int .i64 a,.int .i64 b] 60)));have hBI:=ak.new w #[.int .i64 13,.int .i64 a,.int .i64 b] 60;have HM:=hide (fB (S:=fun k=>k=bl) (aS w (.cells #[.int .i64 13,.int .i64 a,.int .i64 b] 60)));have HT0:Hid (aY p m ⟨13,a,b⟩ s=dw p m.ret s):=rfl;have r3:=(ah HW).cell (by omega) (ah HW).p3;unfold eu;go_enter Tryz.func156,Tryz.ntmps156
 go_wp2_with fail
 generalize w.alloc _=W at *;have dZ:=hide hBI;have r0:W.cell? ⟨w.heap.size,0,none⟩=some (.int .i64 13):=hBI.cell 0;have r1:W.cell? ⟨w.heap.size,1,none⟩=some (.int .i64 a):=hBI.cell 1;have r2:W.cell? ⟨w.heap.size,2,none⟩=some (.int .i64 b):=hBI.cell 2;have hne:w.heap.size≠bl:=by omega
 clear hBI h;refine (qA m.ret p vc m s w0 _ bl pre (ah HW) hs _hpl hrt).mono ?_;rintro e w1 ⟨h1,h2,mm⟩
 cases hr:dw p m.ret s with
 | none =>
  obtain rfl:=h2 hr;have HN:Hid (aY p m ⟨13,a,b⟩ s=none):=by show _=_;rw [ah HT0,hr] <;> rfl
  have bG:=hide ((ah HM).trans mm (fun _ _ e=>e));clear hr h1 h2;go_wp2_with fail
  exact⟨rfl,fun s' e=>(by rw [ah HN] at e;cases e),fun _=>rfl,ah bG⟩
 | some s1 =>
  obtain⟨rfl,hL⟩:=h1 s1 hr;have HN:Hid (aY p m ⟨13,a,b⟩ s=some s1):=by show _=_;rw [ah HT0,hr] <;> rfl
  have HL:=hide hL;have bG:=hide ((ah HM).trans mm (fun _ _ e=>e));clear hr h1 h2;go_wp2_with fail
  go_end0;refine⟨fun s' e=>?_,fun e=>(by rw [ah HN] at e;cases e),ah bG⟩;rw [ah HN] at e;simp only [Option.some.injEq] at e;subst e;exact⟨rfl,ah HL⟩

theorem afn (a b:Int)(p:List aj)(vc:Value)(m:aC)(s:aH)(w0 w:World)(bl:Nat)(pre:List Value)(h:fQ w0 w bl p vc m pre s)(hs:aU p p.length)(hz:bn p≤4194304)(h8:m.stack≤8) :
  Calls Tryz.prog 156 #[.pointer (some ⟨bl,0,none⟩),.agg #[.int .i64 14,.int .i64 a,.int .i64 b]] w fun e w'=>eu p m ⟨14,a,b⟩ s w0 w w' bl vc pre e:=by
 have _hpl:p.length≤4194304:=(fun (_:aU p p.length) (_:m.stack≤8)=>Nat.le_trans (eG p) hz) hs h8;have hbl:=h.lk.lt;have HW:=hide (h.below (aS w (.cells #[.int .i64 14,.int .i64 a,.int .i64 b] 60)));have hBI:=ak.new w #[.int .i64 14,.int .i64 a,.int .i64 b] 60;have HM:=hide (fB (S:=fun k=>k=bl) (aS w (.cells #[.int .i64 14,.int .i64 a,.int .i64 b] 60)));have HT0 : Hid (aY p m ⟨14, a, b⟩ s = (fA s).map (·.2)) := rfl;unfold eu;go_enter Tryz.func156,Tryz.ntmps156
 go_wp2_with fail
 generalize w.alloc _=W at *;have dZ:=hide hBI;have r0:W.cell? ⟨w.heap.size,0,none⟩=some (.int .i64 14):=hBI.cell 0;have r1:W.cell? ⟨w.heap.size,1,none⟩=some (.int .i64 a):=hBI.cell 1;have r2:W.cell? ⟨w.heap.size,2,none⟩=some (.int .i64 b):=hBI.cell 2;have hne:w.heap.size≠bl:=by omega
 clear hBI h;refine (FB s _ bl pre (ah HW).lk).mono ?_;rintro e w1 ⟨h1,h2,mm⟩
 cases hr:fA s with
 | none =>
  obtain rfl:=h2 hr;have HN:Hid (aY p m ⟨14,a,b⟩ s=none):=by show _=_;rw [ah HT0,hr] <;> rfl
  have bG:=hide ((ah HM).trans mm (fun _ _ e=>e));clear hr h1 h2;go_wp2_with fail
  exact⟨rfl,fun s' e=>(by rw [ah HN] at e;cases e),fun _=>rfl,ah bG⟩
 | some y =>
  obtain⟨x,s1⟩:=y;obtain⟨rfl,hl⟩:=h1 x s1 hr;have hty:=FV hr (ah HW).ty;have hL:=(ah HW).next hl mm hty.2;have Tx:=hty.1;have HN:Hid (aY p m ⟨14,a,b⟩ s=some s1):=by show _=_;rw [ah HT0,hr] <;> rfl
  have HL:=hide hL;have bG:=hide ((ah HM).trans mm (fun _ _ e=>e));clear hr h1 h2;go_wp2_with fail
  go_end0;refine⟨fun s' e=>?_,fun e=>(by rw [ah HN] at e;cases e),ah bG⟩;rw [ah HN] at e;simp only [Option.some.injEq] at e;subst e;exact⟨rfl,ah HL⟩

theorem afo (a b:Int)(p:List aj)(vc:Value)(m:aC)(s:aH)(w0 w:World)(bl:Nat)(pre:List Value)(h:fQ w0 w bl p vc m pre s)(hs:aU p p.length)(hz:bn p≤4194304)(h8:m.stack≤8) :
  Calls Tryz.prog 156 #[.pointer (some ⟨bl,0,none⟩),.agg #[.int .i64 15,.int .i64 a,.int .i64 b]] w fun e w'=>eu p m ⟨15,a,b⟩ s w0 w w' bl vc pre e:=by
 have _hpl:p.length≤4194304:=(fun (_:aU p p.length) (_:m.stack≤8)=>Nat.le_trans (eG p) hz) hs h8;have hbl:=h.lk.lt;have HW:=hide (h.below (aS w (.cells #[.int .i64 15,.int .i64 a,.int .i64 b] 60)));have hBI:=ak.new w #[.int .i64 15,.int .i64 a,.int .i64 b] 60;have HM:=hide (fB (S:=fun k=>k=bl) (aS w (.cells #[.int .i64 15,.int .i64 a,.int .i64 b] 60)));have HT0:Hid (aY p m ⟨15,a,b⟩ s=(fA s).bind fun x=>(bM m x.1 x.2).bind (bM m x.1)):=rfl;unfold eu;go_enter Tryz.func156,Tryz.ntmps156
 go_wp2_with fail
 generalize w.alloc _=W at *;have dZ:=hide hBI;have r0:W.cell? ⟨w.heap.size,0,none⟩=some (.int .i64 15):=hBI.cell 0;have r1:W.cell? ⟨w.heap.size,1,none⟩=some (.int .i64 a):=hBI.cell 1;have r2:W.cell? ⟨w.heap.size,2,none⟩=some (.int .i64 b):=hBI.cell 2;have hne:w.heap.size≠bl:=by omega
 clear hBI h;refine (FB s _ bl pre (ah HW).lk).mono ?_;rintro e w1 ⟨h1,h2,mm⟩
 cases hr:fA s with
 | none =>
  obtain rfl:=h2 hr;have HN:Hid (aY p m ⟨15,a,b⟩ s=none):=by show _=_;rw [ah HT0,hr] <;> rfl
  have bG:=hide ((ah HM).trans mm (fun _ _ e=>e));clear hr h1 h2;go_wp2_with fail
  exact⟨rfl,fun s' e=>(by rw [ah HN] at e;cases e),fun _=>rfl,ah bG⟩
 | some y =>
  obtain⟨x,s1⟩:=y;obtain⟨rfl,hl⟩:=h1 x s1 hr;have hty:=FV hr (ah HW).ty;have hL:=(ah HW).next hl mm hty.2;have Tx:=hty.1;have HT1:Hid (aY p m ⟨15,a,b⟩ s=(bM m x s1).bind (bM m x)):=by show _=_;rw [ah HT0,hr] <;> rfl
  have dI:=hide ((ah dZ).mods mm hne);replace r1:w1.cell? ⟨w.heap.size,1,none⟩=some (.int .i64 a):=(ah dI).cell 1;replace r2:w1.cell? ⟨w.heap.size,2,none⟩=some (.int .i64 b):=(ah dI).cell 2;replace dZ:=dI;replace HW:=hide hL;replace HM:=hide ((ah HM).trans mm (fun _ _ e=>e));clear hr h1 h2 hL mm dI r0;go_wp2_with fail
  refine (rO x p vc m s1 w0 _ bl pre (ah HW) Tx h8).mono ?_;rintro e w2 ⟨h1,h2,mm⟩
  cases hr:bM m x s1 with
  | none =>
   obtain rfl:=h2 hr;have HN:Hid (aY p m ⟨15,a,b⟩ s=none):=by show _=_;rw [ah HT1,hr] <;> rfl
   have bG:=hide ((ah HM).trans mm (fun _ _ e=>e));clear hr h1 h2;go_wp2_with fail
   exact⟨rfl,fun s' e=>(by rw [ah HN] at e;cases e),fun _=>rfl,ah bG⟩
  | some s2 =>
   obtain⟨rfl,hL⟩:=h1 s2 hr;have HT2:Hid (aY p m ⟨15,a,b⟩ s=bM m x s2):=by show _=_;rw [ah HT1,hr] <;> rfl
   have dI:=hide ((ah dZ).mods mm hne);replace r1:w2.cell? ⟨w.heap.size,1,none⟩=some (.int .i64 a):=(ah dI).cell 1;replace r2:w2.cell? ⟨w.heap.size,2,none⟩=some (.int .i64 b):=(ah dI).cell 2;replace dZ:=dI;replace HW:=hide hL;replace HM:=hide ((ah HM).trans mm (fun _ _ e=>e));clear hr h1 h2 hL mm dI;go_wp2_with fail
   refine (rO x p vc m s2 w0 _ bl pre (ah HW) Tx h8).mono ?_;rintro e w3 ⟨h1,h2,mm⟩
   cases hr:bM m x s2 with
   | none =>
    obtain rfl:=h2 hr;have HN:Hid (aY p m ⟨15,a,b⟩ s=none):=by show _=_;rw [ah HT2,hr] <;> rfl
    have bG:=hide ((ah HM).trans mm (fun _ _ e=>e));clear hr h1 h2;go_wp2_with fail
    exact⟨rfl,fun s' e=>(by rw [ah HN] at e;cases e),fun _=>rfl,ah bG⟩
   | some s3 =>
    obtain⟨rfl,hL⟩:=h1 s3 hr;have HN:Hid (aY p m ⟨15,a,b⟩ s=some s3):=by show _=_;rw [ah HT2,hr] <;> rfl
    have HL:=hide hL;have bG:=hide ((ah HM).trans mm (fun _ _ e=>e));clear hr h1 h2;go_wp2_with fail
    go_end0;refine⟨fun s' e=>?_,fun e=>(by rw [ah HN] at e;cases e),ah bG⟩;rw [ah HN] at e;simp only [Option.some.injEq] at e;subst e;exact⟨rfl,ah HL⟩

theorem afp (a b:Int)(p:List aj)(vc:Value)(m:aC)(s:aH)(w0 w:World)(bl:Nat)(pre:List Value)(h:fQ w0 w bl p vc m pre s)(hs:aU p p.length)(hz:bn p≤4194304)(h8:m.stack≤8) :
  Calls Tryz.prog 156 #[.pointer (some ⟨bl,0,none⟩),.agg #[.int .i64 16,.int .i64 a,.int .i64 b]] w fun e w'=>eu p m ⟨16,a,b⟩ s w0 w w' bl vc pre e:=by
 have _hpl:p.length≤4194304:=(fun (_:aU p p.length) (_:m.stack≤8)=>Nat.le_trans (eG p) hz) hs h8;have hbl:=h.lk.lt;have HW:=hide (h.below (aS w (.cells #[.int .i64 16,.int .i64 a,.int .i64 b] 60)));have hBI:=ak.new w #[.int .i64 16,.int .i64 a,.int .i64 b] 60;have HM:=hide (fB (S:=fun k=>k=bl) (aS w (.cells #[.int .i64 16,.int .i64 a,.int .i64 b] 60)));have HT0:Hid (aY p m ⟨16,a,b⟩ s=bM m 1 s):=rfl;unfold eu;go_enter Tryz.func156,Tryz.ntmps156
 go_wp2_with fail
 generalize w.alloc _=W at *;have dZ:=hide hBI;have r0:W.cell? ⟨w.heap.size,0,none⟩=some (.int .i64 16):=hBI.cell 0;have r1:W.cell? ⟨w.heap.size,1,none⟩=some (.int .i64 a):=hBI.cell 1;have r2:W.cell? ⟨w.heap.size,2,none⟩=some (.int .i64 b):=hBI.cell 2;have hne:w.heap.size≠bl:=by omega
 clear hBI h;refine (rO 1 p vc m s w0 _ bl pre (ah HW) (qG _ (by omega) (by omega)) h8).mono ?_;rintro e w1 ⟨h1,h2,mm⟩
 cases hr:bM m 1 s with
 | none =>
  obtain rfl:=h2 hr;have HN:Hid (aY p m ⟨16,a,b⟩ s=none):=by show _=_;rw [ah HT0,hr] <;> rfl
  have bG:=hide ((ah HM).trans mm (fun _ _ e=>e));clear hr h1 h2;go_wp2_with fail
  exact⟨rfl,fun s' e=>(by rw [ah HN] at e;cases e),fun _=>rfl,ah bG⟩
 | some s1 =>
  obtain⟨rfl,hL⟩:=h1 s1 hr;have HN:Hid (aY p m ⟨16,a,b⟩ s=some s1):=by show _=_;rw [ah HT0,hr] <;> rfl
  have HL:=hide hL;have bG:=hide ((ah HM).trans mm (fun _ _ e=>e));clear hr h1 h2;go_wp2_with fail
  go_end0;refine⟨fun s' e=>?_,fun e=>(by rw [ah HN] at e;cases e),ah bG⟩;rw [ah HN] at e;simp only [Option.some.injEq] at e;subst e;exact⟨rfl,ah HL⟩

theorem afq (a b:Int)(p:List aj)(vc:Value)(m:aC)(s:aH)(w0 w:World)(bl:Nat)(pre:List Value)(h:fQ w0 w bl p vc m pre s)(hs:aU p p.length)(hz:bn p≤4194304)(h8:m.stack≤8)(ha0:0≤a)(ha1:a<(p.length:Int)) :
  Calls Tryz.prog 156 #[.pointer (some ⟨bl,0,none⟩),.agg #[.int .i64 17,.int .i64 a,.int .i64 b]] w fun e w'=>eu p m ⟨17,a,b⟩ s w0 w w' bl vc pre e:=by
 have _hpl:p.length≤4194304:=(fun (_:aU p p.length) (_:m.stack≤8)=>Nat.le_trans (eG p) hz) hs h8;have hbl:=h.lk.lt;have HW:=hide (h.below (aS w (.cells #[.int .i64 17,.int .i64 a,.int .i64 b] 60)));have hBI:=ak.new w #[.int .i64 17,.int .i64 a,.int .i64 b] 60;have HM:=hide (fB (S:=fun k=>k=bl) (aS w (.cells #[.int .i64 17,.int .i64 a,.int .i64 b] 60)));have HT0:Hid (aY p m ⟨17,a,b⟩ s=(jX s).bind (bM m (a+3))):=rfl;unfold eu;go_enter Tryz.func156,Tryz.ntmps156
 go_wp2_with fail
 generalize w.alloc _=W at *;have dZ:=hide hBI;have r0:W.cell? ⟨w.heap.size,0,none⟩=some (.int .i64 17):=hBI.cell 0;have r1:W.cell? ⟨w.heap.size,1,none⟩=some (.int .i64 a):=hBI.cell 1;have r2:W.cell? ⟨w.heap.size,2,none⟩=some (.int .i64 b):=hBI.cell 2;have hne:w.heap.size≠bl:=by omega
 clear hBI h;refine (abn p vc m s w0 _ bl pre (ah HW)).mono ?_;rintro e w1 ⟨h1,h2,mm⟩
 cases hr:jX s with
 | none =>
  obtain rfl:=h2 hr;have HN:Hid (aY p m ⟨17,a,b⟩ s=none):=by show _=_;rw [ah HT0,hr] <;> rfl
  have bG:=hide ((ah HM).trans mm (fun _ _ e=>e));clear hr h1 h2;go_wp2_with fail
  exact⟨rfl,fun s' e=>(by rw [ah HN] at e;cases e),fun _=>rfl,ah bG⟩
 | some s1 =>
  obtain⟨rfl,hL⟩:=h1 s1 hr;have HT1:Hid (aY p m ⟨17,a,b⟩ s=bM m (a+3) s1):=by show _=_;rw [ah HT0,hr] <;> rfl
  have dI:=hide ((ah dZ).mods mm hne);replace r1:w1.cell? ⟨w.heap.size,1,none⟩=some (.int .i64 a):=(ah dI).cell 1;replace r2:w1.cell? ⟨w.heap.size,2,none⟩=some (.int .i64 b):=(ah dI).cell 2;replace dZ:=dI;replace HW:=hide hL;replace HM:=hide ((ah HM).trans mm (fun _ _ e=>e));clear hr h1 h2 hL mm dI r0;go_wp2_with fail
  refine (CO a (by omega) (by omega) _).mono ?_;rintro e w' ⟨rfl,rfl⟩;go_wp2_with fail
  refine (rO (a+3) p vc m s1 w0 _ bl pre (ah HW) (PW ha0 ha1) h8).mono ?_;rintro e w2 ⟨h1,h2,mm⟩
  cases hr:bM m (a+3) s1 with
  | none =>
   obtain rfl:=h2 hr;have HN:Hid (aY p m ⟨17,a,b⟩ s=none):=by show _=_;rw [ah HT1,hr] <;> rfl
   have bG:=hide ((ah HM).trans mm (fun _ _ e=>e));clear hr h1 h2;go_wp2_with fail
   exact⟨rfl,fun s' e=>(by rw [ah HN] at e;cases e),fun _=>rfl,ah bG⟩
  | some s2 =>
   obtain⟨rfl,hL⟩:=h1 s2 hr;have HN:Hid (aY p m ⟨17,a,b⟩ s=some s2):=by show _=_;rw [ah HT1,hr] <;> rfl
   have HL:=hide hL;have bG:=hide ((ah HM).trans mm (fun _ _ e=>e));clear hr h1 h2;go_wp2_with fail
   go_end0;refine⟨fun s' e=>?_,fun e=>(by rw [ah HN] at e;cases e),ah bG⟩;rw [ah HN] at e;simp only [Option.some.injEq] at e;subst e;exact⟨rfl,ah HL⟩

theorem afr (a b:Int)(p:List aj)(vc:Value)(m:aC)(s:aH)(w0 w:World)(bl:Nat)(pre:List Value)(h:fQ w0 w bl p vc m pre s)(hs:aU p p.length)(hz:bn p≤4194304)(h8:m.stack≤8) :
  Calls Tryz.prog 156 #[.pointer (some ⟨bl,0,none⟩),.agg #[.int .i64 18,.int .i64 a,.int .i64 b]] w fun e w'=>eu p m ⟨18,a,b⟩ s w0 w w' bl vc pre e:=by
 have _hpl:p.length≤4194304:=(fun (_:aU p p.length) (_:m.stack≤8)=>Nat.le_trans (eG p) hz) hs h8;have hbl:=h.lk.lt;have HW:=hide (h.below (aS w (.cells #[.int .i64 18,.int .i64 a,.int .i64 b] 60)));have hBI:=ak.new w #[.int .i64 18,.int .i64 a,.int .i64 b] 60;have HM:=hide (fB (S:=fun k=>k=bl) (aS w (.cells #[.int .i64 18,.int .i64 a,.int .i64 b] 60)));have HT0:Hid (aY p m ⟨18,a,b⟩ s=jX s):=rfl;unfold eu;go_enter Tryz.func156,Tryz.ntmps156
 go_wp2_with fail
 generalize w.alloc _=W at *;have dZ:=hide hBI;have r0:W.cell? ⟨w.heap.size,0,none⟩=some (.int .i64 18):=hBI.cell 0;have r1:W.cell? ⟨w.heap.size,1,none⟩=some (.int .i64 a):=hBI.cell 1;have r2:W.cell? ⟨w.heap.size,2,none⟩=some (.int .i64 b):=hBI.cell 2;have hne:w.heap.size≠bl:=by omega
 clear hBI h;refine (abn p vc m s w0 _ bl pre (ah HW)).mono ?_;rintro e w1 ⟨h1,h2,mm⟩
 cases hr:jX s with
 | none =>
  obtain rfl:=h2 hr;have HN:Hid (aY p m ⟨18,a,b⟩ s=none):=by show _=_;rw [ah HT0,hr] <;> rfl
  have bG:=hide ((ah HM).trans mm (fun _ _ e=>e));clear hr h1 h2;go_wp2_with fail
  exact⟨rfl,fun s' e=>(by rw [ah HN] at e;cases e),fun _=>rfl,ah bG⟩
 | some s1 =>
  obtain⟨rfl,hL⟩:=h1 s1 hr;have HN:Hid (aY p m ⟨18,a,b⟩ s=some s1):=by show _=_;rw [ah HT0,hr] <;> rfl
  have HL:=hide hL;have bG:=hide ((ah HM).trans mm (fun _ _ e=>e));clear hr h1 h2;go_wp2_with fail
  go_end0;refine⟨fun s' e=>?_,fun e=>(by rw [ah HN] at e;cases e),ah bG⟩;rw [ah HN] at e;simp only [Option.some.injEq] at e;subst e;exact⟨rfl,ah HL⟩

theorem afu (a b:Int)(p:List aj)(vc:Value)(m:aC)(s:aH)(w0 w:World)(bl:Nat)(pre:List Value)(h:fQ w0 w bl p vc m pre s)(hs:aU p p.length)(hz:bn p≤4194304)(h8:m.stack≤8) :
  Calls Tryz.prog 156 #[.pointer (some ⟨bl,0,none⟩),.agg #[.int .i64 20,.int .i64 a,.int .i64 b]] w fun e w'=>eu p m ⟨20,a,b⟩ s w0 w w' bl vc pre e:=by
 have _hpl:p.length≤4194304:=(fun (_:aU p p.length) (_:m.stack≤8)=>Nat.le_trans (eG p) hz) hs h8;have hbl:=h.lk.lt;have HW:=hide (h.below (aS w (.cells #[.int .i64 20,.int .i64 a,.int .i64 b] 60)));have hBI:=ak.new w #[.int .i64 20,.int .i64 a,.int .i64 b] 60;have HM:=hide (fB (S:=fun k=>k=bl) (aS w (.cells #[.int .i64 20,.int .i64 a,.int .i64 b] 60)));have HT0:Hid (aY p m ⟨20,a,b⟩ s=(fA s).bind fun y=>(fA y.2).bind fun x=>(bM m y.1 x.2).bind (bM m x.1)):=rfl;unfold eu;go_enter Tryz.func156,Tryz.ntmps156
 go_wp2_with fail
 generalize w.alloc _=W at *;have dZ:=hide hBI;have r0:W.cell? ⟨w.heap.size,0,none⟩=some (.int .i64 20):=hBI.cell 0;have r1:W.cell? ⟨w.heap.size,1,none⟩=some (.int .i64 a):=hBI.cell 1;have r2:W.cell? ⟨w.heap.size,2,none⟩=some (.int .i64 b):=hBI.cell 2;have hne:w.heap.size≠bl:=by omega
 clear hBI h;refine (FB s _ bl pre (ah HW).lk).mono ?_;rintro e w1 ⟨h1,h2,mm⟩
 cases hr:fA s with
 | none =>
  obtain rfl:=h2 hr;have HN:Hid (aY p m ⟨20,a,b⟩ s=none):=by show _=_;rw [ah HT0,hr] <;> rfl
  have bG:=hide ((ah HM).trans mm (fun _ _ e=>e));clear hr h1 h2;go_wp2_with fail
  exact⟨rfl,fun s' e=>(by rw [ah HN] at e;cases e),fun _=>rfl,ah bG⟩
 | some y =>
  obtain⟨y,s1⟩:=y;obtain⟨rfl,hl⟩:=h1 y s1 hr;have hty:=FV hr (ah HW).ty;have hL:=(ah HW).next hl mm hty.2;have Ty:=hty.1;have HT1:Hid (aY p m ⟨20,a,b⟩ s=(fA s1).bind fun x=>(bM m y x.2).bind (bM m x.1)):=by show _=_;rw [ah HT0,hr] <;> rfl
  have dI:=hide ((ah dZ).mods mm hne);replace r1:w1.cell? ⟨w.heap.size,1,none⟩=some (.int .i64 a):=(ah dI).cell 1;replace r2:w1.cell? ⟨w.heap.size,2,none⟩=some (.int .i64 b):=(ah dI).cell 2;replace dZ:=dI;replace HW:=hide hL;replace HM:=hide ((ah HM).trans mm (fun _ _ e=>e));clear hr h1 h2 hL mm dI r0;go_wp2_with fail
  refine (FB s1 _ bl pre (ah HW).lk).mono ?_;rintro e w2 ⟨h1,h2,mm⟩
  cases hr:fA s1 with
  | none =>
   obtain rfl:=h2 hr;have HN:Hid (aY p m ⟨20,a,b⟩ s=none):=by show _=_;rw [ah HT1,hr] <;> rfl
   have bG:=hide ((ah HM).trans mm (fun _ _ e=>e));clear hr h1 h2;go_wp2_with fail
   exact⟨rfl,fun s' e=>(by rw [ah HN] at e;cases e),fun _=>rfl,ah bG⟩
  | some y =>
   obtain⟨x,s2⟩:=y;obtain⟨rfl,hl⟩:=h1 x s2 hr;have hty:=FV hr (ah HW).ty;have hL:=(ah HW).next hl mm hty.2;have Tx:=hty.1;have HT2:Hid (aY p m ⟨20,a,b⟩ s=(bM m y s2).bind (bM m x)):=by show _=_;rw [ah HT1,hr] <;> rfl
   have dI:=hide ((ah dZ).mods mm hne);replace r1:w2.cell? ⟨w.heap.size,1,none⟩=some (.int .i64 a):=(ah dI).cell 1;replace r2:w2.cell? ⟨w.heap.size,2,none⟩=some (.int .i64 b):=(ah dI).cell 2;replace dZ:=dI;replace HW:=hide hL;replace HM:=hide ((ah HM).trans mm (fun _ _ e=>e));clear hr h1 h2 hL mm dI;go_wp2_with fail
   refine (rO y p vc m s2 w0 _ bl pre (ah HW) Ty h8).mono ?_;rintro e w3 ⟨h1,h2,mm⟩
   cases hr:bM m y s2 with
   | none =>
    obtain rfl:=h2 hr;have HN:Hid (aY p m ⟨20,a,b⟩ s=none):=by show _=_;rw [ah HT2,hr] <;> rfl
    have bG:=hide ((ah HM).trans mm (fun _ _ e=>e));clear hr h1 h2;go_wp2_with fail
    exact⟨rfl,fun s' e=>(by rw [ah HN] at e;cases e),fun _=>rfl,ah bG⟩
   | some s3 =>
    obtain⟨rfl,hL⟩:=h1 s3 hr;have HT3:Hid (aY p m ⟨20,a,b⟩ s=bM m x s3):=by show _=_;rw [ah HT2,hr] <;> rfl
    have dI:=hide ((ah dZ).mods mm hne);replace r1:w3.cell? ⟨w.heap.size,1,none⟩=some (.int .i64 a):=(ah dI).cell 1;replace r2:w3.cell? ⟨w.heap.size,2,none⟩=some (.int .i64 b):=(ah dI).cell 2;replace dZ:=dI;replace HW:=hide hL;replace HM:=hide ((ah HM).trans mm (fun _ _ e=>e));clear hr h1 h2 hL mm dI;go_wp2_with fail
    refine (rO x p vc m s3 w0 _ bl pre (ah HW) Tx h8).mono ?_;rintro e w4 ⟨h1,h2,mm⟩
    cases hr:bM m x s3 with
    | none =>
     obtain rfl:=h2 hr;have HN:Hid (aY p m ⟨20,a,b⟩ s=none):=by show _=_;rw [ah HT3,hr] <;> rfl
     have bG:=hide ((ah HM).trans mm (fun _ _ e=>e));clear hr h1 h2;go_wp2_with fail
     exact⟨rfl,fun s' e=>(by rw [ah HN] at e;cases e),fun _=>rfl,ah bG⟩
    | some s4 =>
     obtain⟨rfl,hL⟩:=h1 s4 hr;have HN:Hid (aY p m ⟨20,a,b⟩ s=some s4):=by show _=_;rw [ah HT3,hr] <;> rfl
     have HL:=hide hL;have bG:=hide ((ah HM).trans mm (fun _ _ e=>e));clear hr h1 h2;go_wp2_with fail
     go_end0;refine⟨fun s' e=>?_,fun e=>(by rw [ah HN] at e;cases e),ah bG⟩;rw [ah HN] at e;simp only [Option.some.injEq] at e;subst e;exact⟨rfl,ah HL⟩
end Go.Proofs.YtiiokkllmchohaaGreat
namespace Go.Proofs.YtiiokkllmchohaaGreat
open Go.RowKit
attribute [local go_sem ↓] Go.wp_at_zero Go.wp_at_succ
attribute [local go_sem] bW
theorem akv {P:Program}{ty:TypeId}{n:Nat}(h:ni P ty n){w:World}{g:Nat}{t:TypeId}{cur:List Value}(hB:ak w g t cur)(off:Nat)(vs:List Value)(hl:vs.length=n)(hv:∀j v,vs[j]? =some v→cur[off+j]? =some v)
  {o:Oper} {a:Act} {K:Act→World→Prop} {Q:Exit→Act→World→Prop} (x:Operand) (ho:o.op= .load ty x) (hx:a.eval x= .pointer (some ⟨g,off,none⟩)) (hK:K (a.put o.dst (.agg vs.toArray)) w):o.wp P a w K Q:=by
 unfold Oper.wp;rw [qQ h hB off vs hl hv ho hx];exact hK
theorem eu.ok {p:List aj}{m:aC}{i:eF}{s s1:aH}{w0 w w':World}{bl:Nat}{vc:Value}{pre:List Value}(h:aY p m i s=some s1)(hl:fQ w0 w' bl p vc m pre s1)(hm:ay (fun k=>k=bl) w w'):eu p m i s w0 w w' bl vc pre (.returned (.tuple #[])):=
 ⟨fun s' e=>by rw [h] at e;obtain rfl:=Option.some.inj e;exact⟨rfl,hl⟩,fun e=>(by rw [h] at e;cases e),hm⟩
theorem eu.no {p:List aj}{m:aC}{i:eF}{s:aH}{w0 w w':World}{bl:Nat}{vc:Value}{pre:List Value}(h:aY p m i s=none)(hm:ay (fun k=>k=bl) w w'):eu p m i s w0 w w' bl vc pre (.panicked (jB 5)):=
 ⟨fun s' e=>(by rw [h] at e;cases e),fun _=>rfl,hm⟩
theorem eX.Uy {s:aH}{cs:List Value}(h:eX s cs):s.loc.length=8:=h.ok.1
theorem nX.Uy {w:World}{bl:Nat}{pre:List Value}{s:aH}(h:nX w bl pre s):s.loc.length=8:=by
 obtain⟨_,_,h1,_⟩:=h;exact h1.Uy
theorem aa4 {t x:Int}(h:lM t=some x):x=t:=by
 unfold lM at h
 split at h
 ·cases h
 ·exact (Option.some.inj h).symm

theorem afi (i:Nat)(b:Int)(p:List aj)(vc:Value)(m:aC)(s:aH)(w0 w:World)(bl:Nat)(pre:List Value)(h:fQ w0 w bl p vc m pre s)(h8:m.stack≤8)(hi:i<8) :
  Calls Tryz.prog 156 #[.pointer (some ⟨bl,0,none⟩),.agg #[.int .i64 1,.int .i64 (i:Int),.int .i64 b]] w fun e w'=>eu p m ⟨1,i,b⟩ s w0 w w' bl vc pre e:=by
 have hbl:=h.lk.lt;have hll:=h.lk.Uy;have HT:Hid (aY p m ⟨1,i,b⟩ s=(lM (s.loc.getD i 0)).bind fun t=>bM m t s):=rfl
 have hty:bT p.length (s.loc.getD i 0):=by
  rw [List.getD_eq_getElem?_getD,List.getElem?_eq_getElem (by omega)];exact h.ty.1 _ (List.getElem_mem _)
 generalize ht:s.loc.getD i 0=t at *;have HTT:=hide ht;clear ht;have HW:=hide (h.below (aS w (.cells #[.int .i64 1,.int .i64 (i:Int),.int .i64 b] 60)));have hBI:=ak.new w #[.int .i64 1,.int .i64 (i:Int),.int .i64 b] 60;have HM:=hide (fB (S:=fun k=>k=bl) (aS w (.cells #[.int .i64 1,.int .i64 (i:Int),.int .i64 b] 60)));go_enter Tryz.func156,Tryz.ntmps156
 go_wp2_with fail
 generalize w.alloc _=W at *;have r1:W.cell? ⟨w.heap.size,1,none⟩=some (.int .i64 i):=hBI.cell 1;have dZ:=hide hBI;have hne:w.heap.size≠bl:=by omega
 obtain⟨cs,hS,hl,hB,hg⟩:=(ah HW).lk.state;clear hBI h;refine wp_region_held_drew (S:=(fun w'=>w'.cell? ⟨w.heap.size,1,none⟩=some (.int .i64 (i:Int)))) (by kernel_rfl) ?_ (fun hHeld=>?_)
 ·exact r1
 refine au 15 0 ?_;refine au 16 1 ?_;refine au 17 2 ?_;refine au 18 3 ?_;refine au 20 5 ?_;refine au 21 6 ?_;refine aW 4 (fun K hK=>?_);refine akv fM (hB.below ((Below.refl _ _).drew) hB.lt) 8 cs hl hg (.tmp 18) rfl rfl ?_;go_simp;refine hK.out _ _ r1 (fun hHeld=>?_);clear hK K;try simp only [Act.put,aK,aO,aN]
 refine aW 7 (fun K hK=>?_);go_simp;refine (ajY s cs i _ hS hi).mono ?_;rintro e w1 ⟨rfl,hb1⟩;have hb1':Below W.heap.size W w1:=⟨hb1.os,hb1.tape,hb1.output,hb1.size,hb1.block⟩;have L1:=hide ((ah HW).below hb1');have m1:ay (fun k=>k=bl) w w1:=(ah HM).trans (fB hb1') (fun _ _ e=>e);have hI1:=(ah dZ).below hb1' (ah dZ).lt;rw [ah HTT];go_wp2_with fail
 refine hK.out _ _ (hI1.cell 1) (fun hHeld=>?_);clear hK K;try simp only [Act.put,aK,aO,aN]
 clear hb1 hb1';refine aW 8 (fun K hK=>?_);go_simp;refine (YW t _).mono ?_;rintro e w2 ⟨h1,h2,rfl⟩
 cases hr:lM t with
 | none =>
  obtain rfl:=h2 hr;have HN:Hid (aY p m ⟨1,i,b⟩ s=none):=by show _=_;rw [ah HT,hr];rfl
  clear hr h1 h2;go_wp2_with fail
  exact⟨rfl,eu.no (ah HN) m1⟩
 | some x =>
  obtain rfl:=h1 x hr;obtain rfl:=aa4 hr;have HN:Hid (aY p m ⟨1,i,b⟩ s=bM m x s):=by show _=_;rw [ah HT,hr];rfl
  clear hr h1 h2;go_wp2_with fail
  refine hK.out _ _ (hI1.cell 1) (fun hHeld=>?_);clear hK K;try simp only [Act.put,aK,aO,aN]
  refine aW 9 (fun K hK=>?_);go_simp;refine (rO x p vc m s w0 _ bl pre (ah L1) hty h8).mono ?_;rintro e w3 ⟨h1,h2,m3⟩;have M3:=hide (m1.trans m3 (fun _ _ e=>e))
  cases hr:bM m x s with
  | none =>
   obtain rfl:=h2 hr;have HN':Hid (aY p m ⟨1,i,b⟩ s=none):=by show _=_;rw [ah HN,hr]
   clear hr h1 h2;go_wp2_with fail
   exact⟨rfl,eu.no (ah HN') (ah M3)⟩
  | some s1 =>
   obtain⟨rfl,hL⟩:=h1 s1 hr;have HN':Hid (aY p m ⟨1,i,b⟩ s=some s1):=by show _=_;rw [ah HN,hr]
   have HL:=hide hL;have vW:=hI1.mods m3 hne;clear hr h1 h2 hL;go_wp2_with fail
   refine hK.out _ _ (vW.cell 1) (fun hHeld=>?_);clear hK K;try simp only [Act.put,aK,aO,aN]
   refine wpAnyH_done (by kernel_rfl) ?_ _;go_wp2_with fail
   go_end0;exact eu.ok (ah HN') (ah HL) (ah M3)
theorem ajO {n:Nat}{k:Int}{s:aH}{t:Int}(i:Nat)(h:kV n k s)(ht:bT n t):kV n k (xZ s i t):=by
 refine⟨fun x hx=>?_,h.2.1,h.2.2⟩
 rcases List.mem_or_eq_of_mem_set hx with h1 | rfl
 ·exact h.1 x h1
 ·exact ht
theorem aft (i:Nat)(b:Int)(p:List aj)(vc:Value)(m:aC)(s:aH)(w0 w:World)(bl:Nat)(pre:List Value)(h:fQ w0 w bl p vc m pre s)(hi:i<8) :
  Calls Tryz.prog 156 #[.pointer (some ⟨bl,0,none⟩),.agg #[.int .i64 2,.int .i64 (i:Int),.int .i64 b]] w fun e w'=>eu p m ⟨2,i,b⟩ s w0 w w' bl vc pre e:=by
 have hbl:=h.lk.lt;have HT:Hid (aY p m ⟨2,i,b⟩ s=(fA s).bind fun x=>(lM x.1).map fun t=>xZ x.2 i t):=rfl;have HW:=hide (h.below (aS w (.cells #[.int .i64 2,.int .i64 (i:Int),.int .i64 b] 60)));have hBI:=ak.new w #[.int .i64 2,.int .i64 (i:Int),.int .i64 b] 60;have HM:=hide (fB (S:=fun k=>k=bl) (aS w (.cells #[.int .i64 2,.int .i64 (i:Int),.int .i64 b] 60)));go_enter Tryz.func156,Tryz.ntmps156
 go_wp2_with fail
 generalize w.alloc _=W at *;have r1:W.cell? ⟨w.heap.size,1,none⟩=some (.int .i64 i):=hBI.cell 1;have dZ:=hide hBI;have hne:w.heap.size≠bl:=by omega
 clear hBI h;refine wp_region_held_drew (S:=(fun w'=>w'.cell? ⟨w.heap.size,1,none⟩=some (.int .i64 (i:Int)))) (by kernel_rfl) ?_ (fun hHeld=>?_)
 ·exact r1
 refine au 27 0 ?_;refine au 28 1 ?_;refine au 29 2 ?_;refine au 30 3 ?_;refine au 31 4 ?_;refine au 32 5 ?_;refine aW 6 (fun K hK=>?_);go_simp;refine (FB s _ bl pre ((ah HW).below ((Below.refl _ _).drew)).lk).mono ?_;rintro e w1 ⟨h1,h2,m1⟩;have qB:ay (fun k=>k=bl) W w1:=m1.acK;have M1:=hide ((ah HM).trans qB (fun _ _ e=>e))
 cases hr:fA s with
 | none =>
  obtain rfl:=h2 hr;have HN:Hid (aY p m ⟨2,i,b⟩ s=none):=by show _=_;rw [ah HT,hr];rfl
  clear hr h1 h2;go_wp2_with fail
  exact⟨rfl,eu.no (ah HN) (ah M1)⟩
 | some y =>
  obtain⟨t,s1⟩:=y;obtain⟨rfl,hl⟩:=h1 t s1 hr;have hty:=FV hr (ah HW).ty;have HL:=hide ((ah HW).next hl qB hty.2);have Tt:=hty.1;have HN:Hid (aY p m ⟨2,i,b⟩ s=(lM t).map fun t=>xZ s1 i t):=by show _=_;rw [ah HT,hr];rfl
  have hI1:=(ah dZ).mods qB hne;clear hr h1 h2 hl hty m1 qB;go_wp2_with fail
  refine hK.out _ _ (hI1.cell 1) (fun hHeld=>?_);clear hK K;try simp only [Act.put,aK,aO,aN]
  refine aW 7 (fun K hK=>?_);go_simp;refine (YW t _).mono ?_;rintro e w2 ⟨h1,h2,rfl⟩
  cases hr:lM t with
  | none =>
   obtain rfl:=h2 hr;have HN':Hid (aY p m ⟨2,i,b⟩ s=none):=by show _=_;rw [ah HN,hr];rfl
   clear hr h1 h2;go_wp2_with fail
   exact⟨rfl,eu.no (ah HN') (ah M1)⟩
  | some x =>
   obtain rfl:=h1 x hr;obtain rfl:=aa4 hr;have HN':Hid (aY p m ⟨2,i,b⟩ s=some (xZ s1 i x)):=by show _=_;rw [ah HN,hr];rfl
   clear hr h1 h2;go_wp2_with fail
   refine hK.out _ _ (hI1.cell 1) (fun hHeld=>?_);clear hK K;try simp only [Act.put,aK,aO,aN]
   refine aW 8 (fun K hK=>?_);go_simp;refine (aj0 s1 i x _ bl pre (ah HL).lk hi).mono ?_;rintro e w3 ⟨rfl,hl3,m3⟩;have M3:=hide ((ah M1).trans m3 (fun _ _ e=>e));have BM:=hide ((ah HL).next hl3 m3 (ajO i (ah HL).ty Tt));have vW:=hI1.mods m3 hne;go_wp2_with fail
   refine hK.out _ _ (vW.cell 1) (fun hHeld=>?_);clear hK K;try simp only [Act.put,aK,aO,aN]
   refine wpAnyH_done (by kernel_rfl) ?_ _;go_wp2_with fail
   go_end0;exact eu.ok (ah HN') (ah BM) (ah M3)
theorem aby {w:World}{base:Nat}{e:TypeId}{v:Value}{n:Nat}{xs:List Value}(h:w.ownsRow base e 1 v n xs){j:Nat}(hj:j<n):∃g cap,v= .slice (some ⟨g,0,none⟩) n cap∧w.cell? ⟨g,j,none⟩=xs[j]? :=by
 rcases h.2 with ⟨e0,h0⟩ | ⟨g,cap',cur,e0,_,hg,_,_,_,htk⟩
 ·omega
 ·refine⟨g,cap',e0,?_⟩;have hB:ak w g e cur.toList:=by unfold ak;simpa using hg
  rw [hB.cell,←htk,List.getElem?_take,if_pos (by omega)]
theorem YU {p:List aj}{a:Int}{j:Nat}(hj:j<(fieldsOf p a).length):((fieldsOf p a).map (Value.int .i64))[j]? =some (.int .i64 (jm p a j)):=by
 rw [List.getElem?_map,List.getElem?_eq_getElem hj];unfold jm;rw [Int.toNat_natCast,List.getD_eq_getElem?_getD,List.getElem?_eq_getElem hj];rfl

theorem afj (a:Int)(j:Nat)(p:List aj)(vc:Value)(m:aC)(s:aH)(w0 w:World)(bl:Nat)(pre:List Value)(h:fQ w0 w bl p vc m pre s)(hs:aU p p.length)(hz:bn p≤4194304)(h8:m.stack≤8)
  (ha0:0≤a) (ha1:a<(p.length:Int)) (hj:j<(fieldsOf p a).length) (hft:bT p.length (jm p a j)) :
  Calls Tryz.prog 156 #[.pointer (some ⟨bl,0,none⟩),.agg #[.int .i64 10,.int .i64 a,.int .i64 (j:Int)]] w fun e w'=>eu p m ⟨10,a,j⟩ s w0 w w' bl vc pre e:=by
 have hpl:p.length≤4194304:=Nat.le_trans (eG p) hz;have hbl:=h.lk.lt;have hjn:(j:Int)<((fieldsOf p a).length:Int):=by omega
 have hj0:(0:Int)≤(j:Int):=by omega
 have HG:=hide (YU hj);have HT0:Hid (aY p m ⟨10,a,j⟩ s=(dw p (a+3) s).bind (bM m (jm p a j))):=rfl;have HW:=hide (h.below (aS w (.cells #[.int .i64 10,.int .i64 a,.int .i64 (j:Int)] 60)));have hBI:=ak.new w #[.int .i64 10,.int .i64 a,.int .i64 (j:Int)] 60;have HM:=hide (fB (S:=fun k=>k=bl) (aS w (.cells #[.int .i64 10,.int .i64 a,.int .i64 (j:Int)] 60)));obtain⟨va,_,_,fJ,rfl,_⟩:=h.pr;generalize hF:jm p a j=ft at *;clear hF;go_enter Tryz.func156,Tryz.ntmps156
 go_wp2_with fail
 generalize w.alloc _=W at *;have dZ:=hide hBI;have r1:W.cell? ⟨w.heap.size,1,none⟩=some (.int .i64 a):=hBI.cell 1;have hne:w.heap.size≠bl:=by omega
 clear hBI h;refine (CO a (by omega) (by omega) _).mono ?_;rintro e w' ⟨rfl,rfl⟩;go_wp2_with fail
 refine (qA (a+3) p _ m s w0 _ bl pre (ah HW) hs hpl (PW ha0 ha1)).mono ?_;rintro e w1 ⟨h1,h2,mm⟩
 cases hr:dw p (a+3) s with
 | none =>
  obtain rfl:=h2 hr;have HN:Hid (aY p m ⟨10,a,j⟩ s=none):=by show _=_;rw [ah HT0,hr] <;> rfl
  have bG:=hide ((ah HM).trans mm (fun _ _ e=>e));clear hr h1 h2;go_wp2_with fail
  exact⟨rfl,eu.no (ah HN) (ah bG)⟩
 | some s1 =>
  obtain⟨rfl,hL⟩:=h1 s1 hr;have HT1:Hid (aY p m ⟨10,a,j⟩ s=bM m ft s1):=by show _=_;rw [ah HT0,hr] <;> rfl
  have HB1:=hide ((ah dZ).mods mm hne);have q1:w1.cell? ⟨w.heap.size,1,none⟩=some (.int .i64 a):=(ah HB1).cell 1;have q2:w1.cell? ⟨w.heap.size,2,none⟩=some (.int .i64 (j:Int)):=(ah HB1).cell 2;have q0:w1.cell? ⟨bl,0,none⟩=some (.slice va p.length fJ):=hL.cell (by omega) hL.p0;have HL:=hide hL;have vG:=hide ((ah HM).trans mm (fun _ _ e=>e));clear hr h1 h2 hL mm;go_wp2_with fail
  refine wp_region_held_drew (S:=(fun w'=>w'.cell? ⟨bl,0,none⟩=some (.slice va p.length fJ)∧w'.cell? ⟨w.heap.size,1,none⟩=some (.int .i64 a)∧w'.cell? ⟨w.heap.size,2,none⟩=some (.int .i64 (j:Int)))) (by kernel_rfl) ?_ (fun hHeld=>?_)
  ·exact (And.intro q0 (And.intro q1 q2))
  refine au 66 0 ?_;refine au 67 1 ?_;refine au 68 2 ?_;refine au 69 3 ?_;refine au 70 4 ?_;refine au 71 5 ?_;refine au 72 6 ?_;refine au 74 8 ?_;refine au 75 9 ?_;refine aW 7 (fun K hK=>?_);go_simp;refine (Yt p hs hz (a+1).toNat a _ _ (aP (Keeps.of_below ((Below.refl _ _).drew)) (ah HL).rp) (by omega) ha1 (Nat.le_refl _)).mono ?_;rintro e w2 ⟨v',rfl,hown,hb2⟩;have hb2':Below w1.heap.size w1 w2:=⟨hb2.os,hb2.tape,hb2.output,hb2.size,hb2.block⟩;obtain⟨g,aG,rfl,hc⟩:=aby hown hj;rw [ah HG] at hc;have k2:=Keeps.of_below hb2';have HL2:=hide ((ah HL).below hb2')
  have lW:=hide ((ah vG).trans (fB (S:=fun k=>k=bl) hb2') (fun _ _ e=>e));have hB2:=(ah HB1).below hb2' (ah HB1).lt;have hall:=And.intro (k2 _ _ q0) (And.intro (k2 _ _ q1) (k2 _ _ q2));clear hown hb2 hb2' k2;go_wp2_with fail
  refine hK.out _ _ hall (fun hHeld=>?_);clear hK K;try simp only [Act.put,aK,aO,aN]
  refine au 76 10 ?_;refine aW 11 (fun K hK=>?_);go_simp;refine hK.out _ _ hall (fun hHeld=>?_);clear hK K;try simp only [Act.put,aK,aO,aN]
  refine aW 12 (fun K hK=>?_);go_simp;refine (rO ft p _ m s1 w0 _ bl pre (ah HL2) hft h8).mono ?_;rintro e w3 ⟨h1,h2,m3⟩;have M3:=hide ((ah lW).trans m3 (fun _ _ e=>e))
  cases hr:bM m ft s1 with
  | none =>
   obtain rfl:=h2 hr;have HN':Hid (aY p m ⟨10,a,j⟩ s=none):=by show _=_;rw [ah HT1,hr]
   clear hr h1 h2;go_wp2_with fail
   exact⟨rfl,eu.no (ah HN') (ah M3)⟩
  | some s2 =>
   obtain⟨rfl,hL3⟩:=h1 s2 hr;have HN':Hid (aY p m ⟨10,a,j⟩ s=some s2):=by show _=_;rw [ah HT1,hr]
   have BM:=hide hL3;have vW:=hB2.mods m3 hne;have z0:=hL3.cell (by omega) hL3.p0;clear hr h1 h2 hL3;go_wp2_with fail
   refine hK.out _ _ (And.intro z0 (And.intro (vW.cell 1) (vW.cell 2))) (fun hHeld=>?_);clear hK K;try simp only [Act.put,aK,aO,aN]
   refine wpAnyH_done (by kernel_rfl) ?_ _;go_wp2_with fail
   go_end0;exact eu.ok (ah HN') (ah BM) (ah M3)
theorem afk (a:Int)(j:Nat)(p:List aj)(vc:Value)(m:aC)(s:aH)(w0 w:World)(bl:Nat)(pre:List Value)(h:fQ w0 w bl p vc m pre s)(hs:aU p p.length)(hz:bn p≤4194304)
  (ha0:0≤a) (ha1:a<(p.length:Int)) (hj:j<(fieldsOf p a).length) (hft:bT p.length (jm p a j)) :
  Calls Tryz.prog 156 #[.pointer (some ⟨bl,0,none⟩),.agg #[.int .i64 11,.int .i64 a,.int .i64 (j:Int)]] w fun e w'=>eu p m ⟨11,a,j⟩ s w0 w w' bl vc pre e:=by
 have hpl:p.length≤4194304:=Nat.le_trans (eG p) hz;have hbl:=h.lk.lt;have hjn:(j:Int)<((fieldsOf p a).length:Int):=by omega
 have hj0:(0:Int)≤(j:Int):=by omega
 have HG:=hide (YU hj);have HT0:Hid (aY p m ⟨11,a,j⟩ s=(dw p (jm p a j) s).bind (dw p (a+3))):=rfl;have HW:=hide (h.below (aS w (.cells #[.int .i64 11,.int .i64 a,.int .i64 (j:Int)] 60)));have hBI:=ak.new w #[.int .i64 11,.int .i64 a,.int .i64 (j:Int)] 60;have HM:=hide (fB (S:=fun k=>k=bl) (aS w (.cells #[.int .i64 11,.int .i64 a,.int .i64 (j:Int)] 60)));obtain⟨va,_,_,fJ,rfl,_⟩:=h.pr;generalize hF:jm p a j=ft at *;clear hF;go_enter Tryz.func156,Tryz.ntmps156
 go_wp2_with fail
 generalize w.alloc _=W at *;have dZ:=hide hBI;have hne:w.heap.size≠bl:=by omega
 have q1:W.cell? ⟨w.heap.size,1,none⟩=some (.int .i64 a):=hBI.cell 1;have q2:W.cell? ⟨w.heap.size,2,none⟩=some (.int .i64 (j:Int)):=hBI.cell 2;have q0:W.cell? ⟨bl,0,none⟩=some (.slice va p.length fJ):=(ah HW).cell (by omega) (ah HW).p0;clear hBI h;refine wp_region_held_drew (S:=(fun w'=>w'.cell? ⟨bl,0,none⟩=some (.slice va p.length fJ)∧w'.cell? ⟨w.heap.size,1,none⟩=some (.int .i64 a)∧w'.cell? ⟨w.heap.size,2,none⟩=some (.int .i64 (j:Int)))) (by kernel_rfl) ?_ (fun hHeld=>?_)
 ·exact (And.intro q0 (And.intro q1 q2))
 refine au 81 0 ?_;refine au 82 1 ?_;refine au 83 2 ?_;refine au 84 3 ?_;refine au 85 4 ?_;refine au 86 5 ?_;refine au 87 6 ?_;refine au 89 8 ?_;refine au 90 9 ?_;refine aW 7 (fun K hK=>?_);go_simp;refine (Yt p hs hz (a+1).toNat a _ _ (aP (Keeps.of_below ((Below.refl _ _).drew)) (ah HW).rp) (by omega) ha1 (Nat.le_refl _)).mono ?_;rintro e w2 ⟨v',rfl,hown,hb2⟩;have hb2':Below W.heap.size W w2:=⟨hb2.os,hb2.tape,hb2.output,hb2.size,hb2.block⟩;obtain⟨g,aG,rfl,hc⟩:=aby hown hj;rw [ah HG] at hc;have k2:=Keeps.of_below hb2';have HL2:=hide ((ah HW).below hb2')
 have lW:=hide ((ah HM).trans (fB (S:=fun k=>k=bl) hb2') (fun _ _ e=>e));have hB2:=(ah dZ).below hb2' (ah dZ).lt;have hall:=And.intro (k2 _ _ q0) (And.intro (k2 _ _ q1) (k2 _ _ q2));clear hown hb2 hb2' k2;go_wp2_with fail
 refine hK.out _ _ hall (fun hHeld=>?_);clear hK K;try simp only [Act.put,aK,aO,aN]
 refine au 91 10 ?_;refine aW 11 (fun K hK=>?_);go_simp;refine hK.out _ _ hall (fun hHeld=>?_);clear hK K;try simp only [Act.put,aK,aO,aN]
 refine aW 12 (fun K hK=>?_);go_simp;refine (qA ft p _ m s w0 _ bl pre (ah HL2) hs hpl hft).mono ?_;rintro e w3 ⟨h1,h2,m3⟩;have M3:=hide ((ah lW).trans m3 (fun _ _ e=>e))
 cases hr:dw p ft s with
 | none =>
  obtain rfl:=h2 hr;have HN':Hid (aY p m ⟨11,a,j⟩ s=none):=by show _=_;rw [ah HT0,hr] <;> rfl
  clear hr h1 h2;go_wp2_with fail
  exact⟨rfl,eu.no (ah HN') (ah M3)⟩
 | some s2 =>
  obtain⟨rfl,hL3⟩:=h1 s2 hr;have HT1:Hid (aY p m ⟨11,a,j⟩ s=dw p (a+3) s2):=by show _=_;rw [ah HT0,hr] <;> rfl
  have BM:=hide hL3;have vW:=hB2.mods m3 hne;have z0:=hL3.cell (by omega) hL3.p0;have z1:w3.cell? ⟨w.heap.size,1,none⟩=some (.int .i64 a):=vW.cell 1;clear hr h1 h2 hL3;go_wp2_with fail
  refine hK.out _ _ (And.intro z0 (And.intro z1 (vW.cell 2))) (fun hHeld=>?_);clear hK K;try simp only [Act.put,aK,aO,aN]
  refine wpAnyH_done (by kernel_rfl) ?_ _;go_wp2_with fail
  refine (CO a (by omega) (by omega) _).mono ?_;rintro e w' ⟨rfl,rfl⟩;go_wp2_with fail
  refine (qA (a+3) p _ m s2 w0 _ bl pre (ah BM) hs hpl (PW ha0 ha1)).mono ?_;rintro e w4 ⟨h1,h2,m4⟩;have M4:=hide ((ah M3).trans m4 (fun _ _ e=>e))
  cases hr:dw p (a+3) s2 with
  | none =>
   obtain rfl:=h2 hr;have HN':Hid (aY p m ⟨11,a,j⟩ s=none):=by show _=_;rw [ah HT1,hr]
   clear hr h1 h2;go_wp2_with fail
   exact⟨rfl,eu.no (ah HN') (ah M4)⟩
  | some s3 =>
   obtain⟨rfl,hL4⟩:=h1 s3 hr;have HN':Hid (aY p m ⟨11,a,j⟩ s=some s3):=by show _=_;rw [ah HT1,hr]
   have HL4:=hide hL4;clear hr h1 h2 hL4;go_wp2_with fail
   go_end0;exact eu.ok (ah HN') (ah HL4) (ah M4)
end Go.Proofs.YtiiokkllmchohaaGreat
