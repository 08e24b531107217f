/- Walks of the code's own tests: all classes. -/
import Derived.Laws.DeepNot64
import Derived.Test.YtiiokkllmchohaaGreatT01
import Derived.Test.YtiiokkllmchohaaGreatT03
import Derived.Test.YtiiokkllmchohaaGreatT08
import Derived.Test.YtiiokkllmchohaaGreatT10
import Derived.Test.YtiiokkllmchohaaGreatT13
namespace Go.Proofs.YtiiokkllmchohaaGreat
open Go.RowKit
attribute [local go_sem ↓] Go.wp_at_zero Go.wp_at_succ
def bodyAt (p : List LClass) (c : Nat) : Bool := match p[c]? with
 | none => true
 | some x => (decide ((fieldsOf p c).length ≤ 8) && x.fields.all (declB p.length)) && (decide (x.meths.length ≤ 6) && (List.range x.meths.length).all (headAt p x))
theorem bodyAt_some {p : List LClass} {c : Nat} {x : LClass} (h : p[c]? = some x) : bodyAt p c = ((decide ((fieldsOf p c).length ≤ 8) && x.fields.all (declB p.length)) && (decide (x.meths.length ≤ 6) && (List.range x.meths.length).all (headAt p x))) := by unfold bodyAt; rw [h]
def classesB (p : List LClass) : Bool := !(decide (p.length < 1) || decide (6 < p.length)) && ((List.range p.length).all (supAt p) && (List.range p.length).all (bodyAt p))
theorem classB_and (p : List LClass) (c : Nat) : classB p c = (supAt p c && bodyAt p c) := by
 cases h : p[c]? with
 | none => unfold classB supAt bodyAt; rw [h]; rfl
 | some x =>
  have e : restB p c x = bodyAt p c := by
   rw [bodyAt_some h]
   show (x.fields.all (declB p.length) && decide ((fieldsOf p c).length ≤ 8) && decide (x.meths.length ≤ 6) && (List.range x.meths.length).all (headAt p x)) = _
   cases x.fields.all (declB p.length) <;> cases decide ((fieldsOf p c).length ≤ 8) <;> cases decide (x.meths.length ≤ 6) <;> rfl
  show (match p[c]? with | none => true | some x => supB c x && restB p c x) = _
  rw [h, supAt_some h, ← e]
theorem all_and {α : Type} (l : List α) (f g : α → Bool) : l.all (fun a => f a && g a) = (l.all f && l.all g) := by
 induction l with
 | nil => rfl
 | cons a r ih => rw [List.all_cons, List.all_cons, List.all_cons, ih]; cases f a <;> cases g a <;> cases r.all f <;> rfl
theorem formI_classes (p : List LClass) : formI p = if classesB p = true then (if p.all (fun x => x.meths.all (codeB p)) = true then 0 else 3) else 2 := by
 have e : (List.range p.length).all (classB p) = ((List.range p.length).all (supAt p) && (List.range p.length).all (bodyAt p)) := by
  rw [← all_and]; congr 1; funext c; exact classB_and p c
 unfold formI classesB
 rw [e]
 by_cases h : p.length < 1 ∨ 6 < p.length
 ·rw [if_pos h]
  have : (decide (p.length < 1) || decide (6 < p.length)) = true := by simpa using h
  rw [this]; rfl
 ·rw [if_neg h]
  have : (decide (p.length < 1) || decide (6 < p.length)) = false := by simpa using h
  rw [this]; rfl
theorem supOk_all {p : List LClass} (h : (List.range p.length).all (supAt p) = true) : SupOk p p.length := by
 intro c x hc hx
 rw [List.all_eq_true] at h
 have := h c (List.mem_range.2 hc)
 rwa [supAt_some hx] at this
theorem code_supershold_eq {p : List LClass} {q : Bool} (h : (List.range p.length).all (supAt p) = q) (vc : Value) (w : World) (hp : RProg w vc p) (hz : szProg p ≤ 4194304) :
  Calls Tryz.prog 128 #[.agg #[vc]] w fun e w' => e = .returned (.bool q) ∧ Below w.heap.size w w' := h ▸ code_supershold p vc w hp hz
theorem code_fieldshold_eq {p : List LClass} {c : Nat} {x : LClass} {q : Bool} (h : (decide ((fieldsOf p c).length ≤ 8) && x.fields.all (declB p.length)) = q) (vc : Value) (w : World) (hp : RProg w vc p) (hs : SupOk p p.length) (hX : p[c]? = some x) (hwf : wfProg p) (hz : szProg p ≤ 4194304) :
  Calls Tryz.prog 129 #[.agg #[vc], .int .i64 c] w fun e w' => e = .returned (.bool q) ∧ Below w.heap.size w w' := h ▸ code_fieldshold p vc c x w hp hs hX hwf hz
theorem code_methodshold_eq {p : List LClass} {x : LClass} {q : Bool} (h : (decide (x.meths.length ≤ 6) && (List.range x.meths.length).all (headAt p x)) = q) (vc : Value) (c : Nat) (w : World) (hp : RProg w vc p) (hs : SupOk p p.length) (hX : p[c]? = some x) (hwf : wfProg p) (hz : szProg p ≤ 4194304) :
  Calls Tryz.prog 130 #[.agg #[vc], .int .i64 c] w fun e w' => e = .returned (.bool q) ∧ Below w.heap.size w w' := h ▸ code_methodshold p vc c x w hp hs hX hwf hz

set_option maxHeartbeats 2000000 in
set_option maxRecDepth 100000 in
theorem code_classeshold (p : List LClass) (vc : Value) (w : World) (hp : RProg w vc p) (hwf : wfProg p) (hz : szProg p ≤ 4194304) :
  Calls Tryz.prog 68 #[.agg #[vc]] w fun e w' => e = .returned (.bool (classesB p)) ∧ Below w.heap.size w w' := by
 have hpl : p.length ≤ 4194304 := Nat.le_trans (szProg_len p) hz
 have HP := hide hp
 obtain ⟨pa, pb, poff, pcap, rfl, _⟩ := hp
 by_cases g1 : p.length < 1
 ·have g1' : (p.length : Int) < 1 := by omega
  have HF := hide (show classesB p = false by unfold classesB; rw [decide_eq_true g1]; rfl)
  go_enter Tryz.func68, Tryz.ntmps68
  go_wp2_with fail
  go_ret
  exact ⟨ret_bool (unhide HF).symm, box_below _ _⟩
 by_cases g2 : 6 < p.length
 ·have g1' : ¬ (p.length : Int) < 1 := by omega
  have g2' : (6 : Int) < p.length := by omega
  have HF := hide (show classesB p = false by unfold classesB; rw [decide_eq_true g2, Bool.or_true]; rfl)
  go_enter Tryz.func68, Tryz.ntmps68
  go_wp2_with fail
  go_ret
  exact ⟨ret_bool (unhide HF).symm, box_below _ _⟩
 have g1' : ¬ (p.length : Int) < 1 := by omega
 have g2' : ¬ (6 : Int) < p.length := by omega
 have HC := hide (show classesB p = ((List.range p.length).all (supAt p) && (List.range p.length).all (bodyAt p)) by unfold classesB; rw [decide_eq_false g1, decide_eq_false g2]; rfl)
 go_enter Tryz.func68, Tryz.ntmps68
 go_wp2_with fail
 generalize hW : w.alloc _ = W
 have hbel : Below w.heap.size w W := by rw [← hW]; exact box_below _ _
 have hbox : W.cell? ⟨w.heap.size, 0, none⟩ = some (.slice pa p.length pcap) := by rw [← hW]; exact box_cell _ _ _ 0
 clear hW
 cases hsup : (List.range p.length).all (supAt p)
 ·refine (code_supershold_eq hsup _ _ (prog_keep (Keeps.of_below hbel) (unhide HP)) hz).mono ?_
  rintro e w1 ⟨rfl, hb1⟩
  go_wp2_with fail
  go_ret
  exact ⟨ret_bool (by rw [unhide HC, hsup]; rfl), hbel.trans (hb1.mono hbel.size)⟩
 refine (code_supershold_eq hsup _ _ (prog_keep (Keeps.of_below hbel) (unhide HP)) hz).mono ?_
 rintro e w1 ⟨rfl, hb1⟩
 have hS := supOk_all hsup
 have HSU := hide hsup
 have b1 := Keeps.of_below hb1 _ _ hbox
 have hf1 := hbel.trans (hb1.mono hbel.size)
 clear hsup hb1 hbel hbox
 go_wp2_with fail
 go_loopw [20] (fun s wr => ∃ c : Nat, c ≤ p.length ∧ s = .int .i64 c ∧ (List.range c).all (bodyAt p) = true ∧ Below w1.heap.size w1 wr) (fun s _ => p.length - (intOf s).toNat)
 case atStart => exact ⟨0, Nat.zero_le _, rfl, rfl, Below.refl _ _⟩
 case round =>
  obtain ⟨c, hc, rfl, hall, hbr⟩ := hrel
  have HA := hide hall
  clear hall
  have hfin : Below w.heap.size w wr := hf1.trans (hbr.mono hf1.size)
  by_cases hlt : c < p.length
  ·have HX := hide (List.getElem?_eq_getElem hlt)
   generalize p[c] = x at *
   have e0 := Keeps.of_below hbr _ _ b1
   have HPR := hide (prog_keep (Keeps.of_below hfin) (unhide HP))
   go_wp2_with fail
   cases hq1 : (decide ((fieldsOf p c).length ≤ 8) && x.fields.all (declB p.length))
   ·refine (code_fieldshold_eq hq1 _ _ (unhide HPR) hS (unhide HX) hwf hz).mono ?_
    rintro e w2 ⟨rfl, hb2⟩
    go_wp2_with fail
    go_ret
    exact ⟨ret_bool (by rw [unhide HC, range_all_false (f := bodyAt p) hlt (by rw [bodyAt_some (unhide HX), hq1]; rfl), Bool.and_false]), hfin.trans (hb2.mono hfin.size)⟩
   refine (code_fieldshold_eq hq1 _ _ (unhide HPR) hS (unhide HX) hwf hz).mono ?_
   rintro e w2 ⟨rfl, hb2⟩
   have e1 := Keeps.of_below hb2 _ _ e0
   have hb12 := hbr.trans (hb2.mono hbr.size)
   have hf2 := hfin.trans (hb2.mono hfin.size)
   have HPR2 := hide (prog_keep (Keeps.of_below hf2) (unhide HP))
   clear e0 hb2 hbr hfin
   go_wp2_with fail
   cases hq2 : (decide (x.meths.length ≤ 6) && (List.range x.meths.length).all (headAt p x))
   ·refine (code_methodshold_eq hq2 _ _ _ (unhide HPR2) hS (unhide HX) hwf hz).mono ?_
    rintro e w3 ⟨rfl, hb3⟩
    go_wp2_with fail
    go_ret
    exact ⟨ret_bool (by rw [unhide HC, range_all_false (f := bodyAt p) hlt (by rw [bodyAt_some (unhide HX), hq2, Bool.and_false]), Bool.and_false]), hf2.trans (hb3.mono hf2.size)⟩
   ·refine (code_methodshold_eq hq2 _ _ _ (unhide HPR2) hS (unhide HX) hwf hz).mono ?_
    rintro e w3 ⟨rfl, hb3⟩
    go_wp2_with fail
    exact ⟨⟨c + 1, by omega, by go_num, by rw [range_all_snoc, unhide HA, bodyAt_some (unhide HX), hq1, hq2]; rfl, hb12.trans (hb3.mono hb12.size)⟩, by simp [intOf]; omega⟩
  ·go_wp2
   go_ret
   have : c = p.length := by omega
   subst this
   exact ⟨ret_bool (by rw [unhide HC, unhide HSU, unhide HA]; rfl), hfin⟩

set_option maxHeartbeats 2000000 in
set_option maxRecDepth 100000 in
theorem code_hasmethod (p : List LClass) (vc : Value) (c : Nat) (slot : Int) (w : World) (hp : RProg w vc p) (hs : SupOk p p.length) (hc : c < p.length) (hz : szProg p ≤ 4194304) :
  Calls Tryz.prog 221 #[.agg #[vc], .int .i64 c, .int .i64 slot] w fun e w' => e = .returned (.bool (methOf p c slot).isSome) ∧ Below w.heap.size w w' := by
 have HP := hide hp
 obtain ⟨pa, pb, poff, pcap, rfl, _⟩ := hp
 go_enter Tryz.func221, Tryz.ntmps221
 go_wp2_with fail
 generalize hW : w.alloc _ = W
 have hbel : Below w.heap.size w W := by rw [← hW]; exact box_below _ _
 clear hW
 refine (code_findmethod p _ p.length _ _ _ (prog_keep (Keeps.of_below hbel) (unhide HP)) hs (Nat.le_refl _) (by omega) (by omega) hz).mono ?_
 rintro e w1 ⟨o, oa, oc, of, oac, occ, ofc, rfl, hfm, hb1⟩
 go_wp2_with fail
 go_ret
 have h := hbel.trans (hb1.mono hbel.size)
 exact ⟨rfl, h.alloc h.size _⟩
theorem code_hasclass_eq {p : List LClass} {c : Int} {q : Bool} (h : placeB c p.length = q) (vc : Value) (w : World) (hp : RProg w vc p) (hl : p.length ≤ 4194304) :
  Calls Tryz.prog 108 #[.agg #[vc], .int .i64 c] w fun e w' => e = .returned (.bool q) ∧ Below w.heap.size w w' := h ▸ code_hasclass p vc c w hp hl

set_option maxHeartbeats 4000000 in
set_option maxRecDepth 100000 in
theorem code_ins_plain (p : List LClass) (vc : Value) (m : LMeth) (aa ca fa : Option Addr) (al acap ccap fl fcap : Nat) (op a b : Int) (w : World) (hp : RProg w vc p) (hz : szProg p ≤ 4194304) (_hcl : m.code.length ≤ 4194304)
  (h10 : op ≠ 10) (h11 : op ≠ 11) (h12 : op ≠ 12) :
  Calls Tryz.prog 188 (insArgs vc m aa ca fa al acap ccap fl fcap op a b) w fun e w' => e = .returned (.bool (insB p m ⟨op, a, b⟩)) ∧ Below w.heap.size w w' := by
 have hpl : p.length ≤ 4194304 := Nat.le_trans (szProg_len p) hz
 have HP := hide hp
 obtain ⟨pa, pb, poff, pcap, rfl, hpcap, hpa, hpr⟩ := sl_open hp
 clear hpr hpa hp
 unfold insArgs
 by_cases h0 : op = 0
 ·subst h0
  go_enter Tryz.func188, Tryz.ntmps188
  go_wp2
  go_ret
  exact ⟨ret_bool (by simp [insB]), box3_below _ _ _ _⟩
 by_cases h1 : op = 1 ∨ op = 2
 ·have HD := hide (show insB p m ⟨op, a, b⟩ = (placeB a m.locals && b == 0) by unfold insB; rcases h1 with rfl | rfl <;> simp)
  cases hq : placeB a m.locals <;> rcases h1 with rfl | rfl <;>
  ·go_enter Tryz.func188, Tryz.ntmps188
   go_wp2_with (go_at_call 182; refine (code_within_eq hq _).mono ?_; rintro e w' ⟨rfl, rfl⟩)
   go_ret
   exact ⟨ret_bool (by rw [unhide HD, hq]; rfl), box3_below _ _ _ _⟩
 by_cases h7 : op = 7 ∨ op = 8 ∨ op = 18
 ·have HD := hide (show insB p m ⟨op, a, b⟩ = (placeB a m.code.length && b == 0) by unfold insB; rcases h7 with rfl | rfl | rfl <;> simp)
  cases hq : placeB a m.code.length <;> rcases h7 with rfl | rfl | rfl <;>
  ·go_enter Tryz.func188, Tryz.ntmps188
   go_wp2_with (go_at_call 182; refine (code_within_eq hq _).mono ?_; rintro e w' ⟨rfl, rfl⟩)
   go_ret
   exact ⟨ret_bool (by rw [unhide HD, hq]; rfl), box3_below _ _ _ _⟩
 by_cases h9 : op = 9 ∨ op = 17
 ·have HD := hide (show insB p m ⟨op, a, b⟩ = (placeB a p.length && b == 0) by unfold insB; rcases h9 with rfl | rfl <;> simp)
  cases hq : placeB a p.length <;> rcases h9 with rfl | rfl <;>
  ·go_enter Tryz.func188, Tryz.ntmps188
   go_wp2_with fail
   generalize hW : ((w.alloc _).alloc _).alloc _ = W
   have hbel : Below w.heap.size w W := by rw [← hW]; exact box3_below _ _ _ _
   have i2 : W.cell? ⟨w.heap.size + 1 + 1, 2, none⟩ = some (.int .i64 b) := by rw [← hW]; exact box3_3 _ _ _ _ _ 2
   clear hW
   refine (code_hasclass_eq hq _ _ (prog_keep (Keeps.of_below hbel) (unhide HP)) hpl).mono ?_
   rintro e w1 ⟨rfl, hb1⟩
   have i3 := Keeps.of_below hb1 _ _ i2
   go_wp2_with fail
   go_ret
   exact ⟨ret_bool (by rw [unhide HD, hq]; rfl), hbel.trans (hb1.mono hbel.size)⟩
 have hdef : insB p m ⟨op, a, b⟩ = (placeB op 21 && a == 0 && b == 0) := by
  unfold insB
  have e1 : ¬ (op = 1 ∨ op = 2) := h1
  have e2 : ¬ (op = 7 ∨ op = 8 ∨ op = 18) := h7
  have e3 : ¬ (op = 9 ∨ op = 17) := h9
  have e4 : ¬ (op = 10 ∨ op = 11) := by omega
  simp only [h0, e1, e2, e3, e4, h12, if_false]
 have HD := hide hdef
 clear hdef
 have n1 : op ≠ 1 := by omega
 have n2 : op ≠ 2 := by omega
 have n7 : op ≠ 7 := by omega
 have n8 : op ≠ 8 := by omega
 have n18 : op ≠ 18 := by omega
 have n9 : op ≠ 9 := by omega
 have n17 : op ≠ 17 := by omega
 clear h1 h7 h9
 by_cases hin : op = 3 ∨ op = 4 ∨ op = 5 ∨ op = 6 ∨ op = 13 ∨ op = 14 ∨ op = 15 ∨ op = 16 ∨ op = 19 ∨ op = 20
 ·have HD2 := hide (show insB p m ⟨op, a, b⟩ = (a == 0 && b == 0) by rw [unhide HD, placeB_iff.2 (by omega : 0 ≤ op ∧ op < 21), Bool.true_and])
  clear HD
  cases ha0 : (a == 0) <;> rcases hin with rfl | rfl | rfl | rfl | rfl | rfl | rfl | rfl | rfl | rfl <;>
  ·go_enter Tryz.func188, Tryz.ntmps188
   go_wp2_with fail
   go_ret
   exact ⟨ret_bool (by rw [unhide HD2, ha0]; rfl), box3_below _ _ _ _⟩
 ·have HD2 := hide (show insB p m ⟨op, a, b⟩ = false by rw [unhide HD, show placeB op 21 = false from Bool.eq_false_iff.2 (fun e => by have := placeB_iff.1 e; omega)]; rfl)
  clear HD
  have k3 : (op == 3) = false := by simp; omega
  have k4 : (op == 4) = false := by simp; omega
  have k5 : (op == 5) = false := by simp; omega
  have k6 : (op == 6) = false := by simp; omega
  have k13 : (op == 13) = false := by simp; omega
  have k14 : (op == 14) = false := by simp; omega
  have k15 : (op == 15) = false := by simp; omega
  have k16 : (op == 16) = false := by simp; omega
  have k19 : (op == 19) = false := by simp; omega
  have k20 : (op == 20) = false := by simp; omega
  have k0 : (op == 0) = false := by simp; omega
  have k1 : (op == 1) = false := by simp; omega
  have k2 : (op == 2) = false := by simp; omega
  have k7 : (op == 7) = false := by simp; omega
  have k8 : (op == 8) = false := by simp; omega
  have k9 : (op == 9) = false := by simp; omega
  have k10 : (op == 10) = false := by simp; omega
  have k11 : (op == 11) = false := by simp; omega
  have k12 : (op == 12) = false := by simp; omega
  have k17 : (op == 17) = false := by simp; omega
  have k18 : (op == 18) = false := by simp; omega
  clear hin n1 n2 n7 n8 n9 n17 n18 h0 h10 h11 h12
  go_enter Tryz.func188, Tryz.ntmps188
  go_wp2_with fail
  go_ret
  exact ⟨ret_bool (unhide HD2).symm, box3_below _ _ _ _⟩
theorem code_hasmethod_eq {p : List LClass} {c : Nat} {slot : Int} {q : Bool} (h : (methOf p c slot).isSome = q) (vc : Value) (w : World) (hp : RProg w vc p) (hs : SupOk p p.length) (hc : c < p.length) (hz : szProg p ≤ 4194304) :
  Calls Tryz.prog 221 #[.agg #[vc], .int .i64 c, .int .i64 slot] w fun e w' => e = .returned (.bool q) ∧ Below w.heap.size w w' := h ▸ code_hasmethod p vc c slot w hp hs hc hz

set_option maxHeartbeats 4000000 in
set_option maxRecDepth 100000 in
theorem code_ins_field (p : List LClass) (vc : Value) (m : LMeth) (aa ca fa : Option Addr) (al acap ccap fl fcap : Nat) (op a b : Int) (w : World) (hp : RProg w vc p) (hs : SupOk p p.length) (hz : szProg p ≤ 4194304)
  (hop : op = 10 ∨ op = 11) :
  Calls Tryz.prog 188 (insArgs vc m aa ca fa al acap ccap fl fcap op a b) w fun e w' => e = .returned (.bool (insB p m ⟨op, a, b⟩)) ∧ Below w.heap.size w w' := by
 have hpl : p.length ≤ 4194304 := Nat.le_trans (szProg_len p) hz
 have hdef : insB p m ⟨op, a, b⟩ = (placeB a p.length && placeB b (fieldsOf p a).length) := by
  unfold insB
  rcases hop with rfl | rfl <;> simp
 have HD := hide hdef
 clear hdef
 have HP := hide hp
 obtain ⟨pa, pb, poff, pcap, rfl, hpcap, hpa, hpr⟩ := sl_open hp
 clear hpr hpa hp
 unfold insArgs
 cases hpb : placeB a p.length
 ·rcases hop with rfl | rfl
  all_goals
   go_enter Tryz.func188, Tryz.ntmps188
   go_wp2_with fail
   generalize hW : ((w.alloc _).alloc _).alloc _ = W
   have hbel : Below w.heap.size w W := by rw [← hW]; exact box3_below _ _ _ _
   have i0 : W.cell? ⟨w.heap.size, 0, none⟩ = some (.slice pa p.length pcap) := by rw [← hW]; exact box3_1 _ _ _ _ _ 0
   have i1 : W.cell? ⟨w.heap.size + 1 + 1, 1, none⟩ = some (.int .i64 a) := by rw [← hW]; exact box3_3 _ _ _ _ _ 1
   have i2 : W.cell? ⟨w.heap.size + 1 + 1, 2, none⟩ = some (.int .i64 b) := by rw [← hW]; exact box3_3 _ _ _ _ _ 2
   clear hW
   have HPW := hide (prog_keep (Keeps.of_below hbel) (unhide HP))
   have HS3 := hide (And.intro i0 (And.intro i1 i2))
   refine wp_region_noPanic ?_
   refine wp_region_held_drew (S := (fun w' => w'.cell? ⟨w.heap.size, 0, none⟩ = some (.slice pa p.length pcap) ∧ w'.cell? ⟨w.heap.size + 1 + 1, 1, none⟩ = some (.int .i64 a) ∧ w'.cell? ⟨w.heap.size + 1 + 1, 2, none⟩ = some (.int .i64 b))) (by kernel_rfl) ?_ (fun hHeld => ?_)
   ·exact HS3.out
   refine take_d (some 57) (i := 0) (v := .agg #[.slice pa p.length pcap]) rfl rfl (by kernel_rfl) (by kernel_rfl) (by kernel_rfl) (fun _ _ _ h => h) (Or.inl ⟨by rfl, fun w' hSw => by (try dsimp only at hSw); go_simp⟩) (by assumption) ?_
   try simp only [Act.put, List.setIfInBounds_toArray, List.set_cons_zero, List.set_cons_succ]
   refine take_d (some 58) (i := 1) (v := .pointer (some ⟨w.heap.size + 1 + 1, 1, none⟩)) rfl rfl (by kernel_rfl) (by kernel_rfl) (by kernel_rfl) (fun _ _ _ h => h) (Or.inl ⟨by rfl, fun w' hSw => by (try dsimp only at hSw); go_simp⟩) (by assumption) ?_
   try simp only [Act.put, List.setIfInBounds_toArray, List.set_cons_zero, List.set_cons_succ]
   refine take_d (some 59) (i := 2) (v := .int .i64 a) rfl rfl (by kernel_rfl) (by kernel_rfl) (by kernel_rfl) (fun _ _ _ h => h) (Or.inl ⟨by rfl, fun w' hSw => by (try dsimp only at hSw); go_simp⟩) (by assumption) ?_
   try simp only [Act.put, List.setIfInBounds_toArray, List.set_cons_zero, List.set_cons_succ]
   refine wpAnyH_ready (rs := [3]) (by kernel_rfl) (by simp) ?_
   refine AllReadyH.cons rfl (fun K hK => ?_) AllReadyH.nil
   go_simp
   refine (code_hasclass_eq hpb _ _ (prog_keep (Keeps.of_below ((Below.refl _ _).drew)) (unhide HPW)) hpl).mono ?_
   rintro e w1 ⟨rfl, hb1⟩
   have HB1 := hide (below_call hb1)
   clear hb1
   go_wp2_with fail
   refine hK.out _ _ (tri_keep HS3.out HB1.out) (fun hHeld2 => ?_)
   clear hK K hHeld
   try simp only [Act.put, List.setIfInBounds_toArray, List.set_cons_zero, List.set_cons_succ]
   refine take_d (some 61) (i := 4) (v := .bool false) rfl rfl (by kernel_rfl) (by kernel_rfl) (by kernel_rfl) (fun _ _ _ h => h) (Or.inl ⟨by rfl, fun w' hSw => by (try dsimp only at hSw); go_simp⟩) (by assumption) ?_
   try simp only [Act.put, List.setIfInBounds_toArray, List.set_cons_zero, List.set_cons_succ]
   refine take_d (some 62) (i := 5) (v := undef) rfl rfl (by kernel_rfl) (by kernel_rfl) (by kernel_rfl) (fun _ _ _ h => h) (Or.inr ⟨by rfl, rfl⟩) (by assumption) ?_
   try simp only [Act.put, List.setIfInBounds_toArray, List.set_cons_zero, List.set_cons_succ]
   refine take_d (some 63) (i := 6) (v := undef) rfl rfl (by kernel_rfl) (by kernel_rfl) (by kernel_rfl) (fun _ _ _ h => h) (Or.inr ⟨by rfl, rfl⟩) (by assumption) ?_
   try simp only [Act.put, List.setIfInBounds_toArray, List.set_cons_zero, List.set_cons_succ]
   refine take_d (some 64) (i := 7) (v := undef) rfl rfl (by kernel_rfl) (by kernel_rfl) (by kernel_rfl) (fun _ _ _ h => h) (Or.inr ⟨by rfl, rfl⟩) (by assumption) ?_
   try simp only [Act.put, List.setIfInBounds_toArray, List.set_cons_zero, List.set_cons_succ]
   refine take_d (some 65) (i := 8) (v := undef) rfl rfl (by kernel_rfl) (by kernel_rfl) (by kernel_rfl) (fun _ _ _ h => h) (Or.inr ⟨by rfl, rfl⟩) (by assumption) ?_
   try simp only [Act.put, List.setIfInBounds_toArray, List.set_cons_zero, List.set_cons_succ]
   refine take_d (some 66) (i := 9) (v := undef) rfl rfl (by kernel_rfl) (by kernel_rfl) (by kernel_rfl) (fun _ _ _ h => h) (Or.inr ⟨by rfl, rfl⟩) (by assumption) ?_
   try simp only [Act.put, List.setIfInBounds_toArray, List.set_cons_zero, List.set_cons_succ]
   refine take_d (some 67) (i := 10) (v := undef) rfl rfl (by kernel_rfl) (by kernel_rfl) (by kernel_rfl) (fun _ _ _ h => h) (Or.inr ⟨by rfl, rfl⟩) (by assumption) ?_
   try simp only [Act.put, List.setIfInBounds_toArray, List.set_cons_zero, List.set_cons_succ]
   refine take_d (some 68) (i := 11) (v := undef) rfl rfl (by kernel_rfl) (by kernel_rfl) (by kernel_rfl) (fun _ _ _ h => h) (Or.inr ⟨by rfl, rfl⟩) (by assumption) ?_
   try simp only [Act.put, List.setIfInBounds_toArray, List.set_cons_zero, List.set_cons_succ]
   refine take_d (some 69) (i := 12) (v := .bool false) rfl rfl (by kernel_rfl) (by kernel_rfl) (by kernel_rfl) (fun _ _ _ h => h) (Or.inl ⟨by rfl, fun w' hSw => by (try dsimp only at hSw); go_simp⟩) (by assumption) ?_
   try simp only [Act.put, List.setIfInBounds_toArray, List.set_cons_zero, List.set_cons_succ]
   refine take_d (some 6) (i := 13) (v := .bool false) rfl rfl (by kernel_rfl) (by kernel_rfl) (by kernel_rfl) (fun _ _ _ h => h) (Or.inl ⟨by rfl, fun w' hSw => by (try dsimp only at hSw); go_simp⟩) (by assumption) ?_
   try simp only [Act.put, List.setIfInBounds_toArray, List.set_cons_zero, List.set_cons_succ]
   refine wpAnyH_done (by kernel_rfl) ?_ _
   refine NoPanic.normal ?_
   go_wp2_with fail
   go_ret
   exact ⟨ret_bool (by rw [unhide HD, hpb]; rfl), hbel.trans (HB1.out.mono hbel.size)⟩
 ·obtain ⟨k, rfl, hk⟩ := placeB_nat hpb
  cases hpb2 : placeB b (fieldsOf p k).length <;> rcases hop with rfl | rfl
  all_goals
   go_enter Tryz.func188, Tryz.ntmps188
   go_wp2_with fail
   generalize hW : ((w.alloc _).alloc _).alloc _ = W
   have hbel : Below w.heap.size w W := by rw [← hW]; exact box3_below _ _ _ _
   have i0 : W.cell? ⟨w.heap.size, 0, none⟩ = some (.slice pa p.length pcap) := by rw [← hW]; exact box3_1 _ _ _ _ _ 0
   have i1 : W.cell? ⟨w.heap.size + 1 + 1, 1, none⟩ = some (.int .i64 (k : Int)) := by rw [← hW]; exact box3_3 _ _ _ _ _ 1
   have i2 : W.cell? ⟨w.heap.size + 1 + 1, 2, none⟩ = some (.int .i64 b) := by rw [← hW]; exact box3_3 _ _ _ _ _ 2
   clear hW
   have HPW := hide (prog_keep (Keeps.of_below hbel) (unhide HP))
   have HS3 := hide (And.intro i0 (And.intro i1 i2))
   go_region_held3 (fun w' => w'.cell? ⟨w.heap.size, 0, none⟩ = some (.slice pa p.length pcap) ∧ w'.cell? ⟨w.heap.size + 1 + 1, 1, none⟩ = some (.int .i64 (k : Int)) ∧ w'.cell? ⟨w.heap.size + 1 + 1, 2, none⟩ = some (.int .i64 b))
    (first
      | with_reducible exact tri_keep HS3.out HB2.out
      | with_reducible exact tri_keep HS3.out HB1.out
      | go_keep)
    (first | ((go_at_call 108; refine (code_hasclass_eq hpb _ _ (prog_keep (Keeps.of_below ((Below.refl _ _).drew)) (unhide HPW)) hpl).mono ?_); rintro e w1 ⟨rfl, hb1⟩; have HB1 := hide (below_call hb1); clear hb1)
           | ((go_at_call 183; refine (code_countfields p _ p.length _ _ (prog_keep (Keeps.of_below HB1.out) (unhide HPW)) hs (Nat.le_refl _) (by omega) (by omega) hz).mono ?_); rintro e w2 ⟨rfl, hb2⟩; have HB2 := hide (HB1.out.trans (hb2.mono HB1.out.size)); clear hb2)
           | ((go_at_call 182; refine (code_within_eq hpb2 _).mono ?_); rintro e w3 ⟨rfl, rfl⟩))
   go_wp2_with fail
   go_ret
   exact ⟨ret_bool (by rw [unhide HD, hpb, hpb2]; rfl), hbel.trans (HB2.out.mono hbel.size)⟩

set_option maxHeartbeats 4000000 in
set_option maxRecDepth 100000 in
theorem code_ins_call (p : List LClass) (vc : Value) (m : LMeth) (aa ca fa : Option Addr) (al acap ccap fl fcap : Nat) (a b : Int) (w : World) (hp : RProg w vc p) (hs : SupOk p p.length) (hz : szProg p ≤ 4194304) :
  Calls Tryz.prog 188 (insArgs vc m aa ca fa al acap ccap fl fcap 12 a b) w fun e w' => e = .returned (.bool (insB p m ⟨12, a, b⟩)) ∧ Below w.heap.size w w' := by
 have hpl : p.length ≤ 4194304 := Nat.le_trans (szProg_len p) hz
 have hdef : insB p m ⟨12, a, b⟩ = (placeB a p.length && (methOf p a b).isSome) := by unfold insB; simp
 have HD := hide hdef
 clear hdef
 have HP := hide hp
 obtain ⟨pa, pb, poff, pcap, rfl, hpcap, hpa, hpr⟩ := sl_open hp
 clear hpr hpa hp
 unfold insArgs
 go_enter Tryz.func188, Tryz.ntmps188
 go_wp2_with fail
 generalize hW : ((w.alloc _).alloc _).alloc _ = W
 have hbel : Below w.heap.size w W := by rw [← hW]; exact box3_below _ _ _ _
 have i0 : W.cell? ⟨w.heap.size, 0, none⟩ = some (.slice pa p.length pcap) := by rw [← hW]; exact box3_1 _ _ _ _ _ 0
 have i1 : W.cell? ⟨w.heap.size + 1 + 1, 1, none⟩ = some (.int .i64 a) := by rw [← hW]; exact box3_3 _ _ _ _ _ 1
 have i2 : W.cell? ⟨w.heap.size + 1 + 1, 2, none⟩ = some (.int .i64 b) := by rw [← hW]; exact box3_3 _ _ _ _ _ 2
 clear hW
 cases hpb : placeB a p.length
 ·refine (code_hasclass_eq hpb _ _ (prog_keep (Keeps.of_below hbel) (unhide HP)) hpl).mono ?_
  rintro e w1 ⟨rfl, hb1⟩
  go_wp2_with fail
  go_ret
  exact ⟨ret_bool (by rw [unhide HD, hpb]; rfl), hbel.trans (hb1.mono hbel.size)⟩
 ·refine (code_hasclass_eq hpb _ _ (prog_keep (Keeps.of_below hbel) (unhide HP)) hpl).mono ?_
  rintro e w1 ⟨rfl, hb1⟩
  obtain ⟨k, rfl, hk⟩ := placeB_nat hpb
  have hk1 := Keeps.of_below hb1
  replace i0 := hk1 _ _ i0
  replace i1 := hk1 _ _ i1
  replace i2 := hk1 _ _ i2
  have hf1 := hbel.trans (hb1.mono hbel.size)
  clear hk1 hb1 hbel
  go_wp2_with fail
  refine (code_hasmethod_eq rfl _ _ (prog_keep (Keeps.of_below hf1) (unhide HP)) hs (by omega) hz).mono ?_
  rintro e w2 ⟨rfl, hb2⟩
  go_wp2_with fail
  go_ret
  exact ⟨ret_bool (by rw [unhide HD, hpb]; rfl), hf1.trans (hb2.mono hf1.size)⟩

theorem code_ins (p : List LClass) (vc : Value) (m : LMeth) (aa ca fa : Option Addr) (al acap ccap fl fcap : Nat) (i : LIns) (w : World) (hp : RProg w vc p) (hs : SupOk p p.length) (hz : szProg p ≤ 4194304) (hcl : m.code.length ≤ 4194304) :
  Calls Tryz.prog 188 (insArgs vc m aa ca fa al acap ccap fl fcap i.op i.a i.b) w fun e w' => e = .returned (.bool (insB p m i)) ∧ Below w.heap.size w w' := by
 by_cases h1 : i.op = 10 ∨ i.op = 11
 ·exact code_ins_field p vc m aa ca fa al acap ccap fl fcap i.op i.a i.b w hp hs hz h1
 by_cases h2 : i.op = 12
 ·have := code_ins_call p vc m aa ca fa al acap ccap fl fcap i.a i.b w hp hs hz
  rw [← h2] at this
  exact this
 ·exact code_ins_plain p vc m aa ca fa al acap ccap fl fcap i.op i.a i.b w hp hz hcl (fun e => h1 (.inl e)) (fun e => h1 (.inr e)) h2
theorem code_maystand_eq {p : List LClass} {l : List Int} {q : Bool} (h : l.all (framedB p.length) = q) (vc v : Value) (w : World) (hp : RProg w vc p) (hpl : p.length ≤ 4194304) (hl : SlAt 1 (RInt w) v l) (hw : ∀ x ∈ l, I64 x) (hs : l.length ≤ 4194304) :
  Calls Tryz.prog 222 #[.agg #[vc], v] w fun e w' => e = .returned (.bool q) ∧ Below w.heap.size w w' := h ▸ code_maystand p vc l v w hp hpl hl hw hs

def frame0B (n : Nat) (m : LMeth) (f : LFrame) : Bool :=
 decide ((f.locals.length : Int) = m.locals) && decide ((f.stack.length : Int) ≤ m.stack) && f.locals.all (framedB n) && f.stack.all (framedB n)

set_option maxHeartbeats 4000000 in
set_option maxRecDepth 100000 in
theorem code_frameholds (p : List LClass) (vc : Value) (m : LMeth) (va vcd vfr : Value) (f : LFrame) (vl vs : Value) (w : World) (hp : RProg w vc p) (hm : MVals w m va vcd vfr) (hfl : SlAt 1 (RInt w) vl f.locals) (hfs : SlAt 1 (RInt w) vs f.stack) (hz : szProg p ≤ 4194304) (hfz : szFrame f ≤ 4194304) (hwf : wfFrame f) :
  Calls Tryz.prog 189 #[.agg #[vc], methV m va vcd vfr, .agg #[.int .i64 f.pc, vl, vs]] w fun e w' => e = .returned (.bool (frame0B p.length m f)) ∧ Below w.heap.size w w' := by
 have hpl : p.length ≤ 4194304 := Nat.le_trans (szProg_len p) hz
 have hll : f.locals.length ≤ 4194304 := by unfold szFrame at hfz; omega
 have hsl : f.stack.length ≤ 4194304 := by unfold szFrame at hfz; omega
 have HP := hide hp
 have HL := hide hfl
 have HS := hide hfs
 obtain ⟨pa, _, _, pcap, rfl, _⟩ := hp
 obtain ⟨⟨aa, _, _, acap, rfl, _⟩, ⟨ca, _, _, ccap, rfl, _⟩, ⟨fa, _, _, fcap, rfl, _⟩⟩ := hm
 obtain ⟨la, _, _, lcap, rfl, _⟩ := hfl
 obtain ⟨sa, _, _, scap, rfl, _⟩ := hfs
 unfold methV
 by_cases q1 : (f.locals.length : Int) = m.locals
 ·have k1 : ((f.locals.length : Int) == m.locals) = true := by simpa using q1
  have Q1 := hide (decide_eq_true q1)
  clear q1
  by_cases q2 : (f.stack.length : Int) ≤ m.stack
  ·have Q2 := hide (decide_eq_true q2)
   go_enter Tryz.func189, Tryz.ntmps189
   go_wp2_with fail
   generalize hW : ((w.alloc _).alloc _).alloc _ = W
   have hbel : Below w.heap.size w W := by rw [← hW]; exact box3_below _ _ _ _
   have i0 : W.cell? ⟨w.heap.size, 0, none⟩ = some (.slice pa p.length pcap) := by rw [← hW]; exact box3_1 _ _ _ _ _ 0
   have i2 : W.cell? ⟨w.heap.size + 1 + 1, 2, none⟩ = some (.slice sa f.stack.length scap) := by rw [← hW]; exact box3_3 _ _ _ _ _ 2
   clear hW
   cases q3 : f.locals.all (framedB p.length)
   ·refine (code_maystand_eq q3 _ _ _ (prog_keep (Keeps.of_below hbel) (unhide HP)) hpl (ints_keep (Keeps.of_below hbel) (unhide HL)) hwf.2.1 hll).mono ?_
    rintro e w1 ⟨rfl, hb1⟩
    go_wp2_with fail
    go_ret
    exact ⟨ret_bool (by unfold frame0B; rw [q3, Bool.and_false, Bool.false_and]), hbel.trans (hb1.mono hbel.size)⟩
   ·refine (code_maystand_eq q3 _ _ _ (prog_keep (Keeps.of_below hbel) (unhide HP)) hpl (ints_keep (Keeps.of_below hbel) (unhide HL)) hwf.2.1 hll).mono ?_
    rintro e w1 ⟨rfl, hb1⟩
    replace i0 := Keeps.of_below hb1 _ _ i0
    replace i2 := Keeps.of_below hb1 _ _ i2
    have hf1 := hbel.trans (hb1.mono hbel.size)
    clear hbel hb1
    go_wp2_with fail
    refine (code_maystand_eq rfl _ _ _ (prog_keep (Keeps.of_below hf1) (unhide HP)) hpl (ints_keep (Keeps.of_below hf1) (unhide HS)) hwf.2.2 hsl).mono ?_
    rintro e w2 ⟨rfl, hb2⟩
    go_wp2_with fail
    go_ret
    exact ⟨ret_bool (by unfold frame0B; rw [unhide Q1, unhide Q2, q3]; rfl), hf1.trans (hb2.mono hf1.size)⟩
  ·have Q2 := hide (decide_eq_false q2)
   go_enter Tryz.func189, Tryz.ntmps189
   go_wp2_with fail
   go_ret
   exact ⟨ret_bool (by unfold frame0B; rw [unhide Q2, Bool.and_false, Bool.false_and, Bool.false_and]), box3_below _ _ _ _⟩
 ·have k1 : ((f.locals.length : Int) == m.locals) = false := by simpa using q1
  have Q1 := hide (decide_eq_false q1)
  clear q1
  go_enter Tryz.func189, Tryz.ntmps189
  go_wp2_with fail
  go_ret
  exact ⟨ret_bool (by unfold frame0B; rw [unhide Q1, Bool.false_and, Bool.false_and, Bool.false_and]), box3_below _ _ _ _⟩

theorem framesB_cons {n : Nat} {m : LMeth} {last : Int} {f : LFrame} {r : List LFrame} : framesB n m last (f :: r) = (decide (last < f.pc) && (decide (f.pc < m.code.length) && frame0B n m f) && framesB n m f.pc r) := by
 have e : frameB n m f = (decide (f.pc < m.code.length) && frame0B n m f) := by
  unfold frameB frame0B
  cases decide (f.pc < m.code.length) <;> cases decide ((f.locals.length : Int) = m.locals) <;> cases decide ((f.stack.length : Int) ≤ m.stack) <;> cases f.locals.all (framedB n) <;> rfl
 rw [framesB, e]
theorem code_frameholds_eq {p : List LClass} {m : LMeth} {f : LFrame} {q : Bool} (h : frame0B p.length m f = q) (vc va vcd vfr vl vs : Value) (w : World) (hp : RProg w vc p) (hm : MVals w m va vcd vfr) (hfl : SlAt 1 (RInt w) vl f.locals) (hfs : SlAt 1 (RInt w) vs f.stack) (hz : szProg p ≤ 4194304) (hfz : szFrame f ≤ 4194304) (hwf : wfFrame f) :
  Calls Tryz.prog 189 #[.agg #[vc], methV m va vcd vfr, .agg #[.int .i64 f.pc, vl, vs]] w fun e w' => e = .returned (.bool q) ∧ Below w.heap.size w w' := h ▸ code_frameholds p vc m va vcd vfr f vl vs w hp hm hfl hfs hz hfz hwf

set_option maxHeartbeats 4000000 in
set_option maxRecDepth 100000 in
theorem code_frameshold (p : List LClass) (vc : Value) (m : LMeth) (va vcd vfr : Value) (w : World) (hp : RProg w vc p) (hm : MVals w m va vcd vfr) (hz : szProg p ≤ 4194304) (hml : szMeth m ≤ 4194304) (hwm : wfMeth m) :
  Calls Tryz.prog 132 #[.agg #[vc], methV m va vcd vfr] w fun e w' => e = .returned (.bool (framesB p.length m (-1) m.frames)) ∧ Below w.heap.size w w' := by
 have hcl : m.code.length ≤ 4194304 := by unfold szMeth at hml; omega
 have hfl : m.frames.length ≤ 4194304 := Nat.le_trans (szFrames_le m) hml
 have hwfr := hwm.2.2.2.2.2.2
 have HP := hide hp
 have HMV := hide hm
 obtain ⟨pa, _, _, pcap, rfl, _⟩ := hp
 obtain ⟨⟨aa, _, _, acap, rfl, _⟩, ⟨ca, _, _, ccap, rfl, _⟩, hf⟩ := hm
 obtain ⟨fa, fb, foff, fcap, rfl, _, hfa, hfr⟩ := sl_open hf
 have HFR := hide hfr
 clear hfr hf
 unfold methV
 go_enter Tryz.func132, Tryz.ntmps132
 go_wp2_with fail
 generalize hW : (w.alloc _).alloc _ = W
 have hbel : Below w.heap.size w W := by rw [← hW]; exact box2_below _ _ _
 have i0 : W.cell? ⟨w.heap.size, 0, none⟩ = some (.slice pa p.length pcap) := by rw [← hW]; exact box2_fst _ _ _ _ 0
 have l0 : W.cell? ⟨w.heap.size + 1, 0, none⟩ = some (.int .i64 m.slot) := by rw [← hW]; exact box2_snd _ _ _ _ 0
 have l1 : W.cell? ⟨w.heap.size + 1, 1, none⟩ = some (.slice aa m.args.length acap) := by rw [← hW]; exact box2_snd _ _ _ _ 1
 have l2 : W.cell? ⟨w.heap.size + 1, 2, none⟩ = some (.int .i64 m.ret) := by rw [← hW]; exact box2_snd _ _ _ _ 2
 have l3 : W.cell? ⟨w.heap.size + 1, 3, none⟩ = some (.int .i64 m.locals) := by rw [← hW]; exact box2_snd _ _ _ _ 3
 have l4 : W.cell? ⟨w.heap.size + 1, 4, none⟩ = some (.int .i64 m.stack) := by rw [← hW]; exact box2_snd _ _ _ _ 4
 have l5 : W.cell? ⟨w.heap.size + 1, 5, none⟩ = some (.slice ca m.code.length ccap) := by rw [← hW]; exact box2_snd _ _ _ _ 5
 have l6 : W.cell? ⟨w.heap.size + 1, 6, none⟩ = some (.slice fa m.frames.length fcap) := by rw [← hW]; exact box2_snd _ _ _ _ 6
 clear hW
 go_loopw [5, 11] (fun s5 s wr => ∃ (k : Nat) (from' : Int), k ≤ m.frames.length ∧ s = .int .i64 k ∧ s5 = .int .i64 from' ∧ 0 ≤ from' ∧ from' ≤ m.code.length ∧ framesB p.length m (-1) m.frames = framesB p.length m (from' - 1) (m.frames.drop k) ∧ Below W.heap.size W wr) (fun _ s _ => m.frames.length - (intOf s).toNat)
 case atStart => exact ⟨0, 0, Nat.zero_le _, rfl, rfl, by omega, by omega, by rw [List.drop_zero]; rfl, Below.refl _ _⟩
 case round =>
  obtain ⟨k, from', hk, rfl, rfl, hf0, hf1, hinv, hbr⟩ := hrel
  have HI := hide hinv
  clear hinv
  have hfin : Below w.heap.size w wr := hbel.trans (hbr.mono hbel.size)
  by_cases hlt : k < m.frames.length
  ·obtain rfl := hfa (ne_nil_of_lt hlt)
   obtain ⟨vl, vs, c0, c1, c2, hl, hst⟩ := (unhide HFR k hlt).keep (Keeps.of_below hfin)
   have HD := hide (show framesB p.length m (-1) m.frames = framesB p.length m (from' - 1) (m.frames[k] :: m.frames.drop (k + 1)) by rw [unhide HI, List.drop_eq_getElem_cons hlt])
   have hwk := hwfr _ (List.getElem_mem hlt)
   have hfz : szFrame m.frames[k] ≤ 4194304 := Nat.le_trans (szFrame_le (List.getElem_mem hlt)) hml
   have HL := hide hl
   have HST := hide hst
   obtain ⟨la, _, _, lcap, rfl, _⟩ := hl
   obtain ⟨sa, _, _, scap, rfl, _⟩ := hst
   generalize m.frames[k] = f at *
   have hltb := cell_lt c0
   have hk1 := Keeps.of_below hbr
   have e0 := hk1 _ _ i0
   have r0 := hk1 _ _ l0
   have r1 := hk1 _ _ l1
   have r2 := hk1 _ _ l2
   have r3 := hk1 _ _ l3
   have r4 := hk1 _ _ l4
   have r5 := hk1 _ _ l5
   have r6 := hk1 _ _ l6
   have hlt0 := cell_lt r0
   have hlt1 := cell_lt e0
   clear hk1
   have hbz := hbr.trans ((box_below wr (.cells #[.int .i64 f.pc, .slice la f.locals.length lcap, .slice sa f.stack.length scap] 42)).mono hbr.size)
   have hfz2 := hbel.trans (hbz.mono hbel.size)
   by_cases g1 : f.pc < from'
   ·have HN := hide (show framesB p.length m (-1) m.frames = false by rw [unhide HD, framesB_cons, decide_eq_false (by omega)]; rfl)
    go_wp2_with fail
    go_ret
    exact ⟨ret_bool (unhide HN).symm, hfz2⟩
   by_cases g2 : (m.code.length : Int) ≤ f.pc
   ·have HN := hide (show framesB p.length m (-1) m.frames = false by rw [unhide HD, framesB_cons, decide_eq_false (show ¬ f.pc < (m.code.length : Int) by omega), Bool.false_and, Bool.and_false]; rfl)
    go_wp2_with fail
    go_ret
    exact ⟨ret_bool (unhide HN).symm, hfz2⟩
   have d1 := decide_eq_true (show from' - 1 < f.pc by omega)
   have d2 := decide_eq_true (show f.pc < (m.code.length : Int) by omega)
   have HDD := hide (show framesB p.length m (-1) m.frames = (frame0B p.length m f && framesB p.length m f.pc (m.frames.drop (k + 1))) by rw [unhide HD, framesB_cons, d1, d2]; rfl)
   clear d1 d2 HD
   go_wp2_with fail
   have HPZ := hide (prog_keep (Keeps.of_below hfz2) (unhide HP))
   have HMZ := hide ((unhide HMV).keep (Keeps.of_below hfz2))
   have HLZ := hide (ints_keep (box_keeps wr (.cells #[.int .i64 f.pc, .slice la f.locals.length lcap, .slice sa f.stack.length scap] 42)) (unhide HL))
   have HSZ := hide (ints_keep (box_keeps wr (.cells #[.int .i64 f.pc, .slice la f.locals.length lcap, .slice sa f.stack.length scap] 42)) (unhide HST))
   have z0 := box_cell wr #[.int .i64 f.pc, .slice la f.locals.length lcap, .slice sa f.stack.length scap] 42 0
   obtain ⟨wo, rfl⟩ : ∃ wo : World, wo = wr := ⟨_, rfl⟩
   generalize wo.alloc _ = Z at *
   replace z0 : Z.cell? ⟨wo.heap.size, 0, none⟩ = some (.int .i64 f.pc) := z0
   cases hq : frame0B p.length m f
   ·refine (code_frameholds_eq hq _ _ _ _ _ _ _ (unhide HPZ) (unhide HMZ) (unhide HLZ) (unhide HSZ) hz hfz hwk).mono ?_
    rintro e w1 ⟨rfl, hb1⟩
    go_wp2_with fail
    go_ret
    exact ⟨ret_bool (by rw [unhide HDD, hq]; rfl), hfz2.trans (hb1.mono hfz2.size)⟩
   ·refine (code_frameholds_eq hq _ _ _ _ _ _ _ (unhide HPZ) (unhide HMZ) (unhide HLZ) (unhide HSZ) hz hfz hwk).mono ?_
    rintro e w1 ⟨rfl, hb1⟩
    have z1 := Keeps.of_below hb1 _ _ z0
    clear z0
    go_wp2_with fail
    exact ⟨⟨k + 1, f.pc + 1, by omega, by go_num, by go_num, by omega, by omega, by rw [unhide HDD, hq, Bool.true_and, Int.add_sub_cancel], hbz.trans (hb1.mono hbz.size)⟩, by simp [intOf]; omega⟩
  ·go_wp2
   go_ret
   have : m.frames.drop k = [] := List.drop_of_length_le (by omega)
   exact ⟨ret_bool (by rw [unhide HI, this]; rfl), hfin⟩
def code0B (p : List LClass) (m : LMeth) : Bool := !(decide (m.code.length < 1) || decide (40 < m.code.length)) && m.code.all (insB p m)
theorem frames_rise {n : Nat} {m : LMeth} : ∀ (l : List LFrame) (last : Int), -1 ≤ last → framesB n m last l = true → last + l.length < m.code.length ∨ l = []
 | [], _, _, _ => .inr rfl
 | f :: r, last, hl, h => by
  rw [framesB_cons] at h
  simp only [Bool.and_eq_true, decide_eq_true_eq] at h
  rcases frames_rise r f.pc (by omega) h.2 with g | g
  ·left
   simp only [List.length_cons]
   omega
  ·subst g
   left
   simp only [List.length_cons, List.length_nil]
   omega
theorem codeB_split (p : List LClass) (m : LMeth) : codeB p m = (code0B p m && framesB p.length m (-1) m.frames) := by
 unfold codeB code0B
 by_cases h1 : m.code.length < 1
 ·rw [decide_eq_true h1, decide_eq_false (by omega : ¬ 1 ≤ m.code.length)]; rfl
 by_cases h2 : 40 < m.code.length
 ·rw [decide_eq_true h2, Bool.or_true, decide_eq_false (by omega : ¬ m.code.length ≤ 40), Bool.and_false]; rfl
 rw [decide_eq_false h1, decide_eq_false h2, decide_eq_true (by omega : 1 ≤ m.code.length), decide_eq_true (by omega : m.code.length ≤ 40)]
 cases hf : framesB p.length m (-1) m.frames
 ·rw [Bool.and_false, Bool.and_false]
 ·have : m.frames.length ≤ 40 := by
   rcases frames_rise m.frames (-1) (by omega) hf with g | g
   ·omega
   ·rw [g]; simp
  rw [decide_eq_true this]
  simp
theorem code_ins_eq {p : List LClass} {m : LMeth} {i : LIns} {q : Bool} (h : insB p m i = q) (vc : Value) (aa ca fa : Option Addr) (al acap ccap fl fcap : Nat) (w : World) (hp : RProg w vc p) (hs : SupOk p p.length) (hz : szProg p ≤ 4194304) (hcl : m.code.length ≤ 4194304) :
  Calls Tryz.prog 188 (insArgs vc m aa ca fa al acap ccap fl fcap i.op i.a i.b) w fun e w' => e = .returned (.bool q) ∧ Below w.heap.size w w' := h ▸ code_ins p vc m aa ca fa al acap ccap fl fcap i w hp hs hz hcl

set_option maxHeartbeats 4000000 in
set_option maxRecDepth 100000 in
theorem code_codeholds (p : List LClass) (vc : Value) (m : LMeth) (va vcd vfr : Value) (w : World) (hp : RProg w vc p) (hm : MVals w m va vcd vfr) (hs : SupOk p p.length) (hz : szProg p ≤ 4194304) (hml : szMeth m ≤ 4194304) :
  Calls Tryz.prog 131 #[.agg #[vc], methV m va vcd vfr] w fun e w' => e = .returned (.bool (code0B p m)) ∧ Below w.heap.size w w' := by
 have hcl : m.code.length ≤ 4194304 := by unfold szMeth at hml; omega
 have HP := hide hp
 obtain ⟨pa, _, _, pcap, rfl, _⟩ := hp
 obtain ⟨⟨aa, _, _, acap, rfl, _⟩, hc, ⟨fa, _, _, fcap, rfl, _⟩⟩ := hm
 obtain ⟨ca, cb, coff, ccap, rfl, _, hca, hc0, hc1, hc2⟩ := code_open hc
 have H0 := hide hc0
 have H1 := hide hc1
 have H2 := hide hc2
 clear hc0 hc1 hc2 hc
 unfold methV
 by_cases g1 : m.code.length < 1
 ·have g1' : (m.code.length : Int) < 1 := by omega
  have HF := hide (show code0B p m = false by unfold code0B; rw [decide_eq_true g1]; rfl)
  go_enter Tryz.func131, Tryz.ntmps131
  go_wp2_with fail
  go_ret
  exact ⟨ret_bool (unhide HF).symm, box2_below _ _ _⟩
 by_cases g2 : 40 < m.code.length
 ·have g1' : ¬ (m.code.length : Int) < 1 := by omega
  have g2' : (40 : Int) < m.code.length := by omega
  have HF := hide (show code0B p m = false by unfold code0B; rw [decide_eq_true g2, Bool.or_true]; rfl)
  go_enter Tryz.func131, Tryz.ntmps131
  go_wp2_with fail
  go_ret
  exact ⟨ret_bool (unhide HF).symm, box2_below _ _ _⟩
 have g1' : ¬ (m.code.length : Int) < 1 := by omega
 have g2' : ¬ (40 : Int) < m.code.length := by omega
 have HC := hide (show code0B p m = m.code.all (insB p m) by unfold code0B; rw [decide_eq_false g1, decide_eq_false g2]; rfl)
 go_enter Tryz.func131, Tryz.ntmps131
 go_wp2_with fail
 generalize hW : (w.alloc _).alloc _ = W
 have hbel : Below w.heap.size w W := by rw [← hW]; exact box2_below _ _ _
 have i0 : W.cell? ⟨w.heap.size, 0, none⟩ = some (.slice pa p.length pcap) := by rw [← hW]; exact box2_fst _ _ _ _ 0
 have l0 : W.cell? ⟨w.heap.size + 1, 0, none⟩ = some (.int .i64 m.slot) := by rw [← hW]; exact box2_snd _ _ _ _ 0
 have l1 : W.cell? ⟨w.heap.size + 1, 1, none⟩ = some (.slice aa m.args.length acap) := by rw [← hW]; exact box2_snd _ _ _ _ 1
 have l2 : W.cell? ⟨w.heap.size + 1, 2, none⟩ = some (.int .i64 m.ret) := by rw [← hW]; exact box2_snd _ _ _ _ 2
 have l3 : W.cell? ⟨w.heap.size + 1, 3, none⟩ = some (.int .i64 m.locals) := by rw [← hW]; exact box2_snd _ _ _ _ 3
 have l4 : W.cell? ⟨w.heap.size + 1, 4, none⟩ = some (.int .i64 m.stack) := by rw [← hW]; exact box2_snd _ _ _ _ 4
 have l5 : W.cell? ⟨w.heap.size + 1, 5, none⟩ = some (.slice ca m.code.length ccap) := by rw [← hW]; exact box2_snd _ _ _ _ 5
 have l6 : W.cell? ⟨w.heap.size + 1, 6, none⟩ = some (.slice fa m.frames.length fcap) := by rw [← hW]; exact box2_snd _ _ _ _ 6
 clear hW
 go_loopw [20] (fun s wr => ∃ k : Nat, k ≤ m.code.length ∧ s = .int .i64 k ∧ (m.code.take k).all (insB p m) = true ∧ Below W.heap.size W wr) (fun s _ => m.code.length - (intOf s).toNat)
 case atStart => exact ⟨0, Nat.zero_le _, rfl, rfl, Below.refl _ _⟩
 case round =>
  obtain ⟨k, hk, rfl, hall, hbr⟩ := hrel
  have HA := hide hall
  clear hall
  have hfin : Below w.heap.size w wr := hbel.trans (hbr.mono hbel.size)
  by_cases hlt : k < m.code.length
  ·obtain rfl := hca (ne_nil_of_lt hlt)
   have hkf := Keeps.of_below hfin
   have c0 := hkf _ _ (unhide H0 k hlt)
   have c1 := hkf _ _ (unhide H1 k hlt)
   have c2 := hkf _ _ (unhide H2 k hlt)
   have HNO := hide (fun h : insB p m m.code[k] = false => all_no (f := insB p m) hlt h)
   have hS := all_snoc (f := insB p m) hlt
   rw [HA.out] at hS
   have HS := hide hS
   clear hS hkf
   generalize m.code[k] = i at *
   have hk1 := Keeps.of_below hbr
   have e0 := hk1 _ _ i0
   have r0 := hk1 _ _ l0
   have r1 := hk1 _ _ l1
   have r2 := hk1 _ _ l2
   have r3 := hk1 _ _ l3
   have r4 := hk1 _ _ l4
   have r5 := hk1 _ _ l5
   have r6 := hk1 _ _ l6
   have hlt0 := cell_lt r0
   have hlt1 := cell_lt e0
   have hltb := cell_lt c0
   clear hk1
   have hbz := hbr.trans ((box_below wr (.cells #[.int .i64 i.op, .int .i64 i.a, .int .i64 i.b] 60)).mono hbr.size)
   have hfz2 := hbel.trans (hbz.mono hbel.size)
   have HPZ := hide (prog_keep (Keeps.of_below hfz2) (unhide HP))
   go_wp2_with fail
   cases hq : insB p m i
   ·refine Calls.mono (code_ins_eq hq _ aa (some ⟨cb, coff, none⟩) fa m.args.length acap ccap m.frames.length fcap _ (unhide HPZ) hs hz hcl) ?_
    rintro e w1 ⟨rfl, hb1⟩
    go_wp2_with fail
    go_ret
    exact ⟨ret_bool (by rw [unhide HC, unhide HNO hq]), hfz2.trans (hb1.mono hfz2.size)⟩
   ·refine Calls.mono (code_ins_eq hq _ aa (some ⟨cb, coff, none⟩) fa m.args.length acap ccap m.frames.length fcap _ (unhide HPZ) hs hz hcl) ?_
    rintro e w1 ⟨rfl, hb1⟩
    go_wp2_with fail
    exact ⟨⟨k + 1, by omega, by go_num, by rw [unhide HS, hq]; rfl, hbz.trans (hb1.mono hbz.size)⟩, by simp [intOf]; omega⟩
  ·go_wp2
   go_ret
   exact ⟨ret_bool (by rw [unhide HC, ← HA.out, List.take_of_length_le (by omega)]), hfin⟩

theorem code_codeholds_eq {p : List LClass} {m : LMeth} {q : Bool} (h : code0B p m = q) (vc va vcd vfr : Value) (w : World) (hp : RProg w vc p) (hm : MVals w m va vcd vfr) (hs : SupOk p p.length) (hz : szProg p ≤ 4194304) (hml : szMeth m ≤ 4194304) :
  Calls Tryz.prog 131 #[.agg #[vc], methV m va vcd vfr] w fun e w' => e = .returned (.bool q) ∧ Below w.heap.size w w' := h ▸ code_codeholds p vc m va vcd vfr w hp hm hs hz hml
theorem code_frameshold_eq {p : List LClass} {m : LMeth} {q : Bool} (h : framesB p.length m (-1) m.frames = q) (vc va vcd vfr : Value) (w : World) (hp : RProg w vc p) (hm : MVals w m va vcd vfr) (hz : szProg p ≤ 4194304) (hml : szMeth m ≤ 4194304) (hwm : wfMeth m) :
  Calls Tryz.prog 132 #[.agg #[vc], methV m va vcd vfr] w fun e w' => e = .returned (.bool q) ∧ Below w.heap.size w w' := h ▸ code_frameshold p vc m va vcd vfr w hp hm hz hml hwm

set_option maxHeartbeats 4000000 in
set_option maxRecDepth 100000 in
theorem code_allcode (p : List LClass) (vc : Value) (w : World) (hp : RProg w vc p) (hs : SupOk p p.length) (hwf : wfProg p) (hz : szProg p ≤ 4194304) :
  Calls Tryz.prog 69 #[.agg #[vc]] w fun e w' => e = .returned (.bool (p.all fun x => x.meths.all (codeB p))) ∧ Below w.heap.size w w' := by
 have hpl : p.length ≤ 4194304 := Nat.le_trans (szProg_len p) hz
 have HP := hide hp
 obtain ⟨pa, pb, poff, pcap, rfl, _, hpa, hpr⟩ := sl_open hp
 have HPR := hide hpr
 clear hp hpr
 go_enter Tryz.func69, Tryz.ntmps69
 go_wp2_with fail
 generalize hW : w.alloc _ = W
 have hbel : Below w.heap.size w W := by rw [← hW]; exact box_below _ _
 have hbox : W.cell? ⟨w.heap.size, 0, none⟩ = some (.slice pa p.length pcap) := by rw [← hW]; exact box_cell _ _ _ 0
 clear hW
 go_loopw [10] (fun s wr => ∃ c : Nat, c ≤ p.length ∧ s = .int .i64 c ∧ (p.take c).all (fun x => x.meths.all (codeB p)) = true ∧ Below W.heap.size W wr) (fun s _ => p.length - (intOf s).toNat)
 case atStart => exact ⟨0, Nat.zero_le _, rfl, rfl, Below.refl _ _⟩
 case round =>
  obtain ⟨c, hc, rfl, hall, hbr⟩ := hrel
  have HA := hide hall
  clear hall
  obtain ⟨wo, rfl⟩ : ∃ wo : World, wo = wr := ⟨_, rfl⟩
  have hfin : Below w.heap.size w wo := hbel.trans (hbr.mono hbel.size)
  by_cases hlt : c < p.length
  ·obtain rfl := hpa (ne_nil_of_lt hlt)
   obtain ⟨vf, vm, c0, c1, c2, hf, hmt⟩ := (unhide HPR c hlt).keep (Keeps.of_below hfin)
   have hwx := (hwf _ (List.getElem_mem hlt)).2.2
   have hxl : szClass p[c] ≤ 4194304 := Nat.le_trans (szClass_le (List.getElem_mem hlt)) hz
   have HNO := hide (fun h : p[c].meths.all (codeB p) = false => all_no (f := fun x : LClass => x.meths.all (codeB p)) hlt h)
   have hS := all_snoc (f := fun x : LClass => x.meths.all (codeB p)) hlt
   rw [HA.out] at hS
   have HS := hide hS
   clear hS
   generalize p[c] = x at *
   obtain ⟨fa, _, _, fcap, rfl, _⟩ := hf
   obtain ⟨ma, mb, moff, mcap, rfl, hmcap, hma, hmr⟩ := sl_open hmt
   have HMR := hide hmr
   have hms : x.meths.length ≤ 4194304 := Nat.le_trans (szMeths_le x) hxl
   have hltb := cell_lt c0
   clear hmr hmt
   have e0 := Keeps.of_below hbr _ _ hbox
   go_wp2_with fail
   have hbz := hbr.trans ((box_below wo (.cells #[.int .i64 x.sup, .slice fa x.fields.length fcap, .slice ma x.meths.length mcap] 66)).mono hbr.size)
   have hk0 := box_keeps wo (.cells #[.int .i64 x.sup, .slice fa x.fields.length fcap, .slice ma x.meths.length mcap] 66)
   generalize wo.alloc _ = Z at *
   have HK0 := hide hk0
   have b0 := hk0 _ _ e0
   clear hk0 c0 c1 c2 e0 hbr hfin
   have hfz := hbel.trans (hbz.mono hbel.size)
   go_loopw [17] (fun s wr => ∃ k : Nat, k ≤ x.meths.length ∧ s = .int .i64 k ∧ (x.meths.take k).all (codeB p) = true ∧ Below Z.heap.size Z wr) (fun s _ => x.meths.length - (intOf s).toNat)
   case atStart => exact ⟨0, Nat.zero_le _, rfl, rfl, Below.refl _ _⟩
   case round =>
    obtain ⟨k, hk, rfl, hall2, hbr2⟩ := hrel
    have HA2 := hide hall2
    clear hall2
    have hf2 : Below w.heap.size w wr := hfz.trans (hbr2.mono hfz.size)
    by_cases hlt2 : k < x.meths.length
    ·obtain rfl := hma (ne_nil_of_lt hlt2)
     obtain ⟨va, vcd, vfr, hv, m0, m1, m2, m3, m4, m5, m6⟩ := ((unhide HMR k hlt2).keep (unhide HK0)).keep (Keeps.of_below hbr2)
     have hmm := List.getElem_mem hlt2
     have hwm := hwx _ hmm
     have hml : szMeth x.meths[k] ≤ 4194304 := Nat.le_trans (szMeth_le hmm) hxl
     have HN2 := hide (fun h : codeB p x.meths[k] = false => all_no (f := codeB p) hlt2 h)
     have hS2 := all_snoc (f := codeB p) hlt2
     rw [HA2.out] at hS2
     have HS2 := hide hS2
     clear hS2 hmm
     generalize x.meths[k] = m at *
     have HV := hide hv
     obtain ⟨ala, _, _, alc, rfl, _⟩ := hv.1
     obtain ⟨cla, _, _, clc, rfl, _⟩ := hv.2.1
     obtain ⟨fla, _, _, flc, rfl, _⟩ := hv.2.2
     have hltm := cell_lt m0
     have e1 := Keeps.of_below hbr2 _ _ b0
     have hlt1 := cell_lt e1
     clear hv
     go_wp2_with fail
     have hby := hbr2.trans ((box_below wr (.cells #[.int .i64 m.slot, .slice ala m.args.length alc, .int .i64 m.ret, .int .i64 m.locals, .int .i64 m.stack, .slice cla m.code.length clc, .slice fla m.frames.length flc] 63)).mono hbr2.size)
     have hky := box_keeps wr (.cells #[.int .i64 m.slot, .slice ala m.args.length alc, .int .i64 m.ret, .int .i64 m.locals, .int .i64 m.stack, .slice cla m.code.length clc, .slice fla m.frames.length flc] 63)
     have hbl := Blk.new wr #[.int .i64 m.slot, .slice ala m.args.length alc, .int .i64 m.ret, .int .i64 m.locals, .int .i64 m.stack, .slice cla m.code.length clc, .slice fla m.frames.length flc] 63
     obtain ⟨w0, rfl⟩ : ∃ w0 : World, w0 = wr := ⟨_, rfl⟩
     generalize w0.alloc _ = Y at *
     have HVY := hide ((unhide HV).keep hky)
     have hfy := hfz.trans (hby.mono hfz.size)
     have HPY := hide (prog_keep (Keeps.of_below hfy) (unhide HP))
     have y0 := hky _ _ e1
     clear m0 m1 m2 m3 m4 m5 m6 e1 hky HV
     have HSP := hide (codeB_split p m)
     cases hq : code0B p m
     ·refine Calls.mono (code_codeholds_eq hq _ _ _ _ _ (unhide HPY) (unhide HVY) hs hz hml) ?_
      rintro e w1 ⟨rfl, hb1⟩
      go_wp2_with fail
      go_ret
      exact ⟨ret_bool (unhide HNO (unhide HN2 (by rw [unhide HSP, hq]; rfl))).symm, hfy.trans (hb1.mono hfy.size)⟩
     ·refine Calls.mono (code_codeholds_eq hq _ _ _ _ _ (unhide HPY) (unhide HVY) hs hz hml) ?_
      rintro e w1 ⟨rfl, hb1⟩
      obtain ⟨⟨f0, f1, f2, f3, f4, f5, f6⟩, _⟩ := blk7 (hbl.below hb1 hbl.lt)
      have y1 := Keeps.of_below hb1 _ _ y0
      have hby1 := hby.trans (hb1.mono hby.size)
      have hfy1 := hfy.trans (hb1.mono hfy.size)
      have HPY1 := hide (prog_keep (Keeps.of_below hb1) (unhide HPY))
      have HVY1 := hide ((unhide HVY).keep (Keeps.of_below hb1))
      clear y0 hbl hb1
      go_wp2_with fail
      cases hq2 : framesB p.length m (-1) m.frames
      ·refine Calls.mono (code_frameshold_eq hq2 _ _ _ _ _ (unhide HPY1) (unhide HVY1) hz hml hwm) ?_
       rintro e w2 ⟨rfl, hb2⟩
       go_wp2_with fail
       go_ret
       exact ⟨ret_bool (unhide HNO (unhide HN2 (by rw [unhide HSP, hq2, Bool.and_false]))).symm, hfy1.trans (hb2.mono hfy1.size)⟩
      ·refine Calls.mono (code_frameshold_eq hq2 _ _ _ _ _ (unhide HPY1) (unhide HVY1) hz hml hwm) ?_
       rintro e w2 ⟨rfl, hb2⟩
       go_wp2_with fail
       exact ⟨⟨k + 1, by omega, by go_num, by rw [unhide HS2, unhide HSP, hq, hq2]; rfl, hby1.trans (hb2.mono hby1.size)⟩, by simp [intOf]; omega⟩
    ·go_wp2
     have hmall : x.meths.all (codeB p) = true := by rw [← HA2.out, List.take_of_length_le (by omega)]
     exact ⟨⟨c + 1, by omega, by go_num, by rw [unhide HS, hmall]; rfl, hbz.trans (hbr2.mono hbz.size)⟩, by simp [intOf]; omega⟩
  ·go_wp2
   go_ret
   exact ⟨ret_bool (by rw [← HA.out, List.take_of_length_le (by omega)]), hfin⟩
theorem code_classeshold_eq {p : List LClass} {q : Bool} (h : classesB p = q) (vc : Value) (w : World) (hp : RProg w vc p) (hwf : wfProg p) (hz : szProg p ≤ 4194304) :
  Calls Tryz.prog 68 #[.agg #[vc]] w fun e w' => e = .returned (.bool q) ∧ Below w.heap.size w w' := h ▸ code_classeshold p vc w hp hwf hz
theorem code_allcode_eq {p : List LClass} {q : Bool} (h : (p.all fun x => x.meths.all (codeB p)) = q) (vc : Value) (w : World) (hp : RProg w vc p) (hs : SupOk p p.length) (hwf : wfProg p) (hz : szProg p ≤ 4194304) :
  Calls Tryz.prog 69 #[.agg #[vc]] w fun e w' => e = .returned (.bool q) ∧ Below w.heap.size w w' := h ▸ code_allcode p vc w hp hs hwf hz
theorem classes_sup {p : List LClass} (h : classesB p = true) : SupOk p p.length := by
 unfold classesB at h
 simp only [Bool.and_eq_true] at h
 exact supOk_all h.2.1

set_option maxHeartbeats 1000000 in
theorem code_check (p : List LClass) (vc : Value) (w : World) (hp : RProg w vc p) (hwf : wfProg p) (hz : szProg p ≤ 4194304) :
  Calls Tryz.prog 34 #[.agg #[vc]] w fun e w' => e = .returned (.int .i64 (formI p)) ∧ Below w.heap.size w w' := by
 have HP := hide hp
 have HF := hide (formI_classes p)
 obtain ⟨pa, _, _, pcap, rfl, _⟩ := hp
 go_enter Tryz.func34, Tryz.ntmps34
 go_wp2_with fail
 generalize hW : w.alloc _ = W
 have hbel : Below w.heap.size w W := by rw [← hW]; exact box_below _ _
 have hbox : W.cell? ⟨w.heap.size, 0, none⟩ = some (.slice pa p.length pcap) := by rw [← hW]; exact box_cell _ _ _ 0
 clear hW
 cases hq : classesB p
 ·refine Calls.mono (code_classeshold_eq hq _ _ (prog_keep (Keeps.of_below hbel) (unhide HP)) hwf hz) ?_
  rintro e w1 ⟨rfl, hb1⟩
  go_wp2_with fail
  go_ret
  exact ⟨ret_int (by rw [unhide HF, hq]; rfl), hbel.trans (hb1.mono hbel.size)⟩
 refine Calls.mono (code_classeshold_eq hq _ _ (prog_keep (Keeps.of_below hbel) (unhide HP)) hwf hz) ?_
 rintro e w1 ⟨rfl, hb1⟩
 have b1 := Keeps.of_below hb1 _ _ hbox
 have hf1 := hbel.trans (hb1.mono hbel.size)
 clear hbel hbox hb1
 go_wp2_with fail
 cases hq2 : (p.all fun x => x.meths.all (codeB p))
 ·refine Calls.mono (code_allcode_eq hq2 _ _ (prog_keep (Keeps.of_below hf1) (unhide HP)) (classes_sup hq) hwf hz) ?_
  rintro e w2 ⟨rfl, hb2⟩
  go_wp2_with fail
  go_ret
  exact ⟨ret_int (by rw [unhide HF, hq, hq2]; rfl), hf1.trans (hb2.mono hf1.size)⟩
 ·refine Calls.mono (code_allcode_eq hq2 _ _ (prog_keep (Keeps.of_below hf1) (unhide HP)) (classes_sup hq) hwf hz) ?_
  rintro e w2 ⟨rfl, hb2⟩
  go_wp2_with fail
  go_ret
  exact ⟨ret_int (by rw [unhide HF, hq, hq2]; rfl), hf1.trans (hb2.mono hf1.size)⟩

theorem one_keep {A B : World} {a : Addr} {x : Value} (h : A.cell? a = some x) (k : Below A.heap.size A B) : B.cell? a = some x := Keeps.of_below k _ _ h
theorem below_none {w w' : World} (h : Below w.heap.size w w') : Mods (fun _ => False) w w' := (Mods.of_below h).mono (fun i hi e => absurd e (by omega))
theorem set6_same {cs cs0 : List Value} (hl : cs.length = cs0.length) (n0 : cs0[0]? = some (.slice none 0 0)) (n1 : cs0[1]? = some (.slice none 0 0)) (n2 : cs0[2]? = some (.slice none 0 0)) (n3 : cs0[3]? = some (.slice none 0 0)) (n4 : cs0[4]? = some (.slice none 0 0)) (n5 : cs0[5]? = some (.slice none 0 0)) (hr : ∀ j, 5 ≤ j → cs[j]? = cs0[j]?) :
  (((((cs.set 0 (.slice none 0 0)).set 1 (.slice none 0 0)).set 2 (.slice none 0 0)).set 3 (.slice none 0 0)).set 4 (.slice none 0 0)).set 5 (.slice none 0 0) = cs0 := by
 have hlen : 6 ≤ cs.length := by
  rw [hl]
  rcases Nat.lt_or_ge cs0.length 6 with h | h
  ·rw [List.getElem?_eq_none (by omega)] at n5; cases n5
  ·exact h
 apply List.ext_getElem?
 intro j
 rcases Nat.lt_or_ge 5 j with h | h
 ·rw [List.getElem?_set_ne (by omega), List.getElem?_set_ne (by omega), List.getElem?_set_ne (by omega), List.getElem?_set_ne (by omega), List.getElem?_set_ne (by omega), List.getElem?_set_ne (by omega)]
  exact hr j (by omega)
 ·have : j = 0 ∨ j = 1 ∨ j = 2 ∨ j = 3 ∨ j = 4 ∨ j = 5 := by omega
  rcases this with rfl | rfl | rfl | rfl | rfl | rfl
  ·rw [List.getElem?_set_ne (by omega), List.getElem?_set_ne (by omega), List.getElem?_set_ne (by omega), List.getElem?_set_ne (by omega), List.getElem?_set_ne (by omega), List.getElem?_set_self (by omega)]; exact n0.symm
  ·rw [List.getElem?_set_ne (by omega), List.getElem?_set_ne (by omega), List.getElem?_set_ne (by omega), List.getElem?_set_ne (by omega), List.getElem?_set_self (by simp only [List.length_set]; omega)]; exact n1.symm
  ·rw [List.getElem?_set_ne (by omega), List.getElem?_set_ne (by omega), List.getElem?_set_ne (by omega), List.getElem?_set_self (by simp only [List.length_set]; omega)]; exact n2.symm
  ·rw [List.getElem?_set_ne (by omega), List.getElem?_set_ne (by omega), List.getElem?_set_self (by simp only [List.length_set]; omega)]; exact n3.symm
  ·rw [List.getElem?_set_ne (by omega), List.getElem?_set_self (by simp only [List.length_set]; omega)]; exact n4.symm
  ·rw [List.getElem?_set_self (by simp only [List.length_set]; omega)]; exact n5.symm

def refC (why : Int) : List PanicEntry := [{ v := .iface 119 (.agg #[.int .i64 why]), recovered := false }]

set_option maxHeartbeats 400000 in
theorem code_giveUp (why : Int) (w : World) : Calls Tryz.prog 140 #[.int .i64 why] w fun e w' => e = .panicked (refC why) ∧ w' = w := by
 go_enter Tryz.func140, Tryz.ntmps140
 go_wp2
 exact ⟨rfl, rfl, rfl⟩
abbrev OwnE (α : Type) := World → Nat → Nat → List Value → α → Prop
section
variable {α : Type} {sz : Nat} {R : OwnE α} {t : TypeId}
end
section
variable {α : Type} {sz : Nat} {R : OwnE α} {p : List UInt8 → Option (α × List UInt8)} {ty : TypeId} {n : Nat} {s : List UInt8} {br g : Nat} {w wr : World} {k : Nat} {t : List UInt8} {cs : List Value} {done : List α}
end

end Go.Proofs.YtiiokkllmchohaaGreat
