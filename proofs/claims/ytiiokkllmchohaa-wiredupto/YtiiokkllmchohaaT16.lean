/- Walks of the code's own tests: all classes. -/
import Derived.Test.YtiiokkllmchohaaT11
import Derived.Test.YtiiokkllmchohaaT15
/- CodeI -/
namespace Go.Proofs.Ytiiokkllmchohaa
open Go.RowKit
attribute [local go_sem ↓] Go.wp_at_zero Go.wp_at_succ

def bodyAt (p : List LClass) (c : Nat) : Bool := match p[c]? with
  | none => true
  | some x => (decide ((fieldsOf p c).length ≤ 8) && x.fields.all (declB p.length)) && (decide (x.meths.length ≤ 6) && (List.range x.meths.length).all (headAt p x))
theorem bodyAt_some {p : List LClass} {c : Nat} {x : LClass} (h : p[c]? = some x) : bodyAt p c = ((decide ((fieldsOf p c).length ≤ 8) && x.fields.all (declB p.length)) && (decide (x.meths.length ≤ 6) && (List.range x.meths.length).all (headAt p x))) := by unfold bodyAt; rw [h]
def classesB (p : List LClass) : Bool := !(decide (p.length < 1) || decide (6 < p.length)) && ((List.range p.length).all (supAt p) && (List.range p.length).all (bodyAt p))
theorem classB_and (p : List LClass) (c : Nat) : classB p c = (supAt p c && bodyAt p c) := by
  cases h : p[c]? with
  | none => unfold classB supAt bodyAt; rw [h]; rfl
  | some x =>
    have e : restB p c x = bodyAt p c := by
      rw [bodyAt_some h]
      show (x.fields.all (declB p.length) && decide ((fieldsOf p c).length ≤ 8) && decide (x.meths.length ≤ 6) && (List.range x.meths.length).all (headAt p x)) = _
      cases x.fields.all (declB p.length) <;> cases decide ((fieldsOf p c).length ≤ 8) <;> cases decide (x.meths.length ≤ 6) <;> rfl
    show (match p[c]? with | none => true | some x => supB c x && restB p c x) = _
    rw [h, supAt_some h, ← e]
theorem all_and {α : Type} (l : List α) (f g : α → Bool) : l.all (fun a => f a && g a) = (l.all f && l.all g) := by
  induction l with
  | nil => rfl
  | cons a r ih => rw [List.all_cons, List.all_cons, List.all_cons, ih]; cases f a <;> cases g a <;> cases r.all f <;> rfl
theorem formI_classes (p : List LClass) : formI p = if classesB p = true then (if p.all (fun x => x.meths.all (codeB p)) = true then 0 else 3) else 2 := by
  have e : (List.range p.length).all (classB p) = ((List.range p.length).all (supAt p) && (List.range p.length).all (bodyAt p)) := by
    rw [← all_and]; congr 1; funext c; exact classB_and p c
  unfold formI classesB
  rw [e]
  by_cases h : p.length < 1 ∨ 6 < p.length
  · rw [if_pos h]
    have : (decide (p.length < 1) || decide (6 < p.length)) = true := by simpa using h
    rw [this]; rfl
  · rw [if_neg h]
    have : (decide (p.length < 1) || decide (6 < p.length)) = false := by simpa using h
    rw [this]; rfl
theorem supOk_all {p : List LClass} (h : (List.range p.length).all (supAt p) = true) : SupOk p p.length := by
  intro c x hc hx
  rw [List.all_eq_true] at h
  have := h c (List.mem_range.2 hc)
  rwa [supAt_some hx] at this
theorem code_supershold_eq {p : List LClass} {q : Bool} (h : (List.range p.length).all (supAt p) = q) (vc : Value) (w : World) (hp : RProg w vc p) (hz : szProg p ≤ 4194304) :
    Calls Try.prog 52 #[.agg #[vc]] w fun e w' => e = .returned (.bool q) ∧ Below w.heap.size w w' := h ▸ code_supershold p vc w hp hz
theorem code_fieldshold_eq {p : List LClass} {c : Nat} {x : LClass} {q : Bool} (h : (decide ((fieldsOf p c).length ≤ 8) && x.fields.all (declB p.length)) = q) (vc : Value) (w : World) (hp : RProg w vc p) (hs : SupOk p p.length) (hX : p[c]? = some x) (hwf : wfProg p) (hz : szProg p ≤ 4194304) :
    Calls Try.prog 53 #[.agg #[vc], .int .i64 c] w fun e w' => e = .returned (.bool q) ∧ Below w.heap.size w w' := h ▸ code_fieldshold p vc c x w hp hs hX hwf hz
theorem code_methodshold_eq {p : List LClass} {x : LClass} {q : Bool} (h : (decide (x.meths.length ≤ 6) && (List.range x.meths.length).all (headAt p x)) = q) (vc : Value) (c : Nat) (w : World) (hp : RProg w vc p) (hs : SupOk p p.length) (hX : p[c]? = some x) (hwf : wfProg p) (hz : szProg p ≤ 4194304) :
    Calls Try.prog 54 #[.agg #[vc], .int .i64 c] w fun e w' => e = .returned (.bool q) ∧ Below w.heap.size w w' := h ▸ code_methodshold p vc c x w hp hs hX hwf hz

set_option maxHeartbeats 2000000 in
set_option maxRecDepth 100000 in
theorem code_classeshold (p : List LClass) (vc : Value) (w : World) (hp : RProg w vc p) (hwf : wfProg p) (hz : szProg p ≤ 4194304) :
    Calls Try.prog 27 #[.agg #[vc]] w fun e w' => e = .returned (.bool (classesB p)) ∧ Below w.heap.size w w' := by
  have hpl : p.length ≤ 4194304 := Nat.le_trans (szProg_len p) hz
  have HP := hide hp
  obtain ⟨pa, pb, poff, pcap, rfl, _⟩ := hp
  by_cases g1 : p.length < 1
  · have g1' : (p.length : Int) < 1 := by omega
    have HF := hide (show classesB p = false by unfold classesB; rw [decide_eq_true g1]; rfl)
    go_enter Try.func27, Try.ntmps27
    go_wp2_with fail
    go_ret
    exact ⟨ret_bool (unhide HF).symm, box_below _ _⟩
  by_cases g2 : 6 < p.length
  · have g1' : ¬ (p.length : Int) < 1 := by omega
    have g2' : (6 : Int) < p.length := by omega
    have HF := hide (show classesB p = false by unfold classesB; rw [decide_eq_true g2, Bool.or_true]; rfl)
    go_enter Try.func27, Try.ntmps27
    go_wp2_with fail
    go_ret
    exact ⟨ret_bool (unhide HF).symm, box_below _ _⟩
  have g1' : ¬ (p.length : Int) < 1 := by omega
  have g2' : ¬ (6 : Int) < p.length := by omega
  have HC := hide (show classesB p = ((List.range p.length).all (supAt p) && (List.range p.length).all (bodyAt p)) by unfold classesB; rw [decide_eq_false g1, decide_eq_false g2]; rfl)
  go_enter Try.func27, Try.ntmps27
  go_wp2_with fail
  generalize hW : w.alloc _ = W
  have hbel : Below w.heap.size w W := by rw [← hW]; exact box_below _ _
  have hbox : W.cell? ⟨w.heap.size, 0, none⟩ = some (.slice pa p.length pcap) := by rw [← hW]; exact box_cell _ _ _ 0
  clear hW
  cases hsup : (List.range p.length).all (supAt p)
  · refine (code_supershold_eq hsup _ _ (prog_keep (Keeps.of_below hbel) (unhide HP)) hz).mono ?_
    rintro e w1 ⟨rfl, hb1⟩
    go_wp2_with fail
    go_ret
    exact ⟨ret_bool (by rw [unhide HC, hsup]; rfl), hbel.trans (hb1.mono hbel.size)⟩
  refine (code_supershold_eq hsup _ _ (prog_keep (Keeps.of_below hbel) (unhide HP)) hz).mono ?_
  rintro e w1 ⟨rfl, hb1⟩
  have hS := supOk_all hsup
  have HSU := hide hsup
  have b1 := Keeps.of_below hb1 _ _ hbox
  have hf1 := hbel.trans (hb1.mono hbel.size)
  clear hsup hb1 hbel hbox
  go_wp2_with fail
  go_loopw [20] (fun s wr => ∃ c : Nat, c ≤ p.length ∧ s = .int .i64 c ∧ (List.range c).all (bodyAt p) = true ∧ Below w1.heap.size w1 wr) (fun s _ => p.length - (intOf s).toNat)
  case atStart => exact ⟨0, Nat.zero_le _, rfl, rfl, Below.refl _ _⟩
  case round =>
    obtain ⟨c, hc, rfl, hall, hbr⟩ := hrel
    have HA := hide hall
    clear hall
    have hfin : Below w.heap.size w wr := hf1.trans (hbr.mono hf1.size)
    by_cases hlt : c < p.length
    · have HX := hide (List.getElem?_eq_getElem hlt)
      generalize p[c] = x at *
      have e0 := Keeps.of_below hbr _ _ b1
      have HPR := hide (prog_keep (Keeps.of_below hfin) (unhide HP))
      go_wp2_with fail
      cases hq1 : (decide ((fieldsOf p c).length ≤ 8) && x.fields.all (declB p.length))
      · refine (code_fieldshold_eq hq1 _ _ (unhide HPR) hS (unhide HX) hwf hz).mono ?_
        rintro e w2 ⟨rfl, hb2⟩
        go_wp2_with fail
        go_ret
        exact ⟨ret_bool (by rw [unhide HC, range_all_false (f := bodyAt p) hlt (by rw [bodyAt_some (unhide HX), hq1]; rfl), Bool.and_false]), hfin.trans (hb2.mono hfin.size)⟩
      refine (code_fieldshold_eq hq1 _ _ (unhide HPR) hS (unhide HX) hwf hz).mono ?_
      rintro e w2 ⟨rfl, hb2⟩
      have e1 := Keeps.of_below hb2 _ _ e0
      have hb12 := hbr.trans (hb2.mono hbr.size)
      have hf2 := hfin.trans (hb2.mono hfin.size)
      have HPR2 := hide (prog_keep (Keeps.of_below hf2) (unhide HP))
      clear e0 hb2 hbr hfin
      go_wp2_with fail
      cases hq2 : (decide (x.meths.length ≤ 6) && (List.range x.meths.length).all (headAt p x))
      · refine (code_methodshold_eq hq2 _ _ _ (unhide HPR2) hS (unhide HX) hwf hz).mono ?_
        rintro e w3 ⟨rfl, hb3⟩
        go_wp2_with fail
        go_ret
        exact ⟨ret_bool (by rw [unhide HC, range_all_false (f := bodyAt p) hlt (by rw [bodyAt_some (unhide HX), hq2, Bool.and_false]), Bool.and_false]), hf2.trans (hb3.mono hf2.size)⟩
      · refine (code_methodshold_eq hq2 _ _ _ (unhide HPR2) hS (unhide HX) hwf hz).mono ?_
        rintro e w3 ⟨rfl, hb3⟩
        go_wp2_with fail
        exact ⟨⟨c + 1, by omega, by go_num, by rw [range_all_snoc, unhide HA, bodyAt_some (unhide HX), hq1, hq2]; rfl, hb12.trans (hb3.mono hb12.size)⟩, by simp [intOf]; omega⟩
    · go_wp2
      go_ret
      have : c = p.length := by omega
      subst this
      exact ⟨ret_bool (by rw [unhide HC, unhide HSU, unhide HA]; rfl), hfin⟩

set_option maxHeartbeats 2000000 in
set_option maxRecDepth 100000 in
theorem code_hasmethod (p : List LClass) (vc : Value) (c : Nat) (slot : Int) (w : World) (hp : RProg w vc p) (hs : SupOk p p.length) (hc : c < p.length) (hz : szProg p ≤ 4194304) :
    Calls Try.prog 93 #[.agg #[vc], .int .i64 c, .int .i64 slot] w fun e w' => e = .returned (.bool (methOf p c slot).isSome) ∧ Below w.heap.size w w' := by
  have HP := hide hp
  obtain ⟨pa, pb, poff, pcap, rfl, _⟩ := hp
  go_enter Try.func93, Try.ntmps93
  go_wp2_with fail
  generalize hW : w.alloc _ = W
  have hbel : Below w.heap.size w W := by rw [← hW]; exact box_below _ _
  clear hW
  refine (code_findmethod p _ p.length _ _ _ (prog_keep (Keeps.of_below hbel) (unhide HP)) hs (Nat.le_refl _) (by omega) (by omega) hz).mono ?_
  rintro e w1 ⟨o, oa, oc, of, oac, occ, ofc, rfl, hfm, hb1⟩
  go_wp2_with fail
  go_ret
  have h := hbel.trans (hb1.mono hbel.size)
  exact ⟨rfl, h.alloc h.size _⟩
end Go.Proofs.Ytiiokkllmchohaa
/- Walk of the code's own test: may an instruction be? -/
namespace Go.Proofs.Ytiiokkllmchohaa
open Go.RowKit
attribute [local go_sem ↓] Go.wp_at_zero Go.wp_at_succ

theorem code_hasclass_eq {p : List LClass} {c : Int} {q : Bool} (h : placeB c p.length = q) (vc : Value) (w : World) (hp : RProg w vc p) (hl : p.length ≤ 4194304) :
    Calls Try.prog 92 #[.agg #[vc], .int .i64 c] w fun e w' => e = .returned (.bool q) ∧ Below w.heap.size w w' := h ▸ code_hasclass p vc c w hp hl

set_option maxHeartbeats 4000000 in
set_option maxRecDepth 100000 in
theorem code_ins_plain (p : List LClass) (vc : Value) (m : LMeth) (aa ca fa : Option Addr) (al acap ccap fl fcap : Nat) (op a b : Int) (w : World) (hp : RProg w vc p) (hz : szProg p ≤ 4194304) (_hcl : m.code.length ≤ 4194304)
    (h10 : op ≠ 10) (h11 : op ≠ 11) (h12 : op ≠ 12) :
    Calls Try.prog 78 (insArgs vc m aa ca fa al acap ccap fl fcap op a b) w fun e w' => e = .returned (.bool (insB p m ⟨op, a, b⟩)) ∧ Below w.heap.size w w' := by
  have hpl : p.length ≤ 4194304 := Nat.le_trans (szProg_len p) hz
  have HP := hide hp
  obtain ⟨pa, pb, poff, pcap, rfl, hpcap, hpa, hpr⟩ := sl_open hp
  clear hpr hpa hp
  unfold insArgs
  by_cases h0 : op = 0
  · subst h0
    go_enter Try.func78, Try.ntmps78
    go_wp2
    go_ret
    exact ⟨ret_bool (by simp [insB]), box3_below _ _ _ _⟩
  by_cases h1 : op = 1 ∨ op = 2
  · have HD := hide (show insB p m ⟨op, a, b⟩ = (placeB a m.locals && b == 0) by unfold insB; rcases h1 with rfl | rfl <;> simp)
    cases hq : placeB a m.locals <;> rcases h1 with rfl | rfl <;>
    · go_enter Try.func78, Try.ntmps78
      go_wp2_with (go_at_call 72; refine (code_within_eq hq _).mono ?_; rintro e w' ⟨rfl, rfl⟩)
      go_ret
      exact ⟨ret_bool (by rw [unhide HD, hq]; rfl), box3_below _ _ _ _⟩
  by_cases h7 : op = 7 ∨ op = 8 ∨ op = 18
  · have HD := hide (show insB p m ⟨op, a, b⟩ = (placeB a m.code.length && b == 0) by unfold insB; rcases h7 with rfl | rfl | rfl <;> simp)
    cases hq : placeB a m.code.length <;> rcases h7 with rfl | rfl | rfl <;>
    · go_enter Try.func78, Try.ntmps78
      go_wp2_with (go_at_call 72; refine (code_within_eq hq _).mono ?_; rintro e w' ⟨rfl, rfl⟩)
      go_ret
      exact ⟨ret_bool (by rw [unhide HD, hq]; rfl), box3_below _ _ _ _⟩
  by_cases h9 : op = 9 ∨ op = 17
  · have HD := hide (show insB p m ⟨op, a, b⟩ = (placeB a p.length && b == 0) by unfold insB; rcases h9 with rfl | rfl <;> simp)
    cases hq : placeB a p.length <;> rcases h9 with rfl | rfl <;>
    · go_enter Try.func78, Try.ntmps78
      go_wp2_with fail
      generalize hW : ((w.alloc _).alloc _).alloc _ = W
      have hbel : Below w.heap.size w W := by rw [← hW]; exact box3_below _ _ _ _
      have i2 : W.cell? ⟨w.heap.size + 1 + 1, 2, none⟩ = some (.int .i64 b) := by rw [← hW]; exact box3_3 _ _ _ _ _ 2
      clear hW
      refine (code_hasclass_eq hq _ _ (prog_keep (Keeps.of_below hbel) (unhide HP)) hpl).mono ?_
      rintro e w1 ⟨rfl, hb1⟩
      have i3 := Keeps.of_below hb1 _ _ i2
      go_wp2_with fail
      go_ret
      exact ⟨ret_bool (by rw [unhide HD, hq]; rfl), hbel.trans (hb1.mono hbel.size)⟩
  have hdef : insB p m ⟨op, a, b⟩ = (placeB op 21 && a == 0 && b == 0) := by
    unfold insB
    have e1 : ¬ (op = 1 ∨ op = 2) := h1
    have e2 : ¬ (op = 7 ∨ op = 8 ∨ op = 18) := h7
    have e3 : ¬ (op = 9 ∨ op = 17) := h9
    have e4 : ¬ (op = 10 ∨ op = 11) := by omega
    simp only [h0, e1, e2, e3, e4, h12, if_false]
  have HD := hide hdef
  clear hdef
  have n1 : op ≠ 1 := by omega
  have n2 : op ≠ 2 := by omega
  have n7 : op ≠ 7 := by omega
  have n8 : op ≠ 8 := by omega
  have n18 : op ≠ 18 := by omega
  have n9 : op ≠ 9 := by omega
  have n17 : op ≠ 17 := by omega
  clear h1 h7 h9
  by_cases hin : op = 3 ∨ op = 4 ∨ op = 5 ∨ op = 6 ∨ op = 13 ∨ op = 14 ∨ op = 15 ∨ op = 16 ∨ op = 19 ∨ op = 20
  · have HD2 := hide (show insB p m ⟨op, a, b⟩ = (a == 0 && b == 0) by rw [unhide HD, placeB_iff.2 (by omega : 0 ≤ op ∧ op < 21), Bool.true_and])
    clear HD
    cases ha0 : (a == 0) <;> rcases hin with rfl | rfl | rfl | rfl | rfl | rfl | rfl | rfl | rfl | rfl <;>
    · go_enter Try.func78, Try.ntmps78
      go_wp2_with fail
      go_ret
      exact ⟨ret_bool (by rw [unhide HD2, ha0]; rfl), box3_below _ _ _ _⟩
  · have HD2 := hide (show insB p m ⟨op, a, b⟩ = false by rw [unhide HD, show placeB op 21 = false from Bool.eq_false_iff.2 (fun e => by have := placeB_iff.1 e; omega)]; rfl)
    clear HD
    have k3 : (op == 3) = false := by simp; omega
    have k4 : (op == 4) = false := by simp; omega
    have k5 : (op == 5) = false := by simp; omega
    have k6 : (op == 6) = false := by simp; omega
    have k13 : (op == 13) = false := by simp; omega
    have k14 : (op == 14) = false := by simp; omega
    have k15 : (op == 15) = false := by simp; omega
    have k16 : (op == 16) = false := by simp; omega
    have k19 : (op == 19) = false := by simp; omega
    have k20 : (op == 20) = false := by simp; omega
    have k0 : (op == 0) = false := by simp; omega
    have k1 : (op == 1) = false := by simp; omega
    have k2 : (op == 2) = false := by simp; omega
    have k7 : (op == 7) = false := by simp; omega
    have k8 : (op == 8) = false := by simp; omega
    have k9 : (op == 9) = false := by simp; omega
    have k10 : (op == 10) = false := by simp; omega
    have k11 : (op == 11) = false := by simp; omega
    have k12 : (op == 12) = false := by simp; omega
    have k17 : (op == 17) = false := by simp; omega
    have k18 : (op == 18) = false := by simp; omega
    clear hin n1 n2 n7 n8 n9 n17 n18 h0 h10 h11 h12
    go_enter Try.func78, Try.ntmps78
    go_wp2_with fail
    go_ret
    exact ⟨ret_bool (unhide HD2).symm, box3_below _ _ _ _⟩
end Go.Proofs.Ytiiokkllmchohaa
/- Walk of the code's own test: may an instruction be that names a field or a slot? -/
namespace Go.Proofs.Ytiiokkllmchohaa
open Go.RowKit
attribute [local go_sem ↓] Go.wp_at_zero Go.wp_at_succ

theorem code_hasmethod_eq {p : List LClass} {c : Nat} {slot : Int} {q : Bool} (h : (methOf p c slot).isSome = q) (vc : Value) (w : World) (hp : RProg w vc p) (hs : SupOk p p.length) (hc : c < p.length) (hz : szProg p ≤ 4194304) :
    Calls Try.prog 93 #[.agg #[vc], .int .i64 c, .int .i64 slot] w fun e w' => e = .returned (.bool q) ∧ Below w.heap.size w w' := h ▸ code_hasmethod p vc c slot w hp hs hc hz

set_option maxHeartbeats 4000000 in
set_option maxRecDepth 100000 in
theorem code_ins_field (p : List LClass) (vc : Value) (m : LMeth) (aa ca fa : Option Addr) (al acap ccap fl fcap : Nat) (op a b : Int) (w : World) (hp : RProg w vc p) (hs : SupOk p p.length) (hz : szProg p ≤ 4194304)
    (hop : op = 10 ∨ op = 11) :
    Calls Try.prog 78 (insArgs vc m aa ca fa al acap ccap fl fcap op a b) w fun e w' => e = .returned (.bool (insB p m ⟨op, a, b⟩)) ∧ Below w.heap.size w w' := by
  have hpl : p.length ≤ 4194304 := Nat.le_trans (szProg_len p) hz
  have hdef : insB p m ⟨op, a, b⟩ = (placeB a p.length && placeB b (fieldsOf p a).length) := by
    unfold insB
    rcases hop with rfl | rfl <;> simp
  have HD := hide hdef
  clear hdef
  have HP := hide hp
  obtain ⟨pa, pb, poff, pcap, rfl, hpcap, hpa, hpr⟩ := sl_open hp
  clear hpr hpa hp
  unfold insArgs
  cases hpb : placeB a p.length
  · rcases hop with rfl | rfl
    all_goals
      go_enter Try.func78, Try.ntmps78
      go_wp2_with fail
      generalize hW : ((w.alloc _).alloc _).alloc _ = W
      have hbel : Below w.heap.size w W := by rw [← hW]; exact box3_below _ _ _ _
      have i0 : W.cell? ⟨w.heap.size, 0, none⟩ = some (.slice pa p.length pcap) := by rw [← hW]; exact box3_1 _ _ _ _ _ 0
      have i1 : W.cell? ⟨w.heap.size + 1 + 1, 1, none⟩ = some (.int .i64 a) := by rw [← hW]; exact box3_3 _ _ _ _ _ 1
      have i2 : W.cell? ⟨w.heap.size + 1 + 1, 2, none⟩ = some (.int .i64 b) := by rw [← hW]; exact box3_3 _ _ _ _ _ 2
      clear hW
      have HPW := hide (prog_keep (Keeps.of_below hbel) (unhide HP))
      have HS3 := hide (And.intro i0 (And.intro i1 i2))
      refine wp_region_noPanic ?_
      refine wp_region_held_drew (S := (fun w' => w'.cell? ⟨w.heap.size, 0, none⟩ = some (.slice pa p.length pcap) ∧ w'.cell? ⟨w.heap.size + 1 + 1, 1, none⟩ = some (.int .i64 a) ∧ w'.cell? ⟨w.heap.size + 1 + 1, 2, none⟩ = some (.int .i64 b))) (by kernel_rfl) ?_ (fun hHeld => ?_)
      · exact HS3.out
      refine take_d (some 57) (i := 0) (v := .agg #[.slice pa p.length pcap]) rfl rfl (by kernel_rfl) (by kernel_rfl) (by kernel_rfl) (fun _ _ _ h => h) (Or.inl ⟨by rfl, fun w' hSw => by (try dsimp only at hSw); go_simp⟩) (by assumption) ?_
      try simp only [Act.put, List.setIfInBounds_toArray, List.set_cons_zero, List.set_cons_succ]
      refine take_d (some 58) (i := 1) (v := .pointer (some ⟨w.heap.size + 1 + 1, 1, none⟩)) rfl rfl (by kernel_rfl) (by kernel_rfl) (by kernel_rfl) (fun _ _ _ h => h) (Or.inl ⟨by rfl, fun w' hSw => by (try dsimp only at hSw); go_simp⟩) (by assumption) ?_
      try simp only [Act.put, List.setIfInBounds_toArray, List.set_cons_zero, List.set_cons_succ]
      refine take_d (some 59) (i := 2) (v := .int .i64 a) rfl rfl (by kernel_rfl) (by kernel_rfl) (by kernel_rfl) (fun _ _ _ h => h) (Or.inl ⟨by rfl, fun w' hSw => by (try dsimp only at hSw); go_simp⟩) (by assumption) ?_
      try simp only [Act.put, List.setIfInBounds_toArray, List.set_cons_zero, List.set_cons_succ]
      refine wpAnyH_ready (rs := [3]) (by kernel_rfl) (by simp) ?_
      refine AllReadyH.cons rfl (fun K hK => ?_) AllReadyH.nil
      go_simp
      refine (code_hasclass_eq hpb _ _ (prog_keep (Keeps.of_below ((Below.refl _ _).drew)) (unhide HPW)) hpl).mono ?_
      rintro e w1 ⟨rfl, hb1⟩
      have HB1 := hide (below_call hb1)
      clear hb1
      go_wp2_with fail
      refine hK.out _ _ (tri_keep HS3.out HB1.out) (fun hHeld2 => ?_)
      clear hK K hHeld
      try simp only [Act.put, List.setIfInBounds_toArray, List.set_cons_zero, List.set_cons_succ]
      refine take_d (some 61) (i := 4) (v := .bool false) rfl rfl (by kernel_rfl) (by kernel_rfl) (by kernel_rfl) (fun _ _ _ h => h) (Or.inl ⟨by rfl, fun w' hSw => by (try dsimp only at hSw); go_simp⟩) (by assumption) ?_
      try simp only [Act.put, List.setIfInBounds_toArray, List.set_cons_zero, List.set_cons_succ]
      refine take_d (some 62) (i := 5) (v := undef) rfl rfl (by kernel_rfl) (by kernel_rfl) (by kernel_rfl) (fun _ _ _ h => h) (Or.inr ⟨by rfl, rfl⟩) (by assumption) ?_
      try simp only [Act.put, List.setIfInBounds_toArray, List.set_cons_zero, List.set_cons_succ]
      refine take_d (some 63) (i := 6) (v := undef) rfl rfl (by kernel_rfl) (by kernel_rfl) (by kernel_rfl) (fun _ _ _ h => h) (Or.inr ⟨by rfl, rfl⟩) (by assumption) ?_
      try simp only [Act.put, List.setIfInBounds_toArray, List.set_cons_zero, List.set_cons_succ]
      refine take_d (some 64) (i := 7) (v := undef) rfl rfl (by kernel_rfl) (by kernel_rfl) (by kernel_rfl) (fun _ _ _ h => h) (Or.inr ⟨by rfl, rfl⟩) (by assumption) ?_
      try simp only [Act.put, List.setIfInBounds_toArray, List.set_cons_zero, List.set_cons_succ]
      refine take_d (some 65) (i := 8) (v := undef) rfl rfl (by kernel_rfl) (by kernel_rfl) (by kernel_rfl) (fun _ _ _ h => h) (Or.inr ⟨by rfl, rfl⟩) (by assumption) ?_
      try simp only [Act.put, List.setIfInBounds_toArray, List.set_cons_zero, List.set_cons_succ]
      refine take_d (some 66) (i := 9) (v := undef) rfl rfl (by kernel_rfl) (by kernel_rfl) (by kernel_rfl) (fun _ _ _ h => h) (Or.inr ⟨by rfl, rfl⟩) (by assumption) ?_
      try simp only [Act.put, List.setIfInBounds_toArray, List.set_cons_zero, List.set_cons_succ]
      refine take_d (some 67) (i := 10) (v := undef) rfl rfl (by kernel_rfl) (by kernel_rfl) (by kernel_rfl) (fun _ _ _ h => h) (Or.inr ⟨by rfl, rfl⟩) (by assumption) ?_
      try simp only [Act.put, List.setIfInBounds_toArray, List.set_cons_zero, List.set_cons_succ]
      refine take_d (some 68) (i := 11) (v := undef) rfl rfl (by kernel_rfl) (by kernel_rfl) (by kernel_rfl) (fun _ _ _ h => h) (Or.inr ⟨by rfl, rfl⟩) (by assumption) ?_
      try simp only [Act.put, List.setIfInBounds_toArray, List.set_cons_zero, List.set_cons_succ]
      refine take_d (some 69) (i := 12) (v := .bool false) rfl rfl (by kernel_rfl) (by kernel_rfl) (by kernel_rfl) (fun _ _ _ h => h) (Or.inl ⟨by rfl, fun w' hSw => by (try dsimp only at hSw); go_simp⟩) (by assumption) ?_
      try simp only [Act.put, List.setIfInBounds_toArray, List.set_cons_zero, List.set_cons_succ]
      refine take_d (some 6) (i := 13) (v := .bool false) rfl rfl (by kernel_rfl) (by kernel_rfl) (by kernel_rfl) (fun _ _ _ h => h) (Or.inl ⟨by rfl, fun w' hSw => by (try dsimp only at hSw); go_simp⟩) (by assumption) ?_
      try simp only [Act.put, List.setIfInBounds_toArray, List.set_cons_zero, List.set_cons_succ]
      refine wpAnyH_done (by kernel_rfl) ?_ _
      refine NoPanic.normal ?_
      go_wp2_with fail
      go_ret
      exact ⟨ret_bool (by rw [unhide HD, hpb]; rfl), hbel.trans (HB1.out.mono hbel.size)⟩
  · obtain ⟨k, rfl, hk⟩ := placeB_nat hpb
    cases hpb2 : placeB b (fieldsOf p k).length <;> rcases hop with rfl | rfl
    all_goals
      go_enter Try.func78, Try.ntmps78
      go_wp2_with fail
      generalize hW : ((w.alloc _).alloc _).alloc _ = W
      have hbel : Below w.heap.size w W := by rw [← hW]; exact box3_below _ _ _ _
      have i0 : W.cell? ⟨w.heap.size, 0, none⟩ = some (.slice pa p.length pcap) := by rw [← hW]; exact box3_1 _ _ _ _ _ 0
      have i1 : W.cell? ⟨w.heap.size + 1 + 1, 1, none⟩ = some (.int .i64 (k : Int)) := by rw [← hW]; exact box3_3 _ _ _ _ _ 1
      have i2 : W.cell? ⟨w.heap.size + 1 + 1, 2, none⟩ = some (.int .i64 b) := by rw [← hW]; exact box3_3 _ _ _ _ _ 2
      clear hW
      have HPW := hide (prog_keep (Keeps.of_below hbel) (unhide HP))
      have HS3 := hide (And.intro i0 (And.intro i1 i2))
      go_region_held3 (fun w' => w'.cell? ⟨w.heap.size, 0, none⟩ = some (.slice pa p.length pcap) ∧ w'.cell? ⟨w.heap.size + 1 + 1, 1, none⟩ = some (.int .i64 (k : Int)) ∧ w'.cell? ⟨w.heap.size + 1 + 1, 2, none⟩ = some (.int .i64 b))
        (first
          | with_reducible exact tri_keep HS3.out HB2.out
          | with_reducible exact tri_keep HS3.out HB1.out
          | go_keep)
        (first | ((go_at_call 92; refine (code_hasclass_eq hpb _ _ (prog_keep (Keeps.of_below ((Below.refl _ _).drew)) (unhide HPW)) hpl).mono ?_); rintro e w1 ⟨rfl, hb1⟩; have HB1 := hide (below_call hb1); clear hb1)
               | ((go_at_call 73; refine (code_countfields p _ p.length _ _ (prog_keep (Keeps.of_below HB1.out) (unhide HPW)) hs (Nat.le_refl _) (by omega) (by omega) hz).mono ?_); rintro e w2 ⟨rfl, hb2⟩; have HB2 := hide (HB1.out.trans (hb2.mono HB1.out.size)); clear hb2)
               | ((go_at_call 72; refine (code_within_eq hpb2 _).mono ?_); rintro e w3 ⟨rfl, rfl⟩))
      go_wp2_with fail
      go_ret
      exact ⟨ret_bool (by rw [unhide HD, hpb, hpb2]; rfl), hbel.trans (HB2.out.mono hbel.size)⟩

set_option maxHeartbeats 4000000 in
set_option maxRecDepth 100000 in
theorem code_ins_call (p : List LClass) (vc : Value) (m : LMeth) (aa ca fa : Option Addr) (al acap ccap fl fcap : Nat) (a b : Int) (w : World) (hp : RProg w vc p) (hs : SupOk p p.length) (hz : szProg p ≤ 4194304) :
    Calls Try.prog 78 (insArgs vc m aa ca fa al acap ccap fl fcap 12 a b) w fun e w' => e = .returned (.bool (insB p m ⟨12, a, b⟩)) ∧ Below w.heap.size w w' := by
  have hpl : p.length ≤ 4194304 := Nat.le_trans (szProg_len p) hz
  have hdef : insB p m ⟨12, a, b⟩ = (placeB a p.length && (methOf p a b).isSome) := by unfold insB; simp
  have HD := hide hdef
  clear hdef
  have HP := hide hp
  obtain ⟨pa, pb, poff, pcap, rfl, hpcap, hpa, hpr⟩ := sl_open hp
  clear hpr hpa hp
  unfold insArgs
  go_enter Try.func78, Try.ntmps78
  go_wp2_with fail
  generalize hW : ((w.alloc _).alloc _).alloc _ = W
  have hbel : Below w.heap.size w W := by rw [← hW]; exact box3_below _ _ _ _
  have i0 : W.cell? ⟨w.heap.size, 0, none⟩ = some (.slice pa p.length pcap) := by rw [← hW]; exact box3_1 _ _ _ _ _ 0
  have i1 : W.cell? ⟨w.heap.size + 1 + 1, 1, none⟩ = some (.int .i64 a) := by rw [← hW]; exact box3_3 _ _ _ _ _ 1
  have i2 : W.cell? ⟨w.heap.size + 1 + 1, 2, none⟩ = some (.int .i64 b) := by rw [← hW]; exact box3_3 _ _ _ _ _ 2
  clear hW
  cases hpb : placeB a p.length
  · refine (code_hasclass_eq hpb _ _ (prog_keep (Keeps.of_below hbel) (unhide HP)) hpl).mono ?_
    rintro e w1 ⟨rfl, hb1⟩
    go_wp2_with fail
    go_ret
    exact ⟨ret_bool (by rw [unhide HD, hpb]; rfl), hbel.trans (hb1.mono hbel.size)⟩
  · refine (code_hasclass_eq hpb _ _ (prog_keep (Keeps.of_below hbel) (unhide HP)) hpl).mono ?_
    rintro e w1 ⟨rfl, hb1⟩
    obtain ⟨k, rfl, hk⟩ := placeB_nat hpb
    have hk1 := Keeps.of_below hb1
    replace i0 := hk1 _ _ i0
    replace i1 := hk1 _ _ i1
    replace i2 := hk1 _ _ i2
    have hf1 := hbel.trans (hb1.mono hbel.size)
    clear hk1 hb1 hbel
    go_wp2_with fail
    refine (code_hasmethod_eq rfl _ _ (prog_keep (Keeps.of_below hf1) (unhide HP)) hs (by omega) hz).mono ?_
    rintro e w2 ⟨rfl, hb2⟩
    go_wp2_with fail
    go_ret
    exact ⟨ret_bool (by rw [unhide HD, hpb]; rfl), hf1.trans (hb2.mono hf1.size)⟩

theorem code_ins (p : List LClass) (vc : Value) (m : LMeth) (aa ca fa : Option Addr) (al acap ccap fl fcap : Nat) (i : LIns) (w : World) (hp : RProg w vc p) (hs : SupOk p p.length) (hz : szProg p ≤ 4194304) (hcl : m.code.length ≤ 4194304) :
    Calls Try.prog 78 (insArgs vc m aa ca fa al acap ccap fl fcap i.op i.a i.b) w fun e w' => e = .returned (.bool (insB p m i)) ∧ Below w.heap.size w w' := by
  by_cases h1 : i.op = 10 ∨ i.op = 11
  · exact code_ins_field p vc m aa ca fa al acap ccap fl fcap i.op i.a i.b w hp hs hz h1
  by_cases h2 : i.op = 12
  · have := code_ins_call p vc m aa ca fa al acap ccap fl fcap i.a i.b w hp hs hz
    rw [← h2] at this
    exact this
  · exact code_ins_plain p vc m aa ca fa al acap ccap fl fcap i.op i.a i.b w hp hz hcl (fun e => h1 (.inl e)) (fun e => h1 (.inr e)) h2
end Go.Proofs.Ytiiokkllmchohaa
