/- The code looks whether an instruction fits, one by one: those that go step by step. -/
import Derived.Test.YtiiokkllmchohaaGreatT19
namespace Go.Proofs.YtiiokkllmchohaaGreat
open Go.RowKit
attribute [local go_sem ↓] Go.wp_at_zero Go.wp_at_succ
def DoR (p : List LClass) (m : LMeth) (i : LIns) (s : TSt) (w0 w w' : World) (bl : Nat) (vc : Value) (pre : List Value) (e : Ending) : Prop :=
 (∀ s', doS p m i s = some s' → e = .returned (.tuple #[]) ∧ LkC w0 w' bl p vc m pre s') ∧ (doS p m i s = none → e = .panicked (refC 5)) ∧ Mods (fun k => k = bl) w w'
theorem tyOk_low (n : Nat) {t : Int} (h0 : 0 ≤ t) (h2 : t ≤ 2) : tyOk n t := ⟨h0, by omega⟩
theorem tyOk_cls {n : Nat} {a : Int} (h0 : 0 ≤ a) (h1 : a < (n : Int)) : tyOk n (a + 3) := ⟨by omega, by omega⟩

set_option maxHeartbeats 1000000 in
set_option maxRecDepth 100000 in
theorem do_0 (a b : Int) (p : List LClass) (vc : Value) (m : LMeth) (s : TSt) (w0 w : World) (bl : Nat) (pre : List Value) (h : LkC w0 w bl p vc m pre s) (hs : SupOk p p.length) (hz : szProg p ≤ 4194304) (h8 : m.stack ≤ 8) :
  Calls Tryz.prog 156 #[.pointer (some ⟨bl, 0, none⟩), .agg #[.int .i64 0, .int .i64 a, .int .i64 b]] w fun e w' => DoR p m ⟨0, a, b⟩ s w0 w w' bl vc pre e := by
 have _hpl : p.length ≤ 4194304 := (fun (_ : SupOk p p.length) (_ : m.stack ≤ 8) => Nat.le_trans (szProg_len p) hz) hs h8
 have hbl := h.lk.lt
 have HW := hide (h.below (box_below w (.cells #[.int .i64 0, .int .i64 a, .int .i64 b] 60)))
 have hBI := Blk.new w #[.int .i64 0, .int .i64 a, .int .i64 b] 60
 have HM := hide (bnone (S := fun k => k = bl) (box_below w (.cells #[.int .i64 0, .int .i64 a, .int .i64 b] 60)))
 have HT0 : Hid (doS p m ⟨0, a, b⟩ s = leaveS m 0 s) := rfl
 unfold DoR
 go_enter Tryz.func156, Tryz.ntmps156
 go_wp2_with fail
 generalize w.alloc _ = W at *
 have HBI := hide hBI
 have r0 : W.cell? ⟨w.heap.size, 0, none⟩ = some (.int .i64 0) := hBI.cell 0
 have r1 : W.cell? ⟨w.heap.size, 1, none⟩ = some (.int .i64 a) := hBI.cell 1
 have r2 : W.cell? ⟨w.heap.size, 2, none⟩ = some (.int .i64 b) := hBI.cell 2
 have hne : w.heap.size ≠ bl := by omega
 clear hBI h
 refine (lk_leave 0 p vc m s w0 _ bl pre (unhide HW) (tyOk_low _ (by omega) (by omega)) h8).mono ?_
 rintro e w1 ⟨h1, h2, mm⟩
 cases hr : leaveS m 0 s with
 | none =>
  obtain rfl := h2 hr
  have HN : Hid (doS p m ⟨0, a, b⟩ s = none) := by show _ = _; rw [unhide HT0, hr] <;> rfl
  have HMn := hide ((unhide HM).trans mm (fun _ _ e => e))
  clear hr h1 h2
  go_wp2_with fail
  exact ⟨rfl, fun s' e => (by rw [unhide HN] at e; cases e), fun _ => rfl, unhide HMn⟩
 | some s1 =>
  obtain ⟨rfl, hL⟩ := h1 s1 hr
  have HN : Hid (doS p m ⟨0, a, b⟩ s = some s1) := by show _ = _; rw [unhide HT0, hr] <;> rfl
  have HL := hide hL
  have HMn := hide ((unhide HM).trans mm (fun _ _ e => e))
  clear hr h1 h2
  go_wp2_with fail
  go_end0
  refine ⟨fun s' e => ?_, fun e => (by rw [unhide HN] at e; cases e), unhide HMn⟩
  rw [unhide HN] at e
  simp only [Option.some.injEq] at e
  subst e
  exact ⟨rfl, unhide HL⟩

set_option maxHeartbeats 1000000 in
set_option maxRecDepth 100000 in
theorem do_3 (a b : Int) (p : List LClass) (vc : Value) (m : LMeth) (s : TSt) (w0 w : World) (bl : Nat) (pre : List Value) (h : LkC w0 w bl p vc m pre s) (hs : SupOk p p.length) (hz : szProg p ≤ 4194304) (h8 : m.stack ≤ 8) :
  Calls Tryz.prog 156 #[.pointer (some ⟨bl, 0, none⟩), .agg #[.int .i64 3, .int .i64 a, .int .i64 b]] w fun e w' => DoR p m ⟨3, a, b⟩ s w0 w w' bl vc pre e := by
 have _hpl : p.length ≤ 4194304 := (fun (_ : SupOk p p.length) (_ : m.stack ≤ 8) => Nat.le_trans (szProg_len p) hz) hs h8
 have hbl := h.lk.lt
 have HW := hide (h.below (box_below w (.cells #[.int .i64 3, .int .i64 a, .int .i64 b] 60)))
 have hBI := Blk.new w #[.int .i64 3, .int .i64 a, .int .i64 b] 60
 have HM := hide (bnone (S := fun k => k = bl) (box_below w (.cells #[.int .i64 3, .int .i64 a, .int .i64 b] 60)))
 have HT0 : Hid (doS p m ⟨3, a, b⟩ s = (wantS p 0 s).bind fun s => (wantS p 0 s).bind (leaveS m 0)) := rfl
 unfold DoR
 go_enter Tryz.func156, Tryz.ntmps156
 go_wp2_with fail
 generalize w.alloc _ = W at *
 have HBI := hide hBI
 have r0 : W.cell? ⟨w.heap.size, 0, none⟩ = some (.int .i64 3) := hBI.cell 0
 have r1 : W.cell? ⟨w.heap.size, 1, none⟩ = some (.int .i64 a) := hBI.cell 1
 have r2 : W.cell? ⟨w.heap.size, 2, none⟩ = some (.int .i64 b) := hBI.cell 2
 have hne : w.heap.size ≠ bl := by omega
 clear hBI h
 refine (lk_want 0 p vc m s w0 _ bl pre (unhide HW) hs _hpl (tyOk_low _ (by omega) (by omega))).mono ?_
 rintro e w1 ⟨h1, h2, mm⟩
 cases hr : wantS p 0 s with
 | none =>
  obtain rfl := h2 hr
  have HN : Hid (doS p m ⟨3, a, b⟩ s = none) := by show _ = _; rw [unhide HT0, hr] <;> rfl
  have HMn := hide ((unhide HM).trans mm (fun _ _ e => e))
  clear hr h1 h2
  go_wp2_with fail
  exact ⟨rfl, fun s' e => (by rw [unhide HN] at e; cases e), fun _ => rfl, unhide HMn⟩
 | some s1 =>
  obtain ⟨rfl, hL⟩ := h1 s1 hr
  have HT1 : Hid (doS p m ⟨3, a, b⟩ s = (wantS p 0 s1).bind (leaveS m 0)) := by show _ = _; rw [unhide HT0, hr] <;> rfl
  have HBn := hide ((unhide HBI).mods mm hne)
  replace r1 : w1.cell? ⟨w.heap.size, 1, none⟩ = some (.int .i64 a) := (unhide HBn).cell 1
  replace r2 : w1.cell? ⟨w.heap.size, 2, none⟩ = some (.int .i64 b) := (unhide HBn).cell 2
  replace HBI := HBn
  replace HW := hide hL
  replace HM := hide ((unhide HM).trans mm (fun _ _ e => e))
  clear hr h1 h2 hL mm HBn r0
  go_wp2_with fail
  refine (lk_want 0 p vc m s1 w0 _ bl pre (unhide HW) hs _hpl (tyOk_low _ (by omega) (by omega))).mono ?_
  rintro e w2 ⟨h1, h2, mm⟩
  cases hr : wantS p 0 s1 with
  | none =>
   obtain rfl := h2 hr
   have HN : Hid (doS p m ⟨3, a, b⟩ s = none) := by show _ = _; rw [unhide HT1, hr] <;> rfl
   have HMn := hide ((unhide HM).trans mm (fun _ _ e => e))
   clear hr h1 h2
   go_wp2_with fail
   exact ⟨rfl, fun s' e => (by rw [unhide HN] at e; cases e), fun _ => rfl, unhide HMn⟩
  | some s2 =>
   obtain ⟨rfl, hL⟩ := h1 s2 hr
   have HT2 : Hid (doS p m ⟨3, a, b⟩ s = leaveS m 0 s2) := by show _ = _; rw [unhide HT1, hr] <;> rfl
   have HBn := hide ((unhide HBI).mods mm hne)
   replace r1 : w2.cell? ⟨w.heap.size, 1, none⟩ = some (.int .i64 a) := (unhide HBn).cell 1
   replace r2 : w2.cell? ⟨w.heap.size, 2, none⟩ = some (.int .i64 b) := (unhide HBn).cell 2
   replace HBI := HBn
   replace HW := hide hL
   replace HM := hide ((unhide HM).trans mm (fun _ _ e => e))
   clear hr h1 h2 hL mm HBn
   go_wp2_with fail
   refine (lk_leave 0 p vc m s2 w0 _ bl pre (unhide HW) (tyOk_low _ (by omega) (by omega)) h8).mono ?_
   rintro e w3 ⟨h1, h2, mm⟩
   cases hr : leaveS m 0 s2 with
   | none =>
    obtain rfl := h2 hr
    have HN : Hid (doS p m ⟨3, a, b⟩ s = none) := by show _ = _; rw [unhide HT2, hr] <;> rfl
    have HMn := hide ((unhide HM).trans mm (fun _ _ e => e))
    clear hr h1 h2
    go_wp2_with fail
    exact ⟨rfl, fun s' e => (by rw [unhide HN] at e; cases e), fun _ => rfl, unhide HMn⟩
   | some s3 =>
    obtain ⟨rfl, hL⟩ := h1 s3 hr
    have HN : Hid (doS p m ⟨3, a, b⟩ s = some s3) := by show _ = _; rw [unhide HT2, hr] <;> rfl
    have HL := hide hL
    have HMn := hide ((unhide HM).trans mm (fun _ _ e => e))
    clear hr h1 h2
    go_wp2_with fail
    go_end0
    refine ⟨fun s' e => ?_, fun e => (by rw [unhide HN] at e; cases e), unhide HMn⟩
    rw [unhide HN] at e
    simp only [Option.some.injEq] at e
    subst e
    exact ⟨rfl, unhide HL⟩

set_option maxHeartbeats 1000000 in
set_option maxRecDepth 100000 in
theorem do_4 (a b : Int) (p : List LClass) (vc : Value) (m : LMeth) (s : TSt) (w0 w : World) (bl : Nat) (pre : List Value) (h : LkC w0 w bl p vc m pre s) (hs : SupOk p p.length) (hz : szProg p ≤ 4194304) (h8 : m.stack ≤ 8) :
  Calls Tryz.prog 156 #[.pointer (some ⟨bl, 0, none⟩), .agg #[.int .i64 4, .int .i64 a, .int .i64 b]] w fun e w' => DoR p m ⟨4, a, b⟩ s w0 w w' bl vc pre e := by
 have _hpl : p.length ≤ 4194304 := (fun (_ : SupOk p p.length) (_ : m.stack ≤ 8) => Nat.le_trans (szProg_len p) hz) hs h8
 have hbl := h.lk.lt
 have HW := hide (h.below (box_below w (.cells #[.int .i64 4, .int .i64 a, .int .i64 b] 60)))
 have hBI := Blk.new w #[.int .i64 4, .int .i64 a, .int .i64 b] 60
 have HM := hide (bnone (S := fun k => k = bl) (box_below w (.cells #[.int .i64 4, .int .i64 a, .int .i64 b] 60)))
 have HT0 : Hid (doS p m ⟨4, a, b⟩ s = (wantS p 0 s).bind fun s => (wantS p 0 s).bind (leaveS m 0)) := rfl
 unfold DoR
 go_enter Tryz.func156, Tryz.ntmps156
 go_wp2_with fail
 generalize w.alloc _ = W at *
 have HBI := hide hBI
 have r0 : W.cell? ⟨w.heap.size, 0, none⟩ = some (.int .i64 4) := hBI.cell 0
 have r1 : W.cell? ⟨w.heap.size, 1, none⟩ = some (.int .i64 a) := hBI.cell 1
 have r2 : W.cell? ⟨w.heap.size, 2, none⟩ = some (.int .i64 b) := hBI.cell 2
 have hne : w.heap.size ≠ bl := by omega
 clear hBI h
 refine (lk_want 0 p vc m s w0 _ bl pre (unhide HW) hs _hpl (tyOk_low _ (by omega) (by omega))).mono ?_
 rintro e w1 ⟨h1, h2, mm⟩
 cases hr : wantS p 0 s with
 | none =>
  obtain rfl := h2 hr
  have HN : Hid (doS p m ⟨4, a, b⟩ s = none) := by show _ = _; rw [unhide HT0, hr] <;> rfl
  have HMn := hide ((unhide HM).trans mm (fun _ _ e => e))
  clear hr h1 h2
  go_wp2_with fail
  exact ⟨rfl, fun s' e => (by rw [unhide HN] at e; cases e), fun _ => rfl, unhide HMn⟩
 | some s1 =>
  obtain ⟨rfl, hL⟩ := h1 s1 hr
  have HT1 : Hid (doS p m ⟨4, a, b⟩ s = (wantS p 0 s1).bind (leaveS m 0)) := by show _ = _; rw [unhide HT0, hr] <;> rfl
  have HBn := hide ((unhide HBI).mods mm hne)
  replace r1 : w1.cell? ⟨w.heap.size, 1, none⟩ = some (.int .i64 a) := (unhide HBn).cell 1
  replace r2 : w1.cell? ⟨w.heap.size, 2, none⟩ = some (.int .i64 b) := (unhide HBn).cell 2
  replace HBI := HBn
  replace HW := hide hL
  replace HM := hide ((unhide HM).trans mm (fun _ _ e => e))
  clear hr h1 h2 hL mm HBn r0
  go_wp2_with fail
  refine (lk_want 0 p vc m s1 w0 _ bl pre (unhide HW) hs _hpl (tyOk_low _ (by omega) (by omega))).mono ?_
  rintro e w2 ⟨h1, h2, mm⟩
  cases hr : wantS p 0 s1 with
  | none =>
   obtain rfl := h2 hr
   have HN : Hid (doS p m ⟨4, a, b⟩ s = none) := by show _ = _; rw [unhide HT1, hr] <;> rfl
   have HMn := hide ((unhide HM).trans mm (fun _ _ e => e))
   clear hr h1 h2
   go_wp2_with fail
   exact ⟨rfl, fun s' e => (by rw [unhide HN] at e; cases e), fun _ => rfl, unhide HMn⟩
  | some s2 =>
   obtain ⟨rfl, hL⟩ := h1 s2 hr
   have HT2 : Hid (doS p m ⟨4, a, b⟩ s = leaveS m 0 s2) := by show _ = _; rw [unhide HT1, hr] <;> rfl
   have HBn := hide ((unhide HBI).mods mm hne)
   replace r1 : w2.cell? ⟨w.heap.size, 1, none⟩ = some (.int .i64 a) := (unhide HBn).cell 1
   replace r2 : w2.cell? ⟨w.heap.size, 2, none⟩ = some (.int .i64 b) := (unhide HBn).cell 2
   replace HBI := HBn
   replace HW := hide hL
   replace HM := hide ((unhide HM).trans mm (fun _ _ e => e))
   clear hr h1 h2 hL mm HBn
   go_wp2_with fail
   refine (lk_leave 0 p vc m s2 w0 _ bl pre (unhide HW) (tyOk_low _ (by omega) (by omega)) h8).mono ?_
   rintro e w3 ⟨h1, h2, mm⟩
   cases hr : leaveS m 0 s2 with
   | none =>
    obtain rfl := h2 hr
    have HN : Hid (doS p m ⟨4, a, b⟩ s = none) := by show _ = _; rw [unhide HT2, hr] <;> rfl
    have HMn := hide ((unhide HM).trans mm (fun _ _ e => e))
    clear hr h1 h2
    go_wp2_with fail
    exact ⟨rfl, fun s' e => (by rw [unhide HN] at e; cases e), fun _ => rfl, unhide HMn⟩
   | some s3 =>
    obtain ⟨rfl, hL⟩ := h1 s3 hr
    have HN : Hid (doS p m ⟨4, a, b⟩ s = some s3) := by show _ = _; rw [unhide HT2, hr] <;> rfl
    have HL := hide hL
    have HMn := hide ((unhide HM).trans mm (fun _ _ e => e))
    clear hr h1 h2
    go_wp2_with fail
    go_end0
    refine ⟨fun s' e => ?_, fun e => (by rw [unhide HN] at e; cases e), unhide HMn⟩
    rw [unhide HN] at e
    simp only [Option.some.injEq] at e
    subst e
    exact ⟨rfl, unhide HL⟩

set_option maxHeartbeats 1000000 in
set_option maxRecDepth 100000 in
theorem do_5 (a b : Int) (p : List LClass) (vc : Value) (m : LMeth) (s : TSt) (w0 w : World) (bl : Nat) (pre : List Value) (h : LkC w0 w bl p vc m pre s) (hs : SupOk p p.length) (hz : szProg p ≤ 4194304) (h8 : m.stack ≤ 8) :
  Calls Tryz.prog 156 #[.pointer (some ⟨bl, 0, none⟩), .agg #[.int .i64 5, .int .i64 a, .int .i64 b]] w fun e w' => DoR p m ⟨5, a, b⟩ s w0 w w' bl vc pre e := by
 have _hpl : p.length ≤ 4194304 := (fun (_ : SupOk p p.length) (_ : m.stack ≤ 8) => Nat.le_trans (szProg_len p) hz) hs h8
 have hbl := h.lk.lt
 have HW := hide (h.below (box_below w (.cells #[.int .i64 5, .int .i64 a, .int .i64 b] 60)))
 have hBI := Blk.new w #[.int .i64 5, .int .i64 a, .int .i64 b] 60
 have HM := hide (bnone (S := fun k => k = bl) (box_below w (.cells #[.int .i64 5, .int .i64 a, .int .i64 b] 60)))
 have HT0 : Hid (doS p m ⟨5, a, b⟩ s = (wantS p 0 s).bind fun s => (wantS p 0 s).bind (leaveS m 0)) := rfl
 unfold DoR
 go_enter Tryz.func156, Tryz.ntmps156
 go_wp2_with fail
 generalize w.alloc _ = W at *
 have HBI := hide hBI
 have r0 : W.cell? ⟨w.heap.size, 0, none⟩ = some (.int .i64 5) := hBI.cell 0
 have r1 : W.cell? ⟨w.heap.size, 1, none⟩ = some (.int .i64 a) := hBI.cell 1
 have r2 : W.cell? ⟨w.heap.size, 2, none⟩ = some (.int .i64 b) := hBI.cell 2
 have hne : w.heap.size ≠ bl := by omega
 clear hBI h
 refine (lk_want 0 p vc m s w0 _ bl pre (unhide HW) hs _hpl (tyOk_low _ (by omega) (by omega))).mono ?_
 rintro e w1 ⟨h1, h2, mm⟩
 cases hr : wantS p 0 s with
 | none =>
  obtain rfl := h2 hr
  have HN : Hid (doS p m ⟨5, a, b⟩ s = none) := by show _ = _; rw [unhide HT0, hr] <;> rfl
  have HMn := hide ((unhide HM).trans mm (fun _ _ e => e))
  clear hr h1 h2
  go_wp2_with fail
  exact ⟨rfl, fun s' e => (by rw [unhide HN] at e; cases e), fun _ => rfl, unhide HMn⟩
 | some s1 =>
  obtain ⟨rfl, hL⟩ := h1 s1 hr
  have HT1 : Hid (doS p m ⟨5, a, b⟩ s = (wantS p 0 s1).bind (leaveS m 0)) := by show _ = _; rw [unhide HT0, hr] <;> rfl
  have HBn := hide ((unhide HBI).mods mm hne)
  replace r1 : w1.cell? ⟨w.heap.size, 1, none⟩ = some (.int .i64 a) := (unhide HBn).cell 1
  replace r2 : w1.cell? ⟨w.heap.size, 2, none⟩ = some (.int .i64 b) := (unhide HBn).cell 2
  replace HBI := HBn
  replace HW := hide hL
  replace HM := hide ((unhide HM).trans mm (fun _ _ e => e))
  clear hr h1 h2 hL mm HBn r0
  go_wp2_with fail
  refine (lk_want 0 p vc m s1 w0 _ bl pre (unhide HW) hs _hpl (tyOk_low _ (by omega) (by omega))).mono ?_
  rintro e w2 ⟨h1, h2, mm⟩
  cases hr : wantS p 0 s1 with
  | none =>
   obtain rfl := h2 hr
   have HN : Hid (doS p m ⟨5, a, b⟩ s = none) := by show _ = _; rw [unhide HT1, hr] <;> rfl
   have HMn := hide ((unhide HM).trans mm (fun _ _ e => e))
   clear hr h1 h2
   go_wp2_with fail
   exact ⟨rfl, fun s' e => (by rw [unhide HN] at e; cases e), fun _ => rfl, unhide HMn⟩
  | some s2 =>
   obtain ⟨rfl, hL⟩ := h1 s2 hr
   have HT2 : Hid (doS p m ⟨5, a, b⟩ s = leaveS m 0 s2) := by show _ = _; rw [unhide HT1, hr] <;> rfl
   have HBn := hide ((unhide HBI).mods mm hne)
   replace r1 : w2.cell? ⟨w.heap.size, 1, none⟩ = some (.int .i64 a) := (unhide HBn).cell 1
   replace r2 : w2.cell? ⟨w.heap.size, 2, none⟩ = some (.int .i64 b) := (unhide HBn).cell 2
   replace HBI := HBn
   replace HW := hide hL
   replace HM := hide ((unhide HM).trans mm (fun _ _ e => e))
   clear hr h1 h2 hL mm HBn
   go_wp2_with fail
   refine (lk_leave 0 p vc m s2 w0 _ bl pre (unhide HW) (tyOk_low _ (by omega) (by omega)) h8).mono ?_
   rintro e w3 ⟨h1, h2, mm⟩
   cases hr : leaveS m 0 s2 with
   | none =>
    obtain rfl := h2 hr
    have HN : Hid (doS p m ⟨5, a, b⟩ s = none) := by show _ = _; rw [unhide HT2, hr] <;> rfl
    have HMn := hide ((unhide HM).trans mm (fun _ _ e => e))
    clear hr h1 h2
    go_wp2_with fail
    exact ⟨rfl, fun s' e => (by rw [unhide HN] at e; cases e), fun _ => rfl, unhide HMn⟩
   | some s3 =>
    obtain ⟨rfl, hL⟩ := h1 s3 hr
    have HN : Hid (doS p m ⟨5, a, b⟩ s = some s3) := by show _ = _; rw [unhide HT2, hr] <;> rfl
    have HL := hide hL
    have HMn := hide ((unhide HM).trans mm (fun _ _ e => e))
    clear hr h1 h2
    go_wp2_with fail
    go_end0
    refine ⟨fun s' e => ?_, fun e => (by rw [unhide HN] at e; cases e), unhide HMn⟩
    rw [unhide HN] at e
    simp only [Option.some.injEq] at e
    subst e
    exact ⟨rfl, unhide HL⟩

set_option maxHeartbeats 1000000 in
set_option maxRecDepth 100000 in
theorem do_6 (a b : Int) (p : List LClass) (vc : Value) (m : LMeth) (s : TSt) (w0 w : World) (bl : Nat) (pre : List Value) (h : LkC w0 w bl p vc m pre s) (hs : SupOk p p.length) (hz : szProg p ≤ 4194304) (h8 : m.stack ≤ 8) :
  Calls Tryz.prog 156 #[.pointer (some ⟨bl, 0, none⟩), .agg #[.int .i64 6, .int .i64 a, .int .i64 b]] w fun e w' => DoR p m ⟨6, a, b⟩ s w0 w w' bl vc pre e := by
 have _hpl : p.length ≤ 4194304 := (fun (_ : SupOk p p.length) (_ : m.stack ≤ 8) => Nat.le_trans (szProg_len p) hz) hs h8
 have hbl := h.lk.lt
 have HW := hide (h.below (box_below w (.cells #[.int .i64 6, .int .i64 a, .int .i64 b] 60)))
 have hBI := Blk.new w #[.int .i64 6, .int .i64 a, .int .i64 b] 60
 have HM := hide (bnone (S := fun k => k = bl) (box_below w (.cells #[.int .i64 6, .int .i64 a, .int .i64 b] 60)))
 have HT0 : Hid (doS p m ⟨6, a, b⟩ s = (wantS p 0 s).bind fun s => (wantS p 0 s).bind (leaveS m 0)) := rfl
 unfold DoR
 go_enter Tryz.func156, Tryz.ntmps156
 go_wp2_with fail
 generalize w.alloc _ = W at *
 have HBI := hide hBI
 have r0 : W.cell? ⟨w.heap.size, 0, none⟩ = some (.int .i64 6) := hBI.cell 0
 have r1 : W.cell? ⟨w.heap.size, 1, none⟩ = some (.int .i64 a) := hBI.cell 1
 have r2 : W.cell? ⟨w.heap.size, 2, none⟩ = some (.int .i64 b) := hBI.cell 2
 have hne : w.heap.size ≠ bl := by omega
 clear hBI h
 refine (lk_want 0 p vc m s w0 _ bl pre (unhide HW) hs _hpl (tyOk_low _ (by omega) (by omega))).mono ?_
 rintro e w1 ⟨h1, h2, mm⟩
 cases hr : wantS p 0 s with
 | none =>
  obtain rfl := h2 hr
  have HN : Hid (doS p m ⟨6, a, b⟩ s = none) := by show _ = _; rw [unhide HT0, hr] <;> rfl
  have HMn := hide ((unhide HM).trans mm (fun _ _ e => e))
  clear hr h1 h2
  go_wp2_with fail
  exact ⟨rfl, fun s' e => (by rw [unhide HN] at e; cases e), fun _ => rfl, unhide HMn⟩
 | some s1 =>
  obtain ⟨rfl, hL⟩ := h1 s1 hr
  have HT1 : Hid (doS p m ⟨6, a, b⟩ s = (wantS p 0 s1).bind (leaveS m 0)) := by show _ = _; rw [unhide HT0, hr] <;> rfl
  have HBn := hide ((unhide HBI).mods mm hne)
  replace r1 : w1.cell? ⟨w.heap.size, 1, none⟩ = some (.int .i64 a) := (unhide HBn).cell 1
  replace r2 : w1.cell? ⟨w.heap.size, 2, none⟩ = some (.int .i64 b) := (unhide HBn).cell 2
  replace HBI := HBn
  replace HW := hide hL
  replace HM := hide ((unhide HM).trans mm (fun _ _ e => e))
  clear hr h1 h2 hL mm HBn r0
  go_wp2_with fail
  refine (lk_want 0 p vc m s1 w0 _ bl pre (unhide HW) hs _hpl (tyOk_low _ (by omega) (by omega))).mono ?_
  rintro e w2 ⟨h1, h2, mm⟩
  cases hr : wantS p 0 s1 with
  | none =>
   obtain rfl := h2 hr
   have HN : Hid (doS p m ⟨6, a, b⟩ s = none) := by show _ = _; rw [unhide HT1, hr] <;> rfl
   have HMn := hide ((unhide HM).trans mm (fun _ _ e => e))
   clear hr h1 h2
   go_wp2_with fail
   exact ⟨rfl, fun s' e => (by rw [unhide HN] at e; cases e), fun _ => rfl, unhide HMn⟩
  | some s2 =>
   obtain ⟨rfl, hL⟩ := h1 s2 hr
   have HT2 : Hid (doS p m ⟨6, a, b⟩ s = leaveS m 0 s2) := by show _ = _; rw [unhide HT1, hr] <;> rfl
   have HBn := hide ((unhide HBI).mods mm hne)
   replace r1 : w2.cell? ⟨w.heap.size, 1, none⟩ = some (.int .i64 a) := (unhide HBn).cell 1
   replace r2 : w2.cell? ⟨w.heap.size, 2, none⟩ = some (.int .i64 b) := (unhide HBn).cell 2
   replace HBI := HBn
   replace HW := hide hL
   replace HM := hide ((unhide HM).trans mm (fun _ _ e => e))
   clear hr h1 h2 hL mm HBn
   go_wp2_with fail
   refine (lk_leave 0 p vc m s2 w0 _ bl pre (unhide HW) (tyOk_low _ (by omega) (by omega)) h8).mono ?_
   rintro e w3 ⟨h1, h2, mm⟩
   cases hr : leaveS m 0 s2 with
   | none =>
    obtain rfl := h2 hr
    have HN : Hid (doS p m ⟨6, a, b⟩ s = none) := by show _ = _; rw [unhide HT2, hr] <;> rfl
    have HMn := hide ((unhide HM).trans mm (fun _ _ e => e))
    clear hr h1 h2
    go_wp2_with fail
    exact ⟨rfl, fun s' e => (by rw [unhide HN] at e; cases e), fun _ => rfl, unhide HMn⟩
   | some s3 =>
    obtain ⟨rfl, hL⟩ := h1 s3 hr
    have HN : Hid (doS p m ⟨6, a, b⟩ s = some s3) := by show _ = _; rw [unhide HT2, hr] <;> rfl
    have HL := hide hL
    have HMn := hide ((unhide HM).trans mm (fun _ _ e => e))
    clear hr h1 h2
    go_wp2_with fail
    go_end0
    refine ⟨fun s' e => ?_, fun e => (by rw [unhide HN] at e; cases e), unhide HMn⟩
    rw [unhide HN] at e
    simp only [Option.some.injEq] at e
    subst e
    exact ⟨rfl, unhide HL⟩

set_option maxHeartbeats 1000000 in
set_option maxRecDepth 100000 in
theorem do_8 (a b : Int) (p : List LClass) (vc : Value) (m : LMeth) (s : TSt) (w0 w : World) (bl : Nat) (pre : List Value) (h : LkC w0 w bl p vc m pre s) (hs : SupOk p p.length) (hz : szProg p ≤ 4194304) (h8 : m.stack ≤ 8) :
  Calls Tryz.prog 156 #[.pointer (some ⟨bl, 0, none⟩), .agg #[.int .i64 8, .int .i64 a, .int .i64 b]] w fun e w' => DoR p m ⟨8, a, b⟩ s w0 w w' bl vc pre e := by
 have _hpl : p.length ≤ 4194304 := (fun (_ : SupOk p p.length) (_ : m.stack ≤ 8) => Nat.le_trans (szProg_len p) hz) hs h8
 have hbl := h.lk.lt
 have HW := hide (h.below (box_below w (.cells #[.int .i64 8, .int .i64 a, .int .i64 b] 60)))
 have hBI := Blk.new w #[.int .i64 8, .int .i64 a, .int .i64 b] 60
 have HM := hide (bnone (S := fun k => k = bl) (box_below w (.cells #[.int .i64 8, .int .i64 a, .int .i64 b] 60)))
 have HT0 : Hid (doS p m ⟨8, a, b⟩ s = wantS p 0 s) := rfl
 unfold DoR
 go_enter Tryz.func156, Tryz.ntmps156
 go_wp2_with fail
 generalize w.alloc _ = W at *
 have HBI := hide hBI
 have r0 : W.cell? ⟨w.heap.size, 0, none⟩ = some (.int .i64 8) := hBI.cell 0
 have r1 : W.cell? ⟨w.heap.size, 1, none⟩ = some (.int .i64 a) := hBI.cell 1
 have r2 : W.cell? ⟨w.heap.size, 2, none⟩ = some (.int .i64 b) := hBI.cell 2
 have hne : w.heap.size ≠ bl := by omega
 clear hBI h
 refine (lk_want 0 p vc m s w0 _ bl pre (unhide HW) hs _hpl (tyOk_low _ (by omega) (by omega))).mono ?_
 rintro e w1 ⟨h1, h2, mm⟩
 cases hr : wantS p 0 s with
 | none =>
  obtain rfl := h2 hr
  have HN : Hid (doS p m ⟨8, a, b⟩ s = none) := by show _ = _; rw [unhide HT0, hr] <;> rfl
  have HMn := hide ((unhide HM).trans mm (fun _ _ e => e))
  clear hr h1 h2
  go_wp2_with fail
  exact ⟨rfl, fun s' e => (by rw [unhide HN] at e; cases e), fun _ => rfl, unhide HMn⟩
 | some s1 =>
  obtain ⟨rfl, hL⟩ := h1 s1 hr
  have HN : Hid (doS p m ⟨8, a, b⟩ s = some s1) := by show _ = _; rw [unhide HT0, hr] <;> rfl
  have HL := hide hL
  have HMn := hide ((unhide HM).trans mm (fun _ _ e => e))
  clear hr h1 h2
  go_wp2_with fail
  go_end0
  refine ⟨fun s' e => ?_, fun e => (by rw [unhide HN] at e; cases e), unhide HMn⟩
  rw [unhide HN] at e
  simp only [Option.some.injEq] at e
  subst e
  exact ⟨rfl, unhide HL⟩

set_option maxHeartbeats 1000000 in
set_option maxRecDepth 100000 in
theorem do_19 (a b : Int) (p : List LClass) (vc : Value) (m : LMeth) (s : TSt) (w0 w : World) (bl : Nat) (pre : List Value) (h : LkC w0 w bl p vc m pre s) (hs : SupOk p p.length) (hz : szProg p ≤ 4194304) (h8 : m.stack ≤ 8) :
  Calls Tryz.prog 156 #[.pointer (some ⟨bl, 0, none⟩), .agg #[.int .i64 19, .int .i64 a, .int .i64 b]] w fun e w' => DoR p m ⟨19, a, b⟩ s w0 w w' bl vc pre e := by
 have _hpl : p.length ≤ 4194304 := (fun (_ : SupOk p p.length) (_ : m.stack ≤ 8) => Nat.le_trans (szProg_len p) hz) hs h8
 have hbl := h.lk.lt
 have HW := hide (h.below (box_below w (.cells #[.int .i64 19, .int .i64 a, .int .i64 b] 60)))
 have hBI := Blk.new w #[.int .i64 19, .int .i64 a, .int .i64 b] 60
 have HM := hide (bnone (S := fun k => k = bl) (box_below w (.cells #[.int .i64 19, .int .i64 a, .int .i64 b] 60)))
 have HT0 : Hid (doS p m ⟨19, a, b⟩ s = wantS p 0 s) := rfl
 unfold DoR
 go_enter Tryz.func156, Tryz.ntmps156
 go_wp2_with fail
 generalize w.alloc _ = W at *
 have HBI := hide hBI
 have r0 : W.cell? ⟨w.heap.size, 0, none⟩ = some (.int .i64 19) := hBI.cell 0
 have r1 : W.cell? ⟨w.heap.size, 1, none⟩ = some (.int .i64 a) := hBI.cell 1
 have r2 : W.cell? ⟨w.heap.size, 2, none⟩ = some (.int .i64 b) := hBI.cell 2
 have hne : w.heap.size ≠ bl := by omega
 clear hBI h
 refine (lk_want 0 p vc m s w0 _ bl pre (unhide HW) hs _hpl (tyOk_low _ (by omega) (by omega))).mono ?_
 rintro e w1 ⟨h1, h2, mm⟩
 cases hr : wantS p 0 s with
 | none =>
  obtain rfl := h2 hr
  have HN : Hid (doS p m ⟨19, a, b⟩ s = none) := by show _ = _; rw [unhide HT0, hr] <;> rfl
  have HMn := hide ((unhide HM).trans mm (fun _ _ e => e))
  clear hr h1 h2
  go_wp2_with fail
  exact ⟨rfl, fun s' e => (by rw [unhide HN] at e; cases e), fun _ => rfl, unhide HMn⟩
 | some s1 =>
  obtain ⟨rfl, hL⟩ := h1 s1 hr
  have HN : Hid (doS p m ⟨19, a, b⟩ s = some s1) := by show _ = _; rw [unhide HT0, hr] <;> rfl
  have HL := hide hL
  have HMn := hide ((unhide HM).trans mm (fun _ _ e => e))
  clear hr h1 h2
  go_wp2_with fail
  go_end0
  refine ⟨fun s' e => ?_, fun e => (by rw [unhide HN] at e; cases e), unhide HMn⟩
  rw [unhide HN] at e
  simp only [Option.some.injEq] at e
  subst e
  exact ⟨rfl, unhide HL⟩

set_option maxHeartbeats 1000000 in
set_option maxRecDepth 100000 in
theorem do_9 (a b : Int) (p : List LClass) (vc : Value) (m : LMeth) (s : TSt) (w0 w : World) (bl : Nat) (pre : List Value) (h : LkC w0 w bl p vc m pre s) (hs : SupOk p p.length) (hz : szProg p ≤ 4194304) (h8 : m.stack ≤ 8) (ha0 : 0 ≤ a) (ha1 : a < (p.length : Int)) :
  Calls Tryz.prog 156 #[.pointer (some ⟨bl, 0, none⟩), .agg #[.int .i64 9, .int .i64 a, .int .i64 b]] w fun e w' => DoR p m ⟨9, a, b⟩ s w0 w w' bl vc pre e := by
 have _hpl : p.length ≤ 4194304 := (fun (_ : SupOk p p.length) (_ : m.stack ≤ 8) => Nat.le_trans (szProg_len p) hz) hs h8
 have hbl := h.lk.lt
 have HW := hide (h.below (box_below w (.cells #[.int .i64 9, .int .i64 a, .int .i64 b] 60)))
 have hBI := Blk.new w #[.int .i64 9, .int .i64 a, .int .i64 b] 60
 have HM := hide (bnone (S := fun k => k = bl) (box_below w (.cells #[.int .i64 9, .int .i64 a, .int .i64 b] 60)))
 have HT0 : Hid (doS p m ⟨9, a, b⟩ s = leaveS m (a + 3) s) := rfl
 unfold DoR
 go_enter Tryz.func156, Tryz.ntmps156
 go_wp2_with fail
 generalize w.alloc _ = W at *
 have HBI := hide hBI
 have r0 : W.cell? ⟨w.heap.size, 0, none⟩ = some (.int .i64 9) := hBI.cell 0
 have r1 : W.cell? ⟨w.heap.size, 1, none⟩ = some (.int .i64 a) := hBI.cell 1
 have r2 : W.cell? ⟨w.heap.size, 2, none⟩ = some (.int .i64 b) := hBI.cell 2
 have hne : w.heap.size ≠ bl := by omega
 clear hBI h
 refine (code_of a (by omega) (by omega) _).mono ?_
 rintro e w' ⟨rfl, rfl⟩
 go_wp2_with fail
 refine (lk_leave (a + 3) p vc m s w0 _ bl pre (unhide HW) (tyOk_cls ha0 ha1) h8).mono ?_
 rintro e w1 ⟨h1, h2, mm⟩
 cases hr : leaveS m (a + 3) s with
 | none =>
  obtain rfl := h2 hr
  have HN : Hid (doS p m ⟨9, a, b⟩ s = none) := by show _ = _; rw [unhide HT0, hr] <;> rfl
  have HMn := hide ((unhide HM).trans mm (fun _ _ e => e))
  clear hr h1 h2
  go_wp2_with fail
  exact ⟨rfl, fun s' e => (by rw [unhide HN] at e; cases e), fun _ => rfl, unhide HMn⟩
 | some s1 =>
  obtain ⟨rfl, hL⟩ := h1 s1 hr
  have HN : Hid (doS p m ⟨9, a, b⟩ s = some s1) := by show _ = _; rw [unhide HT0, hr] <;> rfl
  have HL := hide hL
  have HMn := hide ((unhide HM).trans mm (fun _ _ e => e))
  clear hr h1 h2
  go_wp2_with fail
  go_end0
  refine ⟨fun s' e => ?_, fun e => (by rw [unhide HN] at e; cases e), unhide HMn⟩
  rw [unhide HN] at e
  simp only [Option.some.injEq] at e
  subst e
  exact ⟨rfl, unhide HL⟩

set_option maxHeartbeats 1000000 in
set_option maxRecDepth 100000 in
theorem do_12 (a b : Int) (p : List LClass) (vc : Value) (m : LMeth) (s : TSt) (w0 w : World) (bl : Nat) (pre : List Value) (h : LkC w0 w bl p vc m pre s) (hs : SupOk p p.length) (hz : szProg p ≤ 4194304) (h8 : m.stack ≤ 8) (ha0 : 0 ≤ a) (ha1 : a < (p.length : Int)) (hmo : (methOf p a b).isSome = true) (hty : ∀ x ∈ (findM p a b).args, tyOk p.length x) (hret : tyOk p.length (findM p a b).ret) :
  Calls Tryz.prog 156 #[.pointer (some ⟨bl, 0, none⟩), .agg #[.int .i64 12, .int .i64 a, .int .i64 b]] w fun e w' => DoR p m ⟨12, a, b⟩ s w0 w w' bl vc pre e := by
 have _hpl : p.length ≤ 4194304 := (fun (_ : SupOk p p.length) (_ : m.stack ≤ 8) => Nat.le_trans (szProg_len p) hz) hs h8
 have hbl := h.lk.lt
 have HW := hide (h.below (box_below w (.cells #[.int .i64 12, .int .i64 a, .int .i64 b] 60)))
 have hBI := Blk.new w #[.int .i64 12, .int .i64 a, .int .i64 b] 60
 have HM := hide (bnone (S := fun k => k = bl) (box_below w (.cells #[.int .i64 12, .int .i64 a, .int .i64 b] 60)))
 have HT0 : Hid (doS p m ⟨12, a, b⟩ s = callS p m a b s) := rfl
 unfold DoR
 go_enter Tryz.func156, Tryz.ntmps156
 go_wp2_with fail
 generalize w.alloc _ = W at *
 have HBI := hide hBI
 have r0 : W.cell? ⟨w.heap.size, 0, none⟩ = some (.int .i64 12) := hBI.cell 0
 have r1 : W.cell? ⟨w.heap.size, 1, none⟩ = some (.int .i64 a) := hBI.cell 1
 have r2 : W.cell? ⟨w.heap.size, 2, none⟩ = some (.int .i64 b) := hBI.cell 2
 have hne : w.heap.size ≠ bl := by omega
 clear hBI h
 refine (lk_call 12 a b p vc m s w0 _ bl pre (unhide HW) hs hz h8 ha0 ha1 hmo hty hret).mono ?_
 rintro e w1 ⟨h1, h2, mm⟩
 cases hr : callS p m a b s with
 | none =>
  obtain rfl := h2 hr
  have HN : Hid (doS p m ⟨12, a, b⟩ s = none) := by show _ = _; rw [unhide HT0, hr] <;> rfl
  have HMn := hide ((unhide HM).trans mm (fun _ _ e => e))
  clear hr h1 h2
  go_wp2_with fail
  exact ⟨rfl, fun s' e => (by rw [unhide HN] at e; cases e), fun _ => rfl, unhide HMn⟩
 | some s1 =>
  obtain ⟨rfl, hL⟩ := h1 s1 hr
  have HN : Hid (doS p m ⟨12, a, b⟩ s = some s1) := by show _ = _; rw [unhide HT0, hr] <;> rfl
  have HL := hide hL
  have HMn := hide ((unhide HM).trans mm (fun _ _ e => e))
  clear hr h1 h2
  go_wp2_with fail
  go_end0
  refine ⟨fun s' e => ?_, fun e => (by rw [unhide HN] at e; cases e), unhide HMn⟩
  rw [unhide HN] at e
  simp only [Option.some.injEq] at e
  subst e
  exact ⟨rfl, unhide HL⟩

set_option maxHeartbeats 1000000 in
set_option maxRecDepth 100000 in
theorem do_13 (a b : Int) (p : List LClass) (vc : Value) (m : LMeth) (s : TSt) (w0 w : World) (bl : Nat) (pre : List Value) (h : LkC w0 w bl p vc m pre s) (hs : SupOk p p.length) (hz : szProg p ≤ 4194304) (h8 : m.stack ≤ 8) (hrt : tyOk p.length m.ret) :
  Calls Tryz.prog 156 #[.pointer (some ⟨bl, 0, none⟩), .agg #[.int .i64 13, .int .i64 a, .int .i64 b]] w fun e w' => DoR p m ⟨13, a, b⟩ s w0 w w' bl vc pre e := by
 have _hpl : p.length ≤ 4194304 := (fun (_ : SupOk p p.length) (_ : m.stack ≤ 8) => Nat.le_trans (szProg_len p) hz) hs h8
 have hbl := h.lk.lt
 have HW := hide (h.below (box_below w (.cells #[.int .i64 13, .int .i64 a, .int .i64 b] 60)))
 have hBI := Blk.new w #[.int .i64 13, .int .i64 a, .int .i64 b] 60
 have HM := hide (bnone (S := fun k => k = bl) (box_below w (.cells #[.int .i64 13, .int .i64 a, .int .i64 b] 60)))
 have HT0 : Hid (doS p m ⟨13, a, b⟩ s = wantS p m.ret s) := rfl
 have r3 := (unhide HW).cell (by omega) (unhide HW).p3
 unfold DoR
 go_enter Tryz.func156, Tryz.ntmps156
 go_wp2_with fail
 generalize w.alloc _ = W at *
 have HBI := hide hBI
 have r0 : W.cell? ⟨w.heap.size, 0, none⟩ = some (.int .i64 13) := hBI.cell 0
 have r1 : W.cell? ⟨w.heap.size, 1, none⟩ = some (.int .i64 a) := hBI.cell 1
 have r2 : W.cell? ⟨w.heap.size, 2, none⟩ = some (.int .i64 b) := hBI.cell 2
 have hne : w.heap.size ≠ bl := by omega
 clear hBI h
 refine (lk_want m.ret p vc m s w0 _ bl pre (unhide HW) hs _hpl hrt).mono ?_
 rintro e w1 ⟨h1, h2, mm⟩
 cases hr : wantS p m.ret s with
 | none =>
  obtain rfl := h2 hr
  have HN : Hid (doS p m ⟨13, a, b⟩ s = none) := by show _ = _; rw [unhide HT0, hr] <;> rfl
  have HMn := hide ((unhide HM).trans mm (fun _ _ e => e))
  clear hr h1 h2
  go_wp2_with fail
  exact ⟨rfl, fun s' e => (by rw [unhide HN] at e; cases e), fun _ => rfl, unhide HMn⟩
 | some s1 =>
  obtain ⟨rfl, hL⟩ := h1 s1 hr
  have HN : Hid (doS p m ⟨13, a, b⟩ s = some s1) := by show _ = _; rw [unhide HT0, hr] <;> rfl
  have HL := hide hL
  have HMn := hide ((unhide HM).trans mm (fun _ _ e => e))
  clear hr h1 h2
  go_wp2_with fail
  go_end0
  refine ⟨fun s' e => ?_, fun e => (by rw [unhide HN] at e; cases e), unhide HMn⟩
  rw [unhide HN] at e
  simp only [Option.some.injEq] at e
  subst e
  exact ⟨rfl, unhide HL⟩

set_option maxHeartbeats 1000000 in
set_option maxRecDepth 100000 in
theorem do_14 (a b : Int) (p : List LClass) (vc : Value) (m : LMeth) (s : TSt) (w0 w : World) (bl : Nat) (pre : List Value) (h : LkC w0 w bl p vc m pre s) (hs : SupOk p p.length) (hz : szProg p ≤ 4194304) (h8 : m.stack ≤ 8) :
  Calls Tryz.prog 156 #[.pointer (some ⟨bl, 0, none⟩), .agg #[.int .i64 14, .int .i64 a, .int .i64 b]] w fun e w' => DoR p m ⟨14, a, b⟩ s w0 w w' bl vc pre e := by
 have _hpl : p.length ≤ 4194304 := (fun (_ : SupOk p p.length) (_ : m.stack ≤ 8) => Nat.le_trans (szProg_len p) hz) hs h8
 have hbl := h.lk.lt
 have HW := hide (h.below (box_below w (.cells #[.int .i64 14, .int .i64 a, .int .i64 b] 60)))
 have hBI := Blk.new w #[.int .i64 14, .int .i64 a, .int .i64 b] 60
 have HM := hide (bnone (S := fun k => k = bl) (box_below w (.cells #[.int .i64 14, .int .i64 a, .int .i64 b] 60)))
 have HT0 : Hid (doS p m ⟨14, a, b⟩ s = (takeS s).map (·.2)) := rfl
 unfold DoR
 go_enter Tryz.func156, Tryz.ntmps156
 go_wp2_with fail
 generalize w.alloc _ = W at *
 have HBI := hide hBI
 have r0 : W.cell? ⟨w.heap.size, 0, none⟩ = some (.int .i64 14) := hBI.cell 0
 have r1 : W.cell? ⟨w.heap.size, 1, none⟩ = some (.int .i64 a) := hBI.cell 1
 have r2 : W.cell? ⟨w.heap.size, 2, none⟩ = some (.int .i64 b) := hBI.cell 2
 have hne : w.heap.size ≠ bl := by omega
 clear hBI h
 refine (lk_take s _ bl pre (unhide HW).lk).mono ?_
 rintro e w1 ⟨h1, h2, mm⟩
 cases hr : takeS s with
 | none =>
  obtain rfl := h2 hr
  have HN : Hid (doS p m ⟨14, a, b⟩ s = none) := by show _ = _; rw [unhide HT0, hr] <;> rfl
  have HMn := hide ((unhide HM).trans mm (fun _ _ e => e))
  clear hr h1 h2
  go_wp2_with fail
  exact ⟨rfl, fun s' e => (by rw [unhide HN] at e; cases e), fun _ => rfl, unhide HMn⟩
 | some y =>
  obtain ⟨x, s1⟩ := y
  obtain ⟨rfl, hl⟩ := h1 x s1 hr
  have hty := takeS_ty hr (unhide HW).ty
  have hL := (unhide HW).next hl mm hty.2
  have Tx := hty.1
  have HN : Hid (doS p m ⟨14, a, b⟩ s = some s1) := by show _ = _; rw [unhide HT0, hr] <;> rfl
  have HL := hide hL
  have HMn := hide ((unhide HM).trans mm (fun _ _ e => e))
  clear hr h1 h2
  go_wp2_with fail
  go_end0
  refine ⟨fun s' e => ?_, fun e => (by rw [unhide HN] at e; cases e), unhide HMn⟩
  rw [unhide HN] at e
  simp only [Option.some.injEq] at e
  subst e
  exact ⟨rfl, unhide HL⟩

set_option maxHeartbeats 1000000 in
set_option maxRecDepth 100000 in
theorem do_15 (a b : Int) (p : List LClass) (vc : Value) (m : LMeth) (s : TSt) (w0 w : World) (bl : Nat) (pre : List Value) (h : LkC w0 w bl p vc m pre s) (hs : SupOk p p.length) (hz : szProg p ≤ 4194304) (h8 : m.stack ≤ 8) :
  Calls Tryz.prog 156 #[.pointer (some ⟨bl, 0, none⟩), .agg #[.int .i64 15, .int .i64 a, .int .i64 b]] w fun e w' => DoR p m ⟨15, a, b⟩ s w0 w w' bl vc pre e := by
 have _hpl : p.length ≤ 4194304 := (fun (_ : SupOk p p.length) (_ : m.stack ≤ 8) => Nat.le_trans (szProg_len p) hz) hs h8
 have hbl := h.lk.lt
 have HW := hide (h.below (box_below w (.cells #[.int .i64 15, .int .i64 a, .int .i64 b] 60)))
 have hBI := Blk.new w #[.int .i64 15, .int .i64 a, .int .i64 b] 60
 have HM := hide (bnone (S := fun k => k = bl) (box_below w (.cells #[.int .i64 15, .int .i64 a, .int .i64 b] 60)))
 have HT0 : Hid (doS p m ⟨15, a, b⟩ s = (takeS s).bind fun x => (leaveS m x.1 x.2).bind (leaveS m x.1)) := rfl
 unfold DoR
 go_enter Tryz.func156, Tryz.ntmps156
 go_wp2_with fail
 generalize w.alloc _ = W at *
 have HBI := hide hBI
 have r0 : W.cell? ⟨w.heap.size, 0, none⟩ = some (.int .i64 15) := hBI.cell 0
 have r1 : W.cell? ⟨w.heap.size, 1, none⟩ = some (.int .i64 a) := hBI.cell 1
 have r2 : W.cell? ⟨w.heap.size, 2, none⟩ = some (.int .i64 b) := hBI.cell 2
 have hne : w.heap.size ≠ bl := by omega
 clear hBI h
 refine (lk_take s _ bl pre (unhide HW).lk).mono ?_
 rintro e w1 ⟨h1, h2, mm⟩
 cases hr : takeS s with
 | none =>
  obtain rfl := h2 hr
  have HN : Hid (doS p m ⟨15, a, b⟩ s = none) := by show _ = _; rw [unhide HT0, hr] <;> rfl
  have HMn := hide ((unhide HM).trans mm (fun _ _ e => e))
  clear hr h1 h2
  go_wp2_with fail
  exact ⟨rfl, fun s' e => (by rw [unhide HN] at e; cases e), fun _ => rfl, unhide HMn⟩
 | some y =>
  obtain ⟨x, s1⟩ := y
  obtain ⟨rfl, hl⟩ := h1 x s1 hr
  have hty := takeS_ty hr (unhide HW).ty
  have hL := (unhide HW).next hl mm hty.2
  have Tx := hty.1
  have HT1 : Hid (doS p m ⟨15, a, b⟩ s = (leaveS m x s1).bind (leaveS m x)) := by show _ = _; rw [unhide HT0, hr] <;> rfl
  have HBn := hide ((unhide HBI).mods mm hne)
  replace r1 : w1.cell? ⟨w.heap.size, 1, none⟩ = some (.int .i64 a) := (unhide HBn).cell 1
  replace r2 : w1.cell? ⟨w.heap.size, 2, none⟩ = some (.int .i64 b) := (unhide HBn).cell 2
  replace HBI := HBn
  replace HW := hide hL
  replace HM := hide ((unhide HM).trans mm (fun _ _ e => e))
  clear hr h1 h2 hL mm HBn r0
  go_wp2_with fail
  refine (lk_leave x p vc m s1 w0 _ bl pre (unhide HW) Tx h8).mono ?_
  rintro e w2 ⟨h1, h2, mm⟩
  cases hr : leaveS m x s1 with
  | none =>
   obtain rfl := h2 hr
   have HN : Hid (doS p m ⟨15, a, b⟩ s = none) := by show _ = _; rw [unhide HT1, hr] <;> rfl
   have HMn := hide ((unhide HM).trans mm (fun _ _ e => e))
   clear hr h1 h2
   go_wp2_with fail
   exact ⟨rfl, fun s' e => (by rw [unhide HN] at e; cases e), fun _ => rfl, unhide HMn⟩
  | some s2 =>
   obtain ⟨rfl, hL⟩ := h1 s2 hr
   have HT2 : Hid (doS p m ⟨15, a, b⟩ s = leaveS m x s2) := by show _ = _; rw [unhide HT1, hr] <;> rfl
   have HBn := hide ((unhide HBI).mods mm hne)
   replace r1 : w2.cell? ⟨w.heap.size, 1, none⟩ = some (.int .i64 a) := (unhide HBn).cell 1
   replace r2 : w2.cell? ⟨w.heap.size, 2, none⟩ = some (.int .i64 b) := (unhide HBn).cell 2
   replace HBI := HBn
   replace HW := hide hL
   replace HM := hide ((unhide HM).trans mm (fun _ _ e => e))
   clear hr h1 h2 hL mm HBn
   go_wp2_with fail
   refine (lk_leave x p vc m s2 w0 _ bl pre (unhide HW) Tx h8).mono ?_
   rintro e w3 ⟨h1, h2, mm⟩
   cases hr : leaveS m x s2 with
   | none =>
    obtain rfl := h2 hr
    have HN : Hid (doS p m ⟨15, a, b⟩ s = none) := by show _ = _; rw [unhide HT2, hr] <;> rfl
    have HMn := hide ((unhide HM).trans mm (fun _ _ e => e))
    clear hr h1 h2
    go_wp2_with fail
    exact ⟨rfl, fun s' e => (by rw [unhide HN] at e; cases e), fun _ => rfl, unhide HMn⟩
   | some s3 =>
    obtain ⟨rfl, hL⟩ := h1 s3 hr
    have HN : Hid (doS p m ⟨15, a, b⟩ s = some s3) := by show _ = _; rw [unhide HT2, hr] <;> rfl
    have HL := hide hL
    have HMn := hide ((unhide HM).trans mm (fun _ _ e => e))
    clear hr h1 h2
    go_wp2_with fail
    go_end0
    refine ⟨fun s' e => ?_, fun e => (by rw [unhide HN] at e; cases e), unhide HMn⟩
    rw [unhide HN] at e
    simp only [Option.some.injEq] at e
    subst e
    exact ⟨rfl, unhide HL⟩

set_option maxHeartbeats 1000000 in
set_option maxRecDepth 100000 in
theorem do_16 (a b : Int) (p : List LClass) (vc : Value) (m : LMeth) (s : TSt) (w0 w : World) (bl : Nat) (pre : List Value) (h : LkC w0 w bl p vc m pre s) (hs : SupOk p p.length) (hz : szProg p ≤ 4194304) (h8 : m.stack ≤ 8) :
  Calls Tryz.prog 156 #[.pointer (some ⟨bl, 0, none⟩), .agg #[.int .i64 16, .int .i64 a, .int .i64 b]] w fun e w' => DoR p m ⟨16, a, b⟩ s w0 w w' bl vc pre e := by
 have _hpl : p.length ≤ 4194304 := (fun (_ : SupOk p p.length) (_ : m.stack ≤ 8) => Nat.le_trans (szProg_len p) hz) hs h8
 have hbl := h.lk.lt
 have HW := hide (h.below (box_below w (.cells #[.int .i64 16, .int .i64 a, .int .i64 b] 60)))
 have hBI := Blk.new w #[.int .i64 16, .int .i64 a, .int .i64 b] 60
 have HM := hide (bnone (S := fun k => k = bl) (box_below w (.cells #[.int .i64 16, .int .i64 a, .int .i64 b] 60)))
 have HT0 : Hid (doS p m ⟨16, a, b⟩ s = leaveS m 1 s) := rfl
 unfold DoR
 go_enter Tryz.func156, Tryz.ntmps156
 go_wp2_with fail
 generalize w.alloc _ = W at *
 have HBI := hide hBI
 have r0 : W.cell? ⟨w.heap.size, 0, none⟩ = some (.int .i64 16) := hBI.cell 0
 have r1 : W.cell? ⟨w.heap.size, 1, none⟩ = some (.int .i64 a) := hBI.cell 1
 have r2 : W.cell? ⟨w.heap.size, 2, none⟩ = some (.int .i64 b) := hBI.cell 2
 have hne : w.heap.size ≠ bl := by omega
 clear hBI h
 refine (lk_leave 1 p vc m s w0 _ bl pre (unhide HW) (tyOk_low _ (by omega) (by omega)) h8).mono ?_
 rintro e w1 ⟨h1, h2, mm⟩
 cases hr : leaveS m 1 s with
 | none =>
  obtain rfl := h2 hr
  have HN : Hid (doS p m ⟨16, a, b⟩ s = none) := by show _ = _; rw [unhide HT0, hr] <;> rfl
  have HMn := hide ((unhide HM).trans mm (fun _ _ e => e))
  clear hr h1 h2
  go_wp2_with fail
  exact ⟨rfl, fun s' e => (by rw [unhide HN] at e; cases e), fun _ => rfl, unhide HMn⟩
 | some s1 =>
  obtain ⟨rfl, hL⟩ := h1 s1 hr
  have HN : Hid (doS p m ⟨16, a, b⟩ s = some s1) := by show _ = _; rw [unhide HT0, hr] <;> rfl
  have HL := hide hL
  have HMn := hide ((unhide HM).trans mm (fun _ _ e => e))
  clear hr h1 h2
  go_wp2_with fail
  go_end0
  refine ⟨fun s' e => ?_, fun e => (by rw [unhide HN] at e; cases e), unhide HMn⟩
  rw [unhide HN] at e
  simp only [Option.some.injEq] at e
  subst e
  exact ⟨rfl, unhide HL⟩

set_option maxHeartbeats 1000000 in
set_option maxRecDepth 100000 in
theorem do_17 (a b : Int) (p : List LClass) (vc : Value) (m : LMeth) (s : TSt) (w0 w : World) (bl : Nat) (pre : List Value) (h : LkC w0 w bl p vc m pre s) (hs : SupOk p p.length) (hz : szProg p ≤ 4194304) (h8 : m.stack ≤ 8) (ha0 : 0 ≤ a) (ha1 : a < (p.length : Int)) :
  Calls Tryz.prog 156 #[.pointer (some ⟨bl, 0, none⟩), .agg #[.int .i64 17, .int .i64 a, .int .i64 b]] w fun e w' => DoR p m ⟨17, a, b⟩ s w0 w w' bl vc pre e := by
 have _hpl : p.length ≤ 4194304 := (fun (_ : SupOk p p.length) (_ : m.stack ≤ 8) => Nat.le_trans (szProg_len p) hz) hs h8
 have hbl := h.lk.lt
 have HW := hide (h.below (box_below w (.cells #[.int .i64 17, .int .i64 a, .int .i64 b] 60)))
 have hBI := Blk.new w #[.int .i64 17, .int .i64 a, .int .i64 b] 60
 have HM := hide (bnone (S := fun k => k = bl) (box_below w (.cells #[.int .i64 17, .int .i64 a, .int .i64 b] 60)))
 have HT0 : Hid (doS p m ⟨17, a, b⟩ s = (wantO s).bind (leaveS m (a + 3))) := rfl
 unfold DoR
 go_enter Tryz.func156, Tryz.ntmps156
 go_wp2_with fail
 generalize w.alloc _ = W at *
 have HBI := hide hBI
 have r0 : W.cell? ⟨w.heap.size, 0, none⟩ = some (.int .i64 17) := hBI.cell 0
 have r1 : W.cell? ⟨w.heap.size, 1, none⟩ = some (.int .i64 a) := hBI.cell 1
 have r2 : W.cell? ⟨w.heap.size, 2, none⟩ = some (.int .i64 b) := hBI.cell 2
 have hne : w.heap.size ≠ bl := by omega
 clear hBI h
 refine (lk_wantobj p vc m s w0 _ bl pre (unhide HW)).mono ?_
 rintro e w1 ⟨h1, h2, mm⟩
 cases hr : wantO s with
 | none =>
  obtain rfl := h2 hr
  have HN : Hid (doS p m ⟨17, a, b⟩ s = none) := by show _ = _; rw [unhide HT0, hr] <;> rfl
  have HMn := hide ((unhide HM).trans mm (fun _ _ e => e))
  clear hr h1 h2
  go_wp2_with fail
  exact ⟨rfl, fun s' e => (by rw [unhide HN] at e; cases e), fun _ => rfl, unhide HMn⟩
 | some s1 =>
  obtain ⟨rfl, hL⟩ := h1 s1 hr
  have HT1 : Hid (doS p m ⟨17, a, b⟩ s = leaveS m (a + 3) s1) := by show _ = _; rw [unhide HT0, hr] <;> rfl
  have HBn := hide ((unhide HBI).mods mm hne)
  replace r1 : w1.cell? ⟨w.heap.size, 1, none⟩ = some (.int .i64 a) := (unhide HBn).cell 1
  replace r2 : w1.cell? ⟨w.heap.size, 2, none⟩ = some (.int .i64 b) := (unhide HBn).cell 2
  replace HBI := HBn
  replace HW := hide hL
  replace HM := hide ((unhide HM).trans mm (fun _ _ e => e))
  clear hr h1 h2 hL mm HBn r0
  go_wp2_with fail
  refine (code_of a (by omega) (by omega) _).mono ?_
  rintro e w' ⟨rfl, rfl⟩
  go_wp2_with fail
  refine (lk_leave (a + 3) p vc m s1 w0 _ bl pre (unhide HW) (tyOk_cls ha0 ha1) h8).mono ?_
  rintro e w2 ⟨h1, h2, mm⟩
  cases hr : leaveS m (a + 3) s1 with
  | none =>
   obtain rfl := h2 hr
   have HN : Hid (doS p m ⟨17, a, b⟩ s = none) := by show _ = _; rw [unhide HT1, hr] <;> rfl
   have HMn := hide ((unhide HM).trans mm (fun _ _ e => e))
   clear hr h1 h2
   go_wp2_with fail
   exact ⟨rfl, fun s' e => (by rw [unhide HN] at e; cases e), fun _ => rfl, unhide HMn⟩
  | some s2 =>
   obtain ⟨rfl, hL⟩ := h1 s2 hr
   have HN : Hid (doS p m ⟨17, a, b⟩ s = some s2) := by show _ = _; rw [unhide HT1, hr] <;> rfl
   have HL := hide hL
   have HMn := hide ((unhide HM).trans mm (fun _ _ e => e))
   clear hr h1 h2
   go_wp2_with fail
   go_end0
   refine ⟨fun s' e => ?_, fun e => (by rw [unhide HN] at e; cases e), unhide HMn⟩
   rw [unhide HN] at e
   simp only [Option.some.injEq] at e
   subst e
   exact ⟨rfl, unhide HL⟩

set_option maxHeartbeats 1000000 in
set_option maxRecDepth 100000 in
theorem do_18 (a b : Int) (p : List LClass) (vc : Value) (m : LMeth) (s : TSt) (w0 w : World) (bl : Nat) (pre : List Value) (h : LkC w0 w bl p vc m pre s) (hs : SupOk p p.length) (hz : szProg p ≤ 4194304) (h8 : m.stack ≤ 8) :
  Calls Tryz.prog 156 #[.pointer (some ⟨bl, 0, none⟩), .agg #[.int .i64 18, .int .i64 a, .int .i64 b]] w fun e w' => DoR p m ⟨18, a, b⟩ s w0 w w' bl vc pre e := by
 have _hpl : p.length ≤ 4194304 := (fun (_ : SupOk p p.length) (_ : m.stack ≤ 8) => Nat.le_trans (szProg_len p) hz) hs h8
 have hbl := h.lk.lt
 have HW := hide (h.below (box_below w (.cells #[.int .i64 18, .int .i64 a, .int .i64 b] 60)))
 have hBI := Blk.new w #[.int .i64 18, .int .i64 a, .int .i64 b] 60
 have HM := hide (bnone (S := fun k => k = bl) (box_below w (.cells #[.int .i64 18, .int .i64 a, .int .i64 b] 60)))
 have HT0 : Hid (doS p m ⟨18, a, b⟩ s = wantO s) := rfl
 unfold DoR
 go_enter Tryz.func156, Tryz.ntmps156
 go_wp2_with fail
 generalize w.alloc _ = W at *
 have HBI := hide hBI
 have r0 : W.cell? ⟨w.heap.size, 0, none⟩ = some (.int .i64 18) := hBI.cell 0
 have r1 : W.cell? ⟨w.heap.size, 1, none⟩ = some (.int .i64 a) := hBI.cell 1
 have r2 : W.cell? ⟨w.heap.size, 2, none⟩ = some (.int .i64 b) := hBI.cell 2
 have hne : w.heap.size ≠ bl := by omega
 clear hBI h
 refine (lk_wantobj p vc m s w0 _ bl pre (unhide HW)).mono ?_
 rintro e w1 ⟨h1, h2, mm⟩
 cases hr : wantO s with
 | none =>
  obtain rfl := h2 hr
  have HN : Hid (doS p m ⟨18, a, b⟩ s = none) := by show _ = _; rw [unhide HT0, hr] <;> rfl
  have HMn := hide ((unhide HM).trans mm (fun _ _ e => e))
  clear hr h1 h2
  go_wp2_with fail
  exact ⟨rfl, fun s' e => (by rw [unhide HN] at e; cases e), fun _ => rfl, unhide HMn⟩
 | some s1 =>
  obtain ⟨rfl, hL⟩ := h1 s1 hr
  have HN : Hid (doS p m ⟨18, a, b⟩ s = some s1) := by show _ = _; rw [unhide HT0, hr] <;> rfl
  have HL := hide hL
  have HMn := hide ((unhide HM).trans mm (fun _ _ e => e))
  clear hr h1 h2
  go_wp2_with fail
  go_end0
  refine ⟨fun s' e => ?_, fun e => (by rw [unhide HN] at e; cases e), unhide HMn⟩
  rw [unhide HN] at e
  simp only [Option.some.injEq] at e
  subst e
  exact ⟨rfl, unhide HL⟩

set_option maxHeartbeats 1000000 in
set_option maxRecDepth 100000 in
theorem do_20 (a b : Int) (p : List LClass) (vc : Value) (m : LMeth) (s : TSt) (w0 w : World) (bl : Nat) (pre : List Value) (h : LkC w0 w bl p vc m pre s) (hs : SupOk p p.length) (hz : szProg p ≤ 4194304) (h8 : m.stack ≤ 8) :
  Calls Tryz.prog 156 #[.pointer (some ⟨bl, 0, none⟩), .agg #[.int .i64 20, .int .i64 a, .int .i64 b]] w fun e w' => DoR p m ⟨20, a, b⟩ s w0 w w' bl vc pre e := by
 have _hpl : p.length ≤ 4194304 := (fun (_ : SupOk p p.length) (_ : m.stack ≤ 8) => Nat.le_trans (szProg_len p) hz) hs h8
 have hbl := h.lk.lt
 have HW := hide (h.below (box_below w (.cells #[.int .i64 20, .int .i64 a, .int .i64 b] 60)))
 have hBI := Blk.new w #[.int .i64 20, .int .i64 a, .int .i64 b] 60
 have HM := hide (bnone (S := fun k => k = bl) (box_below w (.cells #[.int .i64 20, .int .i64 a, .int .i64 b] 60)))
 have HT0 : Hid (doS p m ⟨20, a, b⟩ s = (takeS s).bind fun y => (takeS y.2).bind fun x => (leaveS m y.1 x.2).bind (leaveS m x.1)) := rfl
 unfold DoR
 go_enter Tryz.func156, Tryz.ntmps156
 go_wp2_with fail
 generalize w.alloc _ = W at *
 have HBI := hide hBI
 have r0 : W.cell? ⟨w.heap.size, 0, none⟩ = some (.int .i64 20) := hBI.cell 0
 have r1 : W.cell? ⟨w.heap.size, 1, none⟩ = some (.int .i64 a) := hBI.cell 1
 have r2 : W.cell? ⟨w.heap.size, 2, none⟩ = some (.int .i64 b) := hBI.cell 2
 have hne : w.heap.size ≠ bl := by omega
 clear hBI h
 refine (lk_take s _ bl pre (unhide HW).lk).mono ?_
 rintro e w1 ⟨h1, h2, mm⟩
 cases hr : takeS s with
 | none =>
  obtain rfl := h2 hr
  have HN : Hid (doS p m ⟨20, a, b⟩ s = none) := by show _ = _; rw [unhide HT0, hr] <;> rfl
  have HMn := hide ((unhide HM).trans mm (fun _ _ e => e))
  clear hr h1 h2
  go_wp2_with fail
  exact ⟨rfl, fun s' e => (by rw [unhide HN] at e; cases e), fun _ => rfl, unhide HMn⟩
 | some y =>
  obtain ⟨y, s1⟩ := y
  obtain ⟨rfl, hl⟩ := h1 y s1 hr
  have hty := takeS_ty hr (unhide HW).ty
  have hL := (unhide HW).next hl mm hty.2
  have Ty := hty.1
  have HT1 : Hid (doS p m ⟨20, a, b⟩ s = (takeS s1).bind fun x => (leaveS m y x.2).bind (leaveS m x.1)) := by show _ = _; rw [unhide HT0, hr] <;> rfl
  have HBn := hide ((unhide HBI).mods mm hne)
  replace r1 : w1.cell? ⟨w.heap.size, 1, none⟩ = some (.int .i64 a) := (unhide HBn).cell 1
  replace r2 : w1.cell? ⟨w.heap.size, 2, none⟩ = some (.int .i64 b) := (unhide HBn).cell 2
  replace HBI := HBn
  replace HW := hide hL
  replace HM := hide ((unhide HM).trans mm (fun _ _ e => e))
  clear hr h1 h2 hL mm HBn r0
  go_wp2_with fail
  refine (lk_take s1 _ bl pre (unhide HW).lk).mono ?_
  rintro e w2 ⟨h1, h2, mm⟩
  cases hr : takeS s1 with
  | none =>
   obtain rfl := h2 hr
   have HN : Hid (doS p m ⟨20, a, b⟩ s = none) := by show _ = _; rw [unhide HT1, hr] <;> rfl
   have HMn := hide ((unhide HM).trans mm (fun _ _ e => e))
   clear hr h1 h2
   go_wp2_with fail
   exact ⟨rfl, fun s' e => (by rw [unhide HN] at e; cases e), fun _ => rfl, unhide HMn⟩
  | some y =>
   obtain ⟨x, s2⟩ := y
   obtain ⟨rfl, hl⟩ := h1 x s2 hr
   have hty := takeS_ty hr (unhide HW).ty
   have hL := (unhide HW).next hl mm hty.2
   have Tx := hty.1
   have HT2 : Hid (doS p m ⟨20, a, b⟩ s = (leaveS m y s2).bind (leaveS m x)) := by show _ = _; rw [unhide HT1, hr] <;> rfl
   have HBn := hide ((unhide HBI).mods mm hne)
   replace r1 : w2.cell? ⟨w.heap.size, 1, none⟩ = some (.int .i64 a) := (unhide HBn).cell 1
   replace r2 : w2.cell? ⟨w.heap.size, 2, none⟩ = some (.int .i64 b) := (unhide HBn).cell 2
   replace HBI := HBn
   replace HW := hide hL
   replace HM := hide ((unhide HM).trans mm (fun _ _ e => e))
   clear hr h1 h2 hL mm HBn
   go_wp2_with fail
   refine (lk_leave y p vc m s2 w0 _ bl pre (unhide HW) Ty h8).mono ?_
   rintro e w3 ⟨h1, h2, mm⟩
   cases hr : leaveS m y s2 with
   | none =>
    obtain rfl := h2 hr
    have HN : Hid (doS p m ⟨20, a, b⟩ s = none) := by show _ = _; rw [unhide HT2, hr] <;> rfl
    have HMn := hide ((unhide HM).trans mm (fun _ _ e => e))
    clear hr h1 h2
    go_wp2_with fail
    exact ⟨rfl, fun s' e => (by rw [unhide HN] at e; cases e), fun _ => rfl, unhide HMn⟩
   | some s3 =>
    obtain ⟨rfl, hL⟩ := h1 s3 hr
    have HT3 : Hid (doS p m ⟨20, a, b⟩ s = leaveS m x s3) := by show _ = _; rw [unhide HT2, hr] <;> rfl
    have HBn := hide ((unhide HBI).mods mm hne)
    replace r1 : w3.cell? ⟨w.heap.size, 1, none⟩ = some (.int .i64 a) := (unhide HBn).cell 1
    replace r2 : w3.cell? ⟨w.heap.size, 2, none⟩ = some (.int .i64 b) := (unhide HBn).cell 2
    replace HBI := HBn
    replace HW := hide hL
    replace HM := hide ((unhide HM).trans mm (fun _ _ e => e))
    clear hr h1 h2 hL mm HBn
    go_wp2_with fail
    refine (lk_leave x p vc m s3 w0 _ bl pre (unhide HW) Tx h8).mono ?_
    rintro e w4 ⟨h1, h2, mm⟩
    cases hr : leaveS m x s3 with
    | none =>
     obtain rfl := h2 hr
     have HN : Hid (doS p m ⟨20, a, b⟩ s = none) := by show _ = _; rw [unhide HT3, hr] <;> rfl
     have HMn := hide ((unhide HM).trans mm (fun _ _ e => e))
     clear hr h1 h2
     go_wp2_with fail
     exact ⟨rfl, fun s' e => (by rw [unhide HN] at e; cases e), fun _ => rfl, unhide HMn⟩
    | some s4 =>
     obtain ⟨rfl, hL⟩ := h1 s4 hr
     have HN : Hid (doS p m ⟨20, a, b⟩ s = some s4) := by show _ = _; rw [unhide HT3, hr] <;> rfl
     have HL := hide hL
     have HMn := hide ((unhide HM).trans mm (fun _ _ e => e))
     clear hr h1 h2
     go_wp2_with fail
     go_end0
     refine ⟨fun s' e => ?_, fun e => (by rw [unhide HN] at e; cases e), unhide HMn⟩
     rw [unhide HN] at e
     simp only [Option.some.injEq] at e
     subst e
     exact ⟨rfl, unhide HL⟩
end Go.Proofs.YtiiokkllmchohaaGreat
