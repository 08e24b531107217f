/- The code looks whether an instruction fits: what it takes and leaves. -/
import Derived.Deep.DeepCutAuto
import Derived.RangeFuncLeaves
import Derived.Shelf.Abstract
import Derived.OwnWalkIn
import Derived.TacticsInMore
import Derived.Test.YtiiokkllmchohaaGreatT01
import Derived.Test.YtiiokkllmchohaaGreatT10
import Derived.Test.YtiiokkllmchohaaGreatT14
import Derived.Test.YtiiokkllmchohaaGreatT15
import Derived.Test.YtiiokkllmchohaaGreatT17
import Derived.Test.YtiiokkllmchohaaGreatT18
namespace Go.Proofs.YtiiokkllmchohaaGreat
open Go.RowKit
attribute [local go_sem ↓] Go.wp_at_zero Go.wp_at_succ
theorem bnone {w w' : World} {S : Nat → Prop} (h : Below w.heap.size w w') : Mods S w w' := (Mods.of_below h).mono (fun i hi e => absurd e (by omega))
theorem aggSt : AggOk Tryz.prog 130 17 := ⟨by kernel_rfl, by kernel_rfl⟩
set_option maxHeartbeats 400000 in
theorem fit_giveUp (w : World) : Calls Tryz.prog 157 #[] w fun e w' => e = .panicked (refC 5) ∧ w' = w := by
 go_enter Tryz.func157, Tryz.ntmps157
 go_wp2_with (go_at_call 140; refine (code_giveUp _ _).mono ?_; rintro e w' ⟨rfl, rfl⟩)
 exact ⟨rfl, rfl, rfl⟩
theorem LkAt.state {w : World} {bl : Nat} {pre : List Value} {s : TSt} (h : LkAt w bl pre s) : ∃ cs, StC s cs ∧ cs.length = 17 ∧ Blk w bl 222 (pre ++ cs) ∧ ∀ j v, cs[j]? = some v → (pre ++ cs)[8 + j]? = some v := by
 obtain ⟨h0, cs, h1, h2⟩ := h
 exact ⟨cs, h1, h1.len, h2, fun j v e => by rw [get_pre h0]; exact e⟩
set_option maxHeartbeats 400000 in
theorem st_setlocal (s : TSt) (i : Nat) (t : Int) (w : World) (bl : Nat) (pre : List Value) (h : LkAt w bl pre s) (hi : i < 8) :
  Calls Tryz.prog 205 #[.pointer (some ⟨bl, 8, none⟩), .int .i64 (i : Int), .int .i64 t] w fun e w' => e = .returned (.tuple #[]) ∧ LkAt w' bl pre (setL s i t) ∧ Mods (fun k => k = bl) w w' := by
 obtain ⟨h0, cs, h1, h2⟩ := h
 have c0 : w.cell? ⟨bl, 8 + i, none⟩ = some (.int .i64 (s.loc.getD i 0)) := by rw [h2.cell, get_pre h0]; exact h1.getLoc hi
 have f0 := h2.frozen (8 + i)
 have Z := h2.setCell (8 + i) (.int .i64 t)
 rw [set_pre h0] at Z
 have HZ := hide Z
 have HZ1 := hide (h1.set i t hi)
 have i0 : (0 : Int) ≤ (i : Int) := by omega
 have i8 : (i : Int) < 8 := by omega
 clear Z h1 h2
 go_enter Tryz.func205, Tryz.ntmps205
 go_wp2_with fail
 go_end0
 exact ⟨rfl, ⟨h0, _, unhide HZ1, unhide HZ⟩, (Mods.refl (fun k => k = bl) w).setCell (p := ⟨bl, 8 + i, none⟩) (fun _ => rfl) _⟩

set_option maxHeartbeats 800000 in
set_option maxRecDepth 100000 in
theorem lk_take (s : TSt) (w : World) (bl : Nat) (pre : List Value) (h : LkAt w bl pre s) :
  Calls Tryz.prog 206 #[.pointer (some ⟨bl, 0, none⟩)] w fun e w' => (∀ x s', takeS s = some (x, s') → e = .returned (.int .i64 x) ∧ LkAt w' bl pre s') ∧ (takeS s = none → e = .panicked (refC 5)) ∧ Mods (fun k => k = bl) w w' := by
 obtain ⟨cs, hS, hl, hB, hg⟩ := h.state
 go_enter Tryz.func206, Tryz.ntmps206
 go_wp2_with (refine wpList_load_blk aggSt hB 8 cs hl hg (.tmp 5) rfl rfl rfl ?_)
 refine Calls.mono (st_height s cs w hS) ?_
 rintro e w1 ⟨rfl, hb1⟩
 have h1 := h.below hb1
 have m1 : Mods (fun k => k = bl) w w1 := bnone hb1
 cases hx : s.stk.getLast? with
 | none =>
  have hn : s.stk.length = 0 := by
   rw [List.getLast?_eq_none_iff] at hx
   rw [hx]; rfl
  have HN : Hid (takeS s = none) := by show _ = _; unfold takeS; rw [hx]; rfl
  rw [hn]
  clear hn hx
  go_wp2_with (go_at_call 157; refine (fit_giveUp _).mono ?_; rintro e w' ⟨rfl, rfl⟩)
  exact ⟨rfl, fun x s' e => (by rw [unhide HN] at e; cases e), fun _ => rfl, m1⟩
 | some x =>
  have hn : ¬ (s.stk.length : Int) = 0 := by
   intro e
   rw [List.eq_nil_of_length_eq_zero (by omega : s.stk.length = 0)] at hx; cases hx
  have hn' : ((s.stk.length : Int) == 0) = false := by simpa using hn
  have HN : Hid (takeS s = some (x, popL' s)) := by show _ = _; unfold takeS; rw [hx]; rfl
  have HX := hide hx
  clear hx hn
  go_wp2_with fail
  refine Calls.mono (st_pop s x w1 bl pre h1 (unhide HX)) ?_
  rintro e w2 ⟨rfl, h2, m2⟩
  go_wp2_with fail
  go_ret
  refine ⟨fun x' s' e => ?_, fun e => (by rw [unhide HN] at e; cases e), m1.trans m2 (fun _ _ e => e)⟩
  rw [unhide HN] at e
  simp only [Option.some.injEq, Prod.mk.injEq] at e
  obtain ⟨rfl, rfl⟩ := e
  exact ⟨rfl, h2⟩
set_option maxHeartbeats 400000 in
theorem fit_known (t : Int) (w : World) : Calls Tryz.prog 203 #[.int .i64 t] w fun e w' => (∀ x, knownS t = some x → e = .returned (.int .i64 x)) ∧ (knownS t = none → e = .panicked (refC 5)) ∧ w' = w := by
 by_cases ht : t = 2
 ·subst ht
  go_enter Tryz.func203, Tryz.ntmps203
  go_wp2_with (go_at_call 157; refine (fit_giveUp _).mono ?_; rintro e w' ⟨rfl, rfl⟩)
  exact ⟨rfl, fun x e => (by simp [knownS] at e), fun _ => rfl, rfl⟩
 ·have ht' : (t == 2) = false := by simpa using ht
  go_enter Tryz.func203, Tryz.ntmps203
  go_wp2_with fail
  go_ret
  refine ⟨fun x e => ?_, fun e => ?_, rfl⟩
  ·simp [knownS, ht] at e; subst e; rfl
  ·simp [knownS, ht] at e
theorem Mods.undrw {S : Nat → Prop} {W w' : World} (h : Mods S W.drew w') : Mods S W w' := ⟨h.os, h.tape, h.output, h.size, h.block⟩
def TyS (n : Nat) (k : Int) (s : TSt) : Prop := (∀ x ∈ s.loc, tyOk n x) ∧ (∀ x ∈ s.stk, tyOk n x) ∧ (s.stk.length : Int) ≤ k
structure LkC (w0 w : World) (bl : Nat) (p : List LClass) (vc : Value) (m : LMeth) (pre : List Value) (s : TSt) : Prop where
 lk : LkAt w bl pre s
 pr : RProg w0 vc p
 b0 : Below w0.heap.size w0 w
 le : w0.heap.size ≤ bl
 p0 : pre[0]? = some vc
 p3 : pre[3]? = some (.int .i64 m.ret)
 p5 : pre[5]? = some (.int .i64 m.stack)
 ty : TyS p.length m.stack s
section
variable {w0 w w' : World} {bl : Nat} {p : List LClass} {vc : Value} {m : LMeth} {pre : List Value} {s s' : TSt}
theorem LkC.next (h : LkC w0 w bl p vc m pre s) (hl : LkAt w' bl pre s') (hm : Mods (fun k => k = bl) w w') (ht : TyS p.length m.stack s') : LkC w0 w' bl p vc m pre s' :=
 have hle := h.le
 ⟨hl, h.pr, h.b0.trans (hm.below h.b0.size (fun k hk e => by omega)), hle, h.p0, h.p3, h.p5, ht⟩
theorem LkC.below (h : LkC w0 w bl p vc m pre s) (hb : Below w.heap.size w w') : LkC w0 w' bl p vc m pre s := h.next (h.lk.below hb) (bnone hb) h.ty
theorem LkC.cell (h : LkC w0 w bl p vc m pre s) {i : Nat} {v : Value} (hi : i < 8) (hv : pre[i]? = some v) : w.cell? ⟨bl, i, none⟩ = some v := by
 obtain ⟨h0, cs, _, h2⟩ := h.lk
 rw [h2.cell, List.getElem?_append_left (by omega)]
 exact hv
theorem LkC.rp (h : LkC w0 w bl p vc m pre s) : RProg w vc p := prog_keep (Keeps.of_below h.b0) h.pr
end
theorem takeS_ty {n : Nat} {k : Int} {s s' : TSt} {x : Int} (h : takeS s = some (x, s')) (ht : TyS n k s) : tyOk n x ∧ TyS n k s' := by
 unfold takeS at h
 cases e : s.stk.getLast? with
 | none => rw [e] at h; cases h
 | some y =>
  rw [e] at h
  simp only [Option.map_some, Option.some.injEq, Prod.mk.injEq] at h
  obtain ⟨rfl, rfl⟩ := h
  exact ⟨ht.2.1 y (List.mem_of_getLast? e), ht.1, fun x hx => ht.2.1 x (List.dropLast_subset _ hx), by have := ht.2.2; simp only [List.length_dropLast]; omega⟩
theorem leaveS_ty {n : Nat} {m : LMeth} {t : Int} {s s' : TSt} (h : leaveS m t s = some s') (ht : TyS n m.stack s) (hx : tyOk n t) : TyS n m.stack s' := by
 unfold leaveS at h
 split at h
 ·cases h
 ·rename_i hne
  cases h
  refine ⟨ht.1, fun x hx' => ?_, ?_⟩
  ·rcases List.mem_append.1 hx' with g | g
   ·exact ht.2.1 x g
   ·rw [List.mem_singleton.1 g]; exact hx
  ·have := ht.2.2
   simp only [List.length_append, List.length_singleton]
   omega

set_option maxHeartbeats 1000000 in
set_option maxRecDepth 100000 in
theorem lk_want (t : Int) (p : List LClass) (vc : Value) (m : LMeth) (s : TSt) (w0 w : World) (bl : Nat) (pre : List Value) (h : LkC w0 w bl p vc m pre s) (hs : SupOk p p.length) (hz : p.length ≤ 4194304) (ht : tyOk p.length t) :
  Calls Tryz.prog 207 #[.pointer (some ⟨bl, 0, none⟩), .int .i64 t] w fun e w' => (∀ s', wantS p t s = some s' → e = .returned (.tuple #[]) ∧ LkC w0 w' bl p vc m pre s') ∧ (wantS p t s = none → e = .panicked (refC 5)) ∧ Mods (fun k => k = bl) w w' := by
 have c0 := h.cell (by omega) h.p0
 have H := hide h
 obtain ⟨va, _, _, vcap, rfl, _⟩ := h.pr
 clear h
 go_enter Tryz.func207, Tryz.ntmps207
 go_wp2_with fail
 refine wp_region_held_drew (S := (fun w' => w'.cell? ⟨bl, 0, none⟩ = some (.slice va p.length vcap))) (by kernel_rfl) ?_ (fun hHeld => ?_)
 ·exact c0
 refine take_x (some 4) 0 rfl rfl ?_
 refine take_x (some 5) 1 rfl rfl ?_
 refine take_x (some 6) 2 rfl rfl ?_
 refine take_x (some 7) 3 rfl rfl ?_
 refine take_x (some 8) 4 rfl rfl ?_
 refine take_x (some 10) 6 rfl rfl ?_
 refine wpAnyH_ready (rs := [5]) (by kernel_rfl) (by simp) ?_
 refine AllReadyH.cons rfl (fun K hK => ?_) AllReadyH.nil
 go_simp
 refine (lk_take s _ bl pre ((unhide H).below ((Below.refl _ _).drew)).lk).mono ?_
 rintro e w1 ⟨h1, h2, m1⟩
 have m1' : Mods (fun k => k = bl) w w1 := m1.undrw
 cases htk : takeS s with
 | none =>
  obtain rfl := h2 htk
  have HN : Hid (wantS p t s = none) := by show _ = _; unfold wantS; rw [htk]; rfl
  clear htk h1 h2
  go_wp2_with fail
  exact ⟨rfl, fun s' e => (by rw [unhide HN] at e; cases e), fun _ => rfl, m1'⟩
 | some y =>
  obtain ⟨x, s1⟩ := y
  obtain ⟨rfl, hl1⟩ := h1 x s1 htk
  have hty := takeS_ty htk (unhide H).ty
  have L1 := (unhide H).next hl1 m1' hty.2
  have HL1 := hide L1
  have hx := hty.1
  have d0 := L1.cell (by omega) L1.p0
  have HW : Hid (wantS p t s = if belowB p x t then some s1 else none) := by show _ = _; unfold wantS; rw [htk]; rfl
  have HM1 := hide m1'
  clear htk h1 h2 hl1 hty m1 m1' L1
  go_wp2_with fail
  refine hK.out _ _ d0 (fun hHeld => ?_)
  clear hK K
  try simp only [Act.put, List.setIfInBounds_toArray, List.set_cons_zero, List.set_cons_succ]
  refine wpAnyH_ready (rs := [7]) (by kernel_rfl) (by simp) ?_
  refine AllReadyH.cons rfl (fun K hK => ?_) AllReadyH.nil
  go_simp
  refine (code_kbelow p _ x t _ (unhide HL1).rp hs hz hx ht).mono ?_
  rintro e w2 ⟨rfl, hb2⟩
  have L2 := hide ((unhide HL1).below hb2)
  have HM2 := hide ((unhide HM1).trans (bnone (S := fun k => k = bl) hb2) (fun _ _ e => e))
  have d2 := (unhide L2).cell (by omega) (unhide L2).p0
  clear hb2
  go_wp2_with fail
  refine hK.out _ _ d2 (fun hHeld => ?_)
  clear hK K
  try simp only [Act.put, List.setIfInBounds_toArray, List.set_cons_zero, List.set_cons_succ]
  refine take_x (some 12) 8 rfl rfl ?_
  refine wpAnyH_done (by kernel_rfl) ?_ _
  cases hq : belowB p x t with
  | false =>
   have HN : Hid (wantS p t s = none) := by show _ = _; rw [unhide HW, hq]; rfl
   clear hq
   go_wp2_with (go_at_call 157; refine (fit_giveUp _).mono ?_; rintro e w' ⟨rfl, rfl⟩)
   exact ⟨rfl, fun s' e => (by rw [unhide HN] at e; cases e), fun _ => rfl, unhide HM2⟩
  | true =>
   have HN : Hid (wantS p t s = some s1) := by show _ = _; rw [unhide HW, hq]; rfl
   clear hq
   go_wp2_with fail
   go_end0
   refine ⟨fun s' e => ?_, fun e => (by rw [unhide HN] at e; cases e), unhide HM2⟩
   rw [unhide HN] at e
   simp only [Option.some.injEq] at e
   subst e
   exact ⟨rfl, unhide L2⟩
set_option maxHeartbeats 1000000 in
set_option maxRecDepth 100000 in
theorem lk_wantobj (p : List LClass) (vc : Value) (m : LMeth) (s : TSt) (w0 w : World) (bl : Nat) (pre : List Value) (h : LkC w0 w bl p vc m pre s) :
  Calls Tryz.prog 209 #[.pointer (some ⟨bl, 0, none⟩)] w fun e w' => (∀ s', wantO s = some s' → e = .returned (.tuple #[]) ∧ LkC w0 w' bl p vc m pre s') ∧ (wantO s = none → e = .panicked (refC 5)) ∧ Mods (fun k => k = bl) w w' := by
 go_enter Tryz.func209, Tryz.ntmps209
 go_wp2_with fail
 refine (lk_take s _ bl pre h.lk).mono ?_
 rintro e w1 ⟨h1, h2, m1⟩
 cases htk : takeS s with
 | none =>
  obtain rfl := h2 htk
  have HN : Hid (wantO s = none) := by show _ = _; unfold wantO; rw [htk]; rfl
  clear htk h1 h2
  go_wp2_with fail
  exact ⟨rfl, fun s' e => (by rw [unhide HN] at e; cases e), fun _ => rfl, m1⟩
 | some y =>
  obtain ⟨x, s1⟩ := y
  obtain ⟨rfl, hl1⟩ := h1 x s1 htk
  have hty := takeS_ty htk h.ty
  have HL1 := hide (h.next hl1 m1 hty.2)
  have HW : Hid (wantO s = if mayObj x then some s1 else none) := by show _ = _; unfold wantO; rw [htk]; rfl
  clear htk h1 h2 hl1 hty
  go_wp2_with fail
  refine (code_mayobj x _).mono ?_
  rintro e w2 ⟨rfl, rfl⟩
  cases hq : mayObj x with
  | false =>
   have HN : Hid (wantO s = none) := by show _ = _; rw [unhide HW, hq]; rfl
   clear hq
   go_wp2_with (go_at_call 157; refine (fit_giveUp _).mono ?_; rintro e w' ⟨rfl, rfl⟩)
   exact ⟨rfl, fun s' e => (by rw [unhide HN] at e; cases e), fun _ => rfl, m1⟩
  | true =>
   have HN : Hid (wantO s = some s1) := by show _ = _; rw [unhide HW, hq]; rfl
   clear hq
   go_wp2_with fail
   go_end0
   refine ⟨fun s' e => ?_, fun e => (by rw [unhide HN] at e; cases e), m1⟩
   rw [unhide HN] at e
   simp only [Option.some.injEq] at e
   subst e
   exact ⟨rfl, unhide HL1⟩
set_option maxHeartbeats 1000000 in
set_option maxRecDepth 100000 in
theorem lk_leave (t : Int) (p : List LClass) (vc : Value) (m : LMeth) (s : TSt) (w0 w : World) (bl : Nat) (pre : List Value) (h : LkC w0 w bl p vc m pre s) (ht : tyOk p.length t) (h8 : m.stack ≤ 8) :
  Calls Tryz.prog 202 #[.pointer (some ⟨bl, 0, none⟩), .int .i64 t] w fun e w' => (∀ s', leaveS m t s = some s' → e = .returned (.tuple #[]) ∧ LkC w0 w' bl p vc m pre s') ∧ (leaveS m t s = none → e = .panicked (refC 5)) ∧ Mods (fun k => k = bl) w w' := by
 obtain ⟨cs, hS, hl, hB, hg⟩ := h.lk.state
 have c5 := h.cell (by omega) h.p5
 go_enter Tryz.func202, Tryz.ntmps202
 go_wp2_with fail
 refine wp_region_held_drew (S := (fun w' => w'.cell? ⟨bl, 5, none⟩ = some (.int .i64 m.stack) ∧ Blk w' bl 222 (pre ++ cs))) (by kernel_rfl) ?_ (fun hHeld => ?_)
 ·exact (And.intro c5 hB)
 refine take_x (some 4) 0 rfl rfl ?_
 refine take_x (some 5) 1 rfl rfl ?_
 refine take_x (some 6) 2 rfl rfl ?_
 refine take_d (some 7) (i := 3) (v := .agg cs.toArray) rfl rfl (by kernel_rfl) (by kernel_rfl) (by kernel_rfl) (fun _ _ _ h => h) (Or.inl ⟨by rfl, fun w' hSw => exec_load_blk aggSt hSw.2 8 cs hl hg rfl rfl⟩) (by assumption) ?_
 try simp only [Act.put, List.setIfInBounds_toArray, List.set_cons_zero, List.set_cons_succ]
 refine take_x (some 9) 5 rfl rfl ?_
 refine take_x (some 10) 6 rfl rfl ?_
 refine take_x (some 11) 7 rfl rfl ?_
 refine take_x (some 12) 8 rfl rfl ?_
 refine take_x (some 13) 9 rfl rfl ?_
 refine wpAnyH_ready (rs := [4]) (by kernel_rfl) (by simp) ?_
 refine AllReadyH.cons rfl (fun K hK => ?_) AllReadyH.nil
 go_simp
 refine (st_height s cs _ hS).mono ?_
 rintro e w1 ⟨rfl, hb1⟩
 have hb1' : Below w.heap.size w w1 := ⟨hb1.os, hb1.tape, hb1.output, hb1.size, hb1.block⟩
 have L1 := hide (h.below hb1')
 have d5 := (unhide L1).cell (by omega) (unhide L1).p5
 have hB1 := hB.below hb1' hB.lt
 have m1 : Mods (fun k => k = bl) w w1 := bnone hb1'
 go_wp2_with fail
 refine hK.out _ _ (And.intro d5 hB1) (fun hHeld => ?_)
 clear hK K
 try simp only [Act.put, List.setIfInBounds_toArray, List.set_cons_zero, List.set_cons_succ]
 refine take_x (some 14) 10 rfl rfl ?_
 refine wpAnyH_done (by kernel_rfl) ?_ _
 by_cases hq : (s.stk.length : Int) = m.stack
 ·have HN : Hid (leaveS m t s = none) := by show _ = _; unfold leaveS; rw [if_pos hq]
  have hq' : ((s.stk.length : Int) == m.stack) = true := by simpa using hq
  clear hq
  go_wp2_with (go_at_call 157; refine (fit_giveUp _).mono ?_; rintro e w' ⟨rfl, rfl⟩)
  exact ⟨rfl, fun s' e => (by rw [unhide HN] at e; cases e), fun _ => rfl, m1⟩
 ·have HN : Hid (leaveS m t s = some (pushL s t)) := by show _ = _; unfold leaveS; rw [if_neg hq]; rfl
  have hq' : ((s.stk.length : Int) == m.stack) = false := by simpa using hq
  have hlt : s.stk.length < 8 := by have := h.ty.2.2; omega
  have HT := hide (leaveS_ty (unhide HN) h.ty ht)
  clear hq
  go_wp2_with fail
  refine (st_push s t w1 bl pre (unhide L1).lk hlt).mono ?_
  rintro e w2 ⟨rfl, hl2, m2⟩
  have L2 := hide ((unhide L1).next hl2 m2 (unhide HT))
  go_wp2_with fail
  go_end0
  refine ⟨fun s' e => ?_, fun e => (by rw [unhide HN] at e; cases e), m1.trans m2 (fun _ _ e => e)⟩
  rw [unhide HN] at e
  simp only [Option.some.injEq] at e
  subst e
  exact ⟨rfl, unhide L2⟩
set_option maxHeartbeats 1000000 in
set_option maxRecDepth 100000 in
theorem code_fields (p : List LClass) (hs : SupOk p p.length) (hz : szProg p ≤ 4194304) : ∀ (n : Nat) (c : Int) (vc : Value) (w : World), RProg w vc p → -1 ≤ c → c < (p.length : Int) → (c + 1).toNat ≤ n →
  Calls Tryz.prog 167 #[.agg #[vc], .int .i64 c] w fun e w' => ∃ v', e = .returned v' ∧
   w'.ownsRow w.heap.size 43 1 v' (fieldsOf p c).length ((fieldsOf p c).map (Value.int .i64)) ∧ Below w.heap.size w w' := by
 intro n
 induction n with
 | zero =>
  intro c vc w hp h1 h2 h3
  obtain ⟨pa, _, _, pcap, rfl, _⟩ := hp
  have hc : c < 0 := by omega
  have HF := hide (fieldsOf_neg p hc)
  go_enter Tryz.func167, Tryz.ntmps167
  go_wp2_with fail
  go_ret
  refine ⟨_, rfl, ?_, box_below _ _⟩
  rw [unhide HF]
  exact World.ownsRow_nil _ _ _ _
 | succ n ih =>
  intro c vc w hp h1 h2 h3
  rcases Int.lt_or_le c 0 with hc | hc
  ·obtain ⟨pa, _, _, pcap, rfl, _⟩ := hp
   have HF := hide (fieldsOf_neg p hc)
   clear ih
   go_enter Tryz.func167, Tryz.ntmps167
   go_wp2_with fail
   go_ret
   refine ⟨_, rfl, ?_, box_below _ _⟩
   rw [unhide HF]
   exact World.ownsRow_nil _ _ _ _
  ·obtain ⟨k, rfl⟩ := Int.eq_ofNat_of_zero_le hc
   have IH := hide ih
   clear ih
   obtain ⟨i0, hi0, hz0, hz1, hz2⟩ := info_parts infoType
   have HP := hide hp
   obtain ⟨a, b, off, cap, rfl, hcap, ha, hr⟩ := sl_open hp
   have hi : k < p.length := by omega
   obtain rfl := ha (ne_nil_of_lt hi)
   have hX := List.getElem?_eq_getElem hi
   have hsup := supB_le (hs k _ hi hX)
   have hfz := fieldsOf_sz p hs hi
   have HF := hide (fieldsOf_step p hs hi hX)
   clear hX hp
   obtain ⟨vf, vm, c0, c1, c2, hf, hmm⟩ := hr k hi
   have hlen : p[k].fields.length ≤ 4194304 := by
    have := szFields_le p[k]; have := szClass_le (List.getElem_mem hi); omega
   have HFI := hide hf
   obtain ⟨fa, fcap, rfl, hnil, hsrc⟩ := ints_src hf
   clear hr hmm hnil hsrc hf
   generalize p[k] = x at *
   have hki : (k : Int) < (p.length : Int) := by omega
   have hkz : (0 : Int) ≤ (k : Int) := by omega
   go_enter Tryz.func167, Tryz.ntmps167
   go_wp2_with fail
   generalize hW : w.alloc _ = W
   have hbel : Below w.heap.size w W := by rw [← hW]; exact box_below _ _
   have hbox : W.cell? ⟨w.heap.size, 0, none⟩ = some (.slice (some ⟨b, off, none⟩) p.length cap) := by rw [← hW]; exact box_cell _ _ _ 0
   clear hW
   have d0 := Keeps.of_below hbel _ _ c0
   have d1 := Keeps.of_below hbel _ _ c1
   have HPW := hide (prog_keep (Keeps.of_below hbel) (unhide HP))
   have HFW := hide (ints_keep (Keeps.of_below hbel) (unhide HFI))
   clear c0 c1 c2
   refine wp_region_noPanic ?_
   refine wp_region_held_drew (S := (fun w' => w'.cell? ⟨w.heap.size, 0, none⟩ = some (.slice (some ⟨b, off, none⟩) p.length cap) ∧ w'.cell? ⟨b, off + k * 3, none⟩ = some (.int .i64 x.sup) ∧ w'.cell? ⟨b, off + k * 3 + 1, none⟩ = some (.slice fa x.fields.length fcap))) (by kernel_rfl) ?_ (fun hHeld => ?_)
   ·exact (And.intro hbox (And.intro d0 d1))
   refine take_x (some 7) 0 rfl rfl ?_
   refine take_x (some 8) 1 rfl rfl ?_
   refine take_x (some 9) 2 rfl rfl ?_
   refine take_x (some 10) 3 rfl rfl ?_
   refine take_x (some 11) 4 rfl rfl ?_
   refine take_x (some 12) 5 rfl rfl ?_
   refine take_x (some 13) 6 rfl rfl ?_
   refine take_x (some 15) 8 rfl rfl ?_
   refine take_x (some 16) 9 rfl rfl ?_
   refine take_x (some 17) 10 rfl rfl ?_
   refine take_x (some 18) 11 rfl rfl ?_
   refine take_x (some 19) 12 rfl rfl ?_
   refine take_x (some 20) 13 rfl rfl ?_
   refine wpAnyH_ready (rs := [7]) (by kernel_rfl) (by simp) ?_
   refine AllReadyH.cons rfl (fun K hK => ?_) AllReadyH.nil
   go_simp
   refine ((unhide IH) x.sup _ _ (prog_keep (Keeps.of_below ((Below.refl _ _).drew)) (unhide HPW)) hsup.1 (by omega) (by omega)).mono ?_
   rintro e w1 ⟨v', rfl, hown, hb1⟩
   have hb1' : Below W.heap.size W w1 := ⟨hb1.os, hb1.tape, hb1.output, hb1.size, hb1.block⟩
   have k1 := Keeps.of_below hb1'
   go_wp2_with fail
   refine hK.out _ _ (And.intro (k1 _ _ hbox) (And.intro (k1 _ _ d0) (k1 _ _ d1))) (fun hHeld => ?_)
   clear hK K
   try simp only [Act.put, List.setIfInBounds_toArray, List.set_cons_zero, List.set_cons_succ]
   refine wpAnyH_ready (rs := [14]) (by kernel_rfl) (by simp) ?_
   refine AllReadyH.cons rfl (fun K hK => ?_) AllReadyH.nil
   obtain ⟨sa, scap, hsl, hnil, hsrc⟩ := ints_src (ints_keep k1 (unhide HFW))
   simp only [Value.slice.injEq, true_and] at hsl
   obtain ⟨rfl, rfl⟩ := hsl
   have hfl : (fieldsOf p x.sup).length + x.fields.length ≤ 4194304 := by
    have h := congrArg List.length (unhide HF)
    rw [List.length_append] at h
    omega
   refine wp_append_sl (.tmp 14) (.tmp 20) 40 rfl W.heap.size 43 i0 (.int .i64 0) 1 8 Tryz.underlying40 hi0 hz0 hz1 hz2 rfl (by decide) v' (fieldsOf p x.sup).length ((fieldsOf p x.sup).map (Value.int .i64)) rfl hown fa x.fields.length fcap (x.fields.map (Value.int .i64)) rfl (by simp) (fun e => ⟨by rw [(hnil e).1]; rfl, (hnil e).2⟩) hsrc (oneCell_ints _) (by unfold maxLen; omega) (by omega) hb1'.size ?_
   intro v2 w2 hown2 hg2 hat2
   obtain ⟨a2, cap2, rfl⟩ := own_form hown2
   have hb2 : Below W.heap.size W w2 := hb1'.grown hg2 hb1'.size (fun k e => by have := hown.lt k e; exact this.1)
   have k2 := Keeps.of_below hb2
   go_simp
   refine hK.out _ _ (And.intro (k2 _ _ hbox) (And.intro (k2 _ _ d0) (k2 _ _ d1))) (fun hHeld => ?_)
   clear hK K
   try simp only [Act.put, List.setIfInBounds_toArray, List.set_cons_zero, List.set_cons_succ]
   have HO := hide hown2
   clear hown2 hg2 hat2 hown hb1 hb1' k1 k2 hnil hsrc
   refine take_x (some 4) 15 rfl rfl ?_
   refine wpAnyH_done (by kernel_rfl) ?_ _
   refine NoPanic.normal ?_
   go_wp2_with fail
   go_ret
   refine ⟨_, rfl, ?_, hbel.trans (hb2.mono hbel.size)⟩
   have := own_base (unhide HO) hbel.size
   rw [unhide HF, List.length_append, List.map_append]
   exact this
end Go.Proofs.YtiiokkllmchohaaGreat
namespace Go.Proofs.YtiiokkllmchohaaGreat
open Go.RowKit
attribute [local go_sem ↓] Go.wp_at_zero Go.wp_at_succ
attribute [local go_sem] frz_drew
def callS (p : List LClass) (m : LMeth) (a b : Int) (s : TSt) : Option TSt := (wantsS p (findM p a b).args.reverse s).bind fun s => (wantS p (a + 3) s).bind (leaveS m (findM p a b).ret)
theorem findM_of {p : List LClass} {a b : Int} {ck : Nat × Nat} {o : LMeth} (h1 : methOf p a b = some ck) (h2 : methAt p ck = some o) : findM p a b = o := by
 unfold findM
 rw [h1, Option.bind_some, h2]; rfl
theorem wantsS_bad (p : List LClass) : ∀ (l : List Int) (s : TSt) (k : Nat), wantsS p (l.take k) s = none → wantsS p l s = none
 | [], s, k, h => by simp [wantsS] at h
 | t :: r, s, 0, h => by simp [wantsS] at h
 | t :: r, s, k + 1, h => by
  rw [List.take_succ_cons] at h
  unfold wantsS at h ⊢
  cases e : wantS p t s with
  | none => rfl
  | some s1 =>
   rw [e] at h
   exact wantsS_bad p r s1 k h
theorem wantsS_snoc (p : List LClass) (t : Int) : ∀ (l : List Int) (s : TSt), wantsS p (l ++ [t]) s = (wantsS p l s).bind (wantS p t)
 | [], s => by
  simp only [List.nil_append, wantsS, Option.bind_some]
  cases wantS p t s <;> rfl
 | x :: r, s => by
  rw [List.cons_append]
  unfold wantsS
  cases wantS p x s with
  | none => rfl
  | some s1 => exact wantsS_snoc p t r s1

theorem b0_box {B : Nat} {w0 W : World} (h : Below B w0 W) (hB : B ≤ w0.heap.size) (o : Obj) : Below B w0 (W.alloc o).drew := (h.alloc (Nat.le_trans hB h.size) o).drew
theorem b0_box' {B : Nat} {w0 W : World} (h : Below B w0 W) (hB : B ≤ w0.heap.size) (o : Obj) : Below B w0 (W.drew.alloc o) := h.drew.alloc (Nat.le_trans hB h.size) o

set_option maxHeartbeats 2000000 in
set_option maxRecDepth 100000 in
theorem lk_call (op a b : Int) (p : List LClass) (vc : Value) (m : LMeth) (s : TSt) (w0 w : World) (bl : Nat) (pre : List Value) (h : LkC w0 w bl p vc m pre s) (hs : SupOk p p.length) (hz : szProg p ≤ 4194304) (h8 : m.stack ≤ 8)
  (ha0 : 0 ≤ a) (ha1 : a < (p.length : Int)) (hmo : (methOf p a b).isSome = true) (hty : ∀ x ∈ (findM p a b).args, tyOk p.length x) (hret : tyOk p.length (findM p a b).ret) :
  Calls Tryz.prog 208 #[.pointer (some ⟨bl, 0, none⟩), .agg #[.int .i64 op, .int .i64 a, .int .i64 b]] w fun e w' => (∀ s', callS p m a b s = some s' → e = .returned (.tuple #[]) ∧ LkC w0 w' bl p vc m pre s') ∧ (callS p m a b s = none → e = .panicked (refC 5)) ∧ Mods (fun k => k = bl) w w' := by
 have hpl : p.length ≤ 4194304 := Nat.le_trans (szProg_len p) hz
 obtain ⟨ck, hck⟩ := Option.isSome_iff_exists.1 hmo
 have H := hide h
 have hbl := h.lk.lt
 have c0 := h.cell (by omega) h.p0
 obtain ⟨va, _, _, vcap, rfl, _⟩ := h.pr
 have HCK := hide hck
 clear h hck
 go_enter Tryz.func208, Tryz.ntmps208
 go_wp2_with fail
 have HW := hide ((unhide H).below (box_below w (.cells #[.int .i64 op, .int .i64 a, .int .i64 b] 60)))
 have hbel : Below w.heap.size w (w.alloc (.cells #[.int .i64 op, .int .i64 a, .int .i64 b] 60)) := box_below _ _
 have hBI := Blk.new w #[.int .i64 op, .int .i64 a, .int .i64 b] 60
 have hWs : (w.alloc (.cells #[.int .i64 op, .int .i64 a, .int .i64 b] 60)).heap.size = w.heap.size + 1 := by simp
 have HWS := hide hWs
 clear hWs
 generalize w.alloc _ = W at *
 have x0 : W.cell? ⟨bl, 0, none⟩ = some (.slice va p.length vcap) := (unhide HW).cell (by omega) (unhide HW).p0
 have x1 : W.cell? ⟨w.heap.size, 1, none⟩ = some (.int .i64 a) := hBI.cell 1
 have x2 : W.cell? ⟨w.heap.size, 2, none⟩ = some (.int .i64 b) := hBI.cell 2
 have HS3 := hide (And.intro x0 (And.intro x1 x2))
 go_cut [4, 5] (fun s4 s5 wx => ∃ (aa ca fa : Option Addr) (ac cc fc bI : Nat), s4 = .pointer (some ⟨bI, 0, none⟩) ∧ s5 = .bool true ∧ W.heap.size ≤ bI ∧ Blk wx bI 63 [.int .i64 (findM p a b).slot, .slice aa (findM p a b).args.length ac, .int .i64 (findM p a b).ret, .int .i64 (findM p a b).locals, .int .i64 (findM p a b).stack, .slice ca (findM p a b).code.length cc, .slice fa (findM p a b).frames.length fc] ∧ SlAt 1 (RInt w0) (.slice aa (findM p a b).args.length ac) (findM p a b).args ∧ Below W.heap.size W wx ∧ methAt p ck = some (findM p a b))
 case first =>
  have hb0 := (unhide HW).b0
  have hpr := (unhide HW).pr
  have HB0 := hide hb0
  have HPR := hide hpr
  clear hb0 hpr
  go_region_held3 (fun w' => w'.cell? ⟨bl, 0, none⟩ = some (.slice va p.length vcap) ∧ w'.cell? ⟨w.heap.size, 1, none⟩ = some (.int .i64 a) ∧ w'.cell? ⟨w.heap.size, 2, none⟩ = some (.int .i64 b))
   (first
     | with_reducible exact tri_keep HS3.out (below_put7 (below_boxcall HB1.out) (Nat.le_refl _) _ _ _ _ _ _ _).drew.drew
     | with_reducible exact tri_keep HS3.out (below_put7 (below_boxcall HB1.out) (Nat.le_refl _) _ _ _ _ _ _ _).drew
     | with_reducible exact tri_keep HS3.out (below_put7 (below_boxcall HB1.out) (Nat.le_refl _) _ _ _ _ _ _ _)
     | with_reducible exact tri_keep HS3.out (below_call hb1)
     | with_reducible exact tri_keep HS3.out ((below_call hb1).alloc (below_call hb1).size _)
     | with_reducible exact tri_keep HS3.out (below_boxcall HB1.out)
     | with_reducible exact tri_keep HS3.out (below_box _)
     | with_reducible exact tri_keep HS3.out (below_box' _)
     | (with_reducible exact HS3.out)
     | go_keep)
   (first | ((go_at_call 109; refine (code_findmethod0 p _ p.length _ _ w0 _ (unhide HPR) ?_ hs (Nat.le_refl _) (by omega) (by omega) hz).mono ?_); (first | with_reducible exact (unhide HB0).drew | with_reducible exact b0_box (unhide HB0) (Nat.le_refl _) _ | with_reducible exact b0_box' (unhide HB0) (Nat.le_refl _) _); rintro e w1 ⟨o, oa, oc, of, oac, occ, ofc, rfl, hfm, hb1⟩; (first | (have y1 := blk_boxcall hb1; obtain ⟨⟨f0, f1, f2, f3, f4, f5, f6⟩, g0, g1, g2, g3, g4, g5, g6⟩ := blk7 y1; have Y1 := hide y1; have HB1 := hide hb1; have HFM := hide hfm; clear y1 hb1 hfm; skip) | skip)))
  ·obtain ⟨hma, hmv⟩ := hfm ck (unhide HCK)
   obtain rfl := findM_of (unhide HCK) hma
   have hb1' := below_call hb1
   have hB := Blk.new w1 #[.int .i64 (findM p a b).slot, .slice oa (findM p a b).args.length oac, .int .i64 (findM p a b).ret, .int .i64 (findM p a b).locals, .int .i64 (findM p a b).stack, .slice oc (findM p a b).code.length occ, .slice of (findM p a b).frames.length ofc] 63
   have hbz := hb1'.alloc hb1'.size (.cells #[.int .i64 (findM p a b).slot, .slice oa (findM p a b).args.length oac, .int .i64 (findM p a b).ret, .int .i64 (findM p a b).locals, .int .i64 (findM p a b).stack, .slice oc (findM p a b).code.length occ, .slice of (findM p a b).frames.length ofc] 63)
   have hsz := hb1'.size
   go_wp2_with fail
   go_meet
   case rel => exact ⟨oa, oc, of, oac, occ, ofc, w1.heap.size, rfl, rfl, hsz, hB, hmv.1, hbz, hma⟩
  ·obtain ⟨hma, hmv⟩ := HFM.out ck (unhide HCK)
   obtain rfl := findM_of (unhide HCK) hma
   have hbz := below_put7 (below_boxcall HB1.out) (Nat.le_refl _) (.int .i64 (findM p a b).slot) (.slice oa (findM p a b).args.length oac) (.int .i64 (findM p a b).ret) (.int .i64 (findM p a b).locals) (.int .i64 (findM p a b).stack) (.slice oc (findM p a b).code.length occ) (.slice of (findM p a b).frames.length ofc)
   have hB := put7_blk (unhide Y1) (.int .i64 (findM p a b).slot) (.slice oa (findM p a b).args.length oac) (.int .i64 (findM p a b).ret) (.int .i64 (findM p a b).locals) (.int .i64 (findM p a b).stack) (.slice oc (findM p a b).code.length occ) (.slice of (findM p a b).frames.length ofc)
   unfold put7 at hB
   go_wp2_with fail
   go_meet
   case rel => exact ⟨oa, oc, of, oac, occ, ofc, W.heap.size, rfl, rfl, Nat.le_refl _, hB, hmv.1, hbz, hma⟩
 case rest =>
  obtain ⟨aa, ca, fa, ac, cc, fc, bI, rfl, rfl, hbI, hB, hsl, hbx, hma⟩ := hcut
  have hWs := unhide HWS
  have L1 := (unhide HW).below hbx
  have hBI1 := hBI.below hbx hBI.lt
  have M1 : Mods (fun k => k = bl) w wc := (bnone hbel).trans (bnone (S := fun k => k = bl) hbx) (fun _ _ e => e)
  clear x0 x1 x2 HS3 hBI HW H hbel
  have q1 : wc.cell? ⟨bI, 1, none⟩ = some (.slice aa (findM p a b).args.length ac) := hB.cell 1
  have hlb : bl < w.heap.size := hbl
  have hIb : bI ≠ bl := by omega
  have hBb : w.heap.size ≠ bl := by omega
  have hargs : (findM p a b).args.length ≤ 4194304 := methAt_len hma hz
  clear hma
  obtain ⟨sa, gb, goff, scap, hse, _, hsa, hsr⟩ := ints_open hsl
  simp only [Value.slice.injEq, true_and] at hse
  obtain ⟨rfl, rfl⟩ := hse
  have HL1 := hide L1
  have HB := hide hB
  have HBI := hide hBI1
  have HM1 := hide M1
  have HSR := hide hsr
  clear L1 hB hBI1 M1 hsr hWs hsl hbx
  generalize hM : findM p a b = o at *
  have HMO := hide hM
  clear hM
  go_wp2_with fail
  go_loopw [6, 22] (fun s6 s22 wr => ∃ (k : Nat) (s1 : TSt), k ≤ o.args.length ∧ s22 = .int .i64 k ∧ wantsS p (o.args.reverse.take k) s = some s1 ∧ LkC w0 wr bl p (.slice va p.length vcap) m pre s1 ∧ Mods (fun k => k = bl) w wr ∧ Blk wr bI 63 [.int .i64 o.slot, .slice aa o.args.length ac, .int .i64 o.ret, .int .i64 o.locals, .int .i64 o.stack, .slice ca o.code.length cc, .slice fa o.frames.length fc] ∧ Blk wr w.heap.size 60 [.int .i64 op, .int .i64 a, .int .i64 b]) (fun _ s22 _ => o.args.length - (intOf s22).toNat)
  case atStart => exact ⟨0, s, Nat.zero_le _, rfl, rfl, unhide HL1, unhide HM1, unhide HB, unhide HBI⟩
  case round =>
   obtain ⟨k, s1, hk, rfl, hws, hL, hMo, hBo, hBi⟩ := hrel
   have q1 : wr.cell? ⟨bI, 1, none⟩ = some (.slice aa o.args.length ac) := hBo.cell 1
   have q2 : wr.cell? ⟨bI, 2, none⟩ = some (.int .i64 o.ret) := hBo.cell 2
   have r1 : wr.cell? ⟨w.heap.size, 1, none⟩ = some (.int .i64 a) := hBi.cell 1
   have HWS2 := hide hws
   have HLr := hide hL
   have HMr := hide hMo
   have HBr := hide hBo
   have HBi := hide hBi
   clear hws hL hMo hBo hBi HL1 HM1 HB HBI
   by_cases hlt : k < o.args.length
   ·obtain rfl := hsa (ne_nil_of_lt hlt)
    obtain ⟨j, hj⟩ : ∃ j, j + k + 1 = o.args.length := ⟨o.args.length - 1 - k, by omega⟩
    have hjl : j < o.args.length := by omega
    have e0 : wr.cell? ⟨gb, goff + j, none⟩ = some (.int .i64 o.args[j]) := Keeps.of_below (unhide HLr).b0 _ _ (unhide HSR j hjl)
    have htx : tyOk p.length o.args[j] := hty _ (List.getElem_mem hjl)
    have hrev : o.args.reverse.take (k + 1) = o.args.reverse.take k ++ [o.args[j]] := by
     rw [List.take_add_one, List.getElem?_reverse (by omega), List.getElem?_eq_getElem (by omega), Option.toList_some]
     congr 3
     omega
    have HREV := hide hrev
    clear hrev
    generalize o.args[j] = t at *
    have hlt' : (k : Int) < (o.args.length : Int) := by omega
    have e1 : (o.args.length : Int) - 1 - (k : Int) = (j : Int) := by omega
    have j0 : (0 : Int) ≤ (j : Int) := by omega
    have j1 : (j : Int) < (o.args.length : Int) := by omega
    have HJ := hide hj
    clear hj
    go_wp2_with fail
    refine Calls.mono (lk_want t p _ m s1 w0 wr bl pre (unhide HLr) hs hpl htx) ?_
    rintro e w2 ⟨h1, h2, m2⟩
    cases hwt : wantS p t s1 with
    | none =>
     obtain rfl := h2 hwt
     have HN : Hid (callS p m a b s = none) := by
      show _ = _
      unfold callS
      rw [unhide HMO, wantsS_bad p o.args.reverse s (k + 1) (by rw [unhide HREV, wantsS_snoc, unhide HWS2]; exact hwt)]
      rfl
     have HM := hide ((unhide HMr).trans m2 (fun _ _ e => e))
     clear hwt h1 h2
     go_wp2_with fail
     exact ⟨rfl, fun s' e => (by rw [unhide HN] at e; cases e), fun _ => rfl, unhide HM⟩
    | some s2 =>
     obtain ⟨rfl, hL2⟩ := h1 s2 hwt
     have HN : Hid (wantsS p (o.args.reverse.take (k + 1)) s = some s2) := by show _ = _; rw [unhide HREV, wantsS_snoc, unhide HWS2]; exact hwt
     have HX := hide (And.intro hL2 (And.intro ((unhide HMr).trans m2 (fun _ _ e => e)) (And.intro ((unhide HBr).mods m2 hIb) ((unhide HBi).mods m2 hBb))))
     clear hwt h1 h2 hL2 m2
     go_wp2_with fail
     obtain ⟨z1, z2, z3, z4⟩ := unhide HX
     exact ⟨⟨k + 1, s2, by omega, by go_num, unhide HN, z1, z2, z3, z4⟩, by simp [intOf]; omega⟩
   ·have hlt' : ¬ (k : Int) < (o.args.length : Int) := by omega
    have HA : Hid (wantsS p o.args.reverse s = some s1) := by
     show _ = _
     have := unhide HWS2
     rwa [List.take_of_length_le (by simp; omega)] at this
    have hta : tyOk p.length (a + 3) := ⟨by omega, by omega⟩
    clear hlt HWS2 q1
    go_wp2_with fail
    refine (code_of a (by omega) (by omega) _).mono ?_
    rintro e w2 ⟨rfl, rfl⟩
    go_wp2_with fail
    refine (lk_want (a + 3) p _ m s1 w0 _ bl pre (unhide HLr) hs hpl hta).mono ?_
    rintro e w3 ⟨h1, h2, m3⟩
    cases hwt : wantS p (a + 3) s1 with
    | none =>
     obtain rfl := h2 hwt
     have HN : Hid (callS p m a b s = none) := by
      show _ = _
      unfold callS
      rw [unhide HMO, unhide HA, Option.bind_some, hwt]
      rfl
     have HM := hide ((unhide HMr).trans m3 (fun _ _ e => e))
     clear hwt h1 h2
     go_wp2_with fail
     exact ⟨rfl, fun s' e => (by rw [unhide HN] at e; cases e), fun _ => rfl, unhide HM⟩
    | some s2 =>
     obtain ⟨rfl, hL2⟩ := h1 s2 hwt
     have HC : Hid (callS p m a b s = leaveS m o.ret s2) := by
      show _ = _
      unfold callS
      rw [unhide HMO, unhide HA, Option.bind_some, hwt]
      rfl
     have HM := hide ((unhide HMr).trans m3 (fun _ _ e => e))
     have q3 : w3.cell? ⟨bI, 2, none⟩ = some (.int .i64 o.ret) := ((unhide HBr).mods m3 hIb).cell 2
     have HL2 := hide hL2
     clear hwt h1 h2 hL2 m3 q2 r1
     go_wp2_with fail
     refine (lk_leave o.ret p _ m s2 w0 w3 bl pre (unhide HL2) hret h8).mono ?_
     rintro e w4 ⟨h1, h2, m4⟩
     have HM4 := hide ((unhide HM).trans m4 (fun _ _ e => e))
     cases hlv : leaveS m o.ret s2 with
     | none =>
      obtain rfl := h2 hlv
      have HN : Hid (callS p m a b s = none) := by show _ = _; rw [unhide HC, hlv]
      clear hlv h1 h2
      go_wp2_with fail
      exact ⟨rfl, fun s' e => (by rw [unhide HN] at e; cases e), fun _ => rfl, unhide HM4⟩
     | some s3 =>
      obtain ⟨rfl, hL3⟩ := h1 s3 hlv
      have HN : Hid (callS p m a b s = some s3) := by show _ = _; rw [unhide HC, hlv]
      clear hlv h1 h2
      go_wp2_with fail
      go_end0
      refine ⟨fun s' e => ?_, fun e => (by rw [unhide HN] at e; cases e), unhide HM4⟩
      rw [unhide HN] at e
      simp only [Option.some.injEq] at e
      subst e
      exact ⟨rfl, hL3⟩
end Go.Proofs.YtiiokkllmchohaaGreat
namespace Go.Proofs.YtiiokkllmchohaaGreat
open Go.RowKit Go.Shelf
attribute [local go_sem ↓] Go.wp_at_zero Go.wp_at_succ
attribute [local go_sem] Oper.semAt_some
set_option maxHeartbeats 400000 in
theorem flow_jumps (op a b : Int) (w : World) : Calls Tryz.prog 159 #[.agg #[.int .i64 op, .int .i64 a, .int .i64 b]] w fun e w' => e = .returned (.bool (jumpsB ⟨op, a, b⟩)) ∧ Below w.heap.size w w' := by
 unfold jumpsB
 dsimp only
 have hb := box_below w (.cells #[.int .i64 op, .int .i64 a, .int .i64 b] 60)
 cases h7 : op == 7 with
 | true =>
  go_enter Tryz.func159, Tryz.ntmps159
  go_wp2_with fail
  go_ret
  exact ⟨rfl, hb⟩
 | false =>
  cases h8 : op == 8 with
  | true =>
   go_enter Tryz.func159, Tryz.ntmps159
   go_wp2_with fail
   go_ret
   exact ⟨rfl, hb⟩
  | false =>
   go_enter Tryz.func159, Tryz.ntmps159
   go_wp2_with fail
   go_ret
   exact ⟨rfl, hb⟩
set_option maxHeartbeats 400000 in
theorem flow_falls (op a b : Int) (w : World) : Calls Tryz.prog 160 #[.agg #[.int .i64 op, .int .i64 a, .int .i64 b]] w fun e w' => e = .returned (.bool (fallsB ⟨op, a, b⟩)) ∧ Below w.heap.size w w' := by
 have hb := box_below w (.cells #[.int .i64 op, .int .i64 a, .int .i64 b] 60)
 by_cases h7 : op = 7
 ·subst h7
  go_enter Tryz.func160, Tryz.ntmps160
  go_wp2_with fail
  go_ret
  exact ⟨rfl, hb⟩
 ·have h7' : (op != 7) = true := by simpa using h7
  have HF : Hid (fallsB ⟨op, a, b⟩ = (op != 13)) := by
   show _ = _
   unfold fallsB
   simp [h7, bne]
  go_enter Tryz.func160, Tryz.ntmps160
  go_wp2_with fail
  go_ret
  rw [unhide HF]
  exact ⟨rfl, hb⟩
set_option maxHeartbeats 400000 in
theorem flow_onward (a : Option Addr) (n cap : Nat) (pc : Int) (w : World) : Calls Tryz.prog 103 #[.slice a n cap, .int .i64 pc] w fun e w' =>
  e = .returned (.func (.func 158) #[] #[.pointer (some ⟨w.heap.size, 0, none⟩), .pointer (some ⟨w.heap.size + 1, 0, none⟩)]) ∧ w' = (w.alloc (.cells #[.slice a n cap] 61)).alloc (.cells #[.int .i64 pc] 3) := by
 go_enter Tryz.func103, Tryz.ntmps103
 go_wp2_with fail
 go_ret
 exact ⟨rfl, rfl⟩
set_option maxHeartbeats 1000000 in
set_option maxRecDepth 100000 in
theorem onward_seq (i : LIns) (pc n cap cb off b1 b2 : Nat) (S : Nat → Prop) (w : World) (hpc : pc < n) (hn : n ≤ 4194304) (h1 : w.cell? ⟨b1, 0, none⟩ = some (.slice (some ⟨cb, off, none⟩) n cap)) (h2 : w.cell? ⟨b2, 0, none⟩ = some (.int .i64 (pc : Int))) (hi : RIns w i cb (off + pc * 3))
  (s2 : ¬ S b2) (hS : ∀ k, S k → k < w.heap.size) :
  SeqP Tryz.prog 158 #[.pointer (some ⟨b1, 0, none⟩), .pointer (some ⟨b2, 0, none⟩)] S (onwardL i pc) w := by
 intro l J Jp W hW hl hlW hJ hY h0
 obtain ⟨op, a, b⟩ := i
 obtain ⟨i0, i1, i2⟩ := hi
 dsimp only at i0 i1 i2
 have kW := Keeps.of_below hW
 have e2 : l ≠ b2 := by have := cell_lt h2; dsimp only at this; omega
 replace h1 := kW _ _ h1
 replace h2 := kW _ _ h2
 replace i0 := kW _ _ i0
 replace i1 := kW _ _ i1
 replace i2 := kW _ _ i2
 have p0 : (0 : Int) ≤ (pc : Int) := by omega
 have p1 : (pc : Int) < (n : Int) := by omega
 refine callsIn_of_wp Tryz.func158 rfl trivial ?_ rfl
 simp only [Tryz.ntmps158, List.size_toArray, List.length_cons, List.length_nil, Nat.reduceAdd, Nat.reduceSub, Array.replicate_succ, Array.replicate_zero, List.push_toArray, List.append_toArray, List.nil_append, List.cons_append]
 gi_wp2_with fail
 refine ⟨trivial, rfl, ?_⟩
 refine (callsIn_wide.2 (flow_jumps op a b _)).mono ?_
 rintro e w1 ⟨rfl, hb1⟩
 have hb := (box_below W (.cells #[.int .i64 op, .int .i64 a, .int .i64 b] 60)).trans (hb1.mono (by simp))
 have hBI := (Blk.new W #[.int .i64 op, .int .i64 a, .int .i64 b] 60).below hb1 (by simp)
 have hJ1 := hJ _ _ _ h0 hb
 have h2' := Keeps.of_below hb _ _ h2
 have hsz : W.heap.size < w1.heap.size := hBI.lt
 have r0 : w1.cell? ⟨W.heap.size, 0, none⟩ = some (.int .i64 op) := hBI.cell 0
 have r1 : w1.cell? ⟨W.heap.size, 1, none⟩ = some (.int .i64 a) := hBI.cell 1
 have r2 : w1.cell? ⟨W.heap.size, 2, none⟩ = some (.int .i64 b) := hBI.cell 2
 have hWs := hW.size
 clear h0 h1 h2 i0 i1 i2 kW hb hb1 hW
 cases hj : jumpsB ⟨op, a, b⟩ with
 | true =>
  have ho : onwardL ⟨op, a, b⟩ pc = (a, true) :: (if fallsB ⟨op, a, b⟩ then [((pc : Int) + 1, false)] else []) := by unfold onwardL; rw [hj]; rfl
  rw [ho] at hJ1
  obtain ⟨fn, tmps, assign, body, hy, hR⟩ := hY _ _ _ hJ1
  dsimp only [encP] at hy
  clear ho
  gi_wp2_with fail
  refine ⟨rfl, ?_⟩
  refine hR.mono ?_
  rintro e w3 (⟨rfl, hJr, hm⟩ | ⟨c, rfl, hp⟩)
  ·have hBz := hBI.mods hm (fun e => e.elim (fun e => by have := hS _ e; omega) (fun e => by omega))
   have z0 : w3.cell? ⟨W.heap.size, 0, none⟩ = some (.int .i64 op) := hBz.cell 0
   have z1 : w3.cell? ⟨W.heap.size, 1, none⟩ = some (.int .i64 a) := hBz.cell 1
   have z3 : w3.cell? ⟨W.heap.size, 2, none⟩ = some (.int .i64 b) := hBz.cell 2
   have z2 : w3.cell? ⟨b2, 0, none⟩ = some (.int .i64 (pc : Int)) := hm.cell h2' (fun e => e.elim s2 (fun e => e2 e.symm))
   clear hy hR hm
   gi_wp2_with fail
   refine ⟨trivial, rfl, ?_⟩
   refine (callsIn_wide.2 (flow_falls op a b _)).mono ?_
   rintro e w5 ⟨rfl, hb5⟩
   have hJ5 := hJ _ _ _ hJr hb5
   have q2 := Keeps.of_below hb5 _ _ z2
   clear hJr z0 z1 z2 hb5
   cases hf : fallsB ⟨op, a, b⟩ with
   | true =>
    rw [hf] at hJ5
    obtain ⟨fn5, tmps5, assign5, body5, hy5, hR5⟩ := hY _ _ _ hJ5
    dsimp only [encP] at hy5
    gi_wp2_with fail
    refine ⟨rfl, ?_⟩
    refine hR5.mono ?_
    rintro e w6 (⟨rfl, hJ6, _⟩ | ⟨c, rfl, hp⟩)
    ·gi_wp2_with fail
     go_end0
     exact .inl ⟨_, rfl, hJ6⟩
    ·gi_wp2_with fail
     exact ⟨rfl, .inr ⟨c, rfl, hp⟩⟩
   | false =>
    rw [hf] at hJ5
    gi_wp2_with fail
    go_end0
    exact .inl ⟨_, rfl, hJ5⟩
  ·gi_wp2_with fail
   exact ⟨rfl, .inr ⟨c, rfl, hp⟩⟩
 | false =>
  have ho : onwardL ⟨op, a, b⟩ pc = (if fallsB ⟨op, a, b⟩ then [((pc : Int) + 1, false)] else []) := by unfold onwardL; rw [hj]; rfl
  rw [ho] at hJ1
  clear ho
  gi_wp2_with fail
  refine ⟨fun _ h => (by cases h), ?_⟩
  have hJr := hJ1
  have z0 := r0
  have z1 := r1
  have z2 := h2'
  gi_wp2_with fail
  refine ⟨trivial, rfl, ?_⟩
  refine (callsIn_wide.2 (flow_falls op a b _)).mono ?_
  rintro e w5 ⟨rfl, hb5⟩
  have hJ5 := hJ _ _ _ hJr hb5
  have q2 := Keeps.of_below hb5 _ _ z2
  clear hJr z0 z1 z2 hb5
  cases hf : fallsB ⟨op, a, b⟩ with
  | true =>
   rw [hf] at hJ5
   obtain ⟨fn5, tmps5, assign5, body5, hy5, hR5⟩ := hY _ _ _ hJ5
   dsimp only [encP] at hy5
   gi_wp2_with fail
   refine ⟨rfl, ?_⟩
   refine hR5.mono ?_
   rintro e w6 (⟨rfl, hJ6, _⟩ | ⟨c, rfl, hp⟩)
   ·gi_wp2_with fail
    go_end0
    exact .inl ⟨_, rfl, hJ6⟩
   ·gi_wp2_with fail
    exact ⟨rfl, .inr ⟨c, rfl, hp⟩⟩
  | false =>
   rw [hf] at hJ5
   gi_wp2_with fail
   go_end0
   exact .inl ⟨_, rfl, hJ5⟩
end Go.Proofs.YtiiokkllmchohaaGreat
