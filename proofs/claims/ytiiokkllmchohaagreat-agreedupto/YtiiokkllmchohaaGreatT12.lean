/- Where an instruction goes on: the function over which one ranges. -/
import Derived.RangeFuncLeaves
import Derived.Shelf.Abstract
import Derived.OwnWalkIn
import Derived.TacticsInMore
import Derived.Test.YtiiokkllmchohaaGreatT01
import Derived.Test.YtiiokkllmchohaaGreatT08
import Derived.Test.YtiiokkllmchohaaGreatT11
/- FlowA -/
namespace Go.Proofs.YtiiokkllmchohaaGreat
open Go.RowKit Go.Shelf
attribute [local go_sem ↓] Go.wp_at_zero Go.wp_at_succ
attribute [local go_sem] Oper.semAt_some

set_option maxHeartbeats 400000 in
theorem flow_jumps (op a b : Int) (w : World) : Calls Tryz.prog 159 #[.agg #[.int .i64 op, .int .i64 a, .int .i64 b]] w fun e w' => e = .returned (.bool (jumpsB ⟨op, a, b⟩)) ∧ Below w.heap.size w w' := by
 unfold jumpsB
 dsimp only
 have hb := box_below w (.cells #[.int .i64 op, .int .i64 a, .int .i64 b] 60)
 cases h7 : op == 7 with
 | true =>
  go_enter Tryz.func159, Tryz.ntmps159
  go_wp2_with fail
  go_ret
  exact ⟨rfl, hb⟩
 | false =>
  cases h8 : op == 8 with
  | true =>
   go_enter Tryz.func159, Tryz.ntmps159
   go_wp2_with fail
   go_ret
   exact ⟨rfl, hb⟩
  | false =>
   go_enter Tryz.func159, Tryz.ntmps159
   go_wp2_with fail
   go_ret
   exact ⟨rfl, hb⟩
set_option maxHeartbeats 400000 in
theorem flow_falls (op a b : Int) (w : World) : Calls Tryz.prog 160 #[.agg #[.int .i64 op, .int .i64 a, .int .i64 b]] w fun e w' => e = .returned (.bool (fallsB ⟨op, a, b⟩)) ∧ Below w.heap.size w w' := by
 have hb := box_below w (.cells #[.int .i64 op, .int .i64 a, .int .i64 b] 60)
 by_cases h7 : op = 7
 ·subst h7
  go_enter Tryz.func160, Tryz.ntmps160
  go_wp2_with fail
  go_ret
  exact ⟨rfl, hb⟩
 ·have h7' : (op != 7) = true := by simpa using h7
  have HF : Hid (fallsB ⟨op, a, b⟩ = (op != 13)) := by
   show _ = _
   unfold fallsB
   simp [h7, bne]
  go_enter Tryz.func160, Tryz.ntmps160
  go_wp2_with fail
  go_ret
  rw [unhide HF]
  exact ⟨rfl, hb⟩
set_option maxHeartbeats 400000 in
theorem flow_onward (a : Option Addr) (n cap : Nat) (pc : Int) (w : World) : Calls Tryz.prog 103 #[.slice a n cap, .int .i64 pc] w fun e w' =>
  e = .returned (.func (.func 158) #[] #[.pointer (some ⟨w.heap.size, 0, none⟩), .pointer (some ⟨w.heap.size + 1, 0, none⟩)]) ∧ w' = (w.alloc (.cells #[.slice a n cap] 61)).alloc (.cells #[.int .i64 pc] 3) := by
 go_enter Tryz.func103, Tryz.ntmps103
 go_wp2_with fail
 go_ret
 exact ⟨rfl, rfl⟩
set_option maxHeartbeats 1000000 in
set_option maxRecDepth 100000 in
theorem onward_seq (i : LIns) (pc n cap cb off b1 b2 : Nat) (S : Nat → Prop) (w : World) (hpc : pc < n) (hn : n ≤ 4194304) (h1 : w.cell? ⟨b1, 0, none⟩ = some (.slice (some ⟨cb, off, none⟩) n cap)) (h2 : w.cell? ⟨b2, 0, none⟩ = some (.int .i64 (pc : Int))) (hi : RIns w i cb (off + pc * 3))
  (s2 : ¬ S b2) (hS : ∀ k, S k → k < w.heap.size) :
  SeqP Tryz.prog 158 #[.pointer (some ⟨b1, 0, none⟩), .pointer (some ⟨b2, 0, none⟩)] S (onwardL i pc) w := by
 intro l J Jp W hW hl hlW hJ hY h0
 obtain ⟨op, a, b⟩ := i
 obtain ⟨i0, i1, i2⟩ := hi
 dsimp only at i0 i1 i2
 have kW := Keeps.of_below hW
 have e2 : l ≠ b2 := by have := cell_lt h2; dsimp only at this; omega
 replace h1 := kW _ _ h1
 replace h2 := kW _ _ h2
 replace i0 := kW _ _ i0
 replace i1 := kW _ _ i1
 replace i2 := kW _ _ i2
 have p0 : (0 : Int) ≤ (pc : Int) := by omega
 have p1 : (pc : Int) < (n : Int) := by omega
 refine callsIn_of_wp Tryz.func158 rfl trivial ?_ rfl
 simp only [Tryz.ntmps158, List.size_toArray, List.length_cons, List.length_nil, Nat.reduceAdd, Nat.reduceSub, Array.replicate_succ, Array.replicate_zero, List.push_toArray, List.append_toArray, List.nil_append, List.cons_append]
 gi_wp2_with fail
 refine ⟨trivial, rfl, ?_⟩
 refine (callsIn_wide.2 (flow_jumps op a b _)).mono ?_
 rintro e w1 ⟨rfl, hb1⟩
 have hb := (box_below W (.cells #[.int .i64 op, .int .i64 a, .int .i64 b] 60)).trans (hb1.mono (by simp))
 have hBI := (Blk.new W #[.int .i64 op, .int .i64 a, .int .i64 b] 60).below hb1 (by simp)
 have hJ1 := hJ _ _ _ h0 hb
 have h2' := Keeps.of_below hb _ _ h2
 have hsz : W.heap.size < w1.heap.size := hBI.lt
 have r0 : w1.cell? ⟨W.heap.size, 0, none⟩ = some (.int .i64 op) := hBI.cell 0
 have r1 : w1.cell? ⟨W.heap.size, 1, none⟩ = some (.int .i64 a) := hBI.cell 1
 have r2 : w1.cell? ⟨W.heap.size, 2, none⟩ = some (.int .i64 b) := hBI.cell 2
 have hWs := hW.size
 clear h0 h1 h2 i0 i1 i2 kW hb hb1 hW
 cases hj : jumpsB ⟨op, a, b⟩ with
 | true =>
  have ho : onwardL ⟨op, a, b⟩ pc = (a, true) :: (if fallsB ⟨op, a, b⟩ then [((pc : Int) + 1, false)] else []) := by unfold onwardL; rw [hj]; rfl
  rw [ho] at hJ1
  obtain ⟨fn, tmps, assign, body, hy, hR⟩ := hY _ _ _ hJ1
  dsimp only [encP] at hy
  clear ho
  gi_wp2_with fail
  refine ⟨rfl, ?_⟩
  refine hR.mono ?_
  rintro e w3 (⟨rfl, hJr, hm⟩ | ⟨c, rfl, hp⟩)
  ·have hBz := hBI.mods hm (fun e => e.elim (fun e => by have := hS _ e; omega) (fun e => by omega))
   have z0 : w3.cell? ⟨W.heap.size, 0, none⟩ = some (.int .i64 op) := hBz.cell 0
   have z1 : w3.cell? ⟨W.heap.size, 1, none⟩ = some (.int .i64 a) := hBz.cell 1
   have z3 : w3.cell? ⟨W.heap.size, 2, none⟩ = some (.int .i64 b) := hBz.cell 2
   have z2 : w3.cell? ⟨b2, 0, none⟩ = some (.int .i64 (pc : Int)) := hm.cell h2' (fun e => e.elim s2 (fun e => e2 e.symm))
   clear hy hR hm
   gi_wp2_with fail
   refine ⟨trivial, rfl, ?_⟩
   refine (callsIn_wide.2 (flow_falls op a b _)).mono ?_
   rintro e w5 ⟨rfl, hb5⟩
   have hJ5 := hJ _ _ _ hJr hb5
   have q2 := Keeps.of_below hb5 _ _ z2
   clear hJr z0 z1 z2 hb5
   cases hf : fallsB ⟨op, a, b⟩ with
   | true =>
    rw [hf] at hJ5
    obtain ⟨fn5, tmps5, assign5, body5, hy5, hR5⟩ := hY _ _ _ hJ5
    dsimp only [encP] at hy5
    gi_wp2_with fail
    refine ⟨rfl, ?_⟩
    refine hR5.mono ?_
    rintro e w6 (⟨rfl, hJ6, _⟩ | ⟨c, rfl, hp⟩)
    ·gi_wp2_with fail
     go_end0
     exact .inl ⟨_, rfl, hJ6⟩
    ·gi_wp2_with fail
     exact ⟨rfl, .inr ⟨c, rfl, hp⟩⟩
   | false =>
    rw [hf] at hJ5
    gi_wp2_with fail
    go_end0
    exact .inl ⟨_, rfl, hJ5⟩
  ·gi_wp2_with fail
   exact ⟨rfl, .inr ⟨c, rfl, hp⟩⟩
 | false =>
  have ho : onwardL ⟨op, a, b⟩ pc = (if fallsB ⟨op, a, b⟩ then [((pc : Int) + 1, false)] else []) := by unfold onwardL; rw [hj]; rfl
  rw [ho] at hJ1
  clear ho
  gi_wp2_with fail
  refine ⟨fun _ h => (by cases h), ?_⟩
  have hJr := hJ1
  have z0 := r0
  have z1 := r1
  have z2 := h2'
  gi_wp2_with fail
  refine ⟨trivial, rfl, ?_⟩
  refine (callsIn_wide.2 (flow_falls op a b _)).mono ?_
  rintro e w5 ⟨rfl, hb5⟩
  have hJ5 := hJ _ _ _ hJr hb5
  have q2 := Keeps.of_below hb5 _ _ z2
  clear hJr z0 z1 z2 hb5
  cases hf : fallsB ⟨op, a, b⟩ with
  | true =>
   rw [hf] at hJ5
   obtain ⟨fn5, tmps5, assign5, body5, hy5, hR5⟩ := hY _ _ _ hJ5
   dsimp only [encP] at hy5
   gi_wp2_with fail
   refine ⟨rfl, ?_⟩
   refine hR5.mono ?_
   rintro e w6 (⟨rfl, hJ6, _⟩ | ⟨c, rfl, hp⟩)
   ·gi_wp2_with fail
    go_end0
    exact .inl ⟨_, rfl, hJ6⟩
   ·gi_wp2_with fail
    exact ⟨rfl, .inr ⟨c, rfl, hp⟩⟩
  | false =>
   rw [hf] at hJ5
   gi_wp2_with fail
   go_end0
   exact .inl ⟨_, rfl, hJ5⟩
end Go.Proofs.YtiiokkllmchohaaGreat
