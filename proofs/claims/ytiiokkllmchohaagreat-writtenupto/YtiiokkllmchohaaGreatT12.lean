/- Where an instruction goes on: the function over which one ranges. -/
import Derived.RangeFuncLeaves
import Derived.Shelf.Abstract
import Derived.OwnWalkIn
import Derived.TacticsInMore
import Derived.Test.YtiiokkllmchohaaGreatT04
import Derived.Test.YtiiokkllmchohaaGreatT09
import Derived.Test.YtiiokkllmchohaaGreatT11
/- FlowA -/
namespace Go.Proofs.YtiiokkllmchohaaGreat
open Go.RowKit Go.Shelf
attribute [local go_sem ↓] Go.wp_at_zero Go.wp_at_succ
attribute [local go_sem] Oper.semAt_some

set_option maxHeartbeats 400000 in
theorem flow_jumps (op a b : Int) (w : World) : Calls Tryz.prog 159 #[.agg #[.int .i64 op, .int .i64 a, .int .i64 b]] w fun e w' => e = .returned (.bool (jumpsB ⟨op, a, b⟩)) ∧ Below w.heap.size w w' := by
  unfold jumpsB
  dsimp only
  have hb := box_below w (.cells #[.int .i64 op, .int .i64 a, .int .i64 b] 60)
  cases h7 : op == 7 with
  | true =>
    go_enter Tryz.func159, Tryz.ntmps159
    go_wp2_with fail
    go_ret
    exact ⟨rfl, hb⟩
  | false =>
    cases h8 : op == 8 with
    | true =>
      go_enter Tryz.func159, Tryz.ntmps159
      go_wp2_with fail
      go_ret
      exact ⟨rfl, hb⟩
    | false =>
      go_enter Tryz.func159, Tryz.ntmps159
      go_wp2_with fail
      go_ret
      exact ⟨rfl, hb⟩
set_option maxHeartbeats 400000 in
theorem flow_falls (op a b : Int) (w : World) : Calls Tryz.prog 160 #[.agg #[.int .i64 op, .int .i64 a, .int .i64 b]] w fun e w' => e = .returned (.bool (fallsB ⟨op, a, b⟩)) ∧ Below w.heap.size w w' := by
  have hb := box_below w (.cells #[.int .i64 op, .int .i64 a, .int .i64 b] 60)
  by_cases h7 : op = 7
  · subst h7
    go_enter Tryz.func160, Tryz.ntmps160
    go_wp2_with fail
    go_ret
    exact ⟨rfl, hb⟩
  · have h7' : (op != 7) = true := by simpa using h7
    have HF : Hid (fallsB ⟨op, a, b⟩ = (op != 13)) := by
      show _ = _
      unfold fallsB
      simp [h7, bne]
    go_enter Tryz.func160, Tryz.ntmps160
    go_wp2_with fail
    go_ret
    rw [unhide HF]
    exact ⟨rfl, hb⟩
set_option maxHeartbeats 400000 in
theorem flow_onward (a : Option Addr) (n cap : Nat) (pc : Int) (w : World) : Calls Tryz.prog 103 #[.slice a n cap, .int .i64 pc] w fun e w' =>
    e = .returned (.func (.func 158) #[] #[.pointer (some ⟨w.heap.size, 0, none⟩), .pointer (some ⟨w.heap.size + 1, 0, none⟩)]) ∧ w' = (w.alloc (.cells #[.slice a n cap] 61)).alloc (.cells #[.int .i64 pc] 3) := by
  go_enter Tryz.func103, Tryz.ntmps103
  go_wp2_with fail
  go_ret
  exact ⟨rfl, rfl⟩
set_option maxHeartbeats 1000000 in
set_option maxRecDepth 100000 in
theorem onward_seq (i : LIns) (pc n cap cb off b1 b2 : Nat) (S : Nat → Prop) (w : World) (hpc : pc < n) (hn : n ≤ 4194304) (h1 : w.cell? ⟨b1, 0, none⟩ = some (.slice (some ⟨cb, off, none⟩) n cap)) (h2 : w.cell? ⟨b2, 0, none⟩ = some (.int .i64 (pc : Int))) (hi : RIns w i cb (off + pc * 3))
    (s2 : ¬ S b2) (hS : ∀ k, S k → k < w.heap.size) :
    SeqP Tryz.prog 158 #[.pointer (some ⟨b1, 0, none⟩), .pointer (some ⟨b2, 0, none⟩)] S (onwardL i pc) w := by
  intro l J Jp W hW hl hlW hJ hY h0
  obtain ⟨op, a, b⟩ := i
  obtain ⟨i0, i1, i2⟩ := hi
  dsimp only at i0 i1 i2
  have kW := Keeps.of_below hW
  have e2 : l ≠ b2 := by have := cell_lt h2; dsimp only at this; omega
  replace h1 := kW _ _ h1
  replace h2 := kW _ _ h2
  replace i0 := kW _ _ i0
  replace i1 := kW _ _ i1
  replace i2 := kW _ _ i2
  have p0 : (0 : Int) ≤ (pc : Int) := by omega
  have p1 : (pc : Int) < (n : Int) := by omega
  refine callsIn_of_wp Tryz.func158 rfl trivial ?_ rfl
  simp only [Tryz.ntmps158, List.size_toArray, List.length_cons, List.length_nil, Nat.reduceAdd, Nat.reduceSub, Array.replicate_succ, Array.replicate_zero, List.push_toArray, List.append_toArray, List.nil_append, List.cons_append]
  gi_wp2_with fail
  refine ⟨trivial, rfl, ?_⟩
  refine (callsIn_wide.2 (flow_jumps op a b _)).mono ?_
  rintro e w1 ⟨rfl, hb1⟩
  have hb := (box_below W (.cells #[.int .i64 op, .int .i64 a, .int .i64 b] 60)).trans (hb1.mono (by simp))
  have hBI := (Blk.new W #[.int .i64 op, .int .i64 a, .int .i64 b] 60).below hb1 (by simp)
  have hJ1 := hJ _ _ _ h0 hb
  have h2' := Keeps.of_below hb _ _ h2
  have hsz : W.heap.size < w1.heap.size := hBI.lt
  have r0 : w1.cell? ⟨W.heap.size, 0, none⟩ = some (.int .i64 op) := hBI.cell 0
  have r1 : w1.cell? ⟨W.heap.size, 1, none⟩ = some (.int .i64 a) := hBI.cell 1
  have r2 : w1.cell? ⟨W.heap.size, 2, none⟩ = some (.int .i64 b) := hBI.cell 2
  have hWs := hW.size
  clear h0 h1 h2 i0 i1 i2 kW hb hb1 hW
  cases hj : jumpsB ⟨op, a, b⟩ with
  | true =>
    have ho : onwardL ⟨op, a, b⟩ pc = (a, true) :: (if fallsB ⟨op, a, b⟩ then [((pc : Int) + 1, false)] else []) := by unfold onwardL; rw [hj]; rfl
    rw [ho] at hJ1
    obtain ⟨fn, tmps, assign, body, hy, hR⟩ := hY _ _ _ hJ1
    dsimp only [encP] at hy
    clear ho
    gi_wp2_with fail
    refine ⟨rfl, ?_⟩
    refine hR.mono ?_
    rintro e w3 (⟨rfl, hJr, hm⟩ | ⟨c, rfl, hp⟩)
    · have hBz := hBI.mods hm (fun e => e.elim (fun e => by have := hS _ e; omega) (fun e => by omega))
      have z0 : w3.cell? ⟨W.heap.size, 0, none⟩ = some (.int .i64 op) := hBz.cell 0
      have z1 : w3.cell? ⟨W.heap.size, 1, none⟩ = some (.int .i64 a) := hBz.cell 1
      have z3 : w3.cell? ⟨W.heap.size, 2, none⟩ = some (.int .i64 b) := hBz.cell 2
      have z2 : w3.cell? ⟨b2, 0, none⟩ = some (.int .i64 (pc : Int)) := hm.cell h2' (fun e => e.elim s2 (fun e => e2 e.symm))
      clear hy hR hm
      gi_wp2_with fail
      refine ⟨trivial, rfl, ?_⟩
      refine (callsIn_wide.2 (flow_falls op a b _)).mono ?_
      rintro e w5 ⟨rfl, hb5⟩
      have hJ5 := hJ _ _ _ hJr hb5
      have q2 := Keeps.of_below hb5 _ _ z2
      clear hJr z0 z1 z2 hb5
      cases hf : fallsB ⟨op, a, b⟩ with
      | true =>
        rw [hf] at hJ5
        obtain ⟨fn5, tmps5, assign5, body5, hy5, hR5⟩ := hY _ _ _ hJ5
        dsimp only [encP] at hy5
        gi_wp2_with fail
        refine ⟨rfl, ?_⟩
        refine hR5.mono ?_
        rintro e w6 (⟨rfl, hJ6, _⟩ | ⟨c, rfl, hp⟩)
        · gi_wp2_with fail
          go_end0
          exact .inl ⟨_, rfl, hJ6⟩
        · gi_wp2_with fail
          exact ⟨rfl, .inr ⟨c, rfl, hp⟩⟩
      | false =>
        rw [hf] at hJ5
        gi_wp2_with fail
        go_end0
        exact .inl ⟨_, rfl, hJ5⟩
    · gi_wp2_with fail
      exact ⟨rfl, .inr ⟨c, rfl, hp⟩⟩
  | false =>
    have ho : onwardL ⟨op, a, b⟩ pc = (if fallsB ⟨op, a, b⟩ then [((pc : Int) + 1, false)] else []) := by unfold onwardL; rw [hj]; rfl
    rw [ho] at hJ1
    clear ho
    gi_wp2_with fail
    refine ⟨fun _ h => (by cases h), ?_⟩
    have hJr := hJ1
    have z0 := r0
    have z1 := r1
    have z2 := h2'
    gi_wp2_with fail
    refine ⟨trivial, rfl, ?_⟩
    refine (callsIn_wide.2 (flow_falls op a b _)).mono ?_
    rintro e w5 ⟨rfl, hb5⟩
    have hJ5 := hJ _ _ _ hJr hb5
    have q2 := Keeps.of_below hb5 _ _ z2
    clear hJr z0 z1 z2 hb5
    cases hf : fallsB ⟨op, a, b⟩ with
    | true =>
      rw [hf] at hJ5
      obtain ⟨fn5, tmps5, assign5, body5, hy5, hR5⟩ := hY _ _ _ hJ5
      dsimp only [encP] at hy5
      gi_wp2_with fail
      refine ⟨rfl, ?_⟩
      refine hR5.mono ?_
      rintro e w6 (⟨rfl, hJ6, _⟩ | ⟨c, rfl, hp⟩)
      · gi_wp2_with fail
        go_end0
        exact .inl ⟨_, rfl, hJ6⟩
      · gi_wp2_with fail
        exact ⟨rfl, .inr ⟨c, rfl, hp⟩⟩
    | false =>
      rw [hf] at hJ5
      gi_wp2_with fail
      go_end0
      exact .inl ⟨_, rfl, hJ5⟩
end Go.Proofs.YtiiokkllmchohaaGreat
/- The state behind an instruction: fit.Next. -/
namespace Go.Proofs.YtiiokkllmchohaaGreat
open Go.RowKit Go.Shelf
attribute [local go_sem ↓] Go.wp_at_zero Go.wp_at_succ
attribute [local go_sem] frz_drew
attribute [local go_sem] Oper.semAt_some

theorem aggLook : AggOk Tryz.prog 222 25 := ⟨by kernel_rfl, by kernel_rfl⟩
theorem results_blk {P : Program} {fn : Func} {t : Tmp} {ty t' : TypeId} {n g : Nat} {w : World} {vs : List Value} {tmps : Array Value} (h : fn.results = #[.cell t ty]) (hA : AggOk P ty n) (hB : Blk w g t' vs) (hl : vs.length = n) (hx : tmps.getD t undef = .pointer (some ⟨g, 0, none⟩)) :
    (results fn tmps).run P w = .ok (.agg vs.toArray) w := by
  have := run_load_blk hA hB 0 vs hl (fun j v e => by simpa using e)
  have hx' : tmps[t]?.getD undef = .pointer (some ⟨g, 0, none⟩) := by rw [← hx]; simp
  simp [results, h, hx', asAddr, this]
theorem fold_two (t : Array Value) (y : Int × Bool) (i j : Tmp) : ((#[i, j]).zip (encP y)).foldl (fun t (p, v) => t.setIfInBounds p v) t = (t.setIfInBounds i (.int .i64 y.1)).setIfInBounds j (.bool y.2) := by simp [encP]
theorem marks_panic0 {P : Program} {fn : Func} {R : Ending → World → Prop} {c : List PanicEntry} {tmps : Array Value} {w : World} (hR : R (.panicked c) w) : marksPost P fn R (.panic c) { tmps := tmps, defers := [] } w := hR
theorem marks_panic1 {P : Program} {fn : Func} {R : Ending → World → Prop} {c : List PanicEntry} {tmps : Array Value} {w : World} {D : Nat} (hk : w.heap[D]? = some (.deferred (some []))) (hR : R (.panicked c) (w.putObj D (.deferred none))) :
    marksPost P fn R (.panic c) { tmps := tmps, defers := [{ target := .collected D, args := #[] }] } w := ⟨by simp, .inl ⟨D, _, rfl, run_takeDeferred hk, hR⟩⟩
theorem marks_ret1 {P : Program} {fn : Func} {R : Ending → World → Prop} {tmps : Array Value} {w : World} {D : Nat} {v : Value} (hk : w.heap[D]? = some (.deferred (some []))) (hv : (results fn tmps).run P (w.putObj D (.deferred none)) = .ok v (w.putObj D (.deferred none))) (hR : R (.returned v) (w.putObj D (.deferred none))) :
    marksPost P fn R .ret { tmps := tmps, defers := [{ target := .collected D, args := #[] }] } w := ⟨by simp, .inl ⟨D, _, rfl, run_takeDeferred hk, v, hv, hR⟩⟩
theorem below_putObj {B : Nat} {w w' : World} (h : Below B w w') {D : Nat} (hD : B ≤ D) (o : Obj) : Below B w (w'.putObj D o) := ⟨h.os, h.tape, h.output, by have := h.size; simpa using this, fun i hi => (World.putObj_heap_other (by omega)).trans (h.block i hi)⟩
theorem Blk.putObj {w : World} {g : Nat} {t : TypeId} {cs : List Value} (h : Blk w g t cs) {D : Nat} (hD : g ≠ D) (o : Obj) : Blk (w.putObj D o) g t cs := (World.putObj_heap_other hD).trans h
theorem fold_put (n : Nat) : ∀ (cs : List Value) (k : Nat) (pre tl : List Value), pre.length = n + k → tl.length = cs.length →
    List.foldl (fun (a : Array Value) (x : Value × Nat) => a.setIfInBounds (n + x.2) x.1) (pre ++ tl).toArray (cs.zipIdx k) = (pre ++ cs).toArray
  | [], k, pre, tl, _, h => by
    rw [List.eq_nil_of_length_eq_zero (by simpa using h : tl.length = 0)]; rfl
  | c :: cs, k, pre, [], _, h => by simp at h
  | c :: cs, k, pre, t :: tl, hp, h => by
    have ih := fold_put n cs (k + 1) (pre ++ [c]) tl (by simp [hp]; omega) (by simpa using h)
    rw [List.zipIdx_cons, List.foldl_cons]
    have e : (pre ++ t :: tl).toArray.setIfInBounds (n + k) c = ((pre ++ [c]) ++ tl).toArray := by
      rw [List.setIfInBounds_toArray, List.set_append_right _ _ (by omega), hp, Nat.sub_self]; simp
    rw [e, ih]; simp
theorem fold_put8 {cs : List Value} (h : cs.length = 17) (v0 v1 v2 v3 v4 v5 v6 v7 : Value) :
    List.foldl (fun (a : Array Value) (x : Value × Nat) => a.setIfInBounds (8 + x.2) x.1) ([v0, v1, v2, v3, v4, v5, v6, v7] ++ List.replicate 17 (Value.int .i64 0)).toArray cs.zipIdx = ([v0, v1, v2, v3, v4, v5, v6, v7] ++ cs).toArray :=
  fold_put 8 cs 0 _ _ rfl (by simp [h])
def NextR (p : List LClass) (m : LMeth) (pc : Nat) (s : TSt) (w w' : World) (e : Ending) : Prop :=
  (∀ s', nextS p m pc s = some s' → ∃ cs', e = .returned (.agg cs'.toArray) ∧ StC s' cs' ∧ TyS p.length m.stack s') ∧ (nextS p m pc s = none → e = .panicked (refC 5)) ∧ Below w.heap.size w w'

set_option maxHeartbeats 1000000 in
set_option maxRecDepth 100000 in
theorem fit_next (p : List LClass) (vc : Value) (m : LMeth) (va vco vf : Value) (pc : Nat) (s : TSt) (cs : List Value) (w : World) (hp : RProg w vc p) (hv : GVals w.cell? m va vco vf) (hpc : pc < m.code.length) (h40 : m.code.length ≤ 40)
    (hS : StC s cs) (hT : TyS p.length m.stack s) (G : Good p) (M : MOk p m) (hi : ∀ i ∈ m.code, insB p m i = true) :
    Calls Tryz.prog 102 #[.agg #[vc], methV m va vco vf, .int .i64 (pc : Int), .agg cs.toArray] w fun e w' => NextR p m pc s w w' e := by
  unfold methV
  have HP := hide hp
  have hcl := hS.len
  obtain ⟨hva, hvc, hvf⟩ := hv
  obtain ⟨aa, _, _, acap, rfl, _⟩ := hva
  obtain ⟨fa, _, _, fcap, rfl, _⟩ := hvf
  obtain ⟨pa, _, _, pcap, rfl, _⟩ := hp
  obtain ⟨ca, cb, off, ccap, rfl, hccap, hca, hcr⟩ := sl_open hvc
  obtain rfl := hca (ne_nil_of_lt hpc)
  have hX := hcr pc hpc
  have hiX := hi _ (List.getElem_mem hpc)
  have hIA : insAt m pc = m.code[pc] := by unfold insAt; rw [List.getElem?_eq_getElem hpc]; rfl
  generalize m.code[pc] = x at *
  obtain ⟨x0, x1, x2⟩ := hX
  clear hcr hvc
  have HM := hide M
  have HI := hide hi
  clear hi M
  refine calls_of_wpF Tryz.func102 rfl ?_
  simp only [Tryz.ntmps102, List.size_toArray, List.length_cons, List.length_nil, Nat.reduceAdd, Nat.reduceSub, Array.replicate_succ, Array.replicate_zero, List.push_toArray, List.append_toArray, List.nil_append, List.cons_append]
  refine wpF_seq_wp ?_
  go_wp2_with fail
  generalize hW : (((w.alloc _).alloc _).alloc _).alloc _ = W
  have hbel : Below w.heap.size w W := by rw [← hW]; exact (((box_below w _).alloc (by simp) _).alloc (by simp; omega) _).alloc (by simp; omega) _
  have HWS : Hid (W.heap.size = w.heap.size + 1 + 1 + 1 + 1) := by show _ = _; rw [← hW]; simp
  have B0 : Blk W w.heap.size 24 [.slice pa p.length pcap] := by rw [← hW]; exact (((Blk.new w _ _).alloc _).alloc _).alloc _
  have B1 : Blk W (w.heap.size + 1) 63 [.int .i64 m.slot, .slice aa m.args.length acap, .int .i64 m.ret, .int .i64 m.locals, .int .i64 m.stack, .slice (some ⟨cb, off, none⟩) m.code.length ccap, .slice fa m.frames.length fcap] := by
    rw [← hW]
    have := (((Blk.new (w.alloc (.cells #[.slice pa p.length pcap] 24)) #[.int .i64 m.slot, .slice aa m.args.length acap, .int .i64 m.ret, .int .i64 m.locals, .int .i64 m.stack, .slice (some ⟨cb, off, none⟩) m.code.length ccap, .slice fa m.frames.length fcap] 63))).alloc (.cells cs.toArray 130)
    rw [World.size_alloc] at this
    exact this.alloc _
  have B2 : Blk W (w.heap.size + 1 + 1) 130 cs := by
    rw [← hW]
    have := Blk.new ((w.alloc (.cells #[.slice pa p.length pcap] 24)).alloc (.cells #[.int .i64 m.slot, .slice aa m.args.length acap, .int .i64 m.ret, .int .i64 m.locals, .int .i64 m.stack, .slice (some ⟨cb, off, none⟩) m.code.length ccap, .slice fa m.frames.length fcap] 63)) cs.toArray 130
    rw [World.size_alloc, World.size_alloc] at this
    exact this.alloc _
  have B3 : Blk W (w.heap.size + 1 + 1 + 1) 130 (List.replicate 17 (.int .i64 0)) := by
    rw [← hW]
    have := Blk.new (((w.alloc (.cells #[.slice pa p.length pcap] 24)).alloc (.cells #[.int .i64 m.slot, .slice aa m.args.length acap, .int .i64 m.ret, .int .i64 m.locals, .int .i64 m.stack, .slice (some ⟨cb, off, none⟩) m.code.length ccap, .slice fa m.frames.length fcap] 63)).alloc (.cells cs.toArray 130)) (List.replicate 17 (.int .i64 0)).toArray 130
    rw [World.size_alloc, World.size_alloc, World.size_alloc] at this
    exact this
  clear hW
  have k0 : W.cell? ⟨w.heap.size, 0, none⟩ = some (.slice pa p.length pcap) := B0.cell 0
  have m0 : W.cell? ⟨w.heap.size + 1, 0, none⟩ = some (.int .i64 m.slot) := B1.cell 0
  have m1 : W.cell? ⟨w.heap.size + 1, 1, none⟩ = some (.slice aa m.args.length acap) := B1.cell 1
  have m2 : W.cell? ⟨w.heap.size + 1, 2, none⟩ = some (.int .i64 m.ret) := B1.cell 2
  have m3 : W.cell? ⟨w.heap.size + 1, 3, none⟩ = some (.int .i64 m.locals) := B1.cell 3
  have m4 : W.cell? ⟨w.heap.size + 1, 4, none⟩ = some (.int .i64 m.stack) := B1.cell 4
  have m5 : W.cell? ⟨w.heap.size + 1, 5, none⟩ = some (.slice (some ⟨cb, off, none⟩) m.code.length ccap) := B1.cell 5
  have m6 : W.cell? ⟨w.heap.size + 1, 6, none⟩ = some (.slice fa m.frames.length fcap) := B1.cell 6
  have HFold := hide (fold_put8 hcl (.slice pa p.length pcap) (.int .i64 m.slot) (.slice aa m.args.length acap) (.int .i64 m.ret) (.int .i64 m.locals) (.int .i64 m.stack) (.slice (some ⟨cb, off, none⟩) m.code.length ccap) (.slice fa m.frames.length fcap))
  have hone : ∀ v ∈ [.slice pa p.length pcap, .int .i64 m.slot, .slice aa m.args.length acap, .int .i64 m.ret, .int .i64 m.locals, .int .i64 m.stack, .slice (some ⟨cb, off, none⟩) m.code.length ccap, .slice fa m.frames.length fcap] ++ cs, v.oneCell' = true := by
    intro v hv
    rcases List.mem_append.1 hv with h | h
    · simp only [List.mem_cons, List.not_mem_nil, or_false] at h
      rcases h with rfl | rfl | rfl | rfl | rfl | rfl | rfl | rfl <;> rfl
    · exact hS.one v h
  have HOne := hide hone
  clear hone
  refine wpF_seq_wp ?_
  go_wp2_with (first
    | refine wpList_load_blk aggSt B2 0 cs hcl (fun j v e => by simpa using e) (.tmp 7) rfl rfl rfl ?_
    | (refine wpList_store_blk aggLook (Blk.new W _ _) 0 _ (by simp [hcl]) (by simp) (unhide HOne) (.tmp 9) (.tmp 14) rfl rfl rfl (congrArg Value.agg (unhide HFold)) ?_; intro w2 hB2 hM2 hs2))
  rw [putAt_all (by simp [hcl])] at hB2
  have hb2 : Below W.heap.size W w2 := (box_below W _).trans (hM2.below (by simp) (fun k hk e => by omega))
  have hbw : Below w.heap.size w w2 := hbel.trans (hb2.mono hbel.size)
  have HL : Hid (LkC w w2 W.heap.size p (.slice pa p.length pcap) m [.slice pa p.length pcap, .int .i64 m.slot, .slice aa m.args.length acap, .int .i64 m.ret, .int .i64 m.locals, .int .i64 m.stack, .slice (some ⟨cb, off, none⟩) m.code.length ccap, .slice fa m.frames.length fcap] s) :=
    ⟨⟨rfl, cs, hS, hB2⟩, unhide HP, hbw, hbel.size, rfl, rfl, rfl, hT⟩
  have C1 := B1.below hb2 B1.lt
  have C3 := B3.below hb2 B3.lt
  have n5 : w2.cell? ⟨w.heap.size + 1, 5, none⟩ = some (.slice (some ⟨cb, off, none⟩) m.code.length ccap) := C1.cell 5
  have y0 := Keeps.of_below hbw _ _ x0
  have y1 := Keeps.of_below hbw _ _ x1
  have y2 := Keeps.of_below hbw _ _ x2
  have hbl : W.heap.size < w2.heap.size := hB2.lt
  have e1 : w.heap.size + 1 ≠ W.heap.size := by have := unhide HWS; omega
  have e3 : w.heap.size + 1 + 1 + 1 ≠ W.heap.size := by have := unhide HWS; omega
  have pc0 : (0 : Int) ≤ (pc : Int) := by omega
  have pc1 : (pc : Int) < (m.code.length : Int) := by omega
  clear m0 m1 m2 m3 m4 m5 m6 k0 hB2 hM2 hs2 HFold HOne B0 B1 B2 B3 hb2 hS hT
  refine wpF_seq_wp ?_
  go_wp2_with fail
  refine (lk_do x p _ m s w _ _ _ (unhide HL) G (unhide HM) hiX).mono ?_
  rintro e w3 ⟨h1, h2, mm⟩
  have hb3 : Below w.heap.size w2 w3 := mm.below hbw.size (fun k hk e => by have := unhide HWS; omega)
  have hbw3 := hbw.trans hb3
  cases hr : doS p m x s with
  | none =>
    obtain rfl := h2 hr
    have HN : Hid (nextS p m pc s = none) := by show _ = _; unfold nextS; rw [hIA, hr]; rfl
    clear hr h1 h2
    go_wp2_with fail
    exact marks_panic0 ⟨fun s' e => (by rw [unhide HN] at e; cases e), fun _ => rfl, hbw3⟩
  | some s1 =>
    obtain ⟨rfl, hL3⟩ := h1 s1 hr
    have HN : Hid (nextS p m pc s = if endB m pc then none else some s1) := by show _ = _; unfold nextS; rw [hIA, hr]; rfl
    have HL3 := hide hL3
    have D1 := C1.mods mm e1
    have D3 := C3.mods mm e3
    have q5 : w3.cell? ⟨w.heap.size + 1, 5, none⟩ = some (.slice (some ⟨cb, off, none⟩) m.code.length ccap) := D1.cell 5
    clear hr h1 h2 hL3
    go_wp2_with fail
    refine wpF_seq ?_
    refine wpF_seq_wp ?_
    go_wp2_with fail
    refine (flow_onward _ _ _ _ _).mono ?_
    rintro e w4 ⟨rfl, hw4⟩
    have hb4 : Below w3.heap.size w3 w4 := by rw [hw4]; exact box2_below _ _ _
    have o1 : w4.cell? ⟨w3.heap.size, 0, none⟩ = some (.slice (some ⟨cb, off, none⟩) m.code.length ccap) := by rw [hw4]; exact box2_fst _ _ _ _ 0
    have o2 : w4.cell? ⟨w3.heap.size + 1, 0, none⟩ = some (.int .i64 (pc : Int)) := by rw [hw4]; exact box2_snd _ _ _ _ 0
    clear hw4
    have E1 := D1.below hb4 D1.lt
    have E3 := D3.below hb4 D3.lt
    have hbw4 := hbw3.trans (hb4.mono (hbw3.size))
    have z0 := Keeps.of_below hbw4 _ _ x0
    have z1 := Keeps.of_below hbw4 _ _ x1
    have z2 := Keeps.of_below hbw4 _ _ x2
    have HSeq := hide (onward_seq x pc m.code.length ccap cb off w3.heap.size (w3.heap.size + 1) (fun _ => False) w4 hpc (by omega) o1 o2 ⟨z0, z1, z2⟩ (fun h => h) (fun _ h => h.elim))
    obtain ⟨cs1, S1, L1, BL1, _⟩ := (unhide HL3).lk.state
    have F1 := BL1.below hb4 BL1.lt
    go_wp2_with fail
    refine wpF_block ?_
    refine wpF_range Tryz.func102 (gf := 158) (lb := #[.pointer (some ⟨w3.heap.size, 0, none⟩), .pointer (some ⟨w3.heap.size + 1, 0, none⟩)]) rfl (enters_of Tryz.func158 (by kernel_rfl) rfl) (unhide HSeq) rfl (fun _ h => h.elim)
      (fun xs V => (∃ dn, onwardL x pc = dn ++ xs ∧ ∀ y ∈ dn, y.1 ≠ (m.code.length : Int)) ∧ Below w.heap.size w V ∧ w4.heap.size ≤ V.heap.size ∧ Blk V (w.heap.size + 1) 63 [.int .i64 m.slot, .slice aa m.args.length acap, .int .i64 m.ret, .int .i64 m.locals, .int .i64 m.stack, .slice (some ⟨cb, off, none⟩) m.code.length ccap, .slice fa m.frames.length fcap] ∧ Blk V (w.heap.size + 1 + 1 + 1) 130 (List.replicate 17 (.int .i64 0)) ∧ Blk V W.heap.size 222 ([.slice pa p.length pcap, .int .i64 m.slot, .slice aa m.args.length acap, .int .i64 m.ret, .int .i64 m.locals, .int .i64 m.stack, .slice (some ⟨cb, off, none⟩) m.code.length ccap, .slice fa m.frames.length fcap] ++ cs1))
      (fun c V => c = refC 5 ∧ (onwardL x pc).any (fun y => y.1 == (m.code.length : Int)) = true ∧ Below w.heap.size w V) ?own ⟨⟨[], rfl, fun _ h => (by cases h)⟩, hbw4, Nat.le_refl _, E1, E3, F1⟩ ?a1 ?assign ?body ?done ?panic
    case assign =>
      intro l y V K hK
      rw [fold_two]
      simp only [List.setIfInBounds_toArray, List.set_cons_zero, List.set_cons_succ]
      gi_wp2
      exact hK
    case own =>
      rintro xs V V' ⟨hd, hb, hs, v1, v3, vl⟩ hm
      have l1 := E1.lt
      have l3 := E3.lt
      have ll := F1.lt
      exact ⟨hd, hb.trans (hm.below hb.size (fun k hk e => by have := hbw4.size; omega)), Nat.le_trans hs hm.size, v1.mods hm (by omega), v3.mods hm (by omega), vl.mods hm (by omega)⟩
    case body =>
      rintro l y xs V ⟨⟨dn, hdn, hok⟩, hVb, hVs, V1, V3, VL⟩
      have q5 : V.cell? ⟨w.heap.size + 1, 5, none⟩ = some (.slice (some ⟨cb, off, none⟩) m.code.length ccap) := V1.cell 5
      by_cases hq : y.1 = (m.code.length : Int)
      · have hq' : (y.1 == (m.code.length : Int)) = true := by simpa using hq
        have hany : (onwardL x pc).any (fun y => y.1 == (m.code.length : Int)) = true := by rw [hdn]; simp [hq]
        have HA := hide hany
        clear hany hq
        gi_wp2_with fail
        refine ⟨trivial, rfl, ?_⟩
        refine (CallsIn.inRound l (callsIn_wide.2 (fit_giveUp _))).mono ?_
        rintro e w' ⟨rfl, rfl⟩
        gi_wp2_with fail
        exact ⟨rfl, Mods.refl _ _, rfl, unhide HA, hVb⟩
      · have hq' : (y.1 == (m.code.length : Int)) = false := by simpa using hq
        have HI2 : Hid (∃ dn, onwardL x pc = dn ++ xs ∧ ∀ y ∈ dn, y.1 ≠ (m.code.length : Int)) := ⟨dn ++ [y], by rw [hdn]; simp, fun z hz => by
          rcases List.mem_append.1 hz with h | h
          · exact hok z h
          · obtain rfl := List.mem_singleton.1 h
            exact hq⟩
        clear hq hok hdn
        gi_wp2_with fail
        exact ⟨Mods.refl _ _, unhide HI2, hVb, hVs, V1, V3, VL⟩
    case done =>
      rintro D V hD ⟨⟨dn, hdn, hok⟩, hVb, hVs, V1, V3, VL⟩ hK
      have hend : endB m pc = false := by
        unfold endB
        rw [hIA, hdn, List.append_nil]
        cases h : dn.any (fun y => y.1 == (m.code.length : Int)) with
        | false => rfl
        | true =>
          obtain ⟨y, hy, hy'⟩ := List.any_eq_true.1 h
          exact absurd (by simpa using hy') (hok y hy)
      have HN' : Hid (nextS p m pc s = some s1) := by show _ = _; rw [unhide HN, hend]; rfl
      have l3 := E3.lt
      clear hend hdn hok HN
      simp only [Exit.inBlock, Exit.then]
      refine wpF_seq_wp ?_
      go_wp2_with (first
        | refine wpList_load_blk aggSt VL 8 cs1 L1 (fun j v e => by rw [get_pre rfl]; exact e) (.tmp 33) rfl rfl rfl ?_
        | (refine wpList_store_blk aggSt V3 0 cs1 L1 (by simp) S1.one (.tmp 8) (.tmp 34) rfl rfl rfl rfl ?_; intro w7 hB7 hM7 hs7))
      rw [putAt_all (by simp [L1])] at hB7
      have hK7 := (hM7.block D (Array.getElem?_eq_some_iff.1 hK).1 (by omega)).trans hK
      have hb7 : Below w.heap.size w w7 := hVb.trans (hM7.below hVb.size (fun k hk e => by omega))
      refine wpF_of_wp ?_
      go_wp2_with fail
      refine marks_ret1 hK7 (results_blk rfl aggSt (hB7.putObj (by omega) _) L1 rfl) ?_
      refine ⟨fun s' e => ?_, fun e => (by rw [unhide HN'] at e; cases e), below_putObj hb7 (by have := hbw4.size; omega) _⟩
      rw [unhide HN'] at e
      obtain rfl := Option.some.inj e
      exact ⟨cs1, rfl, S1, (unhide HL3).ty⟩
    case panic =>
      rintro D c V hD ⟨rfl, hany, hVb⟩ hK
      have hend : endB m pc = true := by
        unfold endB
        rw [hIA]
        exact hany
      have HN' : Hid (nextS p m pc s = none) := by show _ = _; rw [unhide HN, hend]; rfl
      simp only [Exit.inBlock, Exit.then]
      refine marks_panic1 hK ?_
      exact ⟨fun s' e => (by rw [unhide HN'] at e; cases e), fun _ => rfl, below_putObj hVb (by have := hbw4.size; omega) _⟩
end Go.Proofs.YtiiokkllmchohaaGreat
/- States: the blank one, that at the beginning, that of a frame. -/
namespace Go.Proofs.YtiiokkllmchohaaGreat
open Go.RowKit Go.Shelf
attribute [local go_sem ↓] Go.wp_at_zero Go.wp_at_succ
attribute [local go_sem] frz_drew

theorem copy_at {P : Program} {w : World} (t ty e : TypeId) (i : TypeInfo) (size : Nat) (ht : P.underlying t = some (.slice e)) (hi : P.info? e = some i) (hsize : i.size = size)
    (g o dLen dCap : Nat) (sa : Option Addr) (m c : Nat) (hm : m ≤ dLen) (hnil : sa = none → m = 0 ∧ c = 0) (cs : List Value) (hl : cs.length = m * size)
    (hsrc : ∀ ad, sa = some ad → ∀ j v, cs[j]? = some v → w.cell? (ad.add j) = some v) (et : TypeId) (cur : List Value) (hg : Blk w g et cur) (hfit : o + cs.length ≤ cur.length) (h1 : ∀ v ∈ cs, v.oneCell' = true) :
    ∃ w', (Builtin.copy_ #[t, t] ty #[.slice (some ⟨g, o, none⟩) dLen dCap, .slice sa m c]).run P w = .ok (goInt m) w' ∧ Blk w' g et (putAt cur o cs) ∧ Mods (fun k => k = g) w w' ∧ w'.heap.size = w.heap.size := by
  subst hsize
  have hmin : Nat.min m dLen = m := Nat.min_eq_left hm
  cases sa with
  | none =>
    obtain ⟨rfl, rfl⟩ := hnil rfl
    obtain rfl : cs = [] := List.eq_nil_of_length_eq_zero (by simpa using hl)
    refine ⟨w, ?_, by simpa [putAt] using hg, Mods.refl _ _, rfl⟩
    simp [Builtin.copy_, run_underlying ht, Builtin.lenOf, Builtin.firstCells, sizeOf, typeInfo, hi, storeCells]
  | some ad =>
    have hld := run_loadCells_list (P := P) w ad cs (hsrc ad rfl)
    have hst := run_storeCells_at P g o et cs 0 cur.toArray w hg (by simpa using hfit) h1
    simp only [Nat.add_zero] at hst
    refine ⟨w.setRow g (putAt cur o cs).toArray, ?_, setRow_heap w g cur.toArray _ et (0, 0) hg, ⟨rfl, rfl, rfl, by simp [World.setRow], fun k _ hk => setRow_other w g k _ hk⟩, by simp [World.setRow]⟩
    · simp [Builtin.copy_, run_underlying ht, Builtin.lenOf, Builtin.firstCells, sizeOf, typeInfo, hi, hmin, ← hl, hld, hst, putAt]
theorem wp_copy_run {P : Program} {w w' : World} {o : Oper} {a : Act} {K : Act → World → Prop} {Q : Exit → Act → World → Prop} (s x : Operand) (t : TypeId)
    (ho : o.op = .call { callee := .builtin .copy, args := #[s, x], argTypes := #[t, t] }) (v u : Value) (hs : a.eval s = v) (hx : a.eval x = u) {v' : Value}
    (hr : (Builtin.copy_ #[t, t] o.type #[v, u]).run P w = .ok v' w') (h : K (a.put o.dst v') w') : o.wp P a w K Q := by
  unfold Oper.wp execOp
  simp only [ho, resolve, invoke, builtin, Sem.run_bind, Sem.run_pure, Result.andThen_ok, List.map_toArray, List.map_cons, List.map_nil, hs, hx, hr]
  exact h

def stCells (s : TSt) : List Value := s.loc.map (Value.int .i64) ++ (s.stk.map (Value.int .i64) ++ List.replicate (8 - s.stk.length) (.int .i64 0)) ++ [.int .i64 (s.stk.length : Int)]
theorem stCells_len {s : TSt} (h : okS s) : (stCells s).length = 17 := by
  have := h.1; have := h.2
  simp [stCells]; omega
theorem StC_cells {s : TSt} (h : okS s) : StC s (stCells s) := by
  have h1 := h.1; have h2 := h.2
  refine ⟨h, stCells_len h, fun v hv => ?_, fun i x e => ?_, fun i x e => ?_, ?_⟩
  · simp only [stCells, List.mem_append, List.mem_map, List.mem_replicate, List.mem_singleton] at hv
    rcases hv with (⟨x, _, rfl⟩ | ⟨x, _, rfl⟩ | ⟨_, rfl⟩) | rfl <;> exact ⟨_, rfl⟩
  · have hi : i < s.loc.length := (List.getElem?_eq_some_iff.1 e).1
    unfold stCells
    rw [List.append_assoc, List.getElem?_append_left (by simpa using hi), List.getElem?_map, e]; rfl
  · have hi : i < s.stk.length := (List.getElem?_eq_some_iff.1 e).1
    unfold stCells
    rw [List.append_assoc, List.getElem?_append_right (by simp; omega), List.length_map, h1, Nat.add_sub_cancel_left, List.append_assoc, List.getElem?_append_left (by simpa using hi), List.getElem?_map, e]; rfl
  · unfold stCells
    rw [List.getElem?_append_right (by simp; omega)]
    have : 16 - (s.loc.map (Value.int .i64) ++ (s.stk.map (Value.int .i64) ++ List.replicate (8 - s.stk.length) (Value.int .i64 0))).length = 0 := by simp; omega
    rw [this]; rfl

def blankL : List Value := List.replicate 8 (.int .i64 2) ++ List.replicate 9 (.int .i64 0)
theorem blankL_len : blankL.length = 17 := rfl
theorem blankL_one : ∀ v ∈ blankL, v.oneCell' = true := by
  intro v hv
  simp only [blankL, List.mem_append, List.mem_replicate] at hv
  rcases hv with ⟨_, rfl⟩ | ⟨_, rfl⟩ <;> rfl
theorem blank_step {k : Nat} (hk : k < 8) : (List.replicate k (Value.int .i64 2) ++ List.replicate (17 - k) (Value.int .i64 0)).set k (.int .i64 2) = List.replicate (k + 1) (Value.int .i64 2) ++ List.replicate (17 - (k + 1)) (Value.int .i64 0) := by
  obtain ⟨n, hn⟩ : ∃ n, 17 - k = n + 1 := ⟨16 - k, by omega⟩
  have hn' : 17 - (k + 1) = n := by omega
  rw [hn, hn', List.set_append_right _ _ (by simp), List.replicate_succ, List.length_replicate, Nat.sub_self, List.set_cons_zero, List.replicate_succ' (n := k)]
  simp
set_option maxHeartbeats 400000 in
theorem st_blank (w : World) : Calls Tryz.prog 143 #[] w fun e w' => e = .returned (.agg blankL.toArray) ∧ Below w.heap.size w w' := by
  go_enter Tryz.func143, Tryz.ntmps143
  go_wp2_with fail
  go_loopw [3] (fun i wr => ∃ k : Nat, k ≤ 8 ∧ i = .int .i64 k ∧ Blk wr w.heap.size 130 (List.replicate 17 (.int .i64 0)) ∧ Blk wr (w.heap.size + 1) 130 (List.replicate k (.int .i64 2) ++ List.replicate (17 - k) (.int .i64 0)) ∧ Below w.heap.size w wr) (fun i _ => 8 - (intOf i).toNat)
  case atStart =>
    refine ⟨0, by omega, rfl, ?_, ?_, ?_⟩
    · exact (Blk.new w _ _).alloc _
    · have := Blk.new (w.alloc (.cells (List.replicate 17 (.int .i64 0)).toArray 130)) (List.replicate 17 (.int .i64 0)).toArray 130
      rw [World.size_alloc] at this
      exact this
    · exact box2_below _ _ _
  case round =>
    obtain ⟨k, hk, rfl, b0, b1, hb⟩ := hrel
    have l1 := b1.lt
    by_cases hlt : k < 8
    · have c0 : wr.cell? ⟨w.heap.size + 1, k, none⟩ = some (.int .i64 0) := by
        rw [b1.cell, List.getElem?_append_right (by simp), List.length_replicate, Nat.sub_self, List.getElem?_replicate, if_pos (by omega)]
      have f0 := b1.frozen k
      have Z := b1.setCell k (.int .i64 2)
      rw [blank_step hlt] at Z
      have HZ := hide (And.intro (b0.setCell_ne (p := ⟨w.heap.size + 1, k, none⟩) (by simp) (.int .i64 2)) (And.intro Z (hb.setCell (p := ⟨w.heap.size + 1, k, none⟩) (by simp) (.int .i64 2))))
      have hlt' : (k : Int) < 8 := by omega
      have h0 : (0 : Int) ≤ (k : Int) := by omega
      clear Z b0 b1 hb hlt
      go_wp2_with fail
      obtain ⟨z1, z2, z3⟩ := unhide HZ
      exact ⟨⟨k + 1, by omega, by go_num, z1, z2, z3⟩, by simp [intOf]; omega⟩
    · obtain rfl : k = 8 := by omega
      have hlt' : ¬ ((8 : Nat) : Int) < 8 := by omega
      go_wp2_with (first
        | refine wpList_load_blk aggSt b1 0 _ rfl (fun j v e => by simpa using e) (.tmp 1) rfl rfl rfl ?_
        | (refine wpList_store_blk aggSt b0 0 _ rfl (by simp) blankL_one (.tmp 0) (.tmp 10) rfl rfl rfl rfl ?_; intro w7 hB7 hM7 hs7))
      rw [putAt_all (by rfl : blankL.length = (List.replicate 17 (Value.int .i64 0)).length)] at hB7
      refine bodyPost_ret (results_blk rfl aggSt hB7 rfl rfl) rfl ?_
      exact ⟨rfl, hb.trans (hM7.below hb.size (fun k hk e => by omega))⟩
theorem begin_cells {c : Int} {m : LMeth} (h : m.args.length ≤ 7) : putAt (blankL.set 0 (.int .i64 (c + 3))) 1 (m.args.map (Value.int .i64)) = stCells (beginS c m) := by
  have e : blankL.set 0 (.int .i64 (c + 3)) = .int .i64 (c + 3) :: (List.replicate 7 (.int .i64 2) ++ List.replicate 9 (.int .i64 0)) := rfl
  rw [e]
  unfold putAt stCells beginS
  rw [List.length_map, Nat.add_comm 1, List.drop_succ_cons, List.drop_append_of_le_length (by simpa using h), List.drop_replicate]
  simp only [List.take_succ_cons, List.take_zero, List.map_cons, List.map_append, List.map_replicate, List.map_nil, List.length_nil, List.nil_append, List.cons_append, Nat.sub_zero, List.append_assoc]
  rfl
set_option maxHeartbeats 800000 in
set_option maxRecDepth 100000 in
theorem st_begin (c : Int) (m : LMeth) (va vco vf : Value) (w : World) (hc0 : 0 ≤ c) (hc1 : c ≤ 4194304) (hv : GVals w.cell? m va vco vf) (h7 : m.args.length ≤ 7) :
    Calls Tryz.prog 79 #[.int .i64 c, methV m va vco vf] w fun e w' => e = .returned (.agg (stCells (beginS c m)).toArray) ∧ Below w.heap.size w w' := by
  unfold methV
  obtain ⟨i0, hi0, hz0, hz1, hz2⟩ := info_parts infoType
  obtain ⟨hva, hvc, hvf⟩ := hv
  obtain ⟨fa, _, _, fcap, rfl, _⟩ := hvf
  obtain ⟨ca, _, _, ccap, rfl, _⟩ := hvc
  obtain ⟨aa, acap, rfl, hnil, hsrc⟩ := ints_src hva
  have HB := hide (begin_cells (c := c) h7)
  go_enter Tryz.func79, Tryz.ntmps79
  go_wp2_with fail
  have hb0 : Below w.heap.size w ((w.alloc (.cells #[.int .i64 m.slot, .slice aa m.args.length acap, .int .i64 m.ret, .int .i64 m.locals, .int .i64 m.stack, .slice ca m.code.length ccap, .slice fa m.frames.length fcap] 63)).alloc (.cells (List.replicate 17 (.int .i64 0)).toArray 130)) := box2_below _ _ _
  have A0 := (Blk.new w #[.int .i64 m.slot, .slice aa m.args.length acap, .int .i64 m.ret, .int .i64 m.locals, .int .i64 m.stack, .slice ca m.code.length ccap, .slice fa m.frames.length fcap] 63).alloc (.cells (List.replicate 17 (.int .i64 0)).toArray 130)
  have A1 := Blk.new (w.alloc (.cells #[.int .i64 m.slot, .slice aa m.args.length acap, .int .i64 m.ret, .int .i64 m.locals, .int .i64 m.stack, .slice ca m.code.length ccap, .slice fa m.frames.length fcap] 63)) (List.replicate 17 (.int .i64 0)).toArray 130
  rw [World.size_alloc] at A1
  refine (st_blank _).mono ?_
  rintro e w1 ⟨rfl, hb1⟩
  have hb1' : Below w.heap.size w w1 := hb0.trans (hb1.mono (by simp; omega))
  replace A0 := A0.below hb1 A0.lt
  replace A1 := A1.below hb1 A1.lt
  have l0 := A0.lt
  have l1 := A1.lt
  clear hb0 hb1
  go_wp2_with (refine wpList_store_blk aggSt (Blk.new _ _ _) 0 blankL rfl (by simp) blankL_one (.tmp 5) (.tmp 6) rfl rfl rfl rfl ?_; intro w2 hB2 hM2 hs2)
  rw [putAt_all (by rfl : blankL.length = _)] at hB2
  have hb2 : Below w1.heap.size w1 w2 := (box_below w1 _).trans (hM2.below (by simp) (fun k hk e => by omega))
  have hb2' : Below w.heap.size w w2 := hb1'.trans (hb2.mono hb1'.size)
  replace A0 := A0.below hb2 A0.lt
  replace A1 := A1.below hb2 A1.lt
  have c0 : w2.cell? ⟨w1.heap.size, 0, none⟩ = some (.int .i64 2) := hB2.cell 0
  have f0 := hB2.frozen 0
  have hs : w.heap.size ≤ w1.heap.size := hb1'.size
  clear hb2 hM2 hs2 hb1'
  refine (code_of c (by omega) (by omega) _).mono ?_
  rintro e w' ⟨rfl, rfl⟩
  go_wp2_with fail
  have hb3 := hb2'.setCell (p := ⟨w1.heap.size, 0, none⟩) hs (.int .i64 (c + 3))
  have B3 := hB2.setCell 0 (.int .i64 (c + 3))
  replace A0 := A0.setCell_ne (p := ⟨w1.heap.size, 0, none⟩) (by dsimp only; omega) (.int .i64 (c + 3))
  replace A1 := A1.setCell_ne (p := ⟨w1.heap.size, 0, none⟩) (by dsimp only; omega) (.int .i64 (c + 3))
  generalize w'.setCell _ _ = W3 at *
  have a1 : W3.cell? ⟨w.heap.size, 1, none⟩ = some (.slice aa m.args.length acap) := A0.cell 1
  obtain ⟨w4, hcopy, hB4, hM4, hs4⟩ := copy_at (P := Tryz.prog) (w := W3.drew) 40 3 43 i0 1 Tryz.underlying40 hi0 hz1 w1.heap.size 1 7 7 aa m.args.length acap h7
    (fun e => by obtain ⟨h, h'⟩ := hnil e; rw [h]; exact ⟨rfl, h'⟩) (m.args.map (Value.int .i64)) (by simp) (fun ad e j u h => Keeps.of_below hb3.drew _ _ (hsrc ad e j u h)) 130 _ B3.drew (by simp [blankL_len]; omega) (oneCell_ints _)
  rw [unhide HB] at hB4
  have hb4 : Below w.heap.size w w4 := hb3.drew.trans (hM4.below hb3.size (fun k hk e => by omega))
  have A14 := A1.drew.mods hM4 (by omega)
  have a14 := hM4.cell (w := W3.drew) a1 (by dsimp only; omega)
  clear c0 f0 hsrc hnil hva
  refine wp_region_noPanic ?_
  refine wp_region_held_drew (S := (fun w' => w'.cell? ⟨w.heap.size, 1, none⟩ = some (.slice aa m.args.length acap))) (by kernel_rfl) ?_ (fun hHeld => ?_)
  · exact a1
  refine take_x (some 11) 0 rfl rfl ?_
  try simp only [Act.put, List.setIfInBounds_toArray, List.set_cons_zero, List.set_cons_succ]
  refine take_x (some 12) 1 rfl rfl ?_
  try simp only [Act.put, List.setIfInBounds_toArray, List.set_cons_zero, List.set_cons_succ]
  refine take_x (some 13) 2 rfl rfl ?_
  try simp only [Act.put, List.setIfInBounds_toArray, List.set_cons_zero, List.set_cons_succ]
  refine take_x (some 14) 3 rfl rfl ?_
  try simp only [Act.put, List.setIfInBounds_toArray, List.set_cons_zero, List.set_cons_succ]
  refine wpAnyH_ready (rs := [4]) (by kernel_rfl) (by simp) ?_
  refine AllReadyH.cons rfl (fun K hK => ?_) AllReadyH.nil
  refine wp_copy_run (.tmp 12) (.tmp 14) 40 rfl _ _ rfl rfl hcopy ?_
  go_simp
  refine hK.out _ _ a14 (fun hHeld => ?_)
  clear hK K
  try simp only [Act.put, List.setIfInBounds_toArray, List.set_cons_zero, List.set_cons_succ]
  refine wpAnyH_done (by kernel_rfl) ?_ _
  refine NoPanic.normal ?_
  have hok := okS_begin (c := c) h7
  go_wp2_with (first
    | refine wpList_load_blk aggSt hB4 0 _ (stCells_len hok) (fun j v e => by simpa using e) (.tmp 5) rfl rfl rfl ?_
    | (refine wpList_store_blk aggSt A14 0 _ (stCells_len hok) (by simp) (StC_cells hok).one (.tmp 4) (.tmp 16) rfl rfl rfl rfl ?_; intro w7 hB7 hM7 hs7))
  rw [putAt_all (by rw [stCells_len hok]; rfl)] at hB7
  refine bodyPost_ret (results_blk rfl aggSt hB7 (stCells_len hok) rfl) rfl ?_
  exact ⟨rfl, hb4.trans (hM7.below hb4.size (fun k hk e => by omega))⟩
theorem told_cells {f : LFrame} (h1 : f.locals.length ≤ 8) (h2 : f.stack.length ≤ 8) : (putAt (putAt blankL 0 (f.locals.map (Value.int .i64))) 8 (f.stack.map (Value.int .i64))).set 16 (.int .i64 (f.stack.length : Int)) = stCells (toldS f) := by
  have e1 : putAt blankL 0 (f.locals.map (Value.int .i64)) = (f.locals.map (Value.int .i64) ++ List.replicate (8 - f.locals.length) (.int .i64 2)) ++ List.replicate 9 (.int .i64 0) := by
    unfold putAt blankL
    rw [List.length_map, Nat.zero_add, List.drop_append_of_le_length (by simpa using h1), List.drop_replicate]
    simp
  have l1 : (f.locals.map (Value.int .i64) ++ List.replicate (8 - f.locals.length) (Value.int .i64 2)).length = 8 := by simp; omega
  have e2 : putAt ((f.locals.map (Value.int .i64) ++ List.replicate (8 - f.locals.length) (Value.int .i64 2)) ++ List.replicate 9 (.int .i64 0)) 8 (f.stack.map (Value.int .i64)) = ((f.locals.map (Value.int .i64) ++ List.replicate (8 - f.locals.length) (Value.int .i64 2)) ++ (f.stack.map (Value.int .i64) ++ List.replicate (8 - f.stack.length) (.int .i64 0))) ++ [.int .i64 0] := by
    unfold putAt
    rw [List.length_map, List.take_left' l1, List.drop_append, l1, Nat.add_sub_cancel_left, List.drop_of_length_le (by rw [l1]; omega), List.drop_replicate]
    have : 9 - f.stack.length = (8 - f.stack.length) + 1 := by omega
    rw [this, List.replicate_succ']
    simp
  rw [e1, e2, List.set_append_right _ _ (by simp; omega)]
  have : 16 - ((f.locals.map (Value.int .i64) ++ List.replicate (8 - f.locals.length) (Value.int .i64 2)) ++ (f.stack.map (Value.int .i64) ++ List.replicate (8 - f.stack.length) (Value.int .i64 0))).length = 0 := by simp; omega
  rw [this]
  unfold stCells toldS
  simp
set_option maxHeartbeats 800000 in
set_option maxRecDepth 100000 in
theorem st_told (f : LFrame) (vl vs : Value) (w : World) (hl : SlAt 1 (RInt w) vl f.locals) (hst : SlAt 1 (RInt w) vs f.stack) (h1 : f.locals.length ≤ 8) (h2 : f.stack.length ≤ 8) :
    Calls Tryz.prog 155 #[.agg #[.int .i64 f.pc, vl, vs]] w fun e w' => e = .returned (.agg (stCells (toldS f)).toArray) ∧ Below w.heap.size w w' := by
  obtain ⟨i0, hi0, hz0, hz1, hz2⟩ := info_parts infoType
  obtain ⟨aa, acap, rfl, hnil, hsrc⟩ := ints_src hl
  obtain ⟨sa, scap, rfl, snil, ssrc⟩ := ints_src hst
  have HB := hide (told_cells h1 h2)
  clear hl hst
  go_enter Tryz.func155, Tryz.ntmps155
  go_wp2_with fail
  have hb0 : Below w.heap.size w ((w.alloc (.cells #[.int .i64 f.pc, .slice aa f.locals.length acap, .slice sa f.stack.length scap] 42)).alloc (.cells (List.replicate 17 (.int .i64 0)).toArray 130)) := box2_below _ _ _
  have A0 := (Blk.new w #[.int .i64 f.pc, .slice aa f.locals.length acap, .slice sa f.stack.length scap] 42).alloc (.cells (List.replicate 17 (.int .i64 0)).toArray 130)
  have A1 := Blk.new (w.alloc (.cells #[.int .i64 f.pc, .slice aa f.locals.length acap, .slice sa f.stack.length scap] 42)) (List.replicate 17 (.int .i64 0)).toArray 130
  rw [World.size_alloc] at A1
  refine (st_blank _).mono ?_
  rintro e w1 ⟨rfl, hb1⟩
  have hb1' : Below w.heap.size w w1 := hb0.trans (hb1.mono (by simp; omega))
  replace A0 := A0.below hb1 A0.lt
  replace A1 := A1.below hb1 A1.lt
  have l0 := A0.lt
  have l1 := A1.lt
  clear hb0 hb1
  go_wp2_with (refine wpList_store_blk aggSt (Blk.new _ _ _) 0 blankL rfl (by simp) blankL_one (.tmp 3) (.tmp 4) rfl rfl rfl rfl ?_; intro w2 hB2 hM2 hs2)
  rw [putAt_all (by rfl : blankL.length = _)] at hB2
  have hb2 : Below w1.heap.size w1 w2 := (box_below w1 _).trans (hM2.below (by simp) (fun k hk e => by omega))
  have hb2' : Below w.heap.size w w2 := hb1'.trans (hb2.mono hb1'.size)
  replace A0 := A0.below hb2 A0.lt
  replace A1 := A1.below hb2 A1.lt
  have hs : w.heap.size ≤ w1.heap.size := hb1'.size
  clear hb2 hM2 hs2 hb1'
  have a1 : w2.cell? ⟨w.heap.size, 1, none⟩ = some (.slice aa f.locals.length acap) := A0.cell 1
  obtain ⟨w4, hcopy, hB4, hM4, hs4⟩ := copy_at (P := Tryz.prog) (w := w2.drew) 40 3 43 i0 1 Tryz.underlying40 hi0 hz1 w1.heap.size 0 8 8 aa f.locals.length acap h1
    (fun e => by obtain ⟨h, h'⟩ := hnil e; rw [h]; exact ⟨rfl, h'⟩) (f.locals.map (Value.int .i64)) (by simp) (fun ad e j u h => Keeps.of_below hb2'.drew _ _ (hsrc ad e j u h)) 130 _ hB2.drew (by simp [blankL_len]; omega) (oneCell_ints _)
  have hb4 : Below w.heap.size w w4 := hb2'.drew.trans (hM4.below hb2'.size (fun k hk e => by omega))
  have A04 := A0.drew.mods hM4 (by omega)
  have A14 := A1.drew.mods hM4 (by omega)
  have a14 : w4.cell? ⟨w.heap.size, 1, none⟩ = some (.slice aa f.locals.length acap) := A04.cell 1
  refine wp_region_noPanic ?_
  refine wp_region_held_drew (S := (fun w' => w'.cell? ⟨w.heap.size, 1, none⟩ = some (.slice aa f.locals.length acap))) (by kernel_rfl) ?_ (fun hHeld => ?_)
  · exact a1
  refine take_x (some 5) 0 rfl rfl ?_
  try simp only [Act.put, List.setIfInBounds_toArray, List.set_cons_zero, List.set_cons_succ]
  refine take_x (some 6) 1 rfl rfl ?_
  try simp only [Act.put, List.setIfInBounds_toArray, List.set_cons_zero, List.set_cons_succ]
  refine take_x (some 7) 2 rfl rfl ?_
  try simp only [Act.put, List.setIfInBounds_toArray, List.set_cons_zero, List.set_cons_succ]
  refine take_x (some 8) 3 rfl rfl ?_
  try simp only [Act.put, List.setIfInBounds_toArray, List.set_cons_zero, List.set_cons_succ]
  refine wpAnyH_ready (rs := [4]) (by kernel_rfl) (by simp) ?_
  refine AllReadyH.cons rfl (fun K hK => ?_) AllReadyH.nil
  refine wp_copy_run (.tmp 6) (.tmp 8) 40 rfl _ _ rfl rfl hcopy ?_
  go_simp
  refine hK.out _ _ a14 (fun hHeld => ?_)
  clear hK K
  try simp only [Act.put, List.setIfInBounds_toArray, List.set_cons_zero, List.set_cons_succ]
  refine wpAnyH_done (by kernel_rfl) ?_ _
  refine NoPanic.normal ?_
  clear hcopy hM4 hs4 hHeld a14 a1 A0 A1
  have b2 : w4.cell? ⟨w.heap.size, 2, none⟩ = some (.slice sa f.stack.length scap) := A04.cell 2
  have hpl : (putAt blankL 0 (f.locals.map (Value.int .i64))).length = 17 := by rw [putAt_length (by simp [blankL_len]; omega)]; rfl
  obtain ⟨w5, hcopy, hB5, hM5, hs5⟩ := copy_at (P := Tryz.prog) (w := w4.drew) 40 3 43 i0 1 Tryz.underlying40 hi0 hz1 w1.heap.size 8 8 8 sa f.stack.length scap h2
    (fun e => by obtain ⟨h, h'⟩ := snil e; rw [h]; exact ⟨rfl, h'⟩) (f.stack.map (Value.int .i64)) (by simp) (fun ad e j u h => Keeps.of_below hb4.drew _ _ (ssrc ad e j u h)) 130 _ hB4.drew (by rw [hpl]; simp; omega) (oneCell_ints _)
  have hb5 : Below w.heap.size w w5 := hb4.drew.trans (hM5.below hb4.size (fun k hk e => by omega))
  have A05 := A04.drew.mods hM5 (by omega)
  have A15 := A14.drew.mods hM5 (by omega)
  have b25 : w5.cell? ⟨w.heap.size, 2, none⟩ = some (.slice sa f.stack.length scap) := A05.cell 2
  have hpl2 : (putAt (putAt blankL 0 (f.locals.map (Value.int .i64))) 8 (f.stack.map (Value.int .i64))).length = 17 := by rw [putAt_length (by rw [hpl]; simp; omega), hpl]
  have c16 : ∃ u, w5.cell? ⟨w1.heap.size, 16, none⟩ = some u := ⟨_, by rw [hB5.cell, List.getElem?_eq_getElem (by rw [hpl2]; omega)]⟩
  have f16 := hB5.frozen 16
  have H16 := hide (And.intro c16 f16)
  have B6 := hB5.setCell 16 (.int .i64 (f.stack.length : Int))
  rw [unhide HB] at B6
  have hb6 := hb5.setCell (p := ⟨w1.heap.size, 16, none⟩) hs (.int .i64 (f.stack.length : Int))
  have A06 := A05.setCell_ne (p := ⟨w1.heap.size, 16, none⟩) (by dsimp only; omega) (.int .i64 (f.stack.length : Int))
  have A16 := A15.setCell_ne (p := ⟨w1.heap.size, 16, none⟩) (by dsimp only; omega) (.int .i64 (f.stack.length : Int))
  clear hsrc hnil ssrc snil c16 f16
  go_wp2_with fail
  refine wp_region_noPanic ?_
  refine wp_region_held_drew (S := (fun w' => w'.cell? ⟨w.heap.size, 2, none⟩ = some (.slice sa f.stack.length scap))) (by kernel_rfl) ?_ (fun hHeld => ?_)
  · exact b2
  refine take_x (some 10) 0 rfl rfl ?_
  try simp only [Act.put, List.setIfInBounds_toArray, List.set_cons_zero, List.set_cons_succ]
  refine take_x (some 11) 1 rfl rfl ?_
  try simp only [Act.put, List.setIfInBounds_toArray, List.set_cons_zero, List.set_cons_succ]
  refine take_x (some 12) 2 rfl rfl ?_
  try simp only [Act.put, List.setIfInBounds_toArray, List.set_cons_zero, List.set_cons_succ]
  refine take_x (some 13) 3 rfl rfl ?_
  try simp only [Act.put, List.setIfInBounds_toArray, List.set_cons_zero, List.set_cons_succ]
  refine wpAnyH_ready (rs := [4]) (by kernel_rfl) (by simp) ?_
  refine AllReadyH.cons rfl (fun K hK => ?_) AllReadyH.nil
  refine wp_copy_run (.tmp 11) (.tmp 13) 40 rfl _ _ rfl rfl hcopy ?_
  go_simp
  refine hK.out _ _ b25 (fun hHeld => ?_)
  clear hK K
  try simp only [Act.put, List.setIfInBounds_toArray, List.set_cons_zero, List.set_cons_succ]
  refine take_x (some 15) 5 rfl rfl ?_
  try simp only [Act.put, List.setIfInBounds_toArray, List.set_cons_zero, List.set_cons_succ]
  obtain ⟨⟨u16, c16⟩, f16⟩ := unhide H16
  refine wpAnyH_ready (rs := [6]) (by kernel_rfl) (by simp) ?_
  refine AllReadyH.cons rfl (fun K hK => ?_) AllReadyH.nil
  go_simp
  refine hK.out _ _ (A06.cell 2) (fun hHeld => ?_)
  clear hK K
  try simp only [Act.put, List.setIfInBounds_toArray, List.set_cons_zero, List.set_cons_succ]
  refine wpAnyH_done (by kernel_rfl) ?_ _
  refine NoPanic.normal ?_
  have hok := okS_told h1 h2
  go_wp2_with (first
    | refine wpList_load_blk aggSt B6 0 _ (stCells_len hok) (fun j v e => by simpa using e) (.tmp 3) rfl rfl rfl ?_
    | (refine wpList_store_blk aggSt A16 0 _ (stCells_len hok) (by simp) (StC_cells hok).one (.tmp 2) (.tmp 16) rfl rfl rfl rfl ?_; intro w7 hB7 hM7 hs7))
  rw [putAt_all (by rw [stCells_len hok]; rfl)] at hB7
  refine bodyPost_ret (results_blk rfl aggSt hB7 (stCells_len hok) rfl) rfl ?_
  exact ⟨rfl, hb6.trans (hM7.below hb6.size (fun k hk e => by omega))⟩
end Go.Proofs.YtiiokkllmchohaaGreat
