/- The arguments of a law, read as data, as plain programs. -/
import Derived.Test.YtiiokkllmchohaaGreatRows
import Derived.ProofKit
import Derived.OpenShut
import Derived.JoinedCond
import Derived.ChangeArms
import Derived.Carry
import Derived.ChangeMaps5
import Derived.Test.YtiiokkllmchohaaGreatT01
import Derived.Test.YtiiokkllmchohaaGreatT16
/- OpenA -/
namespace Go.Proofs.YtiiokkllmchohaaGreat
open Go.RowKit

theorem cell_spot {w : World} {a : Addr} {v : Value} (h : w.cell? a = some v) : a = ⟨a.block, a.off, none⟩ := by
  obtain ⟨b, off, sp⟩ := a
  unfold World.cell? at h
  cases sp with
  | none => rfl
  | some k =>
    simp only at h
    split at h
    · simp at h
    · cases h
theorem bulk_one {H : Type} (d : DataW H) : 1 ≤ Rows.uptoBulk d := by
  cases d with
  | lit l => cases l <;> simp [Rows.uptoBulk]
  | nil => simp [Rows.uptoBulk]
  | ptr d => simp [Rows.uptoBulk]
  | slice elems spare => simp [Rows.uptoBulk]
  | agg parts => simp [Rows.uptoBulk]
  | iface t d => simp [Rows.uptoBulk]
  | map entries => simp [Rows.uptoBulk]
  | held h => simp [Rows.uptoBulk]
theorem cells_get {w : World} {b off n : Nat} {cs : List Value} (h : w.cells? 0 ⟨b, off, none⟩ n = some cs) : cs.length = n ∧ ∀ i, i < n → w.cell? ⟨b, off + i, none⟩ = cs[i]? := by
  obtain ⟨_, h1, h2⟩ := World.cells?_some h
  refine ⟨h1, fun i hi => ?_⟩
  rw [← addr_add]
  exact h2 i hi

theorem sum_const {α : Type} (k : Nat) : ∀ l : List α, (l.map fun _ => k).sum = k * l.length
  | [] => by simp
  | _ :: r => by rw [List.map_cons, List.sum_cons, sum_const k r, List.length_cons, Nat.mul_succ]; omega

section
variable {H : Type} {enc : TypeId × Value → H} {w : World}
abbrev TR (enc : TypeId × Value → H) (w : World) (fuel : Nat) (t : TypeId) (cs : List Value) (y : DataW H × List MemPlace) : Prop := DataW.trod enc Tryz.prog w 0 (fun _ => true) true fuel t cs = some y
theorem build_list {α : Type} {sz b : Nat} (R : α → Nat → Nat → Prop) (Wf : α → Prop) (S : α → Nat) : ∀ (es : List (DataW H × List MemPlace)) (off : Nat),
    (∀ i y, es[i]? = some y → ∃ x, R x b (off + i * sz) ∧ Wf x ∧ S x ≤ Rows.uptoBulk y.1) → ∃ l : List α, l.length = es.length ∧ (∀ j x, l[j]? = some x → R x b (off + j * sz)) ∧ (∀ x ∈ l, Wf x) ∧ (l.map S).sum ≤ Rows.uptoBulkAll (es.map (·.1))
  | [], off, _ => ⟨[], rfl, fun j x h => (by simp at h), fun x h => (by cases h), by simp [Rows.uptoBulkAll]⟩
  | y :: r, off, h => by
    obtain ⟨x, h1, h2, h3⟩ := h 0 y rfl
    obtain ⟨l, l1, l2, l3, l4⟩ := build_list R Wf S r (off + sz) (fun i z hz => by
      have := h (i + 1) z (by simpa using hz)
      rwa [Nat.succ_mul, show off + (i * sz + sz) = off + sz + i * sz by omega] at this)
    refine ⟨x :: l, by simp [l1], fun j z hz => ?_, fun z hz => ?_, ?_⟩
    · cases j with
      | zero => simp at hz; subst hz; exact h1
      | succ j =>
        have := l2 j z (by simpa using hz)
        rwa [Nat.succ_mul, show off + (j * sz + sz) = off + sz + j * sz by omega]
    · rcases List.mem_cons.1 hz with rfl | hz
      · exact h2
      · exact l3 z hz
    · simp only [List.map_cons, List.sum_cons, Rows.uptoBulkAll]
      omega
theorem open_list {α : Type} {t e : TypeId} {sz : Nat} (R : α → Nat → Nat → Prop) (Wf : α → Prop) (S : α → Nat) (ht : Tryz.prog.underlying t = some (.slice e)) (hc : Tryz.prog.cellsOf e = sz) (hpos : 0 < sz)
    (hel : ∀ n b off cs y, w.cells? 0 ⟨b, off, none⟩ sz = some cs → TR enc w n e cs y → ∃ x, R x b off ∧ Wf x ∧ S x ≤ Rows.uptoBulk y.1) {fuel : Nat} {v : Value} {y : DataW H × List MemPlace} (h : TR enc w fuel t [v] y) :
    ∃ l : List α, SlAt sz R v l ∧ (∀ x ∈ l, Wf x) ∧ (l.map S).sum + 1 ≤ Rows.uptoBulk y.1 := by
  rcases DataW.trod_slice ht h with ⟨h1, rfl⟩ | ⟨a, len, cap, elems, rest, n, _, h1, rfl, _, hlc, _, hlen, hget, _⟩
  · obtain rfl : v = .slice none 0 0 := by simpa using h1
    exact ⟨[], ⟨none, 0, 0, 0, rfl, Nat.le_refl _, ⟨fun e => absurd rfl e, .inl ⟨rfl, rfl⟩⟩, fun j x hj => by simp at hj⟩, fun x hx => (by cases hx), by simp [Rows.uptoBulk]⟩
  · obtain rfl : v = .slice (some a) len cap := by simpa using h1
    rw [hc] at hget
    rcases Nat.eq_zero_or_pos len with h0 | h0
    · subst h0
      refine ⟨[], ⟨some a, 0, 0, cap, rfl, Nat.zero_le _, ⟨fun e => absurd rfl e, .inr (.inr ⟨rfl, fun e => by cases e⟩)⟩, fun j x hj => by simp at hj⟩, fun x hx => (by cases hx), by simp only [List.map_nil, List.sum_nil]; exact bulk_one _⟩
    · have ha : a = ⟨a.block, a.off, none⟩ := by
        have := hget 0 h0
        rw [Nat.zero_mul] at this
        cases hcs : w.cells? 0 (a.add 0) sz with
        | none =>
          rw [hcs, List.getElem?_eq_getElem (by omega)] at this
          cases this
        | some cs =>
          obtain ⟨_, e1, e2⟩ := World.cells?_some hcs
          have e3 := e2 0 hpos
          rw [show (a.add 0).add 0 = a by simp [Addr.add]] at e3
          exact cell_spot (e3.trans (List.getElem?_eq_getElem (by omega)))
      obtain ⟨b, off, sp⟩ := a
      simp only [Addr.mk.injEq, true_and] at ha
      subst ha
      obtain ⟨l, l1, l2, l3, l4⟩ := build_list (b := b) (sz := sz) R Wf S elems off (fun i z hz => by
        have hi : i < len := by have := (List.getElem?_eq_some_iff.1 hz).1; omega
        have hg := hget i hi
        rw [hz, addr_add] at hg
        cases hcs : w.cells? 0 ⟨b, off + i * sz, none⟩ sz with
        | none => rw [hcs] at hg; cases hg
        | some cs =>
          rw [hcs] at hg
          exact hel n b (off + i * sz) cs z hcs hg)
      have hll : l.length = len := by omega
      refine ⟨l, ⟨some ⟨b, off, none⟩, b, off, cap, by rw [hll], by omega, ⟨fun _ => rfl, .inr (.inl rfl)⟩, l2⟩, l3, ?_⟩
      simp only [Rows.uptoBulk]
      omega
theorem cells_t : Tryz.prog.cellsOf 3 = 1 ∧ Tryz.prog.cellsOf 43 = 1 ∧ Tryz.prog.cellsOf 40 = 1 ∧ Tryz.prog.cellsOf 61 = 1 ∧ Tryz.prog.cellsOf 36 = 1 ∧ Tryz.prog.cellsOf 64 = 1 ∧ Tryz.prog.cellsOf 22 = 1 :=
  ⟨by kernel_rfl, by kernel_rfl, by kernel_rfl, by kernel_rfl, by kernel_rfl, by kernel_rfl, by kernel_rfl⟩
theorem wf_i64 {n : Int} (h : (Lit.int .i64 n).wf = true) : I64 n := by
  have : -9223372036854775808 ≤ n ∧ n ≤ 9223372036854775807 := by simpa [Lit.wf, IntKind.min, IntKind.max, IntKind.signed, IntKind.bits] using h
  exact this
end
end Go.Proofs.YtiiokkllmchohaaGreat
/- Arguments that are rows of numbers; five and six arguments. -/
namespace Go.Proofs.YtiiokkllmchohaaGreat
open Go.ChangeShapes Go.WideShapes Go.ChangeAt Go.RowKit

section
variable {H : Type} {enc : TypeId × Value → H} {w : World}
set_option maxRecDepth 100000 in
theorem open_intsV {v : Value} {d : DataW H} {ps : List MemPlace} {base : Nat} (hv : Value.okWide Tryz.prog w .any base 51 v) (h : DataW.Trod enc Tryz.prog w 0 (fun _ => true) true 51 v d ps) : ∃ l, SlAt 1 (RInt w) v l ∧ (∀ x ∈ l, I64 x) ∧ l.length + 1 ≤ Rows.uptoBulk d := by
  obtain ⟨fuel, h⟩ := h
  have hvc : v.cells.toList = [v] := by
    unfold Value.okWide at hv
    rw [Tryz.underlying51] at hv
    unfold Cell.okWide at hv
    rw [Tryz.underlying51] at hv
    cases v with
    | agg cs =>
      simp only [Cell.ok, Tryz.underlying51] at hv
    | _ => rfl
  rw [hvc] at h
  obtain ⟨l, h1, h2, h3⟩ := open_list (enc := enc) (w := w) (RInt w) I64 (fun _ => 1) Tryz.underlying51 cells_t.1 (by decide) (fun n b off cs y hc hy => by
    obtain ⟨c1, c2⟩ := cells_get hc
    obtain ⟨x, e1, e2, e3⟩ := DataW.trod_int Tryz.underlying3 hy
    subst e1
    refine ⟨x, ?_, wf_i64 e3, by rw [e2]; simp [Rows.uptoBulk]⟩
    have := c2 0 (by omega)
    simpa [GInt] using this) h
  exact ⟨l, h1, h2, by rw [sum_const] at h3; dsimp only at h3; omega⟩
end
section
variable {H : Type} {enc : TypeId × Value → H} {P : Program} {w : World} {base : Nat} {spare : Nat → Bool} {held : Bool}
end
theorem keep_knob : ownKnob Tryz.prog.godebug = none := by kernel_rfl
theorem keep_laid : laidOutB Tryz.prog = true := by kernel_rfl
end Go.Proofs.YtiiokkllmchohaaGreat
