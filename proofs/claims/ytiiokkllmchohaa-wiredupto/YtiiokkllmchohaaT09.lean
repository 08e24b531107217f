/- The law's small pieces: num, the next mark, the document's example. -/
import Derived.Test.YtiiokkllmchohaaRows
import Derived.Deep.RegionHeld3
import Derived.Deep.DrawnRows
import Derived.Test.YtiiokkllmchohaaT01
import Derived.Test.YtiiokkllmchohaaT08
/- LawA -/
namespace Go.Proofs.Ytiiokkllmchohaa
open Go.RowKit
attribute [local go_sem ↓] Go.wp_at_zero Go.wp_at_succ

set_option maxHeartbeats 400000 in
theorem law_num (e : Int) (w : World) : Calls Try.prog 18 #[.int .i64 e] w fun x w' => x = .returned (.int .i64 e) ∧ w' = w := by
  go_enter Try.func18, Try.ntmps18
  go_wp2
  go_ret
  exact ⟨rfl, rfl⟩

set_option maxHeartbeats 400000 in
theorem law_mark (n : Nat) (w : World) (bh : Nat) (cs : List Value) (h : HBlk w bh cs) (h6 : cs[6]? = some (.int .i64 (n : Int))) (hn : n ≤ 1073741824) :
    Calls Try.prog 51 #[.pointer (some ⟨bh, 0, none⟩)] w fun e w' => e = .returned (.int .i64 (-77000001 - (n : Int))) ∧ HBlk w' bh (cs.set 6 (.int .i64 ((n + 1 : Nat) : Int))) ∧ Mods (fun k => k = bh) w w' := by
  have c6 : w.cell? ⟨bh, 6, none⟩ = some (.int .i64 (n : Int)) := by rw [h.1.cell]; exact h6
  have f6 := h.1.frozen 6
  go_enter Try.func51, Try.ntmps51
  go_wp2_with fail
  go_ret
  refine ⟨ret_int (by omega), ⟨?_, by rw [List.length_set]; exact h.2⟩, (Mods.refl (fun k => k = bh) w).setCell (p := ⟨bh, 6, none⟩) (fun _ => rfl) _⟩
  have := h.1.setCell 6 (.int .i64 ((n + 1 : Nat) : Int))
  simpa using this

theorem blk_new_at {W : World} {cs : Array Value} {t : TypeId} {b : Nat} (h : b = W.heap.size) : Blk (W.alloc (.cells cs t)) b t cs.toList := h ▸ Blk.new W cs t
/-- The document's example. -/
def exP : List LClass := [⟨-1, [0], [⟨0, [], 0, 1, 2, [⟨1, 0, 0⟩, ⟨10, 0, 0⟩, ⟨13, 0, 0⟩], []⟩, ⟨1, [0], 0, 2, 3, [⟨1, 0, 0⟩, ⟨1, 1, 0⟩, ⟨11, 0, 0⟩, ⟨1, 0, 0⟩, ⟨12, 0, 0⟩, ⟨13, 0, 0⟩], []⟩]⟩]
theorem exP_form : formI exP = 0 := by decide

set_option maxHeartbeats 2000000 in
set_option maxRecDepth 100000 in
theorem law_cell (w : World) : Calls Try.prog 5 #[] w fun e w' => ∃ v, e = .returned (.agg #[v]) ∧ RProg w' v exP ∧ Below w.heap.size w w' := by
  go_enter Try.func5, Try.ntmps5
  go_wp2_with fail
  have hbel : Below w.heap.size w (((((((((w.alloc (.cells #[.slice (some ⟨w.heap.size + 1 + 1 + 1 + 1 + 1 + 1 + 1 + 1, 0, none⟩) 1 1] 24)).alloc (.cells #[.int .i64 1, .int .i64 0, .int .i64 0, .int .i64 10, .int .i64 0, .int .i64 0, .int .i64 13, .int .i64 0, .int .i64 0] 54)).alloc (.cells #[.int .i64 0, .slice none 0 0, .int .i64 0, .int .i64 1, .int .i64 2, .slice (some ⟨w.heap.size + 1, 0, none⟩) 3 3, .slice none 0 0] 58)).alloc (.cells #[.int .i64 0] 52)).alloc (.cells #[.int .i64 1, .int .i64 0, .int .i64 0, .int .i64 1, .int .i64 1, .int .i64 0, .int .i64 11, .int .i64 0, .int .i64 0, .int .i64 1, .int .i64 0, .int .i64 0, .int .i64 12, .int .i64 0, .int .i64 0, .int .i64 13, .int .i64 0, .int .i64 0] 54)).alloc (.cells #[.int .i64 1, .slice (some ⟨w.heap.size + 1 + 1 + 1, 0, none⟩) 1 1, .int .i64 0, .int .i64 2, .int .i64 3, .slice (some ⟨w.heap.size + 1 + 1 + 1 + 1, 0, none⟩) 6 6, .slice none 0 0] 58)).alloc (.cells #[.int .i64 0] 52)).alloc (.cells #[.int .i64 0, .slice none 0 0, .int .i64 0, .int .i64 1, .int .i64 2, .slice (some ⟨w.heap.size + 1, 0, none⟩) 3 3, .slice none 0 0, .int .i64 1, .slice (some ⟨w.heap.size + 1 + 1 + 1, 0, none⟩) 1 1, .int .i64 0, .int .i64 2, .int .i64 3, .slice (some ⟨w.heap.size + 1 + 1 + 1 + 1, 0, none⟩) 6 6, .slice none 0 0] 58)).alloc (.cells #[.int .i64 (-1), .slice (some ⟨w.heap.size + 1 + 1 + 1 + 1 + 1 + 1, 0, none⟩) 1 1, .slice (some ⟨w.heap.size + 1 + 1 + 1 + 1 + 1 + 1 + 1, 0, none⟩) 2 2] 34)) := by
    repeat' (first | exact Below.refl _ _ | (refine Below.alloc ?_ (by simp; try omega) _))
  generalize hF : World.alloc _ _ = F at hbel ⊢
  have B0 : Blk F w.heap.size 24 [.slice (some ⟨w.heap.size + 1 + 1 + 1 + 1 + 1 + 1 + 1 + 1, 0, none⟩) 1 1] := by rw [← hF]; exact Blk.alloc (Blk.alloc (Blk.alloc (Blk.alloc (Blk.alloc (Blk.alloc (Blk.alloc (Blk.alloc (blk_new_at (by simp)) _) _) _) _) _) _) _) _
  have B1 : Blk F (w.heap.size + 1) 54 (codeCells [⟨1, 0, 0⟩, ⟨10, 0, 0⟩, ⟨13, 0, 0⟩] ++ []) := by rw [← hF]; exact Blk.alloc (Blk.alloc (Blk.alloc (Blk.alloc (Blk.alloc (Blk.alloc (Blk.alloc (blk_new_at (by simp)) _) _) _) _) _) _) _
  have B3 : Blk F (w.heap.size + 1 + 1 + 1) 52 (([0] : List Int).map (Value.int .i64) ++ []) := by rw [← hF]; exact Blk.alloc (Blk.alloc (Blk.alloc (Blk.alloc (Blk.alloc (blk_new_at (by simp)) _) _) _) _) _
  have B4 : Blk F (w.heap.size + 1 + 1 + 1 + 1) 54 (codeCells [⟨1, 0, 0⟩, ⟨1, 1, 0⟩, ⟨11, 0, 0⟩, ⟨1, 0, 0⟩, ⟨12, 0, 0⟩, ⟨13, 0, 0⟩] ++ []) := by rw [← hF]; exact Blk.alloc (Blk.alloc (Blk.alloc (Blk.alloc (blk_new_at (by simp)) _) _) _) _
  have B6 : Blk F (w.heap.size + 1 + 1 + 1 + 1 + 1 + 1) 52 (([0] : List Int).map (Value.int .i64) ++ []) := by rw [← hF]; exact Blk.alloc (Blk.alloc (blk_new_at (by simp)) _) _
  have B7 : Blk F (w.heap.size + 1 + 1 + 1 + 1 + 1 + 1 + 1) 58 [.int .i64 0, .slice none 0 0, .int .i64 0, .int .i64 1, .int .i64 2, .slice (some ⟨w.heap.size + 1, 0, none⟩) 3 3, .slice none 0 0, .int .i64 1, .slice (some ⟨w.heap.size + 1 + 1 + 1, 0, none⟩) 1 1, .int .i64 0, .int .i64 2, .int .i64 3, .slice (some ⟨w.heap.size + 1 + 1 + 1 + 1, 0, none⟩) 6 6, .slice none 0 0] := by rw [← hF]; exact Blk.alloc (blk_new_at (by simp)) _
  have B8 : Blk F (w.heap.size + 1 + 1 + 1 + 1 + 1 + 1 + 1 + 1) 34 [.int .i64 (-1), .slice (some ⟨w.heap.size + 1 + 1 + 1 + 1 + 1 + 1, 0, none⟩) 1 1, .slice (some ⟨w.heap.size + 1 + 1 + 1 + 1 + 1 + 1 + 1, 0, none⟩) 2 2] := by rw [← hF]; exact blk_new_at (by simp)
  clear hF
  have nilS : ∀ {α : Type} (sz : Nat) (R : α → Nat → Nat → Prop), SlAt sz R (.slice none 0 0) [] := fun sz R => ⟨none, 0, 0, 0, rfl, Nat.le_refl _, ⟨fun e => absurd rfl e, .inl ⟨rfl, rfl⟩⟩, fun j x hj => by simp at hj⟩
  have s1 : SlAt 3 (RIns F) (.slice (some ⟨w.heap.size + 1, 0, none⟩) 3 3) [⟨1, 0, 0⟩, ⟨10, 0, 0⟩, ⟨13, 0, 0⟩] := code_keep (cellS_le [54] F) (code_of_blk (cap := 3) B1 (by simp) (by decide))
  have s3 : SlAt 1 (RInt F) (.slice (some ⟨w.heap.size + 1 + 1 + 1, 0, none⟩) 1 1) [0] := ints_keep (cellS_le tT F) (ints_of_blk (cap := 1) B3 (by simp) (by decide))
  have s4 : SlAt 3 (RIns F) (.slice (some ⟨w.heap.size + 1 + 1 + 1 + 1, 0, none⟩) 6 6) [⟨1, 0, 0⟩, ⟨1, 1, 0⟩, ⟨11, 0, 0⟩, ⟨1, 0, 0⟩, ⟨12, 0, 0⟩, ⟨13, 0, 0⟩] := code_keep (cellS_le [54] F) (code_of_blk (cap := 6) B4 (by simp) (by decide))
  have s6 : SlAt 1 (RInt F) (.slice (some ⟨w.heap.size + 1 + 1 + 1 + 1 + 1 + 1, 0, none⟩) 1 1) [0] := ints_keep (cellS_le tT F) (ints_of_blk (cap := 1) B6 (by simp) (by decide))
  have s7 : SlAt 7 (RMeth F) (.slice (some ⟨w.heap.size + 1 + 1 + 1 + 1 + 1 + 1 + 1, 0, none⟩) 2 2) [⟨0, [], 0, 1, 2, [⟨1, 0, 0⟩, ⟨10, 0, 0⟩, ⟨13, 0, 0⟩], []⟩, ⟨1, [0], 0, 2, 3, [⟨1, 0, 0⟩, ⟨1, 1, 0⟩, ⟨11, 0, 0⟩, ⟨1, 0, 0⟩, ⟨12, 0, 0⟩, ⟨13, 0, 0⟩], []⟩] := by
    refine ⟨some ⟨_, 0, none⟩, _, 0, 2, rfl, by decide, ⟨fun _ => rfl, .inr (.inl rfl)⟩, fun j x hj => ?_⟩
    match j, hj with
    | 0, hj =>
      simp at hj
      subst hj
      exact ⟨.slice none 0 0, _, .slice none 0 0, ⟨nilS 1 _, s1, nilS 3 _⟩, B7.cell 0, B7.cell 1, B7.cell 2, B7.cell 3, B7.cell 4, B7.cell 5, B7.cell 6⟩
    | 1, hj =>
      simp at hj
      subst hj
      exact ⟨_, _, .slice none 0 0, ⟨s3, s4, nilS 3 _⟩, B7.cell 7, B7.cell 8, B7.cell 9, B7.cell 10, B7.cell 11, B7.cell 12, B7.cell 13⟩
    | n + 2, hj => simp at hj
  have c0 : F.cell? ⟨w.heap.size, 0, none⟩ = some (.slice (some ⟨w.heap.size + 1 + 1 + 1 + 1 + 1 + 1 + 1 + 1, 0, none⟩) 1 1) := B0.cell 0
  refine bodyPost_ret (v := .agg #[.slice (some ⟨w.heap.size + 1 + 1 + 1 + 1 + 1 + 1 + 1 + 1, 0, none⟩) 1 1]) (by simp [results, Try.results5, go_sem, c0]) rfl ⟨_, rfl, ?_, hbel⟩
  refine ⟨some ⟨_, 0, none⟩, _, 0, 1, rfl, by decide, ⟨fun _ => rfl, .inr (.inl rfl)⟩, fun j x hj => ?_⟩
  match j, hj with
  | 0, hj =>
    simp [exP] at hj
    subst hj
    exact ⟨_, _, B8.cell 0, B8.cell 1, B8.cell 2, s6, s7⟩
  | n + 1, hj => simp [exP] at hj
end Go.Proofs.Ytiiokkllmchohaa
/- Numbers in bytes, and the walk of the document's answer that writes one. -/
namespace Go.Proofs.Ytiiokkllmchohaa
open Go.RowKit

/-- A number, doubled; one below 0 with the opposite sign, less 1. -/
def foldZ (n : Int) : Nat := if n < 0 then (2 * (-(n + 1)) + 1).toNat else (2 * n).toNat
/-- Seven bits a byte, the lowest first. -/
def encU : Nat → Nat → List UInt8
  | 0, _ => []
  | f + 1, v => if v < 128 then [UInt8.ofNat v] else UInt8.ofNat (128 + v % 128) :: encU f (v / 128)
def encN (n : Int) : List UInt8 := encU 10 (foldZ n)
theorem foldZ_lt {n : Int} (h : I64 n) : foldZ n < 18446744073709551616 := by
  obtain ⟨h1, h2⟩ := h
  unfold foldZ
  split <;> omega

theorem encU_lt {f v : Nat} (h : v < 128) : encU (f + 1) v = [UInt8.ofNat v] := by rw [encU, if_pos h]
theorem encU_ge {f v : Nat} (h : ¬ v < 128) : encU (f + 1) v = UInt8.ofNat (128 + v % 128) :: encU f (v / 128) := by rw [encU, if_neg h]
theorem str_snoc (acc : List UInt8) (x y : UInt8) (h : x = y) : Value.string ({ data := acc.toArray } ++ { data := #[x] }) = Value.string { data := (acc ++ [y]).toArray } := by
  subst h
  have := ByteArray.mk_append_mk acc [x]
  exact congrArg Value.string this
theorem conv1 (W : World) (x : Int) : (convert 73 9 (.slice (some ⟨W.heap.size, 0, none⟩) 1 1)).run Try.prog (W.alloc (.cells #[.int .u8 x] 5)) = .ok (.string ⟨#[UInt8.ofNat x.toNat]⟩) (W.alloc (.cells #[.int .u8 x] 5)) := by
  rw [run_convert_bytes_string _ _ _ 5 _ _ _ Try.underlying73 Try.underlying5 Try.underlying9]
  rw [run_bytesToString _ _ _ _ [x] ?_]
  · rfl
  · have h := box_cell W #[.int .u8 x] 5 0
    have := run_loadCells_list (P := Try.prog) (W.alloc (.cells #[.int .u8 x] 5)) ⟨W.heap.size, 0, none⟩ [.int .u8 x] (fun j v hj => by
      match j, hj with
      | 0, hj =>
        simp at hj
        subst hj
        simp [Addr.add, h])
    simpa using this

set_option maxHeartbeats 1000000 in
set_option maxRecDepth 100000 in
theorem ref_number (n : Int) (w : World) (hn : I64 n) :
    Calls Try.prog 24 #[.int .i64 n] w fun e w' => e = .returned (.string ⟨(encN n).toArray⟩) ∧ Below w.heap.size w w' := by
  have hf := foldZ_lt hn
  have hconv := conv1
  obtain ⟨h1, h2⟩ := hn
  by_cases hneg : n < 0
  · have hst : (foldZ n : Int) = 2 * -(n + 1) + 1 := by unfold foldZ; rw [if_pos hneg]; omega
    have HST := hide hst
    clear hst
    go_enter Try.func24, Try.ntmps24
    go_wp2_with fail
    go_loopw [3, 4] (fun s3 s4 wr => ∃ (v f : Nat) (acc : List UInt8), s3 = .int .u64 v ∧ s4 = .string ⟨acc.toArray⟩ ∧ v < 128 ^ (f + 1) ∧ v < 18446744073709551616 ∧ acc.length + f ≤ 9 ∧ acc ++ encU (f + 1) v = encN n ∧ Below w.heap.size w wr) (fun s3 _ _ => (intOf s3).toNat)
    case atStart => exact ⟨foldZ n, 9, [], by rw [unhide HST], rfl, by omega, hf, by simp, rfl, Below.refl _ _⟩
    case round =>
      obtain ⟨v, f, acc, rfl, rfl, hv, hv2, hal, he, hb⟩ := hrel
      have HE := hide he
      have HV := hide hv
      clear he hv
      by_cases hlt : v < 128
      · have hlt' : ¬ (128 : Int) ≤ (v : Int) := by omega
        go_wp2
        go_ret
        refine ⟨congrArg Ending.returned ?_, hb.alloc hb.size _⟩
        rw [← unhide HE, encU_lt hlt]
        exact str_snoc acc _ _ (by simp)
      · have hlt' : (128 : Int) ≤ (v : Int) := by omega
        go_wp2
        obtain ⟨f', rfl⟩ : ∃ f', f = f' + 1 := by
          cases f with
          | zero => have := unhide HV; simp at this; omega
          | succ f' => exact ⟨f', rfl⟩
        refine ⟨⟨v / 128, f', acc ++ [UInt8.ofNat (128 + v % 128)], by go_num, str_snoc acc _ _ (by simp [UInt8.ofNat_add]), ?_, by omega, by simp; omega, ?_, hb.alloc hb.size _⟩, by simp [intOf]; omega⟩
        · have := unhide HV
          rw [Nat.pow_succ] at this
          omega
        · rw [← unhide HE, encU_ge hlt, List.append_assoc]; rfl
  · have hst : (foldZ n : Int) = 2 * n := by unfold foldZ; rw [if_neg hneg]; omega
    have HST := hide hst
    clear hst
    go_enter Try.func24, Try.ntmps24
    go_wp2_with fail
    go_loopw [3, 4] (fun s3 s4 wr => ∃ (v f : Nat) (acc : List UInt8), s3 = .int .u64 v ∧ s4 = .string ⟨acc.toArray⟩ ∧ v < 128 ^ (f + 1) ∧ v < 18446744073709551616 ∧ acc.length + f ≤ 9 ∧ acc ++ encU (f + 1) v = encN n ∧ Below w.heap.size w wr) (fun s3 _ _ => (intOf s3).toNat)
    case atStart => exact ⟨foldZ n, 9, [], by rw [unhide HST], rfl, by omega, hf, by simp, rfl, Below.refl _ _⟩
    case round =>
      obtain ⟨v, f, acc, rfl, rfl, hv, hv2, hal, he, hb⟩ := hrel
      have HE := hide he
      have HV := hide hv
      clear he hv
      by_cases hlt : v < 128
      · have hlt' : ¬ (128 : Int) ≤ (v : Int) := by omega
        go_wp2
        go_ret
        refine ⟨congrArg Ending.returned ?_, hb.alloc hb.size _⟩
        rw [← unhide HE, encU_lt hlt]
        exact str_snoc acc _ _ (by simp)
      · have hlt' : (128 : Int) ≤ (v : Int) := by omega
        go_wp2
        obtain ⟨f', rfl⟩ : ∃ f', f = f' + 1 := by
          cases f with
          | zero => have := unhide HV; simp at this; omega
          | succ f' => exact ⟨f', rfl⟩
        refine ⟨⟨v / 128, f', acc ++ [UInt8.ofNat (128 + v % 128)], by go_num, str_snoc acc _ _ (by simp [UInt8.ofNat_add]), ?_, by omega, by simp; omega, ?_, hb.alloc hb.size _⟩, by simp [intOf]; omega⟩
        · have := unhide HV
          rw [Nat.pow_succ] at this
          omega
        · rw [← unhide HE, encU_ge hlt, List.append_assoc]; rfl
end Go.Proofs.Ytiiokkllmchohaa
/- Walks of the document's answer that write types and methods in bytes. -/
namespace Go.Proofs.Ytiiokkllmchohaa
open Go.RowKit
attribute [local go_sem ↓] Go.wp_at_zero Go.wp_at_succ

theorem encU_len : ∀ (f v : Nat), (encU f v).length ≤ f
  | 0, _ => Nat.le_refl _
  | f + 1, v => by
    rw [encU]
    split
    · simp
    · have := encU_len f (v / 128); simp; omega
theorem encN_len (n : Int) : (encN n).length ≤ 10 := encU_len 10 _
def encTs (l : List Int) : List UInt8 := l.flatMap encN
theorem encTs_len (l : List Int) : (encTs l).length ≤ 10 * l.length := by
  unfold encTs
  induction l with
  | nil => simp
  | cons x r ih => rw [List.flatMap_cons, List.length_append, List.length_cons]; have := encN_len x; omega
theorem str_app (a b c : List UInt8) (h : a ++ b = c) : Value.string ({ data := a.toArray } ++ { data := b.toArray }) = Value.string { data := c.toArray } := by
  subst h
  exact congrArg Value.string (ByteArray.mk_append_mk a b)

set_option maxHeartbeats 1000000 in
set_option maxRecDepth 100000 in
theorem ref_types (l : List Int) (v : Value) (w : World) (hl : SlAt 1 (RInt w) v l) (hw : ∀ x ∈ l, I64 x) (hs : l.length ≤ 4194304) :
    Calls Try.prog 25 #[v] w fun e w' => e = .returned (.string ⟨(encTs l).toArray⟩) ∧ Below w.heap.size w w' := by
  obtain ⟨a, b, off, cap, rfl, hcap, ha, hr⟩ := ints_open hl
  go_enter Try.func25, Try.ntmps25
  go_wp2_with fail
  go_loopw [3, 4] (fun s3 s4 wr => ∃ k : Nat, k ≤ l.length ∧ s4 = .int .i64 k ∧ s3 = .string ⟨(encTs (l.take k)).toArray⟩ ∧ Below w.heap.size w wr) (fun _ s4 _ => l.length - (intOf s4).toNat)
  case atStart => exact ⟨0, Nat.zero_le _, rfl, rfl, Below.refl _ _⟩
  case round =>
    obtain ⟨k, hk, rfl, rfl, hb⟩ := hrel
    have hkp := Keeps.of_below hb
    by_cases hlt : k < l.length
    · obtain rfl := ha (ne_nil_of_lt hlt)
      have c0 := hkp _ _ (hr k hlt)
      have hx := hw _ (List.getElem_mem hlt)
      have HS : Hid (encTs (l.take k) ++ encN l[k] = encTs (l.take (k + 1))) := by
        show _ = _
        unfold encTs
        rw [List.take_add_one, List.getElem?_eq_getElem hlt, List.flatMap_append]; simp
      have hl1 := encTs_len (l.take k)
      have hl2 := encN_len l[k]
      rw [List.length_take] at hl1
      clear hr hkp
      generalize l[k] = x at *
      generalize encTs (l.take k) = acc at *
      go_wp2_with fail
      refine (ref_number x _ hx).mono ?_
      rintro e w1 ⟨rfl, hb1⟩
      have hb2 : Below w.heap.size w w1 := hb.trans (hb1.mono hb.size)
      go_wp2
      exact ⟨⟨k + 1, by omega, by go_num, str_app _ _ _ (unhide HS), hb2⟩, by simp [intOf]; omega⟩
    · go_wp2
      go_ret
      exact ⟨by rw [List.take_of_length_le (by omega)]; rfl, hb⟩

def encIns (i : LIns) : List UInt8 := encN i.op ++ encN i.a ++ encN i.b
def encFrame (f : LFrame) : List UInt8 := encN f.pc ++ encTs f.locals ++ encN f.stack.length ++ encTs f.stack
def encHead (m : LMeth) : List UInt8 := encN m.slot ++ encN m.args.length ++ encTs m.args ++ encN m.ret ++ encN m.locals ++ encN m.stack ++ encN m.code.length
def encMeth (m : LMeth) : List UInt8 := encHead m ++ m.code.flatMap encIns ++ encN m.frames.length ++ m.frames.flatMap encFrame
theorem flat_len_le {α : Type} (f : α → List UInt8) (s : α → Nat) (h : ∀ x, (f x).length ≤ s x) : ∀ l : List α, (l.flatMap f).length ≤ (l.map s).sum
  | [] => by simp
  | x :: r => by rw [List.flatMap_cons, List.length_append, List.map_cons, List.sum_cons]; have := h x; have := flat_len_le f s h r; omega
theorem encHead_len (m : LMeth) : (encHead m).length ≤ 10 * m.args.length + 60 := by
  unfold encHead
  simp only [List.length_append]
  have := encN_len m.slot; have := encN_len (m.args.length : Int); have := encTs_len m.args; have := encN_len m.ret; have := encN_len m.locals; have := encN_len m.stack; have := encN_len (m.code.length : Int)
  omega
theorem encIns_len (i : LIns) : (encIns i).length ≤ 30 := by
  unfold encIns
  simp only [List.length_append]
  have := encN_len i.op; have := encN_len i.a; have := encN_len i.b
  omega
theorem encFrame_len (f : LFrame) : (encFrame f).length ≤ 10 * szFrame f := by
  unfold encFrame szFrame
  simp only [List.length_append]
  have := encN_len f.pc; have := encTs_len f.locals; have := encN_len (f.stack.length : Int); have := encTs_len f.stack
  omega
theorem i64_nat {n : Nat} (h : n ≤ 4194304) : I64 (n : Int) := ⟨by omega, by omega⟩

theorem code_len : ∀ l : List LIns, (l.flatMap encIns).length ≤ 30 * l.length
  | [] => by simp
  | x :: r => by rw [List.flatMap_cons, List.length_append, List.length_cons]; have := encIns_len x; have := code_len r; omega
theorem frames_len : ∀ l : List LFrame, (l.flatMap encFrame).length ≤ 10 * (l.map szFrame).sum
  | [] => by simp
  | x :: r => by rw [List.flatMap_cons, List.length_append, List.map_cons, List.sum_cons]; have := encFrame_len x; have := frames_len r; omega
theorem flat_take_len {α : Type} (f : α → List UInt8) (l : List α) (k : Nat) : ((l.take k).flatMap f).length ≤ (l.flatMap f).length := by
  have h : l.flatMap f = (l.take k).flatMap f ++ (l.drop k).flatMap f := by rw [← List.flatMap_append, List.take_append_drop]
  rw [h, List.length_append]; omega
theorem str_head (m : LMeth) : Value.string ({ data := (encN m.slot).toArray } ++ { data := (encN (m.args.length : Int)).toArray } ++ { data := (encTs m.args).toArray } ++ { data := (encN m.ret).toArray } ++ { data := (encN m.locals).toArray } ++ { data := (encN m.stack).toArray } ++ { data := (encN (m.code.length : Int)).toArray }) = Value.string { data := (encHead m).toArray } := by
  unfold encHead
  simp only [ByteArray.mk_append_mk]

set_option maxHeartbeats 2000000 in
set_option maxRecDepth 100000 in
theorem ref_methodbytes (m : LMeth) (va vcd vfr : Value) (w : World) (hm : MVals w m va vcd vfr) (hwm : wfMeth m) (hz : szMeth m ≤ 4194304) :
    Calls Try.prog 26 #[.agg #[.int .i64 m.slot, va, .int .i64 m.ret, .int .i64 m.locals, .int .i64 m.stack, vcd, vfr]] w fun e w' => e = .returned (.string ⟨(encMeth m).toArray⟩) ∧ Below w.heap.size w w' := by
  have hal : m.args.length ≤ 4194304 := by unfold szMeth at hz; omega
  have hcl : m.code.length ≤ 4194304 := by unfold szMeth at hz; omega
  have hfl : m.frames.length ≤ 4194304 := Nat.le_trans (szFrames_le m) hz
  obtain ⟨h1, h2, h3⟩ := hm
  have HA := hide h1
  obtain ⟨aa, _, _, acap, rfl, _⟩ := sl_open h1
  obtain ⟨ca, cb, coff, ccap, rfl, _, hca, hcr⟩ := sl_open h2
  obtain ⟨fa, fb, foff, fcap, rfl, _, hfa, hfr⟩ := sl_open h3
  have HCR := hide hcr
  have HFR := hide hfr
  clear h1 h2 h3 hcr hfr
  go_enter Try.func26, Try.ntmps26
  go_wp2_with fail
  generalize hW : w.alloc _ = W
  have hbel : Below w.heap.size w W := by rw [← hW]; exact box_below _ _
  have l0 : W.cell? ⟨w.heap.size, 0, none⟩ = some (.int .i64 m.slot) := by rw [← hW]; exact box_cell _ _ _ 0
  have l1 : W.cell? ⟨w.heap.size, 1, none⟩ = some (.slice aa m.args.length acap) := by rw [← hW]; exact box_cell _ _ _ 1
  have l2 : W.cell? ⟨w.heap.size, 2, none⟩ = some (.int .i64 m.ret) := by rw [← hW]; exact box_cell _ _ _ 2
  have l3 : W.cell? ⟨w.heap.size, 3, none⟩ = some (.int .i64 m.locals) := by rw [← hW]; exact box_cell _ _ _ 3
  have l4 : W.cell? ⟨w.heap.size, 4, none⟩ = some (.int .i64 m.stack) := by rw [← hW]; exact box_cell _ _ _ 4
  have l5 : W.cell? ⟨w.heap.size, 5, none⟩ = some (.slice ca m.code.length ccap) := by rw [← hW]; exact box_cell _ _ _ 5
  have l6 : W.cell? ⟨w.heap.size, 6, none⟩ = some (.slice fa m.frames.length fcap) := by rw [← hW]; exact box_cell _ _ _ 6
  clear hW
  have KP := hide (Keeps.of_below hbel)
  have hbc : Below W.heap.size W W.drew := (Below.refl _ _).drew
  have n1 := encN_len m.slot
  have n2 := encN_len (m.args.length : Int)
  have n3 := encTs_len m.args
  have n4 := encN_len m.ret
  have n5 := encN_len m.locals
  have n6 := encN_len m.stack
  have n7 := encN_len (m.code.length : Int)
  have q1 : ¬ 9223372036854775807 < (encN m.slot).length + (encN (m.args.length : Int)).length := by omega
  have q2 : ¬ 9223372036854775807 < (encN m.slot).length + (encN (m.args.length : Int)).length + (encTs m.args).length := by omega
  have q3 : ¬ 9223372036854775807 < (encN m.slot).length + (encN (m.args.length : Int)).length + (encTs m.args).length + (encN m.ret).length := by omega
  have q4 : ¬ 9223372036854775807 < (encN m.slot).length + (encN (m.args.length : Int)).length + (encTs m.args).length + (encN m.ret).length + (encN m.locals).length := by omega
  have q5 : ¬ 9223372036854775807 < (encN m.slot).length + (encN (m.args.length : Int)).length + (encTs m.args).length + (encN m.ret).length + (encN m.locals).length + (encN m.stack).length := by omega
  have q6 : ¬ 9223372036854775807 < (encN m.slot).length + (encN (m.args.length : Int)).length + (encTs m.args).length + (encN m.ret).length + (encN m.locals).length + (encN m.stack).length + (encN (m.code.length : Int)).length := by omega
  clear n1 n2 n3 n4 n5 n6 n7
  go_region_held3 (fun w' => w'.cell? ⟨w.heap.size, 0, none⟩ = some (.int .i64 m.slot) ∧ w'.cell? ⟨w.heap.size, 1, none⟩ = some (.slice aa m.args.length acap) ∧ w'.cell? ⟨w.heap.size, 2, none⟩ = some (.int .i64 m.ret) ∧ w'.cell? ⟨w.heap.size, 3, none⟩ = some (.int .i64 m.locals) ∧ w'.cell? ⟨w.heap.size, 4, none⟩ = some (.int .i64 m.stack) ∧ w'.cell? ⟨w.heap.size, 5, none⟩ = some (.slice ca m.code.length ccap))
    (first | (exact ⟨Keeps.of_below hbc _ _ l0, Keeps.of_below hbc _ _ l1, Keeps.of_below hbc _ _ l2, Keeps.of_below hbc _ _ l3, Keeps.of_below hbc _ _ l4, Keeps.of_below hbc _ _ l5⟩) | go_keep)
    (first
      | ((go_at_call 24; refine (ref_number _ _ ?_).mono ?_); (first | exact hwm.1 | exact hwm.2.2.1 | exact hwm.2.2.2.1 | exact hwm.2.2.2.2.1 | exact i64_nat hal | exact i64_nat hcl); rintro e w1 ⟨rfl, hb1⟩; replace hbc := hbc.trans (hb1.mono hbc.size); clear hb1)
      | ((go_at_call 25; refine (ref_types m.args _ _ ?_ hwm.2.1 hal).mono ?_); exact ints_keep ((unhide KP).trans (Keeps.of_below hbc)) (unhide HA); rintro e w1 ⟨rfl, hb1⟩; replace hbc := hbc.trans (hb1.mono hbc.size); clear hb1))
  simp only [str_head m]
  go_wp2_with fail
  go_loopw [3, 4] (fun s3 s4 wr => ∃ k : Nat, k ≤ m.code.length ∧ s4 = .int .i64 k ∧ s3 = .string ⟨(encHead m ++ (m.code.take k).flatMap encIns).toArray⟩ ∧ Below W.heap.size W wr) (fun _ s4 _ => m.code.length - (intOf s4).toNat)
  case atStart => exact ⟨0, Nat.zero_le _, rfl, by simp, hbc⟩
  case round =>
    clear hbc q1 q2 q3 q4 q5 q6
    obtain ⟨k, hk, rfl, rfl, hb⟩ := hrel
    have l5' := Keeps.of_below hb _ _ l5
    have l6' := Keeps.of_below hb _ _ l6
    have a1 := encHead_len m
    have a2 := code_len (m.code.take k)
    rw [List.length_take] at a2
    by_cases hlt : k < m.code.length
    · obtain rfl := hca (ne_nil_of_lt hlt)
      have HC := hide (GIns.keep (unhide KP) (unhide HCR k hlt))
      obtain ⟨x0, x1, x2⟩ := hwm.2.2.2.2.2.1 _ (List.getElem_mem hlt)
      have HS : Hid (encHead m ++ (m.code.take k).flatMap encIns ++ encN m.code[k].op ++ encN m.code[k].a ++ encN m.code[k].b = encHead m ++ (m.code.take (k + 1)).flatMap encIns) := by
        show _ = _
        rw [List.take_add_one, List.getElem?_eq_getElem hlt, List.flatMap_append]
        simp [encIns, List.append_assoc]
      generalize m.code[k] = x at *
      have a3 : (encHead m ++ (m.code.take k).flatMap encIns).length ≤ 40 * 4194304 + 60 := by
        rw [List.length_append]; omega
      generalize encHead m ++ (m.code.take k).flatMap encIns = acc at *
      clear a1 a2
      have n1 := encN_len x.op
      have n2 := encN_len x.a
      have n3 := encN_len x.b
      have q1 : ¬ 9223372036854775807 < acc.length + (encN x.op).length := by omega
      have q2 : ¬ 9223372036854775807 < acc.length + (encN x.op).length + (encN x.a).length := by omega
      have q3 : ¬ 9223372036854775807 < acc.length + (encN x.op).length + (encN x.a).length + (encN x.b).length := by omega
      clear n1 n2 n3 a3
      go_wp2_with fail
      have hbc : Below W.heap.size W wr.drew := hb.drew
      go_region_held3 (fun w' => w'.cell? ⟨w.heap.size, 5, none⟩ = some (.slice (some ⟨cb, coff, none⟩) m.code.length ccap) ∧ w'.cell? ⟨cb, coff + k * 3, none⟩ = some (.int .i64 x.op) ∧ w'.cell? ⟨cb, coff + k * 3 + 1, none⟩ = some (.int .i64 x.a) ∧ w'.cell? ⟨cb, coff + k * 3 + 2, none⟩ = some (.int .i64 x.b))
        (first | (exact ⟨Keeps.of_below hbc _ _ l5, GIns.keep (Keeps.of_below hbc) (unhide HC)⟩) | go_keep)
        (first
          | ((go_at_call 24; refine (ref_number _ _ ?_).mono ?_); (first | exact x0 | exact x1 | exact x2); rintro e w1 ⟨rfl, hb1⟩; replace hbc := hbc.trans (hb1.mono hbc.size); clear hb1))
      go_wp2
      refine ⟨⟨k + 1, by omega, by go_num, ?_, hbc⟩, by simp [intOf]; omega⟩
      rw [← unhide HS]
      simp only [ByteArray.mk_append_mk]
    · obtain rfl : k = m.code.length := by omega
      rw [List.take_length] at *
      have a0 := encN_len (m.frames.length : Int)
      have b1 := code_len m.code
      have a3 : (encHead m ++ m.code.flatMap encIns).length ≤ 40 * 4194304 + 70 := by
        simp only [List.length_append]; omega
      have HM : Hid (encHead m ++ m.code.flatMap encIns ++ encN (m.frames.length : Int) ++ m.frames.flatMap encFrame = encMeth m) := rfl
      generalize encHead m ++ m.code.flatMap encIns = acc at *
      have q1 : ¬ 9223372036854775807 < acc.length + (encN (m.frames.length : Int)).length := by omega
      clear a1 a2 b1
      go_wp2_with fail
      refine (ref_number _ _ (i64_nat hfl)).mono ?_
      rintro e w1 ⟨rfl, hb1⟩
      have hb2 : Below W.heap.size W w1 := hb.trans (hb1.mono hb.size)
      go_wp2_with fail
      go_loopw [3, 5] (fun s3 s5 wr => ∃ k : Nat, k ≤ m.frames.length ∧ s5 = .int .i64 k ∧ s3 = .string ⟨(acc ++ encN (m.frames.length : Int) ++ (m.frames.take k).flatMap encFrame).toArray⟩ ∧ Below W.heap.size W wr) (fun _ s5 _ => m.frames.length - (intOf s5).toNat)
      case atStart => exact ⟨0, Nat.zero_le _, rfl, by simp [ByteArray.mk_append_mk], hb2⟩
      case round =>
        clear hb2 hb1 hb q1
        obtain ⟨k, hk, rfl, rfl, hb⟩ := hrel
        have l6'' := Keeps.of_below hb _ _ l6
        clear l5 l5' l6' l0 l1 l2 l3 l4
        by_cases hlt : k < m.frames.length
        · obtain rfl := hfa (ne_nil_of_lt hlt)
          obtain ⟨vl, vs, c0, c1, c2, h1, h2⟩ := GFrame.keep ((unhide KP).trans (Keeps.of_below hb)) (unhide HFR k hlt)
          obtain ⟨x0, x1, x2⟩ := hwm.2.2.2.2.2.2 _ (List.getElem_mem hlt)
          have hsz : szFrame m.frames[k] ≤ 4194304 := by
            have := le_sum_map szFrame m.frames _ (List.getElem_mem hlt)
            unfold szMeth at hz; omega
          have HS : Hid (acc ++ encN (m.frames.length : Int) ++ (m.frames.take k).flatMap encFrame ++ encN m.frames[k].pc ++ encTs m.frames[k].locals ++ encN (m.frames[k].stack.length : Int) ++ encTs m.frames[k].stack = acc ++ encN (m.frames.length : Int) ++ (m.frames.take (k + 1)).flatMap encFrame) := by
            show _ = _
            rw [List.take_add_one, List.getElem?_eq_getElem hlt, List.flatMap_append]
            simp [encFrame, List.append_assoc]
          have a4 : (acc ++ encN (m.frames.length : Int) ++ (m.frames.take k).flatMap encFrame).length ≤ 60 * 4194304 := by
            have := flat_take_len encFrame m.frames k
            have := frames_len m.frames
            simp only [List.length_append]
            unfold szMeth at hz; omega
          generalize m.frames[k] = f at *
          generalize acc ++ encN (m.frames.length : Int) ++ (m.frames.take k).flatMap encFrame = acc' at *
          have hll : f.locals.length ≤ 4194304 := by unfold szFrame at hsz; omega
          have hsl : f.stack.length ≤ 4194304 := by unfold szFrame at hsz; omega
          have H1 := hide h1
          have H2 := hide h2
          obtain ⟨la, _, _, lcap, rfl, _⟩ := sl_open h1
          obtain ⟨sa, _, _, scap, rfl, _⟩ := sl_open h2
          clear h1 h2
          have n1 := encN_len f.pc
          have n2 := encTs_len f.locals
          have n3 := encN_len (f.stack.length : Int)
          have n4 := encTs_len f.stack
          have q1 : ¬ 9223372036854775807 < acc'.length + (encN f.pc).length := by omega
          have q2 : ¬ 9223372036854775807 < acc'.length + (encN f.pc).length + (encTs f.locals).length := by omega
          have q3 : ¬ 9223372036854775807 < acc'.length + (encN f.pc).length + (encTs f.locals).length + (encN (f.stack.length : Int)).length := by omega
          have q4 : ¬ 9223372036854775807 < acc'.length + (encN f.pc).length + (encTs f.locals).length + (encN (f.stack.length : Int)).length + (encTs f.stack).length := by omega
          clear n1 n2 n3 n4 a0 a3 a4
          go_wp2_with fail
          generalize hV : wr.alloc _ = V
          have hbv : Below W.heap.size W V := by rw [← hV]; exact hb.alloc hb.size _
          have hbw : Below wr.heap.size wr V := by rw [← hV]; exact box_below _ _
          have m0 : V.cell? ⟨wr.heap.size, 0, none⟩ = some (.int .i64 f.pc) := by rw [← hV]; exact box_cell _ _ _ 0
          have m1 : V.cell? ⟨wr.heap.size, 1, none⟩ = some (.slice la f.locals.length lcap) := by rw [← hV]; exact box_cell _ _ _ 1
          have m2 : V.cell? ⟨wr.heap.size, 2, none⟩ = some (.slice sa f.stack.length scap) := by rw [← hV]; exact box_cell _ _ _ 2
          clear hV
          have hbc : Below V.heap.size V V.drew := (Below.refl _ _).drew
          have KV := hide (Keeps.of_below hbw)
          clear hbw
          go_region_held3 (fun w' => w'.cell? ⟨wr.heap.size, 0, none⟩ = some (.int .i64 f.pc) ∧ w'.cell? ⟨wr.heap.size, 1, none⟩ = some (.slice la f.locals.length lcap) ∧ w'.cell? ⟨wr.heap.size, 2, none⟩ = some (.slice sa f.stack.length scap))
            (first | (exact ⟨Keeps.of_below hbc _ _ m0, Keeps.of_below hbc _ _ m1, Keeps.of_below hbc _ _ m2⟩) | go_keep)
            (first
              | ((go_at_call 24; refine (ref_number _ _ ?_).mono ?_); (first | exact x0 | exact i64_nat hsl); rintro e w1 ⟨rfl, hb1⟩; replace hbc := hbc.trans (hb1.mono hbc.size); clear hb1)
              | ((go_at_call 25; refine (ref_types f.locals _ _ ?_ x1 hll).mono ?_); exact ints_keep ((unhide KV).trans (Keeps.of_below hbc)) (unhide H1); rintro e w1 ⟨rfl, hb1⟩; replace hbc := hbc.trans (hb1.mono hbc.size); clear hb1)
              | ((go_at_call 25; refine (ref_types f.stack _ _ ?_ x2 hsl).mono ?_); exact ints_keep ((unhide KV).trans (Keeps.of_below hbc)) (unhide H2); rintro e w1 ⟨rfl, hb1⟩; replace hbc := hbc.trans (hb1.mono hbc.size); clear hb1))
          go_wp2
          refine ⟨⟨k + 1, by omega, by go_num, ?_, hbv.trans (hbc.mono hbv.size)⟩, by simp [intOf]; omega⟩
          rw [← unhide HS]
          simp only [ByteArray.mk_append_mk]
        · obtain rfl : k = m.frames.length := by omega
          rw [List.take_length] at *
          go_wp2
          go_ret
          exact ⟨by rw [unhide HM]; rfl, hbel.trans (hb.mono hbel.size)⟩
end Go.Proofs.Ytiiokkllmchohaa
