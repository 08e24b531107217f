/- What the law's hands hold while lists are lent. -/
import Derived.Test.YtiiokkllmchohaaGreatT01
import Derived.Test.YtiiokkllmchohaaGreatT34
/- LendB -/
namespace Go.Proofs.YtiiokkllmchohaaGreat
open Go.RowKit

structure InL (w : World) (B : Nat) (eo ei : TypeId) (sz : Nat) (lastv : List Value) (v : Value) (es : List (Nat × Nat)) : Prop where
 row : w.ownsRow B eo 1 v es.length (es.map slOf)
 ent : ∀ e ∈ es, B ≤ e.1 ∧ 1 ≤ e.2 ∧ e.2 ≤ 1048577 ∧ ∃ cs : List Value, Blk w e.1 ei cs ∧ cs.length = e.2 * sz ∧ cs.drop ((e.2 - 1) * sz) = lastv
 nodup : (es.map Prod.fst).Nodup

abbrev lastT : List Value := [.int .i64 (-77000000)]
abbrev lastI : List Value := [.int .i64 (-77000000), .int .i64 0, .int .i64 0]
abbrev lastF : List Value := [.int .i64 (-77000000), .slice none 0 0, .slice none 0 0]
abbrev InT (w : World) (B : Nat) (v : Value) (es : List (Nat × Nat)) : Prop := InL w B 40 43 1 lastT v es
abbrev InI (w : World) (B : Nat) (v : Value) (es : List (Nat × Nat)) : Prop := InL w B 61 60 3 lastI v es
abbrev InF (w : World) (B : Nat) (v : Value) (es : List (Nat × Nat)) : Prop := InL w B 36 42 3 lastF v es
def TyBlk (T : List TypeId) (w : World) (k : Nat) : Prop := ∃ t cs, Blk w k t cs ∧ t ∈ T
def tyB (T : List TypeId) (w : World) (k : Nat) : Bool := match w.heap[k]? with
 | some (.cells _ t fr) => decide (t ∈ T) && decide (fr = (0, 0))
 | _ => false
theorem tyB_of {T : List TypeId} {w : World} {k : Nat} (h : TyBlk T w k) : tyB T w k = true := by
 obtain ⟨t, cs, hb, ht⟩ := h
 unfold Blk at hb
 simp [tyB, hb, ht]
theorem tyB_iff {T : List TypeId} {w : World} {k : Nat} (h : tyB T w k = true) : TyBlk T w k := by
 unfold tyB at h
 split at h
 ·rename_i c t fr hc
  simp only [Bool.and_eq_true, decide_eq_true_eq] at h
  obtain ⟨h1, rfl⟩ := h
  exact ⟨t, c.toList, by unfold Blk; simpa using hc, h1⟩
 ·cases h
def cellS (T : List TypeId) (w : World) (a : Addr) : Option Value := if tyB T w a.block = true then w.cell? a else none
theorem cellS_pos {T : List TypeId} {w : World} {a : Addr} (h : TyBlk T w a.block) : cellS T w a = w.cell? a := by
 unfold cellS
 rw [if_pos (tyB_of h)]
theorem cellS_some {T : List TypeId} {w : World} {a : Addr} {v : Value} (h : cellS T w a = some v) : TyBlk T w a.block ∧ w.cell? a = some v := by
 unfold cellS at h
 split at h
 ·rename_i hp
  exact ⟨tyB_iff hp, h⟩
 ·cases h
theorem cellS_le (T : List TypeId) (w : World) : GLe (cellS T w) w.cell? := fun _ _ h => (cellS_some h).2
theorem cellS_blk {T : List TypeId} {w : World} {b : Nat} {t : TypeId} {cs : List Value} (h : Blk w b t cs) (ht : t ∈ T) (i : Nat) : cellS T w ⟨b, i, none⟩ = cs[i]? := by
 rw [cellS_pos ⟨t, cs, h, ht⟩, h.cell]
theorem ints_of_blk {T : List TypeId} {w : World} {g : Nat} {t : TypeId} {l : List Int} {rest : List Value} {cap : Nat} (h : Blk w g t (l.map (Value.int .i64) ++ rest)) (ht : t ∈ T) (hc : l.length ≤ cap) : SlAt 1 (GInt (cellS T w)) (.slice (some ⟨g, 0, none⟩) l.length cap) l := by
 refine ⟨_, g, 0, cap, rfl, hc, ⟨fun _ => rfl, .inr (.inl rfl)⟩, fun j x hj => ?_⟩
 unfold GInt
 have hl := (List.getElem?_eq_some_iff.1 hj).1
 rw [cellS_blk h ht, Nat.zero_add, Nat.mul_one, List.getElem?_append_left (by simpa using hl), List.getElem?_map, hj]
 rfl
theorem code_of_blk {T : List TypeId} {w : World} {g : Nat} {t : TypeId} {l : List LIns} {rest : List Value} {cap : Nat} (h : Blk w g t (codeCells l ++ rest)) (ht : t ∈ T) (hc : l.length ≤ cap) : SlAt 3 (GIns (cellS T w)) (.slice (some ⟨g, 0, none⟩) l.length cap) l := by
 refine ⟨_, g, 0, cap, rfl, hc, ⟨fun _ => rfl, .inr (.inl rfl)⟩, fun j x hj => ?_⟩
 have hl := (List.getElem?_eq_some_iff.1 hj).1
 have hr : ∀ r, r < 3 → cellS T w ⟨g, 0 + j * 3 + r, none⟩ = (insCells x)[r]? := fun r hr => by
  rw [cellS_blk h ht, Nat.zero_add, List.getElem?_append_left (by rw [codeCells_len]; omega)]
  unfold codeCells
  rw [flat_get (f := insCells) (s := 3) (fun _ => rfl) l j r hr, hj]
  rfl
 exact ⟨hr 0 (by omega), hr 1 (by omega), hr 2 (by omega)⟩
abbrev tT : List TypeId := [43]
abbrev t3 : List TypeId := [43, 60, 42]
structure HS (w : World) (B bh : Nat) (cs : List Value) (vt vi vf : Value) (ts is fs : List (Nat × Nat)) : Prop where
 hands : HBlk w bh cs
 c0 : cs[0]? = some vt
 c1 : cs[1]? = some vi
 c2 : cs[2]? = some vf
 t : InT w B vt ts
 i : InI w B vi is
 f : InF w B vf fs
 lt : bh < B
 le : B ≤ w.heap.size

end Go.Proofs.YtiiokkllmchohaaGreat
