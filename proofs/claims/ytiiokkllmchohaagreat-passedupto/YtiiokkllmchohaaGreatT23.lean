/- Rows of structs, cell by cell; what is read in a part of memory alone. -/
import Derived.Test.YtiiokkllmchohaaGreatT01
namespace Go.Proofs.YtiiokkllmchohaaGreat
open Go.RowKit
def sel (S : Nat → Prop) [DecidablePred S] (w : World) : Addr → Option Value := fun a => if S a.block then w.cell? a else none
theorem sel_eq {S : Nat → Prop} [DecidablePred S] {w : World} {a : Addr} (h : S a.block) : sel S w a = w.cell? a := by unfold sel; rw [if_pos h]
theorem sel_some {S : Nat → Prop} [DecidablePred S] {w : World} {a : Addr} {v : Value} (h : sel S w a = some v) : S a.block ∧ w.cell? a = some v := by
 unfold sel at h
 by_cases e : S a.block
 ·rw [if_pos e] at h; exact ⟨e, h⟩
 ·rw [if_neg e] at h; cases h
theorem sel_mods {S S' T : Nat → Prop} [DecidablePred S] [DecidablePred S'] {w w' : World} (hm : Mods T w w') (h : ∀ k, k < w.heap.size → S k → ¬ T k ∧ S' k) : GLe (sel S w) (sel S' w') := fun p v e => by
 obtain ⟨h1, h2⟩ := sel_some e
 obtain ⟨h3, h4⟩ := h _ (cell_lt h2) h1
 rw [sel_eq h4]
 exact hm.cell h2 h3
theorem sel_world {S : Nat → Prop} [DecidablePred S] {w : World} : GLe (sel S w) w.cell? := fun _ _ e => (sel_some e).2
theorem world_sel {S T : Nat → Prop} [DecidablePred S] {w w' : World} (hm : Mods T w w') (h : ∀ k, k < w.heap.size → ¬ T k ∧ S k) : GLe w.cell? (sel S w') := fun p v e => by
 obtain ⟨h3, h4⟩ := h _ (cell_lt e)
 rw [sel_eq h4]
 exact hm.cell e h3

def RowG {α : Type} (sz : Nat) (C : α → List Value → Prop) (cs : List Value) (l : List α) : Prop :=
 cs.length = l.length * sz ∧ ∀ (j : Nat) (x : α), l[j]? = some x → C x ((cs.drop (j * sz)).take sz)
section
variable {α : Type} {sz : Nat} {C C' : α → List Value → Prop} {cs : List Value} {l : List α}
theorem RowG.nil : RowG sz C [] [] := ⟨by simp, fun j x h => by simp at h⟩
theorem RowG.mono (h : RowG sz C cs l) (k : ∀ x c, C x c → C' x c) : RowG sz C' cs l := ⟨h.1, fun j x hj => k _ _ (h.2 j x hj)⟩
theorem RowG.snoc (h : RowG sz C cs l) {x : α} {c : List Value} (hc : C x c) (hl : c.length = sz) : RowG sz C (cs ++ c) (l ++ [x]) := by
 refine ⟨by rw [List.length_append, List.length_append, h.1, hl, Nat.add_mul]; simp, fun j y hj => ?_⟩
 rcases Nat.lt_or_ge j l.length with hlt | hge
 ·rw [List.getElem?_append_left hlt] at hj
  have h1 : j * sz + sz ≤ cs.length := by rw [h.1, ← Nat.succ_mul]; exact Nat.mul_le_mul_right _ hlt
  rw [List.drop_append_of_le_length (by omega), List.take_append_of_le_length (by rw [List.length_drop]; omega)]
  exact h.2 j y hj
 ·rw [List.getElem?_append_right hge] at hj
  have hj0 : j - l.length = 0 := by
   have := (List.getElem?_eq_some_iff.1 hj).1
   simp at this; omega
  obtain rfl : j = l.length := by omega
  rw [Nat.sub_self] at hj
  simp at hj
  subst hj
  rw [← h.1, List.drop_append_of_le_length (Nat.le_refl _), List.drop_length, List.nil_append, List.take_of_length_le (by omega)]
  exact hc
theorem row_cell {j i : Nat} (hi : i < sz) : cs[j * sz + i]? = ((cs.drop (j * sz)).take sz)[i]? := by
 rw [List.getElem?_take, if_pos hi, List.getElem?_drop]
end
theorem own_sl {α : Type} {sz : Nat} {R : α → Nat → Nat → Prop} {w : World} {B : Nat} {e : TypeId} {v : Value} {l : List α} {cs : List Value} (h : w.ownsRow B e sz v l.length cs)
  (hR : ∀ g, v.ownBlock = some g → B ≤ g → (∀ j, j < l.length * sz → w.cell? ⟨g, j, none⟩ = cs[j]?) → ∀ (j : Nat) (x : α), l[j]? = some x → R x g (j * sz)) : SlAt sz R v l := by
 rcases h.2 with ⟨rfl, h0⟩ | ⟨g, cap, cur, rfl, h2, h3, h4, h5, h6, h7⟩
 ·obtain rfl : l = [] := List.eq_nil_of_length_eq_zero h0
  exact ⟨none, 0, 0, 0, rfl, Nat.le_refl _, ⟨fun e => absurd rfl e, .inl ⟨rfl, rfl⟩⟩, fun j x hj => by simp at hj⟩
 ·refine ⟨some ⟨g, 0, none⟩, g, 0, cap, rfl, h4, ⟨fun _ => rfl, .inr (.inl rfl)⟩, fun j x hj => ?_⟩
  rw [Nat.zero_add]
  refine hR g rfl h2 (fun j hj => ?_) j x hj
  rw [← h7, List.getElem?_take, if_pos hj]
  unfold World.cell?
  simp only [h3]
  simp
theorem own_set {w : World} {B : Nat} {e : TypeId} {sz n : Nat} {v : Value} {cs : List Value} (h : w.ownsRow B e sz v n cs) {g : Nat} (hg : v.ownBlock = some g) (i : Nat) (u : Value) : (w.setCell ⟨g, i, none⟩ u).ownsRow B e sz v n (cs.set i u) := by
 refine ⟨by rw [List.length_set]; exact h.1, ?_⟩
 rcases h.2 with ⟨rfl, h0⟩ | ⟨g', cap, cur, rfl, h2, h3, h4, h5, h6, h7⟩
 ·cases hg
 ·cases hg
  have hb : Blk w g' e cur.toList := by unfold Blk; simpa using h3
  have hb2 := hb.setCell i u
  unfold Blk at hb2
  refine .inr ⟨g', cap, (cur.toList.set i u).toArray, rfl, h2, hb2, h4, h5, by simpa using h6, ?_⟩
  rw [← h7]
  simp [List.take_set]
theorem own_intsC {S : Nat → Prop} [DecidablePred S] {w : World} {B : Nat} {e : TypeId} {v : Value} {l : List Int} (h : w.ownsRow B e 1 v l.length (l.map (Value.int .i64))) (hS : ∀ g, v.ownBlock = some g → S g) : SlAt 1 (GInt (sel S w)) v l :=
 own_sl h fun g hg _ hc j x hj => by
  unfold GInt
  rw [sel_eq (hS g hg), Nat.mul_one, hc j (by rw [Nat.mul_one]; exact (List.getElem?_eq_some_iff.1 hj).1), List.getElem?_map, hj]; rfl
def FrmC (g : Addr → Option Value) (x : LFrame) (c : List Value) : Prop := ∃ vl vs, c = [.int .i64 x.pc, vl, vs] ∧ SlAt 1 (GInt g) vl x.locals ∧ SlAt 1 (GInt g) vs x.stack
def MeC (g : Addr → Option Value) (x : LMeth) (c : List Value) : Prop := ∃ va vc vf, c = [.int .i64 x.slot, va, .int .i64 x.ret, .int .i64 x.locals, .int .i64 x.stack, vc, vf] ∧ GVals g x va vc vf
def ClsC (g : Addr → Option Value) (x : LClass) (c : List Value) : Prop := ∃ vf vm, c = [.int .i64 x.sup, vf, vm] ∧ SlAt 1 (GInt g) vf x.fields ∧ SlAt 7 (GMeth g) vm x.meths
section
variable {g g' : Addr → Option Value} {c : List Value}
theorem FrmC.keep (h : GLe g g') {x : LFrame} (r : FrmC g x c) : FrmC g' x c := by
 obtain ⟨vl, vs, h1, h2, h3⟩ := r
 exact ⟨vl, vs, h1, ints_keep h h2, ints_keep h h3⟩
theorem MeC.keep (h : GLe g g') {x : LMeth} (r : MeC g x c) : MeC g' x c := by
 obtain ⟨va, vc, vf, h1, h2⟩ := r
 exact ⟨va, vc, vf, h1, GVals.keep h h2⟩
theorem ClsC.keep (h : GLe g g') {x : LClass} (r : ClsC g x c) : ClsC g' x c := by
 obtain ⟨vf, vm, h1, h2, h3⟩ := r
 exact ⟨vf, vm, h1, ints_keep h h2, meths_keep h h3⟩
end
section
variable {S : Nat → Prop} [DecidablePred S] {w : World} {B : Nat} {e : TypeId} {v : Value} {cs : List Value}
theorem own_frmS {l : List LFrame} (h : w.ownsRow B e 3 v l.length cs) (r : RowG 3 (FrmC (sel S w)) cs l) (hS : ∀ g, v.ownBlock = some g → S g) : SlAt 3 (GFrame (sel S w)) v l :=
 own_sl h fun g hg _ hc j x hj => by
  have hl := (List.getElem?_eq_some_iff.1 hj).1
  obtain ⟨vl, vs, hC, h1, h2⟩ := r.2 j x hj
  have key : ∀ i, i < 3 → sel S w ⟨g, j * 3 + i, none⟩ = [Value.int .i64 x.pc, vl, vs][i]? := fun i hi => by
   rw [sel_eq (hS g hg), hc _ (by omega), row_cell hi, hC]
  exact ⟨vl, vs, key 0 (by omega), key 1 (by omega), key 2 (by omega), h1, h2⟩
theorem own_metS {l : List LMeth} (h : w.ownsRow B e 7 v l.length cs) (r : RowG 7 (MeC (sel S w)) cs l) (hS : ∀ g, v.ownBlock = some g → S g) : SlAt 7 (GMeth (sel S w)) v l :=
 own_sl h fun g hg _ hc j x hj => by
  have hl := (List.getElem?_eq_some_iff.1 hj).1
  obtain ⟨va, vc, vf, hC, h1⟩ := r.2 j x hj
  have key : ∀ i, i < 7 → sel S w ⟨g, j * 7 + i, none⟩ = [Value.int .i64 x.slot, va, .int .i64 x.ret, .int .i64 x.locals, .int .i64 x.stack, vc, vf][i]? := fun i hi => by
   rw [sel_eq (hS g hg), hc _ (by omega), row_cell hi, hC]
  exact ⟨va, vc, vf, h1, key 0 (by omega), key 1 (by omega), key 2 (by omega), key 3 (by omega), key 4 (by omega), key 5 (by omega), key 6 (by omega)⟩
theorem own_clsS {l : List LClass} (h : w.ownsRow B e 3 v l.length cs) (r : RowG 3 (ClsC (sel S w)) cs l) (hS : ∀ g, v.ownBlock = some g → S g) : SlAt 3 (GClass (sel S w)) v l :=
 own_sl h fun g hg _ hc j x hj => by
  have hl := (List.getElem?_eq_some_iff.1 hj).1
  obtain ⟨vf, vm, hC, h1, h2⟩ := r.2 j x hj
  have key : ∀ i, i < 3 → sel S w ⟨g, j * 3 + i, none⟩ = [Value.int .i64 x.sup, vf, vm][i]? := fun i hi => by
   rw [sel_eq (hS g hg), hc _ (by omega), row_cell hi, hC]
  exact ⟨vf, vm, key 0 (by omega), key 1 (by omega), key 2 (by omega), h1, h2⟩
end
theorem slAt_one {α : Type} {sz : Nat} {R : α → Nat → Nat → Prop} {v : Value} {l : List α} (h : SlAt sz R v l) : v.oneCell' = true := by
 obtain ⟨a, b, off, cap, rfl, _⟩ := h
 rfl
end Go.Proofs.YtiiokkllmchohaaGreat
