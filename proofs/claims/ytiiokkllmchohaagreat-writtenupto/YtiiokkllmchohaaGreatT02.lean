/- Walk of the law's lendTypes. -/
import Derived.Laws.MakeOwn
import Derived.Test.YtiiokkllmchohaaGreatT01
/- LendA -/
namespace Go.Proofs.YtiiokkllmchohaaGreat
open Go.RowKit

def HBlk (w : World) (bh : Nat) (cs : List Value) : Prop := Blk w bh 53 cs ∧ cs.length = 19
def slOf (e : Nat × Nat) : Value := .slice (some ⟨e.1, 0, none⟩) e.2 e.2

end Go.Proofs.YtiiokkllmchohaaGreat
/- Plain lists: cells of elements side by side. -/
namespace Go.Proofs.YtiiokkllmchohaaGreat
open Go.RowKit

theorem flat_len {α β : Type} {f : α → List β} {s : Nat} (hf : ∀ x, (f x).length = s) : ∀ (l : List α), (l.flatMap f).length = l.length * s
  | [] => by simp
  | x :: r => by
    rw [List.flatMap_cons, List.length_append, hf, flat_len hf r, List.length_cons, Nat.succ_mul, Nat.add_comm]
theorem flat_get {α β : Type} {f : α → List β} {s : Nat} (hf : ∀ x, (f x).length = s) : ∀ (l : List α) (j r : Nat), r < s → (l.flatMap f)[j * s + r]? = (l[j]?).bind fun x => (f x)[r]?
  | [], j, r, _ => by simp
  | x :: l, 0, r, hr => by
    rw [List.flatMap_cons, Nat.zero_mul, Nat.zero_add, List.getElem?_append_left (by rw [hf]; exact hr)]
    rfl
  | x :: l, j + 1, r, hr => by
    rw [List.flatMap_cons, List.getElem?_append_right (by rw [hf, Nat.succ_mul]; omega), hf, show (j + 1) * s + r - s = j * s + r by rw [Nat.succ_mul]; omega, flat_get hf l j r hr]
    rfl
def insCells (i : LIns) : List Value := [.int .i64 i.op, .int .i64 i.a, .int .i64 i.b]
def codeCells (l : List LIns) : List Value := l.flatMap insCells
theorem codeCells_len (l : List LIns) : (codeCells l).length = l.length * 3 := flat_len (f := insCells) (s := 3) (fun _ => rfl) l
theorem addr_add (b off j : Nat) : (⟨b, off, none⟩ : Addr).add j = ⟨b, off + j, none⟩ := by unfold Addr.add; split <;> simp_all
end Go.Proofs.YtiiokkllmchohaaGreat
/- What the law's hands hold while lists are lent. -/
namespace Go.Proofs.YtiiokkllmchohaaGreat
open Go.RowKit

structure InL (w : World) (B : Nat) (eo ei : TypeId) (sz : Nat) (lastv : List Value) (v : Value) (es : List (Nat × Nat)) : Prop where
  row : w.ownsRow B eo 1 v es.length (es.map slOf)
  ent : ∀ e ∈ es, B ≤ e.1 ∧ 1 ≤ e.2 ∧ e.2 ≤ 1048577 ∧ ∃ cs : List Value, Blk w e.1 ei cs ∧ cs.length = e.2 * sz ∧ cs.drop ((e.2 - 1) * sz) = lastv
  nodup : (es.map Prod.fst).Nodup

abbrev lastT : List Value := [.int .i64 (-77000000)]
abbrev lastI : List Value := [.int .i64 (-77000000), .int .i64 0, .int .i64 0]
abbrev lastF : List Value := [.int .i64 (-77000000), .slice none 0 0, .slice none 0 0]
abbrev InT (w : World) (B : Nat) (v : Value) (es : List (Nat × Nat)) : Prop := InL w B 40 43 1 lastT v es
abbrev InI (w : World) (B : Nat) (v : Value) (es : List (Nat × Nat)) : Prop := InL w B 61 60 3 lastI v es
abbrev InF (w : World) (B : Nat) (v : Value) (es : List (Nat × Nat)) : Prop := InL w B 36 42 3 lastF v es
def TyBlk (T : List TypeId) (w : World) (k : Nat) : Prop := ∃ t cs, Blk w k t cs ∧ t ∈ T
def tyB (T : List TypeId) (w : World) (k : Nat) : Bool := match w.heap[k]? with
  | some (.cells _ t fr) => decide (t ∈ T) && decide (fr = (0, 0))
  | _ => false
theorem tyB_of {T : List TypeId} {w : World} {k : Nat} (h : TyBlk T w k) : tyB T w k = true := by
  obtain ⟨t, cs, hb, ht⟩ := h
  unfold Blk at hb
  simp [tyB, hb, ht]
theorem tyB_iff {T : List TypeId} {w : World} {k : Nat} (h : tyB T w k = true) : TyBlk T w k := by
  unfold tyB at h
  split at h
  · rename_i c t fr hc
    simp only [Bool.and_eq_true, decide_eq_true_eq] at h
    obtain ⟨h1, rfl⟩ := h
    exact ⟨t, c.toList, by unfold Blk; simpa using hc, h1⟩
  · cases h
def cellS (T : List TypeId) (w : World) (a : Addr) : Option Value := if tyB T w a.block = true then w.cell? a else none
theorem cellS_pos {T : List TypeId} {w : World} {a : Addr} (h : TyBlk T w a.block) : cellS T w a = w.cell? a := by
  unfold cellS
  rw [if_pos (tyB_of h)]
theorem cellS_some {T : List TypeId} {w : World} {a : Addr} {v : Value} (h : cellS T w a = some v) : TyBlk T w a.block ∧ w.cell? a = some v := by
  unfold cellS at h
  split at h
  · rename_i hp
    exact ⟨tyB_iff hp, h⟩
  · cases h
theorem cellS_le (T : List TypeId) (w : World) : GLe (cellS T w) w.cell? := fun _ _ h => (cellS_some h).2
theorem cellS_blk {T : List TypeId} {w : World} {b : Nat} {t : TypeId} {cs : List Value} (h : Blk w b t cs) (ht : t ∈ T) (i : Nat) : cellS T w ⟨b, i, none⟩ = cs[i]? := by
  rw [cellS_pos ⟨t, cs, h, ht⟩, h.cell]
theorem ints_of_blk {T : List TypeId} {w : World} {g : Nat} {t : TypeId} {l : List Int} {rest : List Value} {cap : Nat} (h : Blk w g t (l.map (Value.int .i64) ++ rest)) (ht : t ∈ T) (hc : l.length ≤ cap) : SlAt 1 (GInt (cellS T w)) (.slice (some ⟨g, 0, none⟩) l.length cap) l := by
  refine ⟨_, g, 0, cap, rfl, hc, ⟨fun _ => rfl, .inr (.inl rfl)⟩, fun j x hj => ?_⟩
  unfold GInt
  have hl := (List.getElem?_eq_some_iff.1 hj).1
  rw [cellS_blk h ht, Nat.zero_add, Nat.mul_one, List.getElem?_append_left (by simpa using hl), List.getElem?_map, hj]
  rfl
theorem code_of_blk {T : List TypeId} {w : World} {g : Nat} {t : TypeId} {l : List LIns} {rest : List Value} {cap : Nat} (h : Blk w g t (codeCells l ++ rest)) (ht : t ∈ T) (hc : l.length ≤ cap) : SlAt 3 (GIns (cellS T w)) (.slice (some ⟨g, 0, none⟩) l.length cap) l := by
  refine ⟨_, g, 0, cap, rfl, hc, ⟨fun _ => rfl, .inr (.inl rfl)⟩, fun j x hj => ?_⟩
  have hl := (List.getElem?_eq_some_iff.1 hj).1
  have hr : ∀ r, r < 3 → cellS T w ⟨g, 0 + j * 3 + r, none⟩ = (insCells x)[r]? := fun r hr => by
    rw [cellS_blk h ht, Nat.zero_add, List.getElem?_append_left (by rw [codeCells_len]; omega)]
    unfold codeCells
    rw [flat_get (f := insCells) (s := 3) (fun _ => rfl) l j r hr, hj]
    rfl
  exact ⟨hr 0 (by omega), hr 1 (by omega), hr 2 (by omega)⟩
abbrev tT : List TypeId := [43]
abbrev t3 : List TypeId := [43, 60, 42]
abbrev t4 : List TypeId := [43, 60, 42, 63]
abbrev t5 : List TypeId := [43, 60, 42, 63, 66]

structure HS (w : World) (B bh : Nat) (cs : List Value) (vt vi vf : Value) (ts is fs : List (Nat × Nat)) : Prop where
  hands : HBlk w bh cs
  c0 : cs[0]? = some vt
  c1 : cs[1]? = some vi
  c2 : cs[2]? = some vf
  t : InT w B vt ts
  i : InI w B vi is
  f : InF w B vf fs
  lt : bh < B
  le : B ≤ w.heap.size

end Go.Proofs.YtiiokkllmchohaaGreat
/- The document's example, as data. -/
namespace Go.Proofs.YtiiokkllmchohaaGreat
open Go.RowKit

def exP : List LClass := [⟨-1, [0], [⟨0, [], 0, 1, 2, [⟨1, 0, 0⟩, ⟨10, 0, 0⟩, ⟨13, 0, 0⟩], []⟩, ⟨1, [0], 0, 2, 3, [⟨1, 0, 0⟩, ⟨1, 1, 0⟩, ⟨11, 0, 0⟩, ⟨1, 0, 0⟩, ⟨12, 0, 0⟩, ⟨13, 0, 0⟩], []⟩]⟩]
theorem exP_form : formI exP = 0 := by decide

theorem exP_wf : wfProg exP := by
  unfold wfProg exP
  intro x hx
  obtain rfl := List.mem_singleton.1 hx
  refine ⟨by unfold I64; decide, fun y hy => ?_, fun m hm => ?_⟩
  · obtain rfl := List.mem_singleton.1 hy
    unfold I64; decide
  · simp only [List.mem_cons, List.not_mem_nil, or_false] at hm
    rcases hm with rfl | rfl
    · refine ⟨by unfold I64; decide, fun y hy => (by cases hy), by unfold I64; decide, by unfold I64; decide, by unfold I64; decide, fun i hi => ?_, fun f hf => (by cases hf)⟩
      simp only [List.mem_cons, List.not_mem_nil, or_false] at hi
      rcases hi with rfl | rfl | rfl <;> (unfold wfIns I64; decide)
    · refine ⟨by unfold I64; decide, fun y hy => ?_, by unfold I64; decide, by unfold I64; decide, by unfold I64; decide, fun i hi => ?_, fun f hf => (by cases hf)⟩
      · obtain rfl := List.mem_singleton.1 hy
        unfold I64; decide
      · simp only [List.mem_cons, List.not_mem_nil, or_false] at hi
        rcases hi with rfl | rfl | rfl | rfl | rfl | rfl <;> (unfold wfIns I64; decide)
end Go.Proofs.YtiiokkllmchohaaGreat
/- Walks of the code's own tests: numbers within a bound, classes that are there, declared types, types in frames. -/
namespace Go.Proofs.YtiiokkllmchohaaGreat
open Go.RowKit
attribute [local go_sem ↓] Go.wp_at_zero Go.wp_at_succ

set_option maxHeartbeats 400000 in
theorem code_within (v n : Int) (w : World) :
    Calls Tryz.prog 182 #[.int .i64 v, .int .i64 n] w fun e w' => e = .returned (.bool (placeB v n)) ∧ w' = w := by
  go_enter Tryz.func182, Tryz.ntmps182
  go_wp2
  all_goals go_ret
  all_goals exact ⟨ret_bool (by simp [placeB, *] <;> omega), rfl⟩

set_option maxHeartbeats 400000 in
theorem code_hasclass (p : List LClass) (vc : Value) (c : Int) (w : World) (hp : RProg w vc p) (_hl : p.length ≤ 4194304) :
    Calls Tryz.prog 108 #[.agg #[vc], .int .i64 c] w fun e w' => e = .returned (.bool (placeB c p.length)) ∧ Below w.heap.size w w' := by
  obtain ⟨a, b, off, cap, rfl, hcap, ha, hr⟩ := sl_open hp
  clear ha hr hp
  go_enter Tryz.func108, Tryz.ntmps108
  go_wp2
  all_goals go_ret
  all_goals exact ⟨ret_bool (by simp [placeB, *] <;> omega), box_below _ _⟩

set_option maxHeartbeats 400000 in
theorem code_isdeclared (p : List LClass) (vc : Value) (t : Int) (w : World) (hp : RProg w vc p) (ht : I64 t) (_hl : p.length ≤ 4194304) :
    Calls Tryz.prog 219 #[.agg #[vc], .int .i64 t] w fun e w' => e = .returned (.bool (declB p.length t)) ∧ Below w.heap.size w w' := by
  obtain ⟨a, b, off, cap, rfl, hcap, ha, hr⟩ := sl_open hp
  obtain ⟨h1, h2⟩ := ht
  clear ha hr hp
  go_enter Tryz.func219, Tryz.ntmps219
  go_wp2
  all_goals go_ret
  all_goals exact ⟨ret_bool (by simp [declB, *] <;> omega), box_below _ _⟩
end Go.Proofs.YtiiokkllmchohaaGreat
/- Walks of the code's own tests: lists of types. -/
namespace Go.Proofs.YtiiokkllmchohaaGreat
open Go.RowKit
attribute [local go_sem ↓] Go.wp_at_zero Go.wp_at_succ

theorem code_isdeclared_eq {p : List LClass} {t : Int} {q : Bool} (h : declB p.length t = q) (vc : Value) (w : World) (hp : RProg w vc p) (ht : I64 t) (hl : p.length ≤ 4194304) :
    Calls Tryz.prog 219 #[.agg #[vc], .int .i64 t] w fun e w' => e = .returned (.bool q) ∧ Below w.heap.size w w' := h ▸ code_isdeclared p vc t w hp ht hl

set_option maxHeartbeats 800000 in
theorem code_aredeclared (p : List LClass) (vc : Value) (l : List Int) (v : Value) (w : World) (hp : RProg w vc p) (hpl : p.length ≤ 4194304) (hl : SlAt 1 (RInt w) v l) (hw : ∀ x ∈ l, I64 x) (hs : l.length ≤ 4194304) :
    Calls Tryz.prog 184 #[.agg #[vc], v] w fun e w' => e = .returned (.bool (l.all (declB p.length))) ∧ Below w.heap.size w w' := by
  have HP := hide hp
  obtain ⟨pa, pb, poff, pcap, rfl, _, _, _⟩ := sl_open hp
  obtain ⟨a, b, off, cap, rfl, hcap, ha, hr⟩ := ints_open hl
  have HR := hide hr
  clear hp hr hl
  go_enter Tryz.func184, Tryz.ntmps184
  go_wp2
  generalize hW : w.alloc _ = W
  have hbel : Below w.heap.size w W := hW ▸ box_below _ _
  have hbox : W.cell? ⟨w.heap.size, 0, none⟩ = some (.slice pa p.length pcap) := hW ▸ box_cell w #[.slice pa p.length pcap] 24 0
  clear hW
  go_loopw [9] (fun i wr => ∃ k : Nat, k ≤ l.length ∧ i = .int .i64 k ∧ (l.take k).all (declB p.length) = true ∧ Below W.heap.size W wr) (fun i _ => l.length - (intOf i).toNat)
  case atStart => exact ⟨0, Nat.zero_le _, rfl, rfl, Below.refl _ _⟩
  case round =>
    obtain ⟨k, hk, rfl, hall, hbr⟩ := hrel
    have HA : Hid ((l.take k).all (declB p.length) = true) := hall
    clear hall
    have hfin : Below w.heap.size w wr := hbel.trans (hbr.mono hbel.size)
    by_cases hlt : k < l.length
    · obtain rfl := ha (ne_nil_of_lt hlt)
      have hx := hw _ (List.getElem_mem hlt)
      have hS := all_snoc (f := declB p.length) hlt
      rw [HA.out] at hS
      have HS := hide hS
      have e0 := Keeps.of_below hbr _ _ hbox
      have e1 := Keeps.of_below hfin _ _ (unhide HR k hlt)
      clear hS hw
      cases hb : declB p.length l[k]
      · have hB := code_isdeclared_eq hb _ wr (prog_keep (Keeps.of_below hfin) (unhide HP)) hx hpl
        go_wp2_with (go_at_call 219; refine hB.mono ?_; rintro e w' ⟨rfl, hb1⟩)
        go_ret
        exact ⟨ret_bool (by rw [← List.take_append_drop (k + 1) l, List.all_append, unhide HS, hb]; rfl), hfin.trans (hb1.mono hfin.size)⟩
      · have hB := code_isdeclared_eq hb _ wr (prog_keep (Keeps.of_below hfin) (unhide HP)) hx hpl
        go_wp2_with (go_at_call 219; refine hB.mono ?_; rintro e w' ⟨rfl, hb1⟩)
        exact ⟨⟨k + 1, by omega, by go_num, by rw [unhide HS, hb]; rfl, hbr.trans (hb1.mono hbr.size)⟩, by simp [intOf]; omega⟩
    · go_wp2
      go_ret
      exact ⟨ret_bool (by rw [← HA.out, List.take_of_length_le (by omega)]), hfin⟩

set_option maxHeartbeats 800000 in
theorem code_maystand (p : List LClass) (vc : Value) (l : List Int) (v : Value) (w : World) (hp : RProg w vc p) (hpl : p.length ≤ 4194304) (hl : SlAt 1 (RInt w) v l) (hw : ∀ x ∈ l, I64 x) (hs : l.length ≤ 4194304) :
    Calls Tryz.prog 222 #[.agg #[vc], v] w fun e w' => e = .returned (.bool (l.all (framedB p.length))) ∧ Below w.heap.size w w' := by
  have HP := hide hp
  obtain ⟨pa, pb, poff, pcap, rfl, _, _, _⟩ := sl_open hp
  obtain ⟨a, b, off, cap, rfl, hcap, ha, hr⟩ := ints_open hl
  have HR := hide hr
  clear hp hr hl
  go_enter Tryz.func222, Tryz.ntmps222
  go_wp2
  generalize hW : w.alloc _ = W
  have hbel : Below w.heap.size w W := hW ▸ box_below _ _
  have hbox : W.cell? ⟨w.heap.size, 0, none⟩ = some (.slice pa p.length pcap) := hW ▸ box_cell w #[.slice pa p.length pcap] 24 0
  clear hW
  go_loopw [9] (fun i wr => ∃ k : Nat, k ≤ l.length ∧ i = .int .i64 k ∧ (l.take k).all (framedB p.length) = true ∧ Below W.heap.size W wr) (fun i _ => l.length - (intOf i).toNat)
  case atStart => exact ⟨0, Nat.zero_le _, rfl, rfl, Below.refl _ _⟩
  case round =>
    obtain ⟨k, hk, rfl, hall, hbr⟩ := hrel
    have HA : Hid ((l.take k).all (framedB p.length) = true) := hall
    clear hall
    have hfin : Below w.heap.size w wr := hbel.trans (hbr.mono hbel.size)
    by_cases hlt : k < l.length
    · obtain rfl := ha (ne_nil_of_lt hlt)
      have hx := hw _ (List.getElem_mem hlt)
      have hS := all_snoc (f := framedB p.length) hlt
      rw [HA.out] at hS
      have HS := hide hS
      have e0 := Keeps.of_below hbr _ _ hbox
      have e1 := Keeps.of_below hfin _ _ (unhide HR k hlt)
      clear hS hw
      by_cases h1 : l[k] = 1
      · have HT : Hid (framedB p.length l[k] = true) := hide (by simp [framedB, h1])
        rw [h1] at e1
        go_wp2_with fail
        exact ⟨⟨k + 1, by omega, by go_num, by rw [unhide HS, unhide HT]; rfl, hbr⟩, by simp [intOf]; omega⟩
      by_cases h2 : l[k] = 2
      · have HT : Hid (framedB p.length l[k] = true) := hide (by simp [framedB, h2])
        rw [h2] at e1
        go_wp2_with fail
        exact ⟨⟨k + 1, by omega, by go_num, by rw [unhide HS, unhide HT]; rfl, hbr⟩, by simp [intOf]; omega⟩
      have h1' : (l[k] != 1) = true := by simpa using h1
      have h2' : (l[k] != 2) = true := by simpa using h2
      have hD : framedB p.length l[k] = declB p.length l[k] := by unfold framedB; rw [beq_eq_false_iff_ne.2 h1, beq_eq_false_iff_ne.2 h2, Bool.or_false, Bool.or_false]
      have HD := hide hD
      clear hD h1 h2
      cases hb : declB p.length l[k]
      · have hB := code_isdeclared_eq hb _ wr (prog_keep (Keeps.of_below hfin) (unhide HP)) hx hpl
        go_wp2_with (go_at_call 219; refine hB.mono ?_; rintro e w' ⟨rfl, hb1⟩)
        go_ret
        exact ⟨ret_bool (by rw [← List.take_append_drop (k + 1) l, List.all_append, unhide HS, unhide HD, hb]; rfl), hfin.trans (hb1.mono hfin.size)⟩
      · have hB := code_isdeclared_eq hb _ wr (prog_keep (Keeps.of_below hfin) (unhide HP)) hx hpl
        go_wp2_with (go_at_call 219; refine hB.mono ?_; rintro e w' ⟨rfl, hb1⟩)
        exact ⟨⟨k + 1, by omega, by go_num, by rw [unhide HS, unhide HD, hb]; rfl, hbr.trans (hb1.mono hbr.size)⟩, by simp [intOf]; omega⟩
    · go_wp2
      go_ret
      exact ⟨ret_bool (by rw [← HA.out, List.take_of_length_le (by omega)]), hfin⟩

set_option maxHeartbeats 400000 in
theorem code_equal (l r : List Int) (v u : Value) (w : World) (hl : SlAt 1 (RInt w) v l) (hr : SlAt 1 (RInt w) u r) (hs : l.length ≤ 4194304) (hs' : r.length ≤ 4194304) :
    Calls Tryz.prog 220 #[v, u] w fun e w' => e = .returned (.bool (l == r)) ∧ ∃ n, w' = w.drewN n := by
  obtain ⟨a, b, off, cap, rfl, hcap, ha, hc⟩ := ints_open hl
  obtain ⟨a', b', off', cap', rfl, hcap', ha', hc'⟩ := ints_open hr
  by_cases hn : l.length = r.length
  · have hne : ((l.length : Int) == (r.length : Int)) = true := by rw [hn]; simp
    go_enter Tryz.func220, Tryz.ntmps220
    go_wp2
    go_loopw [13] (fun i wr => ∃ k : Nat, k ≤ l.length ∧ i = .int .i64 k ∧ l.take k = r.take k ∧ ∃ n, wr = w.drewN n) (fun i _ => l.length - (intOf i).toNat)
    case atStart => exact ⟨0, Nat.zero_le _, rfl, rfl, 0, rfl⟩
    case round =>
      obtain ⟨k, hk, rfl, htk, nn, rfl⟩ := hrel
      have HT := hide htk
      have HN := hide hn
      clear htk hn
      by_cases hlt : k < l.length
      · have hlt' : k < r.length := by rw [← unhide HN]; exact hlt
        obtain rfl := ha (ne_nil_of_lt hlt)
        obtain rfl := ha' (ne_nil_of_lt hlt')
        have HE := hide (take_snoc_eq hlt hlt')
        go_wp2
        go_quiet (fail)
        go_wp2
        · go_ret
          have hx : l[k] ≠ r[k] := by simp_all
          exact ⟨ret_bool (by rw [eq_comm, beq_eq_false_iff_ne]; intro e; subst e; exact hx rfl), nn + nq, by rw [World.drewN_drewN]⟩
        · have hx : l[k] = r[k] := by simp_all
          exact ⟨⟨k + 1, by omega, by go_num, (unhide HE).2 ⟨unhide HT, hx⟩, _, rfl⟩, by simp [intOf]; omega⟩
      · have hlt' : ¬ k < r.length := by rw [← unhide HN]; exact hlt
        go_wp2
        go_ret
        refine ⟨ret_bool ?_, _, rfl⟩
        have := unhide HT
        rw [List.take_of_length_le (by omega), List.take_of_length_le (by have := unhide HN; omega)] at this
        simp [this]
  · have hne : ((l.length : Int) == (r.length : Int)) = false := by simp; omega
    go_enter Tryz.func220, Tryz.ntmps220
    go_wp2
    go_ret
    exact ⟨ret_bool (by rw [eq_comm, beq_eq_false_iff_ne]; intro e; subst e; exact hn rfl), 0, rfl⟩
end Go.Proofs.YtiiokkllmchohaaGreat
/- Walks of the code's own search: fields counted, a slot among methods, the method of a class and a slot. -/
namespace Go.Proofs.YtiiokkllmchohaaGreat
open Go.RowKit
attribute [local go_sem ↓] Go.wp_at_zero Go.wp_at_succ

set_option maxHeartbeats 800000 in
theorem code_countfields (p : List LClass) (vc : Value) (n : Nat) (c : Int) (w : World) (hp : RProg w vc p) (hs : SupOk p n) (hn : n ≤ p.length) (hc : -1 ≤ c) (hcn : c < n) (hz : szProg p ≤ 4194304) :
    Calls Tryz.prog 183 #[.agg #[vc], .int .i64 c] w fun e w' =>
      e = .returned (.int .i64 (fieldsOf p c).length) ∧ Below w.heap.size w w' := by
  have hfz : (fieldsOf p c).length ≤ 4194304 := by
    rcases Int.lt_or_le c 0 with h | h
    · rw [fieldsOf_neg p h]; simp
    · obtain ⟨k, rfl⟩ := Int.eq_ofNat_of_zero_le h
      exact Nat.le_trans (fieldsOf_sz p hs (by omega)) hz
  obtain ⟨a, b, off, cap, rfl, hcap, ha, hr⟩ := sl_open hp
  go_enter Tryz.func183, Tryz.ntmps183
  go_wp2
  generalize hW : w.alloc _ = W
  have hbel : Below w.heap.size w W := hW ▸ box_below _ _
  have hbox : W.cell? ⟨w.heap.size, 0, none⟩ = some (.slice a p.length cap) := hW ▸ box_cell w #[.slice a p.length cap] 24 0
  clear hW
  go_loop [5, 6] (fun s5 s6 => ∃ (c' : Int) (t : Nat), -1 ≤ c' ∧ c' < n ∧ s6 = .int .i64 c' ∧ s5 = .int .i64 t ∧ t + (fieldsOf p c').length = (fieldsOf p c).length) (fun _ s6 => (intOf s6 + 1).toNat)
  case atStart => exact ⟨c, 0, hc, hcn, rfl, rfl, by omega⟩
  case round =>
    obtain ⟨c', t, h1, h2, rfl, rfl, hm⟩ := hrel
    have HM := hide hm
    have ht : t ≤ 4194304 := by omega
    clear hm
    rcases Int.lt_or_le c' 0 with hneg | hpos
    · go_wp2
      go_ret
      refine ⟨ret_int ?_, hbel⟩
      have := unhide HM
      rw [fieldsOf_neg p hneg] at this
      simp only [List.length_nil] at this
      omega
    · obtain ⟨i, rfl⟩ := Int.eq_ofNat_of_zero_le hpos
      have hi : i < p.length := by omega
      obtain rfl := ha (ne_nil_of_lt hi)
      obtain ⟨vf, vm, c0, c1, c2, hf, hmm⟩ := (hr i hi).keep (Keeps.of_below hbel)
      obtain ⟨fa, fb, foff, fcap, rfl, _, _, _⟩ := sl_open hf
      have HX := hide (List.getElem?_eq_getElem hi)
      have hlen : p[i].fields.length ≤ 4194304 := by
        have := szFields_le p[i]; have := szClass_le (List.getElem_mem hi); omega
      clear hr hmm hf
      generalize p[i] = x at *
      go_wp2
      have hsup := supB_le (hs i x (by omega) (unhide HX))
      refine ⟨⟨x.sup, t + x.fields.length, hsup.1, by omega, rfl, by go_num, ?_⟩, by simp [intOf]; omega⟩
      have := unhide HM
      rw [fieldsOf_step p hs (by omega) (unhide HX), List.length_append] at this
      omega

set_option maxHeartbeats 800000 in
theorem code_hasslot (ms : List LMeth) (vm : Value) (slot : Int) (w : World) (hp : SlAt 7 (RMeth w) vm ms) (hz : ms.length ≤ 4194304) :
    Calls Tryz.prog 186 #[vm, .int .i64 slot] w fun e w' =>
      e = .returned (.bool (!(ms.all fun o => !(o.slot == slot)))) ∧ Below w.heap.size w w' := by
  obtain ⟨a, b, off, cap, rfl, hcap, ha, hr⟩ := sl_open hp
  have HR := hide hr
  clear hp hr
  go_enter Tryz.func186, Tryz.ntmps186
  go_wp2
  go_loopw [9] (fun i wr => ∃ k : Nat, k ≤ ms.length ∧ i = .int .i64 k ∧ (ms.take k).all (fun o => !(o.slot == slot)) = true ∧ Below w.heap.size w wr) (fun i _ => ms.length - (intOf i).toNat)
  case atStart => exact ⟨0, Nat.zero_le _, rfl, rfl, Below.refl _ _⟩
  case round =>
    obtain ⟨k, hk, rfl, hall, hbr⟩ := hrel
    have HA := hide hall
    clear hall
    by_cases hlt : k < ms.length
    · obtain rfl := ha (ne_nil_of_lt hlt)
      have hS := all_snoc (f := fun o : LMeth => !(o.slot == slot)) hlt
      rw [HA.out] at hS
      have HS := hide hS
      obtain ⟨va, vc, vf, hv, m0, m1, m2, m3, m4, m5, m6⟩ := (unhide HR k hlt).keep (Keeps.of_below hbr)
      obtain ⟨_, _, _, _, rfl, _⟩ := hv.1
      obtain ⟨_, _, _, _, rfl, _⟩ := hv.2.1
      obtain ⟨_, _, _, _, rfl, _⟩ := hv.2.2
      have hltb := cell_lt m0
      clear hS hv
      generalize ms[k] = m at *
      cases hb : (m.slot == slot)
      · go_wp2
        exact ⟨⟨k + 1, by omega, by go_num, by rw [unhide HS]; simp [hb], hbr.trans ((box_below _ _).mono hbr.size)⟩, by simp [intOf]; omega⟩
      · go_wp2
        go_ret
        exact ⟨ret_bool (by rw [← List.take_append_drop (k + 1) ms, List.all_append, unhide HS]; simp [hb]), hbr.trans ((box_below _ _).mono hbr.size)⟩
    · go_wp2
      go_ret
      exact ⟨ret_bool (by rw [← List.take_append_drop k ms, List.all_append, unhide HA, List.drop_of_length_le (by omega)]; rfl), hbr⟩
end Go.Proofs.YtiiokkllmchohaaGreat
/- Walk of the code's own search: the method of a class and a slot. -/
namespace Go.Proofs.YtiiokkllmchohaaGreat
open Go.RowKit
attribute [local go_sem ↓] Go.wp_at_zero Go.wp_at_succ

def methV (m : LMeth) (va vc vf : Value) : Value := .agg #[.int .i64 m.slot, va, .int .i64 m.ret, .int .i64 m.locals, .int .i64 m.stack, vc, vf]
def Found (w : World) (p : List LClass) (c slot : Int) (o : LMeth) (va vc vf : Value) : Prop :=
  ∀ ck, methOf p c slot = some ck → methAt p ck = some o ∧ MVals w o va vc vf

def put7 (w : World) (b : Nat) (v0 v1 v2 v3 v4 v5 v6 : Value) : World :=
  ((((((w.setCell ⟨b, 0, none⟩ v0).setCell ⟨b, 1, none⟩ v1).setCell ⟨b, 2, none⟩ v2).setCell ⟨b, 3, none⟩ v3).setCell ⟨b, 4, none⟩ v4).setCell ⟨b, 5, none⟩ v5).setCell ⟨b, 6, none⟩ v6
theorem put7_blk {w : World} {b : Nat} {t : TypeId} {a0 a1 a2 a3 a4 a5 a6 : Value} (h : Blk w b t [a0, a1, a2, a3, a4, a5, a6]) (v0 v1 v2 v3 v4 v5 v6 : Value) :
    Blk (put7 w b v0 v1 v2 v3 v4 v5 v6) b t [v0, v1, v2, v3, v4, v5, v6] :=
  ((((((h.setCell 0 v0).setCell 1 v1).setCell 2 v2).setCell 3 v3).setCell 4 v4).setCell 5 v5).setCell 6 v6
theorem put7_mods (w : World) (b : Nat) (v0 v1 v2 v3 v4 v5 v6 : Value) : Mods (fun k => k = b) w (put7 w b v0 v1 v2 v3 v4 v5 v6) :=
  (((((((Mods.refl (fun k => k = b) w).setCell (p := ⟨b, 0, none⟩) (fun _ => rfl) v0).setCell (p := ⟨b, 1, none⟩) (fun _ => rfl) v1).setCell (p := ⟨b, 2, none⟩) (fun _ => rfl) v2).setCell (p := ⟨b, 3, none⟩) (fun _ => rfl) v3).setCell (p := ⟨b, 4, none⟩) (fun _ => rfl) v4).setCell (p := ⟨b, 5, none⟩) (fun _ => rfl) v5).setCell (p := ⟨b, 6, none⟩) (fun _ => rfl) v6
theorem Blk.below {w w' : World} {b B : Nat} {t : TypeId} {cs : List Value} (h : Blk w b t cs) (hb : Below B w w') (hB : b < B) : Blk w' b t cs := (hb.block b hB).trans h

set_option maxHeartbeats 800000 in
set_option maxRecDepth 100000 in
theorem code_findmethod0 (p : List LClass) (vc : Value) (n : Nat) (c slot : Int) (w0 w : World) (hp : RProg w0 vc p) (hb0 : Below w0.heap.size w0 w) (hs : SupOk p n) (hn : n ≤ p.length) (hc : -1 ≤ c) (hcn : c < n) (hz : szProg p ≤ 4194304) :
    Calls Tryz.prog 109 #[.agg #[vc], .int .i64 c, .int .i64 slot] w fun e w' =>
      ∃ (o : LMeth) (aa ca fa : Option Addr) (ac cc fc : Nat), e = .returned (.tuple #[.agg #[.int .i64 o.slot, .slice aa o.args.length ac, .int .i64 o.ret, .int .i64 o.locals, .int .i64 o.stack, .slice ca o.code.length cc, .slice fa o.frames.length fc], .bool (methOf p c slot).isSome]) ∧
        Found w0 p c slot o (.slice aa o.args.length ac) (.slice ca o.code.length cc) (.slice fa o.frames.length fc) ∧ Below w.heap.size w w' := by
  obtain ⟨a, b, off, cap, rfl, hcap, ha, hr⟩ := sl_open hp
  have HR := hide hr
  clear hp hr
  go_enter Tryz.func109, Tryz.ntmps109
  go_wp2
  generalize hW : (w.alloc _).alloc _ = W
  have hbel : Below w.heap.size w W := by rw [← hW]; exact box2_below _ _ _
  have hbox : W.cell? ⟨w.heap.size, 0, none⟩ = some (.slice a p.length cap) := by rw [← hW]; exact box2_fst _ _ _ _ 0
  have b1 : Blk W (w.heap.size + 1) 63 [.int .i64 0, .slice none 0 0, .int .i64 0, .int .i64 0, .int .i64 0, .slice none 0 0, .slice none 0 0] := by rw [← hW]; exact (by simpa using Blk.new (w.alloc _) _ _)
  have hsW : W.heap.size = w.heap.size + 2 := by rw [← hW]; simp
  clear hW
  go_loopw [8] (fun s wr => ∃ c' : Int, -1 ≤ c' ∧ c' < n ∧ s = .int .i64 c' ∧ methOf p c slot = methOf p c' slot ∧ Below W.heap.size W wr) (fun s _ => (intOf s + 1).toNat)
  case atStart => exact ⟨c, hc, hcn, rfl, rfl, Below.refl _ _⟩
  case round =>
    obtain ⟨c', h1, h2, rfl, hm, hbr⟩ := hrel
    have HM := hide hm
    clear hm
    obtain ⟨wo, rfl⟩ : ∃ wo : World, wo = wr := ⟨_, rfl⟩
    have hfin : Below w.heap.size w wo := hbel.trans (hbr.mono hbel.size)
    have e0 := Keeps.of_below hbr _ _ hbox
    have x1 := b1.below hbr (by omega)
    have f0 := x1.cell 0
    have f1 := x1.cell 1
    have f2 := x1.cell 2
    have f3 := x1.cell 3
    have f4 := x1.cell 4
    have f5 := x1.cell 5
    have f6 := x1.cell 6
    have g0 := x1.frozen 0
    have g1 := x1.frozen 1
    have g2 := x1.frozen 2
    have g3 := x1.frozen 3
    have g4 := x1.frozen 4
    have g5 := x1.frozen 5
    have g6 := x1.frozen 6
    simp only [List.getElem?_cons_zero, List.getElem?_cons_succ] at f0 f1 f2 f3 f4 f5 f6
    rcases Int.lt_or_le c' 0 with hneg | hpos
    · go_wp2
      have hB := put7_blk x1 (.int .i64 0) (.slice none 0 0) (.int .i64 0) (.int .i64 0) (.int .i64 0) (.slice none 0 0) (.slice none 0 0)
      have hM := put7_mods wo (w.heap.size + 1) (.int .i64 0) (.slice none 0 0) (.int .i64 0) (.int .i64 0) (.int .i64 0) (.slice none 0 0) (.slice none 0 0)
      unfold put7 at hB hM
      generalize World.setCell _ _ _ = Z at hB hM ⊢
      have s0 : Z.cell? ⟨w.heap.size + 1, 0, none⟩ = some (.int .i64 0) := by rw [hB.cell]; rfl
      have s1 : Z.cell? ⟨w.heap.size + 1, 1, none⟩ = some (.slice none 0 0) := by rw [hB.cell]; rfl
      have s2 : Z.cell? ⟨w.heap.size + 1, 2, none⟩ = some (.int .i64 0) := by rw [hB.cell]; rfl
      have s3 : Z.cell? ⟨w.heap.size + 1, 3, none⟩ = some (.int .i64 0) := by rw [hB.cell]; rfl
      have s4 : Z.cell? ⟨w.heap.size + 1, 4, none⟩ = some (.int .i64 0) := by rw [hB.cell]; rfl
      have s5 : Z.cell? ⟨w.heap.size + 1, 5, none⟩ = some (.slice none 0 0) := by rw [hB.cell]; rfl
      have s6 : Z.cell? ⟨w.heap.size + 1, 6, none⟩ = some (.slice none 0 0) := by rw [hB.cell]; rfl
      refine bodyPost_ret (v := .tuple #[.agg #[.int .i64 0, .slice none 0 0, .int .i64 0, .int .i64 0, .int .i64 0, .slice none 0 0, .slice none 0 0], .bool false]) (by simp [results, Tryz.results109, go_sem, s0, s1, s2, s3, s4, s5, s6]) rfl ⟨⟨0, [], 0, 0, 0, [], []⟩, none, none, none, 0, 0, 0, by rw [unhide HM, methOf_neg p slot hneg]; rfl, ?_, hfin.trans (hM.below hfin.size (fun k hk e => by omega))⟩
      intro ck h
      rw [unhide HM, methOf_neg p slot hneg] at h
      cases h
    · obtain ⟨i, rfl⟩ := Int.eq_ofNat_of_zero_le hpos
      have hi : i < p.length := by omega
      obtain rfl := ha (ne_nil_of_lt hi)
      obtain ⟨vf, vm, c0, c1, c2, hf, hmm⟩ := (unhide HR i hi).keep (Keeps.of_below (hb0.trans (hfin.mono hb0.size)))
      obtain ⟨vf', vm', c0', c1', c2', hf', hmm'⟩ := unhide HR i hi
      obtain rfl : vm' = vm := by have := Keeps.of_below (hb0.trans (hfin.mono hb0.size)) _ _ c2'; rw [c2] at this; injection this with this; exact this.symm
      obtain ⟨ma, mb, moff, mcap, rfl, hmcap, hma, hmr⟩ := sl_open hmm'
      have HMR := hide hmr
      have hlen : p[i].meths.length ≤ 4194304 := by
        have := szMeths_le p[i]; have := szClass_le (List.getElem_mem hi); omega
      have HX := hide (List.getElem?_eq_getElem hi)
      clear hmr hmm hf hmm' hf' c0' c1' c2'
      generalize p[i] = x at *
      go_wp2
      go_loopw [27] (fun s wr => ∃ k : Nat, k ≤ x.meths.length ∧ s = .int .i64 k ∧ (∀ (j : Nat) (hj : j < x.meths.length), j < k → x.meths[j].slot ≠ slot) ∧ Below wo.heap.size wo wr) (fun s _ => x.meths.length - (intOf s).toNat)
      case atStart => exact ⟨0, Nat.zero_le _, rfl, fun j _ h => absurd h (Nat.not_lt_zero j), Below.refl _ _⟩
      case round =>
        obtain ⟨k, hk, rfl, hno, hbr2⟩ := hrel
        have HNO := hide hno
        clear hno
        have hfin2 : Below w.heap.size w wr := hfin.trans (hbr2.mono hfin.size)
        by_cases hlt : k < x.meths.length
        · obtain rfl := hma (ne_nil_of_lt hlt)
          obtain ⟨va, vcd, vfr, hv, m0, m1, m2, m3, m4, m5, m6⟩ := unhide HMR k hlt
          have hk2 := Keeps.of_below (hb0.trans (hfin2.mono hb0.size))
          replace m0 := hk2 _ _ m0
          replace m1 := hk2 _ _ m1
          replace m2 := hk2 _ _ m2
          replace m3 := hk2 _ _ m3
          replace m4 := hk2 _ _ m4
          replace m5 := hk2 _ _ m5
          replace m6 := hk2 _ _ m6
          have HV := hide hv
          obtain ⟨ala, _, _, alc, rfl, _⟩ := hv.1
          obtain ⟨cla, _, _, clc, rfl, _⟩ := hv.2.1
          obtain ⟨fla, _, _, flc, rfl, _⟩ := hv.2.2
          have hltb := cell_lt m0
          have HK := hide (List.getElem?_eq_getElem hlt)
          have HSL := hide (show x.meths[k].slot = x.meths[k].slot from rfl)
          clear hv hk2 c0 c1 c2
          by_cases hq : x.meths[k].slot = slot
          · have hqb : (x.meths[k].slot == slot) = true := by simpa using hq
            have HME := hide (show methOf p c slot = some (i, k) by rw [unhide HM, methOf_step p hs slot (by omega) (unhide HX), slotIn_some hlt hq (unhide HNO)])
            have HMA := hide (show methAt p (i, k) = some x.meths[k] by unfold methAt; rw [unhide HX]; exact unhide HK)
            clear hq
            generalize x.meths[k] = m at *
            have y1 := x1.below hbr2 (by have := hbr.size; omega)
            have hlt1 := y1.lt
            have f0 := y1.cell 0
            have f1 := y1.cell 1
            have f2 := y1.cell 2
            have f3 := y1.cell 3
            have f4 := y1.cell 4
            have f5 := y1.cell 5
            have f6 := y1.cell 6
            have g0 := y1.frozen 0
            have g1 := y1.frozen 1
            have g2 := y1.frozen 2
            have g3 := y1.frozen 3
            have g4 := y1.frozen 4
            have g5 := y1.frozen 5
            have g6 := y1.frozen 6
            simp only [List.getElem?_cons_zero, List.getElem?_cons_succ] at f0 f1 f2 f3 f4 f5 f6
            go_wp2_with fail
            have hB := put7_blk y1 (.int .i64 m.slot) (.slice ala m.args.length alc) (.int .i64 m.ret) (.int .i64 m.locals) (.int .i64 m.stack) (.slice cla m.code.length clc) (.slice fla m.frames.length flc)
            have hM := put7_mods wr (w.heap.size + 1) (.int .i64 m.slot) (.slice ala m.args.length alc) (.int .i64 m.ret) (.int .i64 m.locals) (.int .i64 m.stack) (.slice cla m.code.length clc) (.slice fla m.frames.length flc)
            unfold put7 at hB hM
            generalize World.setCell _ _ _ = Z0 at hB hM ⊢
            replace hB := hB.alloc (.cells #[.int .i64 m.slot, .slice ala m.args.length alc, .int .i64 m.ret, .int .i64 m.locals, .int .i64 m.stack, .slice cla m.code.length clc, .slice fla m.frames.length flc] 63)
            have hM2 := hM.alloc (.cells #[.int .i64 m.slot, .slice ala m.args.length alc, .int .i64 m.ret, .int .i64 m.locals, .int .i64 m.stack, .slice cla m.code.length clc, .slice fla m.frames.length flc] 63)
            generalize Z0.alloc _ = Z at hB hM2 ⊢
            have hfz : Below w.heap.size w Z := by
              exact hfin2.trans (hM2.below hfin2.size (fun k hk e => by omega))
            have s0 : Z.cell? ⟨w.heap.size + 1, 0, none⟩ = some (.int .i64 m.slot) := by rw [hB.cell]; rfl
            have s1 : Z.cell? ⟨w.heap.size + 1, 1, none⟩ = some (.slice ala m.args.length alc) := by rw [hB.cell]; rfl
            have s2 : Z.cell? ⟨w.heap.size + 1, 2, none⟩ = some (.int .i64 m.ret) := by rw [hB.cell]; rfl
            have s3 : Z.cell? ⟨w.heap.size + 1, 3, none⟩ = some (.int .i64 m.locals) := by rw [hB.cell]; rfl
            have s4 : Z.cell? ⟨w.heap.size + 1, 4, none⟩ = some (.int .i64 m.stack) := by rw [hB.cell]; rfl
            have s5 : Z.cell? ⟨w.heap.size + 1, 5, none⟩ = some (.slice cla m.code.length clc) := by rw [hB.cell]; rfl
            have s6 : Z.cell? ⟨w.heap.size + 1, 6, none⟩ = some (.slice fla m.frames.length flc) := by rw [hB.cell]; rfl
            refine bodyPost_ret (v := .tuple #[.agg #[.int .i64 m.slot, .slice ala m.args.length alc, .int .i64 m.ret, .int .i64 m.locals, .int .i64 m.stack, .slice cla m.code.length clc, .slice fla m.frames.length flc], .bool true]) (by simp [results, Tryz.results109, go_sem, s0, s1, s2, s3, s4, s5, s6]) rfl ⟨m, ala, cla, fla, alc, clc, flc, by rw [show (methOf p c slot).isSome = true by rw [unhide HME]; rfl], ?_, hfz⟩
            intro ck h
            rw [unhide HME] at h
            injection h with h
            subst h
            exact ⟨unhide HMA, unhide HV⟩
          · have hqb : (x.meths[k].slot == slot) = false := by simpa using hq
            go_wp2
            exact ⟨⟨k + 1, by omega, by go_num, fun j hj h => by
              rcases Nat.lt_or_ge j k with g | g
              · exact unhide HNO j hj g
              · obtain rfl : j = k := by omega
                exact hq, hbr2.trans ((box_below _ _).mono hbr2.size)⟩, by simp [intOf]; omega⟩
        · have q0 := Keeps.of_below hbr2 _ _ e0
          have q1 := Keeps.of_below hbr2 _ _ c0
          go_wp2
          have hsup := supB_le (hs i x (by omega) (unhide HX))
          exact ⟨⟨x.sup, hsup.1, by omega, rfl, by rw [unhide HM, methOf_step p hs slot (by omega) (unhide HX), slotIn_none fun j hj => unhide HNO j hj (by omega)], hbr.trans (hbr2.mono hbr.size)⟩, by simp [intOf]; omega⟩

theorem code_findmethod (p : List LClass) (vc : Value) (n : Nat) (c slot : Int) (w : World) (hp : RProg w vc p) (hs : SupOk p n) (hn : n ≤ p.length) (hc : -1 ≤ c) (hcn : c < n) (hz : szProg p ≤ 4194304) :
    Calls Tryz.prog 109 #[.agg #[vc], .int .i64 c, .int .i64 slot] w fun e w' =>
      ∃ (o : LMeth) (aa ca fa : Option Addr) (ac cc fc : Nat), e = .returned (.tuple #[.agg #[.int .i64 o.slot, .slice aa o.args.length ac, .int .i64 o.ret, .int .i64 o.locals, .int .i64 o.stack, .slice ca o.code.length cc, .slice fa o.frames.length fc], .bool (methOf p c slot).isSome]) ∧
        Found w p c slot o (.slice aa o.args.length ac) (.slice ca o.code.length cc) (.slice fa o.frames.length fc) ∧ Below w.heap.size w w' :=
  code_findmethod0 p vc n c slot w w hp (Below.refl _ _) hs hn hc hcn hz
end Go.Proofs.YtiiokkllmchohaaGreat
/- Walk of the document's answer: a method's head. -/
namespace Go.Proofs.YtiiokkllmchohaaGreat
open Go.RowKit
attribute [local go_sem ↓] Go.wp_at_zero Go.wp_at_succ

end Go.Proofs.YtiiokkllmchohaaGreat
/- Walks of the code's own tests: Supers, a method's head. -/
namespace Go.Proofs.YtiiokkllmchohaaGreat
open Go.RowKit
attribute [local go_sem ↓] Go.wp_at_zero Go.wp_at_succ

def supAt (p : List LClass) (c : Nat) : Bool := match p[c]? with
  | none => true
  | some x => supB c x
theorem supAt_some {p : List LClass} {c : Nat} {x : LClass} (h : p[c]? = some x) : supAt p c = supB c x := by unfold supAt; rw [h]
theorem code_within_eq {v n : Int} {q : Bool} (h : placeB v n = q) (w : World) : Calls Tryz.prog 182 #[.int .i64 v, .int .i64 n] w fun e w' => e = .returned (.bool q) ∧ w' = w := h ▸ code_within v n w
theorem range_all_snoc {f : Nat → Bool} {c : Nat} : (List.range (c + 1)).all f = ((List.range c).all f && f c) := by
  rw [List.range_succ, List.all_append, List.all_cons, List.all_nil, Bool.and_true]
theorem range_all_false {f : Nat → Bool} {c n : Nat} (hc : c < n) (h : f c = false) : (List.range n).all f = false := by
  rw [List.all_eq_false]
  exact ⟨c, List.mem_range.2 hc, by simp [h]⟩

set_option maxHeartbeats 800000 in
theorem code_supershold (p : List LClass) (vc : Value) (w : World) (hp : RProg w vc p) (hz : szProg p ≤ 4194304) :
    Calls Tryz.prog 128 #[.agg #[vc]] w fun e w' => e = .returned (.bool ((List.range p.length).all (supAt p))) ∧ Below w.heap.size w w' := by
  have hpl : p.length ≤ 4194304 := Nat.le_trans (szProg_len p) hz
  obtain ⟨a, b, off, cap, rfl, hcap, ha, hr⟩ := sl_open hp
  have HR := hide hr
  clear hp hr
  go_enter Tryz.func128, Tryz.ntmps128
  go_wp2
  generalize hW : w.alloc _ = W
  have hbel : Below w.heap.size w W := hW ▸ box_below _ _
  clear hW
  go_loopw [8] (fun s wr => ∃ c : Nat, c ≤ p.length ∧ s = .int .i64 c ∧ (List.range c).all (supAt p) = true ∧ Below W.heap.size W wr) (fun s _ => p.length - (intOf s).toNat)
  case atStart => exact ⟨0, Nat.zero_le _, rfl, rfl, Below.refl _ _⟩
  case round =>
    obtain ⟨c, hc, rfl, hall, hbr⟩ := hrel
    have HA := hide hall
    clear hall
    have hfin : Below w.heap.size w wr := hbel.trans (hbr.mono hbel.size)
    by_cases hlt : c < p.length
    · obtain rfl := ha (ne_nil_of_lt hlt)
      obtain ⟨vf, vm, c0, c1, c2, hf, hmm⟩ := (unhide HR c hlt).keep (Keeps.of_below hfin)
      have HX := hide (List.getElem?_eq_getElem hlt)
      generalize p[c] = x at *
      obtain ⟨fa, _, _, fcap, rfl, _⟩ := hf
      obtain ⟨ma, _, _, mcap, rfl, _⟩ := hmm
      have hltb := cell_lt c0
      have hfz := hfin.trans ((box_below wr (.cells #[.int .i64 x.sup, .slice fa x.fields.length fcap, .slice ma x.meths.length mcap] 66)).mono hfin.size)
      have hbz := hbr.trans ((box_below wr (.cells #[.int .i64 x.sup, .slice fa x.fields.length fcap, .slice ma x.meths.length mcap] 66)).mono hbr.size)
      rcases Nat.eq_zero_or_pos c with h0 | h0
      · have hc0 : ((c : Int) == 0) = true := by subst h0; rfl
        have hc1 : ¬ (0 : Int) < (c : Int) := by omega
        have HS := hide (show supAt p c = (x.sup == -1) by rw [supAt_some (unhide HX)]; unfold supB; rw [if_pos h0])
        clear h0
        cases hb : (x.sup == -1)
        · have hb' : (x.sup != -1) = true := by unfold bne; rw [hb]; rfl
          clear hb
          have HF := hide (show (List.range p.length).all (supAt p) = false from range_all_false hlt (by rw [unhide HS]; simpa using hb'))
          go_wp2
          go_ret
          exact ⟨ret_bool (unhide HF).symm, hfz⟩
        · have hb' : (x.sup != -1) = false := by unfold bne; rw [hb]; rfl
          go_wp2_with fail
          exact ⟨⟨c + 1, by omega, by go_num, by rw [range_all_snoc, unhide HA, unhide HS, hb]; rfl, hbz⟩, by simp [intOf]; omega⟩
      · have hc0 : ((c : Int) == 0) = false := by simpa using (by omega : c ≠ 0)
        have hc1 : (0 : Int) < (c : Int) := by omega
        have HS := hide (show supAt p c = placeB x.sup c by rw [supAt_some (unhide HX)]; unfold supB placeB; rw [if_neg (by omega)])
        clear h0
        cases hb : placeB x.sup c
        · have HF := hide (show (List.range p.length).all (supAt p) = false from range_all_false hlt (by rw [unhide HS, hb]))
          go_wp2_with (go_at_call 182; refine (code_within_eq hb _).mono ?_; rintro e w' ⟨rfl, rfl⟩)
          go_ret
          exact ⟨ret_bool (unhide HF).symm, hfz⟩
        · go_wp2_with (go_at_call 182; refine (code_within_eq hb _).mono ?_; rintro e w' ⟨rfl, rfl⟩)
          exact ⟨⟨c + 1, by omega, by go_num, by rw [range_all_snoc, unhide HA, unhide HS, hb]; rfl, hbz⟩, by simp [intOf]; omega⟩
    · go_wp2
      go_ret
      have : c = p.length := by omega
      subst this
      exact ⟨ret_bool (unhide HA).symm, hfin⟩

theorem code_aredeclared_eq {p : List LClass} {l : List Int} {q : Bool} (h : l.all (declB p.length) = q) (vc v : Value) (w : World) (hp : RProg w vc p) (hpl : p.length ≤ 4194304) (hl : SlAt 1 (RInt w) v l) (hw : ∀ x ∈ l, I64 x) (hs : l.length ≤ 4194304) :
    Calls Tryz.prog 184 #[.agg #[vc], v] w fun e w' => e = .returned (.bool q) ∧ Below w.heap.size w w' := h ▸ code_aredeclared p vc l v w hp hpl hl hw hs
theorem bareB_no {n : Nat} {m : LMeth} (h : ¬ (0 ≤ m.slot ∧ m.slot ≤ 5 ∧ m.args.length ≤ 3 ∧ m.args.all (declB n) = true ∧ declB n m.ret = true ∧ 1 + m.args.length ≤ m.locals ∧ m.locals ≤ 8 ∧ 0 ≤ m.stack ∧ m.stack ≤ 8)) : bareB n m = false := Bool.eq_false_iff.2 (fun e => h (bareB_iff.1 e))
theorem placeB_iff {v n : Int} : placeB v n = true ↔ 0 ≤ v ∧ v < n := by unfold placeB; simp
theorem placeB_not {v n : Int} (h : placeB v n = false) : ¬ (0 ≤ v ∧ v < n) := fun e => by rw [placeB_iff.2 e] at h; cases h

set_option maxHeartbeats 4000000 in
set_option maxRecDepth 100000 in
theorem code_headholds (p : List LClass) (vc : Value) (m : LMeth) (va vcd vfr : Value) (w : World) (hp : RProg w vc p) (hm : MVals w m va vcd vfr) (hz : szProg p ≤ 4194304) (hml : szMeth m ≤ 4194304) (hwm : wfMeth m) :
    Calls Tryz.prog 185 #[.agg #[vc], methV m va vcd vfr] w fun e w' => e = .returned (.bool (bareB p.length m)) ∧ Below w.heap.size w w' := by
  have hpl : p.length ≤ 4194304 := Nat.le_trans (szProg_len p) hz
  have hal : m.args.length ≤ 4194304 := by unfold szMeth at hml; omega
  have HP := hide hp
  have HMV := hide hm
  obtain ⟨pa, _, _, pcap, rfl, _⟩ := hp
  obtain ⟨⟨aa, _, _, acap, rfl, _⟩, ⟨ca, _, _, ccap, rfl, _⟩, ⟨fa, _, _, fcap, rfl, _⟩⟩ := hm
  unfold methV
  go_enter Tryz.func185, Tryz.ntmps185
  go_wp2_with fail
  generalize hW : (w.alloc _).alloc _ = W
  have hbel : Below w.heap.size w W := by rw [← hW]; exact box2_below _ _ _
  have hbox : W.cell? ⟨w.heap.size, 0, none⟩ = some (.slice pa p.length pcap) := by rw [← hW]; exact box2_fst _ _ _ _ 0
  have l1 : W.cell? ⟨w.heap.size + 1, 1, none⟩ = some (.slice aa m.args.length acap) := by rw [← hW]; exact box2_snd _ _ _ _ 1
  have l2 : W.cell? ⟨w.heap.size + 1, 2, none⟩ = some (.int .i64 m.ret) := by rw [← hW]; exact box2_snd _ _ _ _ 2
  have l3 : W.cell? ⟨w.heap.size + 1, 3, none⟩ = some (.int .i64 m.locals) := by rw [← hW]; exact box2_snd _ _ _ _ 3
  have l4 : W.cell? ⟨w.heap.size + 1, 4, none⟩ = some (.int .i64 m.stack) := by rw [← hW]; exact box2_snd _ _ _ _ 4
  clear hW
  have hPW := prog_keep (Keeps.of_below hbel) (unhide HP)
  have hAW := ints_keep (Keeps.of_below hbel) (unhide HMV).1
  cases q1 : placeB m.slot 6
  · refine (code_within_eq q1 _).mono ?_
    rintro e w' ⟨rfl, rfl⟩
    go_wp2_with fail
    go_ret
    exact ⟨ret_bool (bareB_no fun h => placeB_not q1 (by omega)).symm, hbel⟩
  refine (code_within_eq q1 _).mono ?_
  rintro e w' ⟨rfl, rfl⟩
  by_cases q2 : 3 < m.args.length
  · go_wp2_with fail
    go_ret
    exact ⟨ret_bool (bareB_no fun h => by omega).symm, hbel⟩
  go_wp2_with fail
  have HPW := hide hPW
  cases q3 : m.args.all (declB p.length)
  · refine (code_aredeclared_eq q3 _ _ _ hPW hpl hAW hwm.2.1 hal).mono ?_
    rintro e w1 ⟨rfl, hb1⟩
    go_wp2_with fail
    go_ret
    exact ⟨ret_bool (bareB_no fun h => by rw [q3] at h; exact Bool.false_ne_true h.2.2.2.1).symm, hbel.trans (hb1.mono hbel.size)⟩
  refine (code_aredeclared_eq q3 _ _ _ hPW hpl hAW hwm.2.1 hal).mono ?_
  rintro e w1 ⟨rfl, hb1⟩
  have hk1 := Keeps.of_below hb1
  replace l1 := hk1 _ _ l1
  replace l2 := hk1 _ _ l2
  replace l3 := hk1 _ _ l3
  replace l4 := hk1 _ _ l4
  replace hbox := hk1 _ _ hbox
  replace hPW := prog_keep hk1 (unhide HPW)
  have hf1 := hbel.trans (hb1.mono hbel.size)
  clear hk1 hb1 hbel hAW HPW
  go_wp2_with fail
  cases q4 : declB p.length m.ret
  · refine (code_isdeclared_eq q4 _ _ hPW hwm.2.2.1 hpl).mono ?_
    rintro e w2 ⟨rfl, hb2⟩
    go_wp2_with fail
    go_ret
    exact ⟨ret_bool (bareB_no fun h => by rw [q4] at h; exact Bool.false_ne_true h.2.2.2.2.1).symm, hf1.trans (hb2.mono hf1.size)⟩
  refine (code_isdeclared_eq q4 _ _ hPW hwm.2.2.1 hpl).mono ?_
  rintro e w2 ⟨rfl, hb2⟩
  have hk2 := Keeps.of_below hb2
  replace l1 := hk2 _ _ l1
  replace l3 := hk2 _ _ l3
  replace l4 := hk2 _ _ l4
  have hf2 := hf1.trans (hb2.mono hf1.size)
  clear hk2 hb2 hf1 l2 hbox hPW
  by_cases q5 : (m.args.length : Int) < m.locals
  · by_cases q6 : m.locals ≤ 8
    · go_wp2_with fail
      cases q7 : placeB m.stack 9
      · refine (code_within_eq q7 _).mono ?_
        rintro e w' ⟨rfl, rfl⟩
        go_wp2_with fail
        go_ret
        exact ⟨ret_bool (bareB_no fun h => placeB_not q7 (by omega)).symm, hf2⟩
      · refine (code_within_eq q7 _).mono ?_
        rintro e w' ⟨rfl, rfl⟩
        go_wp2_with fail
        go_ret
        have r1 := placeB_iff.1 q1
        have r7 := placeB_iff.1 q7
        exact ⟨ret_bool (bareB_iff.2 ⟨by omega, by omega, by omega, q3, q4, by omega, by omega, by omega, by omega⟩).symm, hf2⟩
    · go_wp2_with fail
      go_ret
      exact ⟨ret_bool (bareB_no fun h => by omega).symm, hf2⟩
  · go_wp2_with fail
    go_ret
    exact ⟨ret_bool (bareB_no fun h => by omega).symm, hf2⟩
end Go.Proofs.YtiiokkllmchohaaGreat
