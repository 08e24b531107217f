/- Walk of the law's lendTypes. -/
import Derived.Laws.MakeOwn
import Derived.Test.YtiiokkllmchohaaT01
import Derived.Test.YtiiokkllmchohaaT02
/- LendA -/
namespace Go.Proofs.Ytiiokkllmchohaa
open Go.RowKit

theorem infoTypes : (Try.prog.info? 31).map (fun i => (i.zero, i.size, i.bytes)) = some (some (.slice none 0 0), 1, 24) := by kernel_rfl

/-- The law's hands lie in block bh. -/
def HBlk (w : World) (bh : Nat) (cs : List Value) : Prop := Blk w bh 44 cs ∧ cs.length = 19
/-- What lending a list of types leaves: it lies in block g. -/
structure LentT (w w' : World) (bh : Nat) (cs : List Value) (vt : Value) (B : Nat) (ts : List (Nat × Nat)) (l : List Int) (g : Nat) (vt' : Value) : Prop where
  new : w.heap.size ≤ g
  blk : Blk w' g 52 (l.map (Value.int .i64) ++ [.int .i64 (-77000000)])
  hands : HBlk w' bh (cs.set 0 vt')
  row : w'.ownsRow B 31 1 vt' (ts.length + 1) ((ts ++ [(g, l.length + 1)]).map fun e => .slice (some ⟨e.1, 0, none⟩) e.2 e.2)
  mods : Mods (fun k => k = bh ∨ vt.ownBlock = some k) w w'
  lies : vt'.ownBlock = vt.ownBlock ∨ ∃ k, w.heap.size ≤ k ∧ vt'.ownBlock = some k
/-- A list that was lent, as a slice: its block, its length. -/
def slOf (e : Nat × Nat) : Value := .slice (some ⟨e.1, 0, none⟩) e.2 e.2

theorem set_last {α : Type} (A : List α) (x y : α) (n : Nat) (h : A.length = n) : (A ++ [x]).set n y = A ++ [y] := by subst h; simp
theorem lend_copy {w w1 : World} {i0 : TypeInfo} (hi0 : Try.prog.info? 52 = some i0) (hz1 : i0.size = 1) (l : List Int) (la : Option Addr) (lcap : Nat) (hnil : la = none → l.length = 0 ∧ lcap = 0)
    (hsrc : ∀ ad, la = some ad → ∀ (j : Nat) (u : Value), (l.map (Value.int .i64))[j]? = some u → w.cell? (ad.add j) = some u)
    (hb1 : Blk w1 w.heap.size 52 (madeCells (Value.int .i64 0).cells ((l.length + 1) * 1)).toList) (hm1 : Mods (fun _ => False) w w1) (hs1 : w1.heap.size = w.heap.size + 1) :
    ∃ w2, (Builtin.copy_ #[31, 31] 3 #[.slice (some ⟨w.heap.size, 0, none⟩) (l.length + 1) (l.length + 1), .slice la l.length lcap]).run Try.prog w1 = .ok (goInt l.length) w2 ∧
      Mods (fun _ => False) w w2 ∧ Blk w2 w.heap.size 52 (l.map (Value.int .i64) ++ [.int .i64 0]) ∧ w2.heap.size = w.heap.size + 1 := by
  have hcur : (madeCells (Value.int .i64 0).cells ((l.length + 1) * 1)).toList = List.replicate (l.length + 1) (Value.int .i64 0) := by
    rw [Nat.mul_one]; exact toList_madeCells_one _ _
  rw [hcur] at hb1
  obtain ⟨w2, hcopy, hb2, hm2, hs2⟩ := copy_ex (P := Try.prog) 31 3 52 i0 1 Try.underlying31 hi0 hz1 w.heap.size (l.length + 1) (l.length + 1) la l.length lcap (by omega) hnil (l.map (Value.int .i64)) (by simp) (fun ad e j u h => hm1.cell (hsrc ad e j u h) (fun f => f)) 52 _ hb1 (by simp) (oneCell_ints _)
  refine ⟨w2, hcopy, hm1.trans hm2 (fun i hi e => by omega), ?_, by omega⟩
  simpa using hb2

set_option maxHeartbeats 1000000 in
set_option maxRecDepth 100000 in
theorem lend_types (l : List Int) (va : Value) (w : World) (bh : Nat) (cs : List Value) (vt : Value) (B : Nat) (ts : List (Nat × Nat)) (hl : SlAt 1 (RInt w) va l) (hh : HBlk w bh cs) (h0 : cs[0]? = some vt)
    (hrow : w.ownsRow B 31 1 vt ts.length (ts.map slOf)) (hB : B ≤ w.heap.size) (hbB : bh < B) (hlen : l.length ≤ 1048576) (hts : ts.length + 1 ≤ 16777216) :
    Calls Try.prog 37 #[.pointer (some ⟨bh, 0, none⟩), va] w fun e w' => ∃ g, e = .returned (.slice (some ⟨g, 0, none⟩) l.length (l.length + 1)) ∧ ∃ vt', LentT w w' bh cs vt B ts l g vt' := by
  obtain ⟨i0, hi0, hz0, hz1, hz2⟩ := info_parts infoType
  obtain ⟨i1, hi1, hy0, hy1, hy2⟩ := info_parts infoTypes
  obtain ⟨la, lcap, rfl, hnil, hsrc⟩ := ints_src hl
  have HNIL : Hid (la = none → l.length = 0 ∧ lcap = 0) := fun e => ⟨by rw [(hnil e).1]; rfl, (hnil e).2⟩
  have HSRC := hide hsrc
  have hform := own_form hrow
  obtain ⟨ta, tcap, rfl⟩ := hform
  clear hsrc hnil hl
  go_enter Try.func37, Try.ntmps37
  go_wp2_with (first
    | (at_make; refine wpList_make_blk rfl (.tmp 8) (.tmp 8) 31 rfl 52 i0 (.int .i64 0) 1 8 Try.underlying31 hi0 hz0 hz1 hz2 _ _ _ (l.length + 1) rfl rfl (by omega) (by omega) (by omega) ?_; intro w1 hb1 hm1 hs1
       obtain ⟨w2, hcopy, hM2, hb3, hsz2⟩ := lend_copy hi0 hz1 l la lcap (unhide HNIL) (unhide HSRC) hb1 hm1 hs1
       have c2 : w2.cell? ⟨w.heap.size, l.length, none⟩ = some (.int .i64 0) := by rw [hb3.cell]; simp
       have f2 := hb3.frozen l.length
       have hh2 := hh.1.mods hM2 (fun f => f)
       have k0 : w2.cell? ⟨bh, 0, none⟩ = some (.slice ta ts.length tcap) := by rw [hh2.cell]; exact h0
       have k1 := hh2.frozen 0
       have hne : bh ≠ w.heap.size := by omega
       have HB3 := hide hb3
       have HH2 := hide hh2
       have HM2 := hide hM2
       obtain ⟨vt', w4, happ, hown4, hm4, hat4⟩ := app_ex (P := Try.prog) (W := w2.setCell ⟨w.heap.size, l.length, none⟩ (.int .i64 (-77000000))) 36 36 31 i1 (.slice none 0 0) 1 24 Try.underlying36 hi1 hy0 hy1 hy2 rfl (by decide) B (.slice ta ts.length tcap) ts.length (ts.map slOf) (own_mods hrow (hM2.setCell (fun h => Nat.lt_irrefl _ h) _) (fun _ _ f => f)) #[.slice (some ⟨w.heap.size, 0, none⟩) (l.length + 1) (l.length + 1)] rfl (by simp [Value.oneCell']) (w.heap.size + 1) (by simp [hsz2]) (by unfold maxLen; omega) (by omega) (by simp [hsz2]; omega)
       obtain ⟨ta', tcap', rfl⟩ := own_form hown4
       have hrowne : ∀ k, (Value.slice ta ts.length tcap).ownBlock = some k → B ≤ k ∧ k < w.heap.size := hrow.lt
       have hbh4 := (hh2.setCell_ne (p := ⟨w.heap.size, l.length, none⟩) hne (.int .i64 (-77000000))).mods hm4 (fun e => by have := hrowne _ e; omega)
       have j0 : w4.cell? ⟨bh, 0, none⟩ = some (.slice ta ts.length tcap) := by rw [hbh4.cell]; exact h0
       have j1 := hbh4.frozen 0
       have HX4 := hide ((hb3.setCell l.length (.int .i64 (-77000000))).mods hm4 (fun e => by have := hrowne _ e; omega))
       have HM4 := hide hm4
       have HO4 := hide hown4
       have HA4 := hide hat4
       have HBH4 := hide hbh4
       have HRN := hide hrowne
       clear hb1 hm1 hs1 hb3 hh2 hM2 hm4 hown4 hat4 hbh4 hrowne)
    | (at_builtin; refine wpList_append_run rfl (.tmp 21) (.tmp 23) 36 rfl _ _ rfl rfl happ ?_))
  go_ret
  refine ⟨w.heap.size, rfl, .slice ta' (ts.length + 1) tcap', ?_⟩
  have hne2 : w.heap.size ≠ bh := fun e => hne e.symm
  have hm : Mods (fun k => k = bh ∨ (Value.slice ta ts.length tcap).ownBlock = some k) w (w4.setCell ⟨bh, 0, none⟩ (.slice ta' (ts.length + 1) tcap')) :=
    ((((unhide HM2).setCell (p := ⟨w.heap.size, l.length, none⟩) (fun h => Nat.lt_irrefl _ h) _).mono (fun _ _ f => f.elim)).trans (unhide HM4) (fun i hi e => .inr e)).setCell (fun _ => .inl rfl) _
  have hh4 := (unhide HBH4).setCell 0 (.slice ta' (ts.length + 1) tcap')
  have hrow4 := own_mods (S := fun k => k = bh) (unhide HO4) ((Mods.refl (fun k => k = bh) w4).setCell (p := ⟨bh, 0, none⟩) (fun _ => rfl) (.slice ta' (ts.length + 1) tcap')) (fun g e => by have := (unhide HO4).lt g e; omega)
  refine ⟨Nat.le_refl _, ?_, ⟨hh4, by rw [List.length_set]; exact hh.2⟩, ?_, hm, ?_⟩
  · have := (unhide HX4).setCell_ne (p := ⟨bh, 0, none⟩) hne2 (.slice ta' (ts.length + 1) tcap')
    rwa [set_last (l.map (Value.int .i64)) _ _ _ (by simp)] at this
  · rw [List.map_append]; exact hrow4
  · rcases unhide HA4 with h | ⟨k, h1, h2⟩
    · exact .inl h
    · exact .inr ⟨k, by omega, h2⟩
end Go.Proofs.Ytiiokkllmchohaa
/- Plain lists: cells of elements side by side. -/
namespace Go.Proofs.Ytiiokkllmchohaa
open Go.RowKit

theorem flat_len {α β : Type} {f : α → List β} {s : Nat} (hf : ∀ x, (f x).length = s) : ∀ (l : List α), (l.flatMap f).length = l.length * s
  | [] => by simp
  | x :: r => by
    rw [List.flatMap_cons, List.length_append, hf, flat_len hf r, List.length_cons, Nat.succ_mul, Nat.add_comm]
theorem flat_get {α β : Type} {f : α → List β} {s : Nat} (hf : ∀ x, (f x).length = s) : ∀ (l : List α) (j r : Nat), r < s → (l.flatMap f)[j * s + r]? = (l[j]?).bind fun x => (f x)[r]?
  | [], j, r, _ => by simp
  | x :: l, 0, r, hr => by
    rw [List.flatMap_cons, Nat.zero_mul, Nat.zero_add, List.getElem?_append_left (by rw [hf]; exact hr)]
    rfl
  | x :: l, j + 1, r, hr => by
    rw [List.flatMap_cons, List.getElem?_append_right (by rw [hf, Nat.succ_mul]; omega), hf, show (j + 1) * s + r - s = j * s + r by rw [Nat.succ_mul]; omega, flat_get hf l j r hr]
    rfl
def insCells (i : LIns) : List Value := [.int .i64 i.op, .int .i64 i.a, .int .i64 i.b]
def codeCells (l : List LIns) : List Value := l.flatMap insCells
theorem codeCells_len (l : List LIns) : (codeCells l).length = l.length * 3 := flat_len (f := insCells) (s := 3) (fun _ => rfl) l
theorem codeCells_one (l : List LIns) : ∀ u ∈ codeCells l, u.oneCell' = true := by
  intro u hu
  obtain ⟨x, _, hx⟩ := List.mem_flatMap.1 hu
  simp only [insCells, List.mem_cons, List.not_mem_nil, or_false] at hx
  rcases hx with rfl | rfl | rfl <;> rfl
theorem addr_add (b off j : Nat) : (⟨b, off, none⟩ : Addr).add j = ⟨b, off + j, none⟩ := by unfold Addr.add; split <;> simp_all
/-- A slice of instructions as a list of cells, for a copy of it. -/
theorem code_src {g : Addr → Option Value} {v : Value} {l : List LIns} (h : SlAt 3 (GIns g) v l) :
    ∃ (a : Option Addr) (cap : Nat), v = .slice a l.length cap ∧ (a = none → l.length = 0 ∧ cap = 0) ∧ ∀ ad, a = some ad → ∀ (j : Nat) (u : Value), (codeCells l)[j]? = some u → g (ad.add j) = some u := by
  obtain ⟨a, b, off, cap, h1, h2, h3, h4⟩ := h
  refine ⟨a, cap, h1, fun e => ?_, fun ad e j u hu => ?_⟩
  · rcases h3.2 with ⟨_, hc⟩ | hc | ⟨_, hc⟩
    · exact ⟨Nat.eq_zero_of_not_pos fun hn => (by have := h3.1 (List.ne_nil_of_length_pos hn); rw [e] at this; cases this), hc⟩
    · rw [e] at hc; cases hc
    · exact absurd e hc
  · rcases h3.2 with ⟨hc, _⟩ | hc | ⟨hc, _⟩
    · rw [e] at hc; cases hc
    · rw [e] at hc; cases hc
      have hj : j = j / 3 * 3 + j % 3 := by omega
      rw [hj] at hu
      unfold codeCells at hu
      rw [flat_get (f := insCells) (s := 3) (fun _ => rfl) l (j / 3) (j % 3) (by omega)] at hu
      cases hx : l[j / 3]? with
      | none => rw [hx] at hu; cases hu
      | some x =>
        rw [hx] at hu
        obtain ⟨i0, i1, i2⟩ := h4 (j / 3) x hx
        simp only [Option.bind_some] at hu
        rw [addr_add, hj]
        have hr : j % 3 = 0 ∨ j % 3 = 1 ∨ j % 3 = 2 := by omega
        rcases hr with hr | hr | hr <;> rw [hr] at hu ⊢ <;> simp only [insCells, List.getElem?_cons_zero, List.getElem?_cons_succ, Option.some.injEq] at hu <;> subst hu
        · exact i0
        · exact i1
        · exact i2
    · subst hc; simp [codeCells] at hu
theorem drop1 {l : List Value} {k : Nat} {a : Value} (hl : l.length = k + 1) (h0 : l[k]? = some a) : l.drop k = [a] := by
  rw [List.drop_eq_getElem_cons (by omega), List.drop_eq_nil_of_le (by omega)]
  have := List.getElem?_eq_some_iff.1 h0
  rw [this.2]
theorem drop_cons {l : List Value} {k : Nat} {a : Value} {r : List Value} (h0 : l[k]? = some a) (hr : l.drop (k + 1) = r) : l.drop k = a :: r := by
  obtain ⟨h1, h2⟩ := List.getElem?_eq_some_iff.1 h0
  rw [List.drop_eq_getElem_cons h1, h2, hr]
theorem drop3 {l : List Value} {k : Nat} {a b c : Value} (hl : l.length = k + 3) (h0 : l[k]? = some a) (h1 : l[k + 1]? = some b) (h2 : l[k + 2]? = some c) : l.drop k = [a, b, c] :=
  drop_cons h0 (drop_cons h1 (drop1 (by omega) h2))
theorem drop7 {l : List Value} {k : Nat} {a b c d e f g : Value} (hl : l.length = k + 7) (h0 : l[k]? = some a) (h1 : l[k + 1]? = some b) (h2 : l[k + 2]? = some c) (h3 : l[k + 3]? = some d) (h4 : l[k + 4]? = some e) (h5 : l[k + 5]? = some f) (h6 : l[k + 6]? = some g) :
    l.drop k = [a, b, c, d, e, f, g] :=
  drop_cons h0 (drop_cons h1 (drop_cons h2 (drop_cons h3 (drop_cons h4 (drop_cons h5 (drop1 (by omega) h6))))))
/-- Three cells stored side by side. -/
def set3 (l : List Value) (k : Nat) (a b c : Value) : List Value := ((l.set k a).set (k + 1) b).set (k + 2) c
theorem set3_len (l : List Value) (k : Nat) (a b c : Value) : (set3 l k a b c).length = l.length := by simp [set3]
theorem set3_0 {l : List Value} {k : Nat} {a b c : Value} (h : k + 2 < l.length) : (set3 l k a b c)[k]? = some a := by
  unfold set3; rw [List.getElem?_set_ne (by omega), List.getElem?_set_ne (by omega), List.getElem?_set_self (by omega)]
theorem set3_1 {l : List Value} {k : Nat} {a b c : Value} (h : k + 2 < l.length) : (set3 l k a b c)[k + 1]? = some b := by
  unfold set3; rw [List.getElem?_set_ne (by omega), List.getElem?_set_self (by simp; omega)]
theorem set3_2 {l : List Value} {k : Nat} {a b c : Value} (h : k + 2 < l.length) : (set3 l k a b c)[k + 2]? = some c := by
  unfold set3; rw [List.getElem?_set_self (by simp; omega)]
theorem set3_ne {l : List Value} {k j : Nat} {a b c : Value} (h : j < k ∨ k + 2 < j) : (set3 l k a b c)[j]? = l[j]? := by
  unfold set3; rw [List.getElem?_set_ne (by omega), List.getElem?_set_ne (by omega), List.getElem?_set_ne (by omega)]
theorem made_get (z : Array Value) (n j : Nat) (hj : j < n) (hz : 0 < z.size) : (madeCells z n).toList[j]? = z[j % z.size]? := by
  unfold madeCells
  have : j % z.size < z.size := Nat.mod_lt _ hz
  simp [hj, this]
theorem made_len (z : Array Value) (n : Nat) : (madeCells z n).toList.length = n := by simp [madeCells]
end Go.Proofs.Ytiiokkllmchohaa
/- What the law's hands hold while lists are lent. -/
namespace Go.Proofs.Ytiiokkllmchohaa
open Go.RowKit

/-- Lists that were lent, in the hands' row v: each in a block of its own, the owner's mark behind it. -/
structure InL (w : World) (B : Nat) (eo ei : TypeId) (sz : Nat) (lastv : List Value) (v : Value) (es : List (Nat × Nat)) : Prop where
  row : w.ownsRow B eo 1 v es.length (es.map slOf)
  ent : ∀ e ∈ es, B ≤ e.1 ∧ 1 ≤ e.2 ∧ e.2 ≤ 1048577 ∧ ∃ cs : List Value, Blk w e.1 ei cs ∧ cs.length = e.2 * sz ∧ cs.drop ((e.2 - 1) * sz) = lastv
  nodup : (es.map Prod.fst).Nodup

theorem InL.nil (w : World) (B : Nat) (eo ei : TypeId) (sz : Nat) (lastv : List Value) : InL w B eo ei sz lastv (.slice none 0 0) [] :=
  ⟨World.ownsRow_nil w B eo 1, fun _ h => absurd h List.not_mem_nil, List.nodup_nil⟩
theorem InL.mods {w w' : World} {B : Nat} {eo ei : TypeId} {sz : Nat} {lastv : List Value} {v : Value} {es : List (Nat × Nat)} {S : Nat → Prop} (h : InL w B eo ei sz lastv v es) (m : Mods S w w')
    (hr : ∀ k cs, Blk w k eo cs → ¬ S k) (he : ∀ k cs, Blk w k ei cs → ¬ S k) : InL w' B eo ei sz lastv v es := by
  refine ⟨own_mods h.row m (fun g hg => ?_), fun e hm => ?_, h.nodup⟩
  · obtain ⟨cur, hb⟩ := own_blk h.row hg
    exact hr g cur hb
  · obtain ⟨h1, h2, h3, cs, h4, h5⟩ := h.ent e hm
    exact ⟨h1, h2, h3, cs, h4.mods m (he _ _ h4), h5⟩
theorem InL.mods' {w w' : World} {B : Nat} {eo ei : TypeId} {sz : Nat} {lastv : List Value} {v : Value} {es : List (Nat × Nat)} {S : Nat → Prop} (h : InL w B eo ei sz lastv v es) (m : Mods S w w')
    (hr : ∀ k cs, Blk w k eo cs → ¬ S k) (he : ∀ e ∈ es, ¬ S e.1) : InL w' B eo ei sz lastv v es := by
  refine ⟨own_mods h.row m (fun g hg => ?_), fun e hm => ?_, h.nodup⟩
  · obtain ⟨cur, hb⟩ := own_blk h.row hg
    exact hr g cur hb
  · obtain ⟨h1, h2, h3, cs, h4, h5⟩ := h.ent e hm
    exact ⟨h1, h2, h3, cs, h4.mods m (he e hm), h5⟩
/-- One list more, in a new block. -/
theorem InL.push {w w' : World} {B : Nat} {eo ei : TypeId} {sz : Nat} {lastv : List Value} {v v' : Value} {es : List (Nat × Nat)} {S : Nat → Prop} (h : InL w B eo ei sz lastv v es) (m : Mods S w w')
    (he : ∀ k cs, Blk w k ei cs → ¬ S k) {g n : Nat} (hB : B ≤ w.heap.size) (hg : w.heap.size ≤ g) (hn : 1 ≤ n) (hn' : n ≤ 1048577) {cs : List Value} (hb : Blk w' g ei cs) (hl : cs.length = n * sz) (hd : cs.drop ((n - 1) * sz) = lastv)
    (hrow : w'.ownsRow B eo 1 v' (es.length + 1) ((es ++ [(g, n)]).map slOf)) : InL w' B eo ei sz lastv v' (es ++ [(g, n)]) := by
  refine ⟨by rw [List.length_append]; exact hrow, fun e hm => ?_, ?_⟩
  · rcases List.mem_append.1 hm with hm | hm
    · obtain ⟨h1, h2, h3, cs', h4, h5⟩ := h.ent e hm
      exact ⟨h1, h2, h3, cs', h4.mods m (he _ _ h4), h5⟩
    · rw [List.mem_singleton] at hm
      subst hm
      exact ⟨by show B ≤ g; omega, hn, hn', cs, hb, hl, hd⟩
  · rw [List.map_append, List.nodup_append]
    refine ⟨h.nodup, by simp, fun a ha b hb' => ?_⟩
    obtain ⟨e, hm, rfl⟩ := List.mem_map.1 ha
    have : b = g := by simpa using hb'
    subst this
    obtain ⟨_, _, _, cs', h4, _⟩ := h.ent e hm
    have := h4.lt
    omega

abbrev lastT : List Value := [.int .i64 (-77000000)]
abbrev lastI : List Value := [.int .i64 (-77000000), .int .i64 0, .int .i64 0]
abbrev lastF : List Value := [.int .i64 (-77000000), .slice none 0 0, .slice none 0 0]
abbrev lastM : List Value := [.int .i64 (-77000000), .slice none 0 0, .int .i64 0, .int .i64 0, .int .i64 0, .slice none 0 0, .slice none 0 0]
abbrev lastC : List Value := [.int .i64 (-77000000), .slice none 0 0, .slice none 0 0]
abbrev InT (w : World) (B : Nat) (v : Value) (es : List (Nat × Nat)) : Prop := InL w B 31 52 1 lastT v es
abbrev InI (w : World) (B : Nat) (v : Value) (es : List (Nat × Nat)) : Prop := InL w B 55 54 3 lastI v es
abbrev InF (w : World) (B : Nat) (v : Value) (es : List (Nat × Nat)) : Prop := InL w B 56 103 3 lastF v es
abbrev InM (w : World) (B : Nat) (v : Value) (es : List (Nat × Nat)) : Prop := InL w B 32 58 7 lastM v es
abbrev InC (w : World) (B : Nat) (v : Value) (es : List (Nat × Nat)) : Prop := InL w B 22 34 3 lastC v es

/-- The cells of blocks below n. -/
def cellLt (n : Nat) (w : World) (a : Addr) : Option Value := if a.block < n then w.cell? a else none
theorem cellLt_le (n : Nat) (w : World) : GLe (cellLt n w) w.cell? := fun p v h => by
  unfold cellLt at h
  split at h
  · exact h
  · cases h
theorem cellLt_mods {n : Nat} {w w' : World} {S : Nat → Prop} (m : Mods S w w') (hS : ∀ k, k < n → ¬ S k) : GLe (cellLt n w) (cellLt n w') := fun p v h => by
  unfold cellLt at h ⊢
  split at h
  · rename_i hp
    rw [if_pos hp]
    exact m.cell h (hS _ hp)
  · cases h
theorem cellLt_lt {n : Nat} {w : World} {a : Addr} {v : Value} (h : cellLt n w a = some v) : a.block < n := by
  unfold cellLt at h
  split at h
  · assumption
  · cases h

/-- A block of one of these types. -/
def TyBlk (T : List TypeId) (w : World) (k : Nat) : Prop := ∃ t cs, Blk w k t cs ∧ t ∈ T
/-- The same, asked of the block itself. -/
def tyB (T : List TypeId) (w : World) (k : Nat) : Bool := match w.heap[k]? with
  | some (.cells _ t fr) => decide (t ∈ T) && decide (fr = (0, 0))
  | _ => false
theorem tyB_of {T : List TypeId} {w : World} {k : Nat} (h : TyBlk T w k) : tyB T w k = true := by
  obtain ⟨t, cs, hb, ht⟩ := h
  unfold Blk at hb
  simp [tyB, hb, ht]
theorem tyB_iff {T : List TypeId} {w : World} {k : Nat} (h : tyB T w k = true) : TyBlk T w k := by
  unfold tyB at h
  split at h
  · rename_i c t fr hc
    simp only [Bool.and_eq_true, decide_eq_true_eq] at h
    obtain ⟨h1, rfl⟩ := h
    exact ⟨t, c.toList, by unfold Blk; simpa using hc, h1⟩
  · cases h
/-- The cells of such blocks. -/
def cellS (T : List TypeId) (w : World) (a : Addr) : Option Value := if tyB T w a.block = true then w.cell? a else none
theorem cellS_pos {T : List TypeId} {w : World} {a : Addr} (h : TyBlk T w a.block) : cellS T w a = w.cell? a := by
  unfold cellS
  rw [if_pos (tyB_of h)]
theorem cellS_some {T : List TypeId} {w : World} {a : Addr} {v : Value} (h : cellS T w a = some v) : TyBlk T w a.block ∧ w.cell? a = some v := by
  unfold cellS at h
  split at h
  · rename_i hp
    exact ⟨tyB_iff hp, h⟩
  · cases h
theorem cellS_le (T : List TypeId) (w : World) : GLe (cellS T w) w.cell? := fun _ _ h => (cellS_some h).2
theorem cellS_sub {T T' : List TypeId} (hT : ∀ t ∈ T, t ∈ T') (w : World) : GLe (cellS T w) (cellS T' w) := fun p v h => by
  obtain ⟨⟨t, cs, hb, ht⟩, h⟩ := cellS_some h
  rw [cellS_pos ⟨t, cs, hb, hT t ht⟩]; exact h
theorem cellS_mods {T : List TypeId} {w w' : World} {S : Nat → Prop} (m : Mods S w w') (hS : ∀ k t cs, Blk w k t cs → t ∈ T → ¬ S k) : GLe (cellS T w) (cellS T w') := fun p v h => by
  obtain ⟨⟨t, cs, hb, ht⟩, h⟩ := cellS_some h
  have hn := hS _ _ _ hb ht
  rw [cellS_pos ⟨t, cs, hb.mods m hn, ht⟩]
  exact m.cell h hn
theorem cellS_blk {T : List TypeId} {w : World} {b : Nat} {t : TypeId} {cs : List Value} (h : Blk w b t cs) (ht : t ∈ T) (i : Nat) : cellS T w ⟨b, i, none⟩ = cs[i]? := by
  rw [cellS_pos ⟨t, cs, h, ht⟩, h.cell]
theorem ints_of_blk {T : List TypeId} {w : World} {g : Nat} {t : TypeId} {l : List Int} {rest : List Value} {cap : Nat} (h : Blk w g t (l.map (Value.int .i64) ++ rest)) (ht : t ∈ T) (hc : l.length ≤ cap) : SlAt 1 (GInt (cellS T w)) (.slice (some ⟨g, 0, none⟩) l.length cap) l := by
  refine ⟨_, g, 0, cap, rfl, hc, ⟨fun _ => rfl, .inr (.inl rfl)⟩, fun j x hj => ?_⟩
  unfold GInt
  have hl := (List.getElem?_eq_some_iff.1 hj).1
  rw [cellS_blk h ht, Nat.zero_add, Nat.mul_one, List.getElem?_append_left (by simpa using hl), List.getElem?_map, hj]
  rfl
theorem code_of_blk {T : List TypeId} {w : World} {g : Nat} {t : TypeId} {l : List LIns} {rest : List Value} {cap : Nat} (h : Blk w g t (codeCells l ++ rest)) (ht : t ∈ T) (hc : l.length ≤ cap) : SlAt 3 (GIns (cellS T w)) (.slice (some ⟨g, 0, none⟩) l.length cap) l := by
  refine ⟨_, g, 0, cap, rfl, hc, ⟨fun _ => rfl, .inr (.inl rfl)⟩, fun j x hj => ?_⟩
  have hl := (List.getElem?_eq_some_iff.1 hj).1
  have hr : ∀ r, r < 3 → cellS T w ⟨g, 0 + j * 3 + r, none⟩ = (insCells x)[r]? := fun r hr => by
    rw [cellS_blk h ht, Nat.zero_add, List.getElem?_append_left (by rw [codeCells_len]; omega)]
    unfold codeCells
    rw [flat_get (f := insCells) (s := 3) (fun _ => rfl) l j r hr, hj]
    rfl
  exact ⟨hr 0 (by omega), hr 1 (by omega), hr 2 (by omega)⟩
abbrev tT : List TypeId := [52]
abbrev t3 : List TypeId := [52, 54, 103]
abbrev t4 : List TypeId := [52, 54, 103, 58]
abbrev t5 : List TypeId := [52, 54, 103, 58, 34]

/-- The hands' first three rows. -/
structure HS (w : World) (B bh : Nat) (cs : List Value) (vt vi vf : Value) (ts is fs : List (Nat × Nat)) : Prop where
  hands : HBlk w bh cs
  c0 : cs[0]? = some vt
  c1 : cs[1]? = some vi
  c2 : cs[2]? = some vf
  t : InT w B vt ts
  i : InI w B vi is
  f : InF w B vf fs
  lt : bh < B
  le : B ≤ w.heap.size

/-- Which blocks the hands' first three rows lie in. -/
def Rows3 (bh : Nat) (vt vi vf : Value) (k : Nat) : Prop := k = bh ∨ vt.ownBlock = some k ∨ vi.ownBlock = some k ∨ vf.ownBlock = some k
theorem HS.rows {w : World} {B bh : Nat} {cs : List Value} {vt vi vf : Value} {ts is fs : List (Nat × Nat)} (h : HS w B bh cs vt vi vf ts is fs) {k : Nat} (hk : Rows3 bh vt vi vf k) :
    (k = bh ∨ B ≤ k) ∧ ∃ t c, Blk w k t c ∧ (t = 44 ∨ t = 31 ∨ t = 55 ∨ t = 56) := by
  rcases hk with rfl | hk | hk | hk
  · exact ⟨.inl rfl, _, _, h.hands.1, .inl rfl⟩
  · obtain ⟨c, hb⟩ := own_blk h.t.row hk
    exact ⟨.inr (h.t.row.lt k hk).1, _, c, hb, .inr (.inl rfl)⟩
  · obtain ⟨c, hb⟩ := own_blk h.i.row hk
    exact ⟨.inr (h.i.row.lt k hk).1, _, c, hb, .inr (.inr (.inl rfl))⟩
  · obtain ⟨c, hb⟩ := own_blk h.f.row hk
    exact ⟨.inr (h.f.row.lt k hk).1, _, c, hb, .inr (.inr (.inr rfl))⟩
/-- A block of another type than the rows' is none of them. -/
theorem HS.other {w : World} {B bh : Nat} {cs : List Value} {vt vi vf : Value} {ts is fs : List (Nat × Nat)} (h : HS w B bh cs vt vi vf ts is fs) {k : Nat} {t : TypeId} {c : List Value} (hb : Blk w k t c)
    (ht : ¬ (t = 44 ∨ t = 31 ∨ t = 55 ∨ t = 56)) : ¬ Rows3 bh vt vi vf k := fun hk => by
  obtain ⟨_, t', c', hb', ht'⟩ := h.rows hk
  rw [hb'.uniq hb] at ht'
  exact ht ht'
/-- Nothing of theirs has changed: they stand. -/
theorem HS.stay {w w' : World} {B bh : Nat} {cs : List Value} {vt vi vf : Value} {ts is fs : List (Nat × Nat)} {S : Nat → Prop} (h : HS w B bh cs vt vi vf ts is fs) (m : Mods S w w')
    (hS : ∀ k t c, Blk w k t c → S k → ¬ (t = 44 ∨ t = 31 ∨ t = 55 ∨ t = 56 ∨ t = 52 ∨ t = 54 ∨ t = 103)) : HS w' B bh cs vt vi vf ts is fs := by
  have hn : ∀ (t : TypeId), (t = 44 ∨ t = 31 ∨ t = 55 ∨ t = 56 ∨ t = 52 ∨ t = 54 ∨ t = 103) → ∀ k c, Blk w k t c → ¬ S k := fun t ht k c hb hs => hS k t c hb hs ht
  exact ⟨⟨h.hands.1.mods m (hn _ (by simp) _ _ h.hands.1), h.hands.2⟩, h.c0, h.c1, h.c2, h.t.mods m (hn _ (by simp)) (hn _ (by simp)), h.i.mods m (hn _ (by simp)) (hn _ (by simp)), h.f.mods m (hn _ (by simp)) (hn _ (by simp)), h.lt, Nat.le_trans h.le m.size⟩
/-- They stand where only blocks that are new since w0 have changed, and none of their own. -/
theorem HS.lent {w w' : World} {B bh : Nat} {cs : List Value} {vt vi vf : Value} {ts is fs : List (Nat × Nat)} (h : HS w B bh cs vt vi vf ts is fs) {l : List Int} {g : Nat} {vt' : Value} (hl : l.length ≤ 1048576) (L : LentT w w' bh cs vt B ts l g vt') :
    HS w' B bh (cs.set 0 vt') vt' vi vf (ts ++ [(g, l.length + 1)]) is fs := by
  have hS : ∀ (t : TypeId), t ≠ 44 → t ≠ 31 → ∀ k c, Blk w k t c → ¬ (k = bh ∨ vt.ownBlock = some k) := fun t h1 h2 k c hb hk => by
    rcases hk with rfl | hk
    · exact h1 (hb.uniq h.hands.1)
    · obtain ⟨c', hb'⟩ := own_blk h.t.row hk
      exact h2 (hb.uniq hb')
  have hlen := h.hands.2
  refine ⟨L.hands, by rw [List.getElem?_set_self (by omega)], by rw [List.getElem?_set_ne (by omega)]; exact h.c1, by rw [List.getElem?_set_ne (by omega)]; exact h.c2, ?_, ?_, ?_, h.lt, Nat.le_trans h.le L.mods.size⟩
  · exact h.t.push L.mods (hS _ (by decide) (by decide)) h.le L.new (by omega) (by omega) L.blk (by simp) (by simp) L.row
  · exact h.i.mods L.mods (hS _ (by decide) (by decide)) (hS _ (by decide) (by decide))
  · exact h.f.mods L.mods (hS _ (by decide) (by decide)) (hS _ (by decide) (by decide))
theorem HS.notLent {w : World} {B bh : Nat} {cs : List Value} {vt vi vf : Value} {ts is fs : List (Nat × Nat)} (h : HS w B bh cs vt vi vf ts is fs) {k : Nat} {t : TypeId} {c : List Value} (hb : Blk w k t c) (ht : t ∈ t5) : ¬ Rows3 bh vt vi vf k := by
  refine h.other hb ?_
  simp only [List.mem_cons, List.not_mem_nil, or_false] at ht
  rcases ht with rfl | rfl | rfl | rfl | rfl <;> decide
theorem HS.notOld {w : World} {B bh : Nat} {cs : List Value} {vt vi vf : Value} {ts is fs : List (Nat × Nat)} (h : HS w B bh cs vt vi vf ts is fs) {k : Nat} (hk : k < bh) : ¬ Rows3 bh vt vi vf k := fun hr => by
  have := (h.rows hr).1
  have := h.lt
  omega
theorem HS.lentMods {w w' : World} {B bh : Nat} {cs : List Value} {vt vi vf : Value} {ts is fs : List (Nat × Nat)} (_h : HS w B bh cs vt vi vf ts is fs) {l : List Int} {g : Nat} {vt' : Value} (L : LentT w w' bh cs vt B ts l g vt') :
    Mods (Rows3 bh vt vi vf) w w' := L.mods.mono fun k _ hk => by
  rcases hk with hk | hk
  · exact .inl hk
  · exact .inr (.inl hk)
end Go.Proofs.Ytiiokkllmchohaa
/- Walk of the document's answer: may an instruction be? -/
namespace Go.Proofs.Ytiiokkllmchohaa
open Go.RowKit
attribute [local go_sem ↓] Go.wp_at_zero Go.wp_at_succ

theorem box3_below (w : World) (o o' o'' : Obj) : Below w.heap.size w (((w.alloc o).alloc o').alloc o'') := (box2_below w o o').alloc (box2_below w o o').size _
theorem box3_1 (w : World) (cs : Array Value) (t : TypeId) (o' o'' : Obj) (i : Nat) : (((w.alloc (.cells cs t)).alloc o').alloc o'').cell? ⟨w.heap.size, i, none⟩ = cs[i]? := by
  rw [World.cell?_alloc_lt _ _ _ (by simp; omega)]; exact box2_fst w cs t o' i
theorem box3_2 (w : World) (o : Obj) (cs : Array Value) (t : TypeId) (o'' : Obj) (i : Nat) : (((w.alloc o).alloc (.cells cs t)).alloc o'').cell? ⟨w.heap.size + 1, i, none⟩ = cs[i]? := by
  rw [World.cell?_alloc_lt _ _ _ (by simp)]; exact box2_snd w o cs t i
theorem box3_3 (w : World) (o o' : Obj) (cs : Array Value) (t : TypeId) (i : Nat) : (((w.alloc o).alloc o').alloc (.cells cs t)).cell? ⟨w.heap.size + 2, i, none⟩ = cs[i]? := by
  have := box_cell ((w.alloc o).alloc o') cs t i
  rwa [show ((w.alloc o).alloc o').heap.size = w.heap.size + 2 by simp] at this

/-- The arguments of the test. -/
def insArgs (vc : Value) (m : LMeth) (aa ca fa : Option Addr) (al acap ccap fl fcap : Nat) (op a b : Int) : Array Value :=
  #[.agg #[vc], .agg #[.int .i64 m.slot, .slice aa al acap, .int .i64 m.ret, .int .i64 m.locals, .int .i64 m.stack, .slice ca m.code.length ccap, .slice fa fl fcap], .agg #[.int .i64 op, .int .i64 a, .int .i64 b]]

set_option maxHeartbeats 4000000 in
set_option maxRecDepth 100000 in
theorem ref_ins_plain (p : List LClass) (vc : Value) (m : LMeth) (aa ca fa : Option Addr) (al acap ccap fl fcap : Nat) (op a b : Int) (w : World) (hp : RProg w vc p) (hz : szProg p ≤ 4194304) (_hcl : m.code.length ≤ 4194304)
    (h10 : op ≠ 10) (h11 : op ≠ 11) (h12 : op ≠ 12) :
    Calls Try.prog 68 (insArgs vc m aa ca fa al acap ccap fl fcap op a b) w fun e w' => e = .returned (.bool (insB p m ⟨op, a, b⟩)) ∧ Below w.heap.size w w' := by
  have hpl : p.length ≤ 4194304 := Nat.le_trans (szProg_len p) hz
  obtain ⟨pa, pb, poff, pcap, rfl, hpcap, hpa, hpr⟩ := sl_open hp
  clear hpr hpa
  unfold insArgs
  by_cases h0 : op = 0
  · subst h0
    go_enter Try.func68, Try.ntmps68
    go_wp2
    go_ret
    exact ⟨ret_bool (by simp [insB]), box3_below _ _ _ _⟩
  by_cases h1 : op = 1
  · subst h1
    cases hpl : placeB a m.locals
    · go_enter Try.func68, Try.ntmps68
      go_wp2_with (go_at_call 88; refine (ref_place _ _ _).mono ?_; rintro e w' ⟨rfl, rfl⟩)
      go_ret
      exact ⟨ret_bool (by simp [insB, hpl]), box3_below _ _ _ _⟩
    · go_enter Try.func68, Try.ntmps68
      go_wp2_with (go_at_call 88; refine (ref_place _ _ _).mono ?_; rintro e w' ⟨rfl, rfl⟩)
      go_ret
      exact ⟨ret_bool (by simp [insB, hpl]), box3_below _ _ _ _⟩
  by_cases h2 : op = 2
  · subst h2
    cases hpl : placeB a m.locals
    · go_enter Try.func68, Try.ntmps68
      go_wp2_with (go_at_call 88; refine (ref_place _ _ _).mono ?_; rintro e w' ⟨rfl, rfl⟩)
      go_ret
      exact ⟨ret_bool (by simp [insB, hpl]), box3_below _ _ _ _⟩
    · go_enter Try.func68, Try.ntmps68
      go_wp2_with (go_at_call 88; refine (ref_place _ _ _).mono ?_; rintro e w' ⟨rfl, rfl⟩)
      go_ret
      exact ⟨ret_bool (by simp [insB, hpl]), box3_below _ _ _ _⟩
  by_cases h7 : op = 7
  · subst h7
    cases hpl : placeB a m.code.length
    · go_enter Try.func68, Try.ntmps68
      go_wp2_with (go_at_call 88; refine (ref_place _ _ _).mono ?_; rintro e w' ⟨rfl, rfl⟩)
      go_ret
      exact ⟨ret_bool (by simp [insB, hpl]), box3_below _ _ _ _⟩
    · go_enter Try.func68, Try.ntmps68
      go_wp2_with (go_at_call 88; refine (ref_place _ _ _).mono ?_; rintro e w' ⟨rfl, rfl⟩)
      go_ret
      exact ⟨ret_bool (by simp [insB, hpl]), box3_below _ _ _ _⟩
  by_cases h8 : op = 8
  · subst h8
    cases hpl : placeB a m.code.length
    · go_enter Try.func68, Try.ntmps68
      go_wp2_with (go_at_call 88; refine (ref_place _ _ _).mono ?_; rintro e w' ⟨rfl, rfl⟩)
      go_ret
      exact ⟨ret_bool (by simp [insB, hpl]), box3_below _ _ _ _⟩
    · go_enter Try.func68, Try.ntmps68
      go_wp2_with (go_at_call 88; refine (ref_place _ _ _).mono ?_; rintro e w' ⟨rfl, rfl⟩)
      go_ret
      exact ⟨ret_bool (by simp [insB, hpl]), box3_below _ _ _ _⟩
  by_cases h18 : op = 18
  · subst h18
    cases hpl : placeB a m.code.length
    · go_enter Try.func68, Try.ntmps68
      go_wp2_with (go_at_call 88; refine (ref_place _ _ _).mono ?_; rintro e w' ⟨rfl, rfl⟩)
      go_ret
      exact ⟨ret_bool (by simp [insB, hpl]), box3_below _ _ _ _⟩
    · go_enter Try.func68, Try.ntmps68
      go_wp2_with (go_at_call 88; refine (ref_place _ _ _).mono ?_; rintro e w' ⟨rfl, rfl⟩)
      go_ret
      exact ⟨ret_bool (by simp [insB, hpl]), box3_below _ _ _ _⟩
  by_cases h9 : op = 9
  · subst h9
    cases hpl : placeB a p.length
    · go_enter Try.func68, Try.ntmps68
      go_wp2_with (go_at_call 88; refine (ref_place _ _ _).mono ?_; rintro e w' ⟨rfl, rfl⟩)
      go_ret
      exact ⟨ret_bool (by simp [insB, hpl]), box3_below _ _ _ _⟩
    · go_enter Try.func68, Try.ntmps68
      go_wp2_with (go_at_call 88; refine (ref_place _ _ _).mono ?_; rintro e w' ⟨rfl, rfl⟩)
      go_ret
      exact ⟨ret_bool (by simp [insB, hpl]), box3_below _ _ _ _⟩
  by_cases h17 : op = 17
  · subst h17
    cases hpl : placeB a p.length
    · go_enter Try.func68, Try.ntmps68
      go_wp2_with (go_at_call 88; refine (ref_place _ _ _).mono ?_; rintro e w' ⟨rfl, rfl⟩)
      go_ret
      exact ⟨ret_bool (by simp [insB, hpl]), box3_below _ _ _ _⟩
    · go_enter Try.func68, Try.ntmps68
      go_wp2_with (go_at_call 88; refine (ref_place _ _ _).mono ?_; rintro e w' ⟨rfl, rfl⟩)
      go_ret
      exact ⟨ret_bool (by simp [insB, hpl]), box3_below _ _ _ _⟩
  have hdef : insB p m ⟨op, a, b⟩ = (placeB op 21 && a == 0 && b == 0) := by
    unfold insB
    simp only [h0, h1, h2, h7, h8, h18, h9, h17, h10, h11, h12, or_self, if_false]
  have HD := hide hdef
  clear hdef
  cases hpl : placeB op 21
  · go_enter Try.func68, Try.ntmps68
    go_wp2_with (go_at_call 88; refine (ref_place _ _ _).mono ?_; rintro e w' ⟨rfl, rfl⟩)
    go_ret
    exact ⟨ret_bool (by rw [unhide HD, hpl]; rfl), box3_below _ _ _ _⟩
  · cases ha0 : (a == 0)
    · go_enter Try.func68, Try.ntmps68
      go_wp2_with (go_at_call 88; refine (ref_place _ _ _).mono ?_; rintro e w' ⟨rfl, rfl⟩)
      go_ret
      exact ⟨ret_bool (by rw [unhide HD, hpl, ha0]; rfl), box3_below _ _ _ _⟩
    · go_enter Try.func68, Try.ntmps68
      go_wp2_with (go_at_call 88; refine (ref_place _ _ _).mono ?_; rintro e w' ⟨rfl, rfl⟩)
      go_ret
      exact ⟨ret_bool (by rw [unhide HD, hpl, ha0]; rfl), box3_below _ _ _ _⟩
end Go.Proofs.Ytiiokkllmchohaa
