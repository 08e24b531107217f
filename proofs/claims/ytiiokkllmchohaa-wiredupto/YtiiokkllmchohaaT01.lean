/- The data of programs as plain Lean values, and what it means that a value of the machine's memory holds them; that such a reading stays while old blocks stay. -/
import Derived.WalkKit
import Derived.WalkSpells
import Derived.WalkLawsBesides
/- Base -/
namespace Go.Proofs.Ytiiokkllmchohaa
open Go.RowKit

structure LIns where
  op : Int
  a : Int
  b : Int
structure LFrame where
  pc : Int
  locals : List Int
  stack : List Int
structure LMeth where
  slot : Int
  args : List Int
  ret : Int
  locals : Int
  stack : Int
  code : List LIns
  frames : List LFrame
structure LClass where
  sup : Int
  fields : List Int
  meths : List LMeth

/-- A slice that holds a list: element j lies at offset off + j * sz of block b. -/
def SlAt {α : Type} (sz : Nat) (R : α → Nat → Nat → Prop) (v : Value) (l : List α) : Prop :=
  ∃ (a : Option Addr) (b off cap : Nat), v = .slice a l.length cap ∧ l.length ≤ cap ∧ ((l ≠ [] → a = some ⟨b, off, none⟩) ∧ (a = none ∧ cap = 0 ∨ a = some ⟨b, off, none⟩ ∨ l = [] ∧ a ≠ none)) ∧ ∀ (j : Nat) (x : α), l[j]? = some x → R x b (off + j * sz)

/-- What a look-up g of cells holds: numbers, instructions, frames, methods, classes. -/
def GInt (g : Addr → Option Value) (x : Int) (b o : Nat) : Prop := g ⟨b, o, none⟩ = some (.int .i64 x)
def GIns (g : Addr → Option Value) (x : LIns) (b o : Nat) : Prop :=
  g ⟨b, o, none⟩ = some (.int .i64 x.op) ∧ g ⟨b, o + 1, none⟩ = some (.int .i64 x.a) ∧ g ⟨b, o + 2, none⟩ = some (.int .i64 x.b)
def GFrame (g : Addr → Option Value) (x : LFrame) (b o : Nat) : Prop :=
  ∃ vl vs, g ⟨b, o, none⟩ = some (.int .i64 x.pc) ∧ g ⟨b, o + 1, none⟩ = some vl ∧ g ⟨b, o + 2, none⟩ = some vs ∧
    SlAt 1 (GInt g) vl x.locals ∧ SlAt 1 (GInt g) vs x.stack
/-- A method's three slices. -/
def GVals (g : Addr → Option Value) (x : LMeth) (va vc vf : Value) : Prop :=
  SlAt 1 (GInt g) va x.args ∧ SlAt 3 (GIns g) vc x.code ∧ SlAt 3 (GFrame g) vf x.frames
def GMeth (g : Addr → Option Value) (x : LMeth) (b o : Nat) : Prop :=
  ∃ va vc vf, GVals g x va vc vf ∧ g ⟨b, o, none⟩ = some (.int .i64 x.slot) ∧ g ⟨b, o + 1, none⟩ = some va ∧ g ⟨b, o + 2, none⟩ = some (.int .i64 x.ret) ∧
    g ⟨b, o + 3, none⟩ = some (.int .i64 x.locals) ∧ g ⟨b, o + 4, none⟩ = some (.int .i64 x.stack) ∧ g ⟨b, o + 5, none⟩ = some vc ∧ g ⟨b, o + 6, none⟩ = some vf
def GClass (g : Addr → Option Value) (x : LClass) (b o : Nat) : Prop :=
  ∃ vf vm, g ⟨b, o, none⟩ = some (.int .i64 x.sup) ∧ g ⟨b, o + 1, none⟩ = some vf ∧ g ⟨b, o + 2, none⟩ = some vm ∧
    SlAt 1 (GInt g) vf x.fields ∧ SlAt 7 (GMeth g) vm x.meths
abbrev RInt (w : World) : Int → Nat → Nat → Prop := GInt w.cell?
abbrev RIns (w : World) : LIns → Nat → Nat → Prop := GIns w.cell?
abbrev RFrame (w : World) : LFrame → Nat → Nat → Prop := GFrame w.cell?
abbrev MVals (w : World) (x : LMeth) (va vc vf : Value) : Prop := GVals w.cell? x va vc vf
abbrev RMeth (w : World) : LMeth → Nat → Nat → Prop := GMeth w.cell?
abbrev RClass (w : World) : LClass → Nat → Nat → Prop := GClass w.cell?
/-- The slice of a program's classes. -/
abbrev RProg (w : World) (vc : Value) (p : List LClass) : Prop := SlAt 3 (RClass w) vc p

theorem SlAt.mono {α : Type} {sz : Nat} {R R' : α → Nat → Nat → Prop} {v : Value} {l : List α} (h : SlAt sz R v l) (k : ∀ x b o, R x b o → R' x b o) : SlAt sz R' v l := by
  obtain ⟨a, b, off, cap, h1, h2, h3, h4⟩ := h
  exact ⟨a, b, off, cap, h1, h2, h3, fun j x hj => k _ _ _ (h4 j x hj)⟩

/-- Whatever g holds, g' holds. -/
def GLe (g g' : Addr → Option Value) : Prop := ∀ p v, g p = some v → g' p = some v
theorem GLe.refl (g : Addr → Option Value) : GLe g g := fun _ _ h => h
theorem GLe.trans {a b c : Addr → Option Value} (h : GLe a b) (k : GLe b c) : GLe a c := fun p v e => k p v (h p v e)
/-- Every cell of w that is there is there in w' and holds what it held. -/
abbrev Keeps (w w' : World) : Prop := GLe w.cell? w'.cell?
theorem Keeps.refl (w : World) : Keeps w w := fun _ _ h => h
theorem Keeps.trans {a b c : World} (h : Keeps a b) (k : Keeps b c) : Keeps a c := fun p v e => k p v (h p v e)
theorem cell_lt {w : World} {p : Addr} {v : Value} (h : w.cell? p = some v) : p.block < w.heap.size := by
  unfold World.cell? at h
  rcases Nat.lt_or_ge p.block w.heap.size with g | g
  · exact g
  · rw [Array.getElem?_eq_none g] at h; simp at h
theorem Keeps.of_below {w w' : World} (h : Below w.heap.size w w') : Keeps w w' := fun p v e => by rw [h.cell (cell_lt e)]; exact e

section
variable {g g' : Addr → Option Value}
theorem GInt.keep (h : GLe g g') {x : Int} {b o : Nat} (r : GInt g x b o) : GInt g' x b o := h _ _ r
theorem ints_keep (h : GLe g g') {v : Value} {l : List Int} (r : SlAt 1 (GInt g) v l) : SlAt 1 (GInt g') v l := r.mono fun _ _ _ => GInt.keep h
theorem GIns.keep (h : GLe g g') {x : LIns} {b o : Nat} (r : GIns g x b o) : GIns g' x b o := ⟨h _ _ r.1, h _ _ r.2.1, h _ _ r.2.2⟩
theorem GFrame.keep (h : GLe g g') {x : LFrame} {b o : Nat} (r : GFrame g x b o) : GFrame g' x b o := by
  obtain ⟨vl, vs, h1, h2, h3, h4, h5⟩ := r
  exact ⟨vl, vs, h _ _ h1, h _ _ h2, h _ _ h3, ints_keep h h4, ints_keep h h5⟩
theorem code_keep (h : GLe g g') {v : Value} {l : List LIns} (r : SlAt 3 (GIns g) v l) : SlAt 3 (GIns g') v l := r.mono fun _ _ _ => GIns.keep h
theorem frames_keep (h : GLe g g') {v : Value} {l : List LFrame} (r : SlAt 3 (GFrame g) v l) : SlAt 3 (GFrame g') v l := r.mono fun _ _ _ => GFrame.keep h
theorem GVals.keep (h : GLe g g') {x : LMeth} {va vc vf : Value} (r : GVals g x va vc vf) : GVals g' x va vc vf := ⟨ints_keep h r.1, code_keep h r.2.1, frames_keep h r.2.2⟩
theorem GMeth.keep (h : GLe g g') {x : LMeth} {b o : Nat} (r : GMeth g x b o) : GMeth g' x b o := by
  obtain ⟨va, vc, vf, h0, h1, h2, h3, h4, h5, h6, h7⟩ := r
  exact ⟨va, vc, vf, h0.keep h, h _ _ h1, h _ _ h2, h _ _ h3, h _ _ h4, h _ _ h5, h _ _ h6, h _ _ h7⟩
theorem meths_keep (h : GLe g g') {v : Value} {l : List LMeth} (r : SlAt 7 (GMeth g) v l) : SlAt 7 (GMeth g') v l := r.mono fun _ _ _ => GMeth.keep h
theorem GClass.keep (h : GLe g g') {x : LClass} {b o : Nat} (r : GClass g x b o) : GClass g' x b o := by
  obtain ⟨vf, vm, h1, h2, h3, h4, h5⟩ := r
  exact ⟨vf, vm, h _ _ h1, h _ _ h2, h _ _ h3, ints_keep h h4, meths_keep h h5⟩
theorem prog_keep (h : GLe g g') {v : Value} {l : List LClass} (r : SlAt 3 (GClass g) v l) : SlAt 3 (GClass g') v l := r.mono fun _ _ _ => GClass.keep h
end

theorem box_cell (w : World) (cs : Array Value) (t : TypeId) (i : Nat) : (w.alloc (.cells cs t)).cell? ⟨w.heap.size, i, none⟩ = cs[i]? := by
  show (match (w.heap.push (Obj.cells cs t))[w.heap.size]? with | some (.cells c _ _) => if (none : Option Nat).isSome then none else c[i]? | _ => none) = _
  rw [Array.getElem?_push_size]; rfl
theorem box_below (w : World) (o : Obj) : Below w.heap.size w (w.alloc o) := (Below.refl _ _).alloc (Nat.le_refl _) _
theorem box_keeps (w : World) (o : Obj) : Keeps w (w.alloc o) := Keeps.of_below (box_below w o)
theorem box2_below (w : World) (o o' : Obj) : Below w.heap.size w ((w.alloc o).alloc o') := (box_below w o).alloc (box_below w o).size _
theorem box2_fst (w : World) (cs : Array Value) (t : TypeId) (o' : Obj) (i : Nat) : ((w.alloc (.cells cs t)).alloc o').cell? ⟨w.heap.size, i, none⟩ = cs[i]? := by
  rw [World.cell?_alloc_lt _ _ _ (by simp)]; exact box_cell w cs t i
theorem box2_snd (w : World) (o : Obj) (cs : Array Value) (t : TypeId) (i : Nat) : ((w.alloc o).alloc (.cells cs t)).cell? ⟨w.heap.size + 1, i, none⟩ = cs[i]? := by
  have := box_cell (w.alloc o) cs t i
  rwa [show (w.alloc o).heap.size = w.heap.size + 1 by simp] at this
theorem ret_bool {a b : Bool} (h : a = b) : Ending.returned (.bool a) = .returned (.bool b) := by rw [h]
theorem ret_int {k : IntKind} {a b : Int} (h : a = b) : Ending.returned (.int k a) = .returned (.int k b) := by rw [h]

/-- A slice of numbers, opened: cell by cell, in the walk's spelling. -/
theorem ints_open {w : World} {v : Value} {l : List Int} (h : SlAt 1 (RInt w) v l) :
    ∃ (a : Option Addr) (b off cap : Nat), v = .slice a l.length cap ∧ l.length ≤ cap ∧ (l ≠ [] → a = some ⟨b, off, none⟩) ∧ ∀ (j : Nat) (hj : j < l.length), w.cell? ⟨b, off + j, none⟩ = some (.int .i64 l[j]) := by
  obtain ⟨a, b, off, cap, h1, h2, h3, h4⟩ := h
  refine ⟨a, b, off, cap, h1, h2, h3.1, fun j hj => ?_⟩
  have := h4 j _ (List.getElem?_eq_getElem hj)
  unfold RInt GInt at this
  rwa [Nat.mul_one] at this
/-- The same, and what its cells are as a list, for an append of it. -/
theorem ints_src {w : World} {v : Value} {l : List Int} (h : SlAt 1 (RInt w) v l) :
    ∃ (a : Option Addr) (cap : Nat), v = .slice a l.length cap ∧ (a = none → l = [] ∧ cap = 0) ∧ ∀ ad, a = some ad → ∀ (j : Nat) (u : Value), (l.map (Value.int .i64))[j]? = some u → w.cell? (ad.add j) = some u := by
  obtain ⟨a, b, off, cap, h1, h2, h3, h4⟩ := h
  refine ⟨a, cap, h1, fun e => ?_, fun ad e j u hu => ?_⟩
  · rcases h3.2 with ⟨_, hc⟩ | hc | ⟨_, hc⟩
    · exact ⟨Classical.byContradiction fun hn => (by have := h3.1 hn; rw [e] at this; cases this), hc⟩
    · rw [e] at hc; cases hc
    · exact absurd e hc
  · rcases h3.2 with ⟨hc, _⟩ | hc | ⟨hc, _⟩
    · rw [e] at hc; cases hc
    · rw [e] at hc; cases hc
      rw [List.getElem?_map] at hu
      cases hl : l[j]? with
      | none => rw [hl] at hu; cases hu
      | some x =>
        rw [hl] at hu; cases hu
        have := h4 j x hl
        unfold RInt GInt at this
        rw [Nat.mul_one] at this
        rw [show (⟨b, off, none⟩ : Addr).add j = ⟨b, off + j, none⟩ by unfold Addr.add; split <;> simp_all]
        exact this
    · subst hc; simp at hu
theorem code_open {w : World} {v : Value} {l : List LIns} (h : SlAt 3 (RIns w) v l) :
    ∃ (a : Option Addr) (b off cap : Nat), v = .slice a l.length cap ∧ l.length ≤ cap ∧ (l ≠ [] → a = some ⟨b, off, none⟩) ∧
      (∀ (j : Nat) (hj : j < l.length), w.cell? ⟨b, off + j * 3, none⟩ = some (.int .i64 l[j].op)) ∧ (∀ (j : Nat) (hj : j < l.length), w.cell? ⟨b, off + j * 3 + 1, none⟩ = some (.int .i64 l[j].a)) ∧
      (∀ (j : Nat) (hj : j < l.length), w.cell? ⟨b, off + j * 3 + 2, none⟩ = some (.int .i64 l[j].b)) := by
  obtain ⟨a, b, off, cap, h1, h2, h3, h4⟩ := h
  exact ⟨a, b, off, cap, h1, h2, h3.1, fun j hj => (h4 j _ (List.getElem?_eq_getElem hj)).1, fun j hj => (h4 j _ (List.getElem?_eq_getElem hj)).2.1, fun j hj => (h4 j _ (List.getElem?_eq_getElem hj)).2.2⟩
/-- Any slice, opened: its shape, and each element's reading. -/
theorem sl_open {α : Type} {sz : Nat} {R : α → Nat → Nat → Prop} {v : Value} {l : List α} (h : SlAt sz R v l) :
    ∃ (a : Option Addr) (b off cap : Nat), v = .slice a l.length cap ∧ l.length ≤ cap ∧ (l ≠ [] → a = some ⟨b, off, none⟩) ∧ ∀ (j : Nat) (hj : j < l.length), R l[j] b (off + j * sz) := by
  obtain ⟨a, b, off, cap, h1, h2, h3, h4⟩ := h
  exact ⟨a, b, off, cap, h1, h2, h3.1, fun j hj => h4 j _ (List.getElem?_eq_getElem hj)⟩
theorem ne_nil_of_lt {α : Type} {l : List α} {k : Nat} (h : k < l.length) : l ≠ [] := by intro e; subst e; simp at h
theorem all_snoc {α : Type} {l : List α} {f : α → Bool} {k : Nat} (h : k < l.length) : (l.take (k + 1)).all f = ((l.take k).all f && f l[k]) := by
  rw [List.take_add_one, List.getElem?_eq_getElem h, List.all_append, Option.toList_some, List.all_cons, List.all_nil, Bool.and_true]
theorem hide {p : Prop} (h : p) : Hid p := h
theorem unhide {p : Prop} (h : Hid p) : p := h

/-- A number of 64 bits. -/
def I64 (x : Int) : Prop := -9223372036854775808 ≤ x ∧ x ≤ 9223372036854775807
end Go.Proofs.Ytiiokkllmchohaa
/- Plain mathematics: what the document's words say of a program (Form), on plain Lean data. -/
namespace Go.Proofs.Ytiiokkllmchohaa
open Go.RowKit

def declB (n : Int) (t : Int) : Bool := t == 0 || (decide (3 ≤ t) && decide (t - 3 < n))
def framedB (n : Int) (t : Int) : Bool := declB n t || t == 1 || t == 2
def placeB (v n : Int) : Bool := decide (0 ≤ v) && decide (v < n)

/-- The numbers of a class and of its ancestors, from it upward. -/
def chain (p : List LClass) : Nat → Int → List Nat
  | 0, _ => []
  | f + 1, c => if c < 0 then [] else match p[c.toNat]? with
    | none => []
    | some x => c.toNat :: chain p f x.sup
def chainOf (p : List LClass) (c : Int) : List Nat := chain p (c.toNat + 1) c
def supB (c : Nat) (x : LClass) : Bool := if c = 0 then x.sup == -1 else decide (0 ≤ x.sup) && decide (x.sup < c)
/-- The first n classes have the Supers that they must have. -/
def SupOk (p : List LClass) (n : Nat) : Prop := ∀ (c : Nat) (x : LClass), c < n → p[c]? = some x → supB c x = true

theorem supB_zero {x : LClass} (h : supB 0 x = true) : x.sup = -1 := by simpa [supB] using h
theorem supB_pos {c : Nat} {x : LClass} (hc : 0 < c) (h : supB c x = true) : 0 ≤ x.sup ∧ x.sup < c := by
  unfold supB at h
  rw [if_neg (by omega)] at h
  simpa using h
theorem supB_le {c : Nat} {x : LClass} (h : supB c x = true) : -1 ≤ x.sup ∧ x.sup < c := by
  rcases Nat.eq_zero_or_pos c with rfl | hc
  · have := supB_zero h; omega
  · have := supB_pos hc h; omega

theorem chain_neg (p : List LClass) (f : Nat) {c : Int} (h : c < 0) : chain p f c = [] := by
  cases f with
  | zero => rfl
  | succ f => simp [chain, h]
theorem chain_fuel (p : List LClass) {n : Nat} (hs : SupOk p n) : ∀ (f g : Nat) (c : Int), c < n → c.toNat + 1 ≤ f → c.toNat + 1 ≤ g → chain p f c = chain p g c := by
  intro f
  induction f with
  | zero => intro g c _ h; omega
  | succ f ih =>
    intro g c hn hf hg
    match g, hg with
    | g + 1, hg =>
      rcases Int.lt_or_le c 0 with h | h
      · rw [chain_neg p _ h, chain_neg p _ h]
      · simp only [chain, if_neg (Int.not_lt.2 h)]
        cases hx : p[c.toNat]? with
        | none => rfl
        | some x =>
          have hb := supB_le (hs c.toNat x (by omega) hx)
          simp only
          rcases Int.lt_or_le x.sup 0 with k | k
          · rw [chain_neg p _ k, chain_neg p _ k]
          · rw [ih g x.sup (by omega) (by omega) (by omega)]
theorem chainOf_neg (p : List LClass) {c : Int} (h : c < 0) : chainOf p c = [] := chain_neg p _ h
theorem chainOf_cons (p : List LClass) {n : Nat} (hs : SupOk p n) {c : Nat} {x : LClass} (hn : c < n) (hx : p[c]? = some x) : chainOf p (c : Int) = c :: chainOf p x.sup := by
  have hb := supB_le (hs c x hn hx)
  show chain p (c + 1) (c : Int) = _
  simp only [chain]
  rw [if_neg (by omega), Int.toNat_natCast, hx]
  simp only
  rcases Int.lt_or_le x.sup 0 with k | k
  · rw [chain_neg p _ k, chainOf_neg p k]
  · unfold chainOf
    rw [chain_fuel p hs c (x.sup.toNat + 1) x.sup (by omega) (by omega) (by omega)]

/-- Fields, inherited ones first. -/
def ownFields (p : List LClass) (c : Nat) : List Int := ((p[c]?).map (·.fields)).getD []
def fieldsOf (p : List LClass) (c : Int) : List Int := ((chainOf p c).reverse.map (ownFields p)).flatten
def slotIn (ms : List LMeth) (slot : Int) : Option Nat := ms.findIdx? (fun m => m.slot == slot)
def ownSlot (p : List LClass) (slot : Int) (c : Nat) : Option (Nat × Nat) := (p[c]?).bind fun x => (slotIn x.meths slot).map fun k => (c, k)
/-- The method of a class and a slot: whose, which. -/
def methOf (p : List LClass) (c slot : Int) : Option (Nat × Nat) := (chainOf p c).findSome? (ownSlot p slot)
def methAt (p : List LClass) (ck : Nat × Nat) : Option LMeth := (p[ck.1]?).bind fun x => x.meths[ck.2]?

theorem slotIn_some {ms : List LMeth} {slot : Int} {k : Nat} (hk : k < ms.length) (h : ms[k].slot = slot) (hb : ∀ (j : Nat) (hj : j < ms.length), j < k → ms[j].slot ≠ slot) : slotIn ms slot = some k := by
  unfold slotIn
  rw [List.findIdx?_eq_some_iff_getElem]
  refine ⟨hk, by simpa using h, fun j hj => ?_⟩
  simpa using hb j (by omega) hj
theorem slotIn_none {ms : List LMeth} {slot : Int} (hb : ∀ (j : Nat) (hj : j < ms.length), ms[j].slot ≠ slot) : slotIn ms slot = none := by
  unfold slotIn
  rw [List.findIdx?_eq_none_iff]
  intro m hm
  obtain ⟨j, hj, rfl⟩ := List.getElem_of_mem hm
  simpa using hb j hj
theorem methOf_neg (p : List LClass) {c : Int} (slot : Int) (h : c < 0) : methOf p c slot = none := by
  unfold methOf; rw [chainOf_neg p h]; rfl
theorem methOf_step (p : List LClass) {n : Nat} (hs : SupOk p n) {c : Nat} {x : LClass} (slot : Int) (hn : c < n) (hx : p[c]? = some x) :
    methOf p (c : Int) slot = match slotIn x.meths slot with
      | some k => some (c, k)
      | none => methOf p x.sup slot := by
  unfold methOf
  rw [chainOf_cons p hs hn hx, List.findSome?_cons]
  have e : ownSlot p slot c = (slotIn x.meths slot).map fun k => (c, k) := by unfold ownSlot; rw [hx]; rfl
  rw [e]
  cases slotIn x.meths slot <;> rfl
theorem slotIn_at {ms : List LMeth} {slot : Int} {k : Nat} (h : slotIn ms slot = some k) : ∃ o, ms[k]? = some o ∧ o.slot = slot := by
  unfold slotIn at h
  rw [List.findIdx?_eq_some_iff_getElem] at h
  obtain ⟨hk, hs, _⟩ := h
  exact ⟨_, List.getElem?_eq_getElem hk, by simpa using hs⟩
theorem methOf_some (p : List LClass) {n : Nat} (hs : SupOk p n) (slot : Int) {i j : Nat} : ∀ (c : Nat), c < n → methOf p (c : Int) slot = some (i, j) → ∃ y o, p[i]? = some y ∧ y.meths[j]? = some o ∧ i ≤ c ∧ o.slot = slot := by
  intro c
  induction c using Nat.strongRecOn with
  | ind c ih =>
    intro hn h
    cases hx : p[c]? with
    | none =>
      unfold methOf chainOf chain at h
      rw [if_neg (by omega), Int.toNat_natCast, hx] at h
      simp at h
    | some x =>
      rw [methOf_step p hs slot hn hx] at h
      have hb := supB_le (hs c x hn hx)
      cases hk : slotIn x.meths slot with
      | some k =>
        rw [hk] at h
        cases h
        obtain ⟨o, h1, h2⟩ := slotIn_at hk
        exact ⟨x, o, hx, h1, Nat.le_refl _, h2⟩
      | none =>
        rw [hk] at h
        simp only at h
        rcases Int.lt_or_le x.sup 0 with g | g
        · rw [methOf_neg p slot g] at h; cases h
        · obtain ⟨d, hd⟩ := Int.eq_ofNat_of_zero_le g
          rw [hd] at h
          obtain ⟨y, o, h1, h2, h3, h4⟩ := ih d (by omega) (by omega) h
          exact ⟨y, o, h1, h2, by omega, h4⟩
theorem fieldsOf_step (p : List LClass) {n : Nat} (hs : SupOk p n) {c : Nat} {x : LClass} (hn : c < n) (hx : p[c]? = some x) : fieldsOf p (c : Int) = fieldsOf p x.sup ++ x.fields := by
  unfold fieldsOf
  rw [chainOf_cons p hs hn hx]
  simp [ownFields, hx]
theorem fieldsOf_neg (p : List LClass) {c : Int} (h : c < 0) : fieldsOf p c = [] := by unfold fieldsOf; rw [chainOf_neg p h]; rfl

def overB (p : List LClass) (x : LClass) (m : LMeth) : Bool :=
  match methOf p x.sup m.slot with
  | none => true
  | some ck => match methAt p ck with
    | none => true
    | some o => o.args == m.args && o.ret == m.ret
def bareB (n : Nat) (m : LMeth) : Bool :=
  decide (0 ≤ m.slot) && decide (m.slot ≤ 5) && decide (m.args.length ≤ 3) && m.args.all (declB n) && declB n m.ret && decide (1 + m.args.length ≤ m.locals) && decide (m.locals ≤ 8) && decide (0 ≤ m.stack) && decide (m.stack ≤ 8)
def headB (p : List LClass) (x : LClass) (k : Nat) (m : LMeth) : Bool :=
  bareB p.length m && ((x.meths.take k).all fun o => !(o.slot == m.slot)) && overB p x m
theorem bareB_iff {n : Nat} {m : LMeth} : bareB n m = true ↔ (0 ≤ m.slot ∧ m.slot ≤ 5 ∧ m.args.length ≤ 3 ∧ m.args.all (declB n) = true ∧ declB n m.ret = true ∧ 1 + m.args.length ≤ m.locals ∧ m.locals ≤ 8 ∧ 0 ≤ m.stack ∧ m.stack ≤ 8) := by
  unfold bareB
  simp only [Bool.and_eq_true, decide_eq_true_eq, and_assoc]
theorem head_no {p : List LClass} {x : LClass} {k : Nat} {m : LMeth} (h : ¬ (0 ≤ m.slot ∧ m.slot ≤ 5 ∧ m.args.length ≤ 3 ∧ m.args.all (declB p.length) = true ∧ declB p.length m.ret = true ∧ 1 + m.args.length ≤ m.locals ∧ m.locals ≤ 8 ∧ 0 ≤ m.stack ∧ m.stack ≤ 8)) : headB p x k m = false := by
  unfold headB
  rw [Bool.eq_false_iff.2 (fun e => h (bareB_iff.1 e))]
  rfl
theorem head_dup {p : List LClass} {x : LClass} {k : Nat} {m : LMeth} {i : Nat} (hi : i < x.meths.length) (hik : i < k) (h : x.meths[i].slot = m.slot) : headB p x k m = false := by
  unfold headB
  rw [show ((x.meths.take k).all fun o => !(o.slot == m.slot)) = false from ?_]
  · simp
  · rw [List.all_eq_false]
    exact ⟨x.meths[i], by rw [List.mem_iff_getElem]; exact ⟨i, by rw [List.length_take]; omega, by rw [List.getElem_take]⟩, by simp [h]⟩
theorem head_eq {p : List LClass} {x : LClass} {k : Nat} {m : LMeth} (hb : bareB p.length m = true) (h : ∀ (j : Nat) (hj : j < x.meths.length), j < k → x.meths[j].slot ≠ m.slot) : headB p x k m = overB p x m := by
  unfold headB
  rw [hb, show ((x.meths.take k).all fun o => !(o.slot == m.slot)) = true from ?_]
  · simp
  · rw [List.all_eq_true]
    intro o ho
    obtain ⟨j, hj, rfl⟩ := List.getElem_of_mem ho
    rw [List.getElem_take]
    rw [List.length_take] at hj
    simpa using h j (by omega) (by omega)
def restB (p : List LClass) (c : Nat) (x : LClass) : Bool :=
  x.fields.all (declB p.length) && decide ((fieldsOf p c).length ≤ 8) && decide (x.meths.length ≤ 6) && (List.range x.meths.length).all fun k => match x.meths[k]? with
    | none => true
    | some m => headB p x k m
def classB (p : List LClass) (c : Nat) : Bool := match p[c]? with
  | none => true
  | some x => supB c x && restB p c x
def insB (p : List LClass) (m : LMeth) (i : LIns) : Bool :=
  if i.op = 0 then i.b == 0
  else if i.op = 1 ∨ i.op = 2 then placeB i.a m.locals && i.b == 0
  else if i.op = 7 ∨ i.op = 8 ∨ i.op = 18 then placeB i.a m.code.length && i.b == 0
  else if i.op = 9 ∨ i.op = 17 then placeB i.a p.length && i.b == 0
  else if i.op = 10 ∨ i.op = 11 then placeB i.a p.length && placeB i.b (fieldsOf p i.a).length
  else if i.op = 12 then placeB i.a p.length && (methOf p i.a i.b).isSome
  else placeB i.op 21 && i.a == 0 && i.b == 0
def frameB (n : Nat) (m : LMeth) (f : LFrame) : Bool :=
  decide (f.pc < m.code.length) && decide ((f.locals.length : Int) = m.locals) && decide ((f.stack.length : Int) ≤ m.stack) && f.locals.all (framedB n) && f.stack.all (framedB n)
def framesB (n : Nat) (m : LMeth) : Int → List LFrame → Bool
  | _, [] => true
  | last, f :: r => decide (last < f.pc) && frameB n m f && framesB n m f.pc r
def codeB (p : List LClass) (m : LMeth) : Bool :=
  decide (1 ≤ m.code.length) && decide (m.code.length ≤ 40) && decide (m.frames.length ≤ 40) && m.code.all (insB p m) && framesB p.length m (-1) m.frames
def formI (p : List LClass) : Int :=
  if p.length < 1 ∨ 6 < p.length then 2
  else if (List.range p.length).all (classB p) then
    if p.all (fun x => x.meths.all (codeB p)) then 0 else 3
  else 2

/-- All numbers of a program are of 64 bits. -/
def wfFrame (f : LFrame) : Prop := I64 f.pc ∧ (∀ x ∈ f.locals, I64 x) ∧ ∀ x ∈ f.stack, I64 x
def wfIns (i : LIns) : Prop := I64 i.op ∧ I64 i.a ∧ I64 i.b
def wfMeth (m : LMeth) : Prop := I64 m.slot ∧ (∀ x ∈ m.args, I64 x) ∧ I64 m.ret ∧ I64 m.locals ∧ I64 m.stack ∧ (∀ i ∈ m.code, wfIns i) ∧ ∀ f ∈ m.frames, wfFrame f
def wfClass (x : LClass) : Prop := I64 x.sup ∧ (∀ t ∈ x.fields, I64 t) ∧ ∀ m ∈ x.meths, wfMeth m
def wfProg (p : List LClass) : Prop := ∀ x ∈ p, wfClass x
/-- How much a program holds. -/
def szFrame (f : LFrame) : Nat := f.locals.length + f.stack.length + 4
def szMeth (m : LMeth) : Nat := m.args.length + 4 * m.code.length + (m.frames.map szFrame).sum + 8
def szClass (x : LClass) : Nat := x.fields.length + (x.meths.map szMeth).sum + 4
def szProg (p : List LClass) : Nat := (p.map szClass).sum

theorem le_sum_map {α : Type} (f : α → Nat) : ∀ (l : List α) (x : α), x ∈ l → f x ≤ (l.map f).sum
  | [], x, h => by simp at h
  | y :: r, x, h => by
    simp only [List.map_cons, List.sum_cons]
    rcases List.mem_cons.1 h with rfl | h
    · omega
    · have := le_sum_map f r x h; omega
theorem length_le_sum_map {α : Type} (f : α → Nat) (hf : ∀ x, 1 ≤ f x) : ∀ (l : List α), l.length ≤ (l.map f).sum
  | [] => by simp
  | y :: r => by
    simp only [List.map_cons, List.sum_cons, List.length_cons]
    have := length_le_sum_map f hf r
    have := hf y
    omega
theorem szProg_len (p : List LClass) : p.length ≤ szProg p := length_le_sum_map _ (fun x => by unfold szClass; omega) p
theorem szClass_le {p : List LClass} {x : LClass} (h : x ∈ p) : szClass x ≤ szProg p := le_sum_map _ p x h
theorem szMeth_le {x : LClass} {m : LMeth} (h : m ∈ x.meths) : szMeth m ≤ szClass x := by
  have := le_sum_map szMeth _ m h
  unfold szClass; omega
theorem szFields_le (x : LClass) : x.fields.length ≤ szClass x := by unfold szClass; omega
theorem szMeths_le (x : LClass) : x.meths.length ≤ szClass x := by
  have := length_le_sum_map szMeth (fun m => by unfold szMeth; omega) x.meths
  unfold szClass; omega
theorem sum_take_le {α : Type} (f : α → Nat) (k : Nat) (l : List α) : ((l.take k).map f).sum ≤ (l.map f).sum := by
  have := List.take_append_drop k l
  conv => rhs; rw [← this]
  rw [List.map_append, List.sum_append]; omega
theorem fieldsOf_len (p : List LClass) {n : Nat} (hs : SupOk p n) : ∀ (c : Nat), c < n → (fieldsOf p (c : Int)).length ≤ ((p.take (c + 1)).map szClass).sum := by
  intro c
  induction c using Nat.strongRecOn with
  | ind c ih =>
    intro hn
    rcases Nat.lt_or_ge c p.length with hc | hc
    · have hx := List.getElem?_eq_getElem hc
      have hb := supB_le (hs c _ hn hx)
      rw [fieldsOf_step p hs hn hx, List.take_add_one, hx, List.map_append, List.sum_append, List.length_append]
      have h0 : szClass p[c] = ((Option.toList (some p[c])).map szClass).sum := by simp
      have h1 := szFields_le p[c]
      rcases Int.lt_or_le p[c].sup 0 with g | g
      · rw [fieldsOf_neg p g]; simp only [List.length_nil]; omega
      · obtain ⟨k, hk⟩ := Int.eq_ofNat_of_zero_le g
        rw [hk]
        have := ih k (by omega) (by omega)
        have h2 : ((p.take (k + 1)).map szClass).sum ≤ ((p.take c).map szClass).sum := by
          have : p.take (k + 1) = (p.take c).take (k + 1) := by rw [List.take_take]; congr 1; omega
          rw [this]
          exact sum_take_le szClass (k + 1) (p.take c)
        omega
    · unfold fieldsOf chainOf chain
      rw [if_neg (by omega), Int.toNat_natCast, List.getElem?_eq_none hc]
      simp
theorem fieldsOf_sz (p : List LClass) {n : Nat} (hs : SupOk p n) {c : Nat} (hn : c < n) : (fieldsOf p (c : Int)).length ≤ szProg p := by
  refine Nat.le_trans (fieldsOf_len p hs c hn) ?_
  have := List.take_append_drop (c + 1) p
  unfold szProg
  conv => rhs; rw [← this]
  rw [List.map_append, List.sum_append]; omega
theorem szFrame_le {m : LMeth} {f : LFrame} (h : f ∈ m.frames) : szFrame f ≤ szMeth m := by
  have := le_sum_map szFrame _ f h
  unfold szMeth; omega
theorem szFrames_le (m : LMeth) : m.frames.length ≤ szMeth m := by
  have := length_le_sum_map szFrame (fun m => by unfold szFrame; omega) m.frames
  unfold szMeth; omega
end Go.Proofs.Ytiiokkllmchohaa
