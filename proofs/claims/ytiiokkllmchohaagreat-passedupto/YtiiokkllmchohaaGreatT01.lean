/- The data of programs as plain Lean values, and what it means that a value of the machine's memory holds them; that such a reading stays while old blocks stay. -/
import Derived.WalkKit
import Derived.WalkSpells
import Derived.WalkLawsBesides
import Derived.Test.YtiiokkllmchohaaGreatRows
import Derived.Deep.QuietTactic
import Derived.BigQuiet
import Derived.Deep.LoopGhost
import Derived.Deep.RegionHeld3
import Derived.Maps.AppendAt
import Derived.Deep.DrawnRows
import Derived.Laws.CopyRow
import Derived.Laws.MakeOwn
namespace Go.Proofs.YtiiokkllmchohaaGreat
open Go.RowKit
structure LIns where
 op : Int
 a : Int
 b : Int
structure LFrame where
 pc : Int
 locals : List Int
 stack : List Int
structure LMeth where
 slot : Int
 args : List Int
 ret : Int
 locals : Int
 stack : Int
 code : List LIns
 frames : List LFrame
structure LClass where
 sup : Int
 fields : List Int
 meths : List LMeth

def SlAt {α : Type} (sz : Nat) (R : α → Nat → Nat → Prop) (v : Value) (l : List α) : Prop :=
 ∃ (a : Option Addr) (b off cap : Nat), v = .slice a l.length cap ∧ l.length ≤ cap ∧ ((l ≠ [] → a = some ⟨b, off, none⟩) ∧ (a = none ∧ cap = 0 ∨ a = some ⟨b, off, none⟩ ∨ l = [] ∧ a ≠ none)) ∧ ∀ (j : Nat) (x : α), l[j]? = some x → R x b (off + j * sz)

def GInt (g : Addr → Option Value) (x : Int) (b o : Nat) : Prop := g ⟨b, o, none⟩ = some (.int .i64 x)
def GIns (g : Addr → Option Value) (x : LIns) (b o : Nat) : Prop :=
 g ⟨b, o, none⟩ = some (.int .i64 x.op) ∧ g ⟨b, o + 1, none⟩ = some (.int .i64 x.a) ∧ g ⟨b, o + 2, none⟩ = some (.int .i64 x.b)
def GFrame (g : Addr → Option Value) (x : LFrame) (b o : Nat) : Prop :=
 ∃ vl vs, g ⟨b, o, none⟩ = some (.int .i64 x.pc) ∧ g ⟨b, o + 1, none⟩ = some vl ∧ g ⟨b, o + 2, none⟩ = some vs ∧
  SlAt 1 (GInt g) vl x.locals ∧ SlAt 1 (GInt g) vs x.stack
def GVals (g : Addr → Option Value) (x : LMeth) (va vc vf : Value) : Prop :=
 SlAt 1 (GInt g) va x.args ∧ SlAt 3 (GIns g) vc x.code ∧ SlAt 3 (GFrame g) vf x.frames
def GMeth (g : Addr → Option Value) (x : LMeth) (b o : Nat) : Prop :=
 ∃ va vc vf, GVals g x va vc vf ∧ g ⟨b, o, none⟩ = some (.int .i64 x.slot) ∧ g ⟨b, o + 1, none⟩ = some va ∧ g ⟨b, o + 2, none⟩ = some (.int .i64 x.ret) ∧
  g ⟨b, o + 3, none⟩ = some (.int .i64 x.locals) ∧ g ⟨b, o + 4, none⟩ = some (.int .i64 x.stack) ∧ g ⟨b, o + 5, none⟩ = some vc ∧ g ⟨b, o + 6, none⟩ = some vf
def GClass (g : Addr → Option Value) (x : LClass) (b o : Nat) : Prop :=
 ∃ vf vm, g ⟨b, o, none⟩ = some (.int .i64 x.sup) ∧ g ⟨b, o + 1, none⟩ = some vf ∧ g ⟨b, o + 2, none⟩ = some vm ∧
  SlAt 1 (GInt g) vf x.fields ∧ SlAt 7 (GMeth g) vm x.meths
abbrev RInt (w : World) : Int → Nat → Nat → Prop := GInt w.cell?
abbrev RIns (w : World) : LIns → Nat → Nat → Prop := GIns w.cell?
abbrev RFrame (w : World) : LFrame → Nat → Nat → Prop := GFrame w.cell?
abbrev MVals (w : World) (x : LMeth) (va vc vf : Value) : Prop := GVals w.cell? x va vc vf
abbrev RMeth (w : World) : LMeth → Nat → Nat → Prop := GMeth w.cell?
abbrev RClass (w : World) : LClass → Nat → Nat → Prop := GClass w.cell?
abbrev RProg (w : World) (vc : Value) (p : List LClass) : Prop := SlAt 3 (RClass w) vc p

theorem SlAt.mono {α : Type} {sz : Nat} {R R' : α → Nat → Nat → Prop} {v : Value} {l : List α} (h : SlAt sz R v l) (k : ∀ x b o, R x b o → R' x b o) : SlAt sz R' v l := by
 obtain ⟨a, b, off, cap, h1, h2, h3, h4⟩ := h
 exact ⟨a, b, off, cap, h1, h2, h3, fun j x hj => k _ _ _ (h4 j x hj)⟩

def GLe (g g' : Addr → Option Value) : Prop := ∀ p v, g p = some v → g' p = some v
theorem GLe.trans {a b c : Addr → Option Value} (h : GLe a b) (k : GLe b c) : GLe a c := fun p v e => k p v (h p v e)
abbrev Keeps (w w' : World) : Prop := GLe w.cell? w'.cell?
theorem Keeps.trans {a b c : World} (h : Keeps a b) (k : Keeps b c) : Keeps a c := fun p v e => k p v (h p v e)
theorem cell_lt {w : World} {p : Addr} {v : Value} (h : w.cell? p = some v) : p.block < w.heap.size := by
 unfold World.cell? at h
 rcases Nat.lt_or_ge p.block w.heap.size with g | g
 ·exact g
 ·rw [Array.getElem?_eq_none g] at h; simp at h
theorem Keeps.of_below {w w' : World} (h : Below w.heap.size w w') : Keeps w w' := fun p v e => by rw [h.cell (cell_lt e)]; exact e

section
variable {g g' : Addr → Option Value}
theorem GInt.keep (h : GLe g g') {x : Int} {b o : Nat} (r : GInt g x b o) : GInt g' x b o := h _ _ r
theorem ints_keep (h : GLe g g') {v : Value} {l : List Int} (r : SlAt 1 (GInt g) v l) : SlAt 1 (GInt g') v l := r.mono fun _ _ _ => GInt.keep h
theorem GIns.keep (h : GLe g g') {x : LIns} {b o : Nat} (r : GIns g x b o) : GIns g' x b o := ⟨h _ _ r.1, h _ _ r.2.1, h _ _ r.2.2⟩
theorem GFrame.keep (h : GLe g g') {x : LFrame} {b o : Nat} (r : GFrame g x b o) : GFrame g' x b o := by
 obtain ⟨vl, vs, h1, h2, h3, h4, h5⟩ := r
 exact ⟨vl, vs, h _ _ h1, h _ _ h2, h _ _ h3, ints_keep h h4, ints_keep h h5⟩
theorem code_keep (h : GLe g g') {v : Value} {l : List LIns} (r : SlAt 3 (GIns g) v l) : SlAt 3 (GIns g') v l := r.mono fun _ _ _ => GIns.keep h
theorem frames_keep (h : GLe g g') {v : Value} {l : List LFrame} (r : SlAt 3 (GFrame g) v l) : SlAt 3 (GFrame g') v l := r.mono fun _ _ _ => GFrame.keep h
theorem GVals.keep (h : GLe g g') {x : LMeth} {va vc vf : Value} (r : GVals g x va vc vf) : GVals g' x va vc vf := ⟨ints_keep h r.1, code_keep h r.2.1, frames_keep h r.2.2⟩
theorem GMeth.keep (h : GLe g g') {x : LMeth} {b o : Nat} (r : GMeth g x b o) : GMeth g' x b o := by
 obtain ⟨va, vc, vf, h0, h1, h2, h3, h4, h5, h6, h7⟩ := r
 exact ⟨va, vc, vf, h0.keep h, h _ _ h1, h _ _ h2, h _ _ h3, h _ _ h4, h _ _ h5, h _ _ h6, h _ _ h7⟩
theorem meths_keep (h : GLe g g') {v : Value} {l : List LMeth} (r : SlAt 7 (GMeth g) v l) : SlAt 7 (GMeth g') v l := r.mono fun _ _ _ => GMeth.keep h
theorem GClass.keep (h : GLe g g') {x : LClass} {b o : Nat} (r : GClass g x b o) : GClass g' x b o := by
 obtain ⟨vf, vm, h1, h2, h3, h4, h5⟩ := r
 exact ⟨vf, vm, h _ _ h1, h _ _ h2, h _ _ h3, ints_keep h h4, meths_keep h h5⟩
theorem prog_keep (h : GLe g g') {v : Value} {l : List LClass} (r : SlAt 3 (GClass g) v l) : SlAt 3 (GClass g') v l := r.mono fun _ _ _ => GClass.keep h
end

theorem box_cell (w : World) (cs : Array Value) (t : TypeId) (i : Nat) : (w.alloc (.cells cs t)).cell? ⟨w.heap.size, i, none⟩ = cs[i]? := by
 show (match (w.heap.push (Obj.cells cs t))[w.heap.size]? with | some (.cells c _ _) => if (none : Option Nat).isSome then none else c[i]? | _ => none) = _
 rw [Array.getElem?_push_size]; rfl
theorem box_below (w : World) (o : Obj) : Below w.heap.size w (w.alloc o) := (Below.refl _ _).alloc (Nat.le_refl _) _
theorem box_keeps (w : World) (o : Obj) : Keeps w (w.alloc o) := Keeps.of_below (box_below w o)
theorem box2_below (w : World) (o o' : Obj) : Below w.heap.size w ((w.alloc o).alloc o') := (box_below w o).alloc (box_below w o).size _
theorem box2_fst (w : World) (cs : Array Value) (t : TypeId) (o' : Obj) (i : Nat) : ((w.alloc (.cells cs t)).alloc o').cell? ⟨w.heap.size, i, none⟩ = cs[i]? := by
 rw [World.cell?_alloc_lt _ _ _ (by simp)]; exact box_cell w cs t i
theorem box2_snd (w : World) (o : Obj) (cs : Array Value) (t : TypeId) (i : Nat) : ((w.alloc o).alloc (.cells cs t)).cell? ⟨w.heap.size + 1, i, none⟩ = cs[i]? := by
 have := box_cell (w.alloc o) cs t i
 rwa [show (w.alloc o).heap.size = w.heap.size + 1 by simp] at this
theorem ret_bool {a b : Bool} (h : a = b) : Ending.returned (.bool a) = .returned (.bool b) := by rw [h]
theorem ret_int {k : IntKind} {a b : Int} (h : a = b) : Ending.returned (.int k a) = .returned (.int k b) := by rw [h]

theorem ints_open {w : World} {v : Value} {l : List Int} (h : SlAt 1 (RInt w) v l) :
  ∃ (a : Option Addr) (b off cap : Nat), v = .slice a l.length cap ∧ l.length ≤ cap ∧ (l ≠ [] → a = some ⟨b, off, none⟩) ∧ ∀ (j : Nat) (hj : j < l.length), w.cell? ⟨b, off + j, none⟩ = some (.int .i64 l[j]) := by
 obtain ⟨a, b, off, cap, h1, h2, h3, h4⟩ := h
 refine ⟨a, b, off, cap, h1, h2, h3.1, fun j hj => ?_⟩
 have := h4 j _ (List.getElem?_eq_getElem hj)
 unfold RInt GInt at this
 rwa [Nat.mul_one] at this
theorem ints_src {w : World} {v : Value} {l : List Int} (h : SlAt 1 (RInt w) v l) :
  ∃ (a : Option Addr) (cap : Nat), v = .slice a l.length cap ∧ (a = none → l = [] ∧ cap = 0) ∧ ∀ ad, a = some ad → ∀ (j : Nat) (u : Value), (l.map (Value.int .i64))[j]? = some u → w.cell? (ad.add j) = some u := by
 obtain ⟨a, b, off, cap, h1, h2, h3, h4⟩ := h
 refine ⟨a, cap, h1, fun e => ?_, fun ad e j u hu => ?_⟩
 ·rcases h3.2 with ⟨_, hc⟩ | hc | ⟨_, hc⟩
  ·exact ⟨Classical.byContradiction fun hn => (by have := h3.1 hn; rw [e] at this; cases this), hc⟩
  ·rw [e] at hc; cases hc
  ·exact absurd e hc
 ·rcases h3.2 with ⟨hc, _⟩ | hc | ⟨hc, _⟩
  ·rw [e] at hc; cases hc
  ·rw [e] at hc; cases hc
   rw [List.getElem?_map] at hu
   cases hl : l[j]? with
   | none => rw [hl] at hu; cases hu
   | some x =>
    rw [hl] at hu; cases hu
    have := h4 j x hl
    unfold RInt GInt at this
    rw [Nat.mul_one] at this
    rw [show (⟨b, off, none⟩ : Addr).add j = ⟨b, off + j, none⟩ by unfold Addr.add; split <;> simp_all]
    exact this
  ·subst hc; simp at hu
theorem code_open {w : World} {v : Value} {l : List LIns} (h : SlAt 3 (RIns w) v l) :
  ∃ (a : Option Addr) (b off cap : Nat), v = .slice a l.length cap ∧ l.length ≤ cap ∧ (l ≠ [] → a = some ⟨b, off, none⟩) ∧
   (∀ (j : Nat) (hj : j < l.length), w.cell? ⟨b, off + j * 3, none⟩ = some (.int .i64 l[j].op)) ∧ (∀ (j : Nat) (hj : j < l.length), w.cell? ⟨b, off + j * 3 + 1, none⟩ = some (.int .i64 l[j].a)) ∧
   (∀ (j : Nat) (hj : j < l.length), w.cell? ⟨b, off + j * 3 + 2, none⟩ = some (.int .i64 l[j].b)) := by
 obtain ⟨a, b, off, cap, h1, h2, h3, h4⟩ := h
 exact ⟨a, b, off, cap, h1, h2, h3.1, fun j hj => (h4 j _ (List.getElem?_eq_getElem hj)).1, fun j hj => (h4 j _ (List.getElem?_eq_getElem hj)).2.1, fun j hj => (h4 j _ (List.getElem?_eq_getElem hj)).2.2⟩
theorem sl_open {α : Type} {sz : Nat} {R : α → Nat → Nat → Prop} {v : Value} {l : List α} (h : SlAt sz R v l) :
  ∃ (a : Option Addr) (b off cap : Nat), v = .slice a l.length cap ∧ l.length ≤ cap ∧ (l ≠ [] → a = some ⟨b, off, none⟩) ∧ ∀ (j : Nat) (hj : j < l.length), R l[j] b (off + j * sz) := by
 obtain ⟨a, b, off, cap, h1, h2, h3, h4⟩ := h
 exact ⟨a, b, off, cap, h1, h2, h3.1, fun j hj => h4 j _ (List.getElem?_eq_getElem hj)⟩
theorem ne_nil_of_lt {α : Type} {l : List α} {k : Nat} (h : k < l.length) : l ≠ [] := by intro e; subst e; simp at h
theorem all_snoc {α : Type} {l : List α} {f : α → Bool} {k : Nat} (h : k < l.length) : (l.take (k + 1)).all f = ((l.take k).all f && f l[k]) := by
 rw [List.take_add_one, List.getElem?_eq_getElem h, List.all_append, Option.toList_some, List.all_cons, List.all_nil, Bool.and_true]
theorem hide {p : Prop} (h : p) : Hid p := h
theorem unhide {p : Prop} (h : Hid p) : p := h

def I64 (x : Int) : Prop := -9223372036854775808 ≤ x ∧ x ≤ 9223372036854775807
def declB (n : Int) (t : Int) : Bool := t == 0 || (decide (3 ≤ t) && decide (t - 3 < n))
def framedB (n : Int) (t : Int) : Bool := declB n t || t == 1 || t == 2
def placeB (v n : Int) : Bool := decide (0 ≤ v) && decide (v < n)

def chain (p : List LClass) : Nat → Int → List Nat
 | 0, _ => []
 | f + 1, c => if c < 0 then [] else match p[c.toNat]? with
  | none => []
  | some x => c.toNat :: chain p f x.sup
def chainOf (p : List LClass) (c : Int) : List Nat := chain p (c.toNat + 1) c
def supB (c : Nat) (x : LClass) : Bool := if c = 0 then x.sup == -1 else decide (0 ≤ x.sup) && decide (x.sup < c)
def SupOk (p : List LClass) (n : Nat) : Prop := ∀ (c : Nat) (x : LClass), c < n → p[c]? = some x → supB c x = true

theorem supB_zero {x : LClass} (h : supB 0 x = true) : x.sup = -1 := by simpa [supB] using h
theorem supB_pos {c : Nat} {x : LClass} (hc : 0 < c) (h : supB c x = true) : 0 ≤ x.sup ∧ x.sup < c := by
 unfold supB at h
 rw [if_neg (by omega)] at h
 simpa using h
theorem supB_le {c : Nat} {x : LClass} (h : supB c x = true) : -1 ≤ x.sup ∧ x.sup < c := by
 rcases Nat.eq_zero_or_pos c with rfl | hc
 ·have := supB_zero h; omega
 ·have := supB_pos hc h; omega

theorem chain_neg (p : List LClass) (f : Nat) {c : Int} (h : c < 0) : chain p f c = [] := by
 cases f with
 | zero => rfl
 | succ f => simp [chain, h]
theorem chain_fuel (p : List LClass) {n : Nat} (hs : SupOk p n) : ∀ (f g : Nat) (c : Int), c < n → c.toNat + 1 ≤ f → c.toNat + 1 ≤ g → chain p f c = chain p g c := by
 intro f
 induction f with
 | zero => intro g c _ h; omega
 | succ f ih =>
  intro g c hn hf hg
  match g, hg with
  | g + 1, hg =>
   rcases Int.lt_or_le c 0 with h | h
   ·rw [chain_neg p _ h, chain_neg p _ h]
   ·simp only [chain, if_neg (Int.not_lt.2 h)]
    cases hx : p[c.toNat]? with
    | none => rfl
    | some x =>
     have hb := supB_le (hs c.toNat x (by omega) hx)
     simp only
     rcases Int.lt_or_le x.sup 0 with k | k
     ·rw [chain_neg p _ k, chain_neg p _ k]
     ·rw [ih g x.sup (by omega) (by omega) (by omega)]
theorem chainOf_neg (p : List LClass) {c : Int} (h : c < 0) : chainOf p c = [] := chain_neg p _ h
theorem chainOf_cons (p : List LClass) {n : Nat} (hs : SupOk p n) {c : Nat} {x : LClass} (hn : c < n) (hx : p[c]? = some x) : chainOf p (c : Int) = c :: chainOf p x.sup := by
 have hb := supB_le (hs c x hn hx)
 show chain p (c + 1) (c : Int) = _
 simp only [chain]
 rw [if_neg (by omega), Int.toNat_natCast, hx]
 simp only
 rcases Int.lt_or_le x.sup 0 with k | k
 ·rw [chain_neg p _ k, chainOf_neg p k]
 ·unfold chainOf
  rw [chain_fuel p hs c (x.sup.toNat + 1) x.sup (by omega) (by omega) (by omega)]

def ownFields (p : List LClass) (c : Nat) : List Int := ((p[c]?).map (·.fields)).getD []
def fieldsOf (p : List LClass) (c : Int) : List Int := ((chainOf p c).reverse.map (ownFields p)).flatten
def slotIn (ms : List LMeth) (slot : Int) : Option Nat := ms.findIdx? (fun m => m.slot == slot)
def ownSlot (p : List LClass) (slot : Int) (c : Nat) : Option (Nat × Nat) := (p[c]?).bind fun x => (slotIn x.meths slot).map fun k => (c, k)
def methOf (p : List LClass) (c slot : Int) : Option (Nat × Nat) := (chainOf p c).findSome? (ownSlot p slot)
def methAt (p : List LClass) (ck : Nat × Nat) : Option LMeth := (p[ck.1]?).bind fun x => x.meths[ck.2]?

theorem slotIn_some {ms : List LMeth} {slot : Int} {k : Nat} (hk : k < ms.length) (h : ms[k].slot = slot) (hb : ∀ (j : Nat) (hj : j < ms.length), j < k → ms[j].slot ≠ slot) : slotIn ms slot = some k := by
 unfold slotIn
 rw [List.findIdx?_eq_some_iff_getElem]
 refine ⟨hk, by simpa using h, fun j hj => ?_⟩
 simpa using hb j (by omega) hj
theorem slotIn_none {ms : List LMeth} {slot : Int} (hb : ∀ (j : Nat) (hj : j < ms.length), ms[j].slot ≠ slot) : slotIn ms slot = none := by
 unfold slotIn
 rw [List.findIdx?_eq_none_iff]
 intro m hm
 obtain ⟨j, hj, rfl⟩ := List.getElem_of_mem hm
 simpa using hb j hj
theorem methOf_neg (p : List LClass) {c : Int} (slot : Int) (h : c < 0) : methOf p c slot = none := by
 unfold methOf; rw [chainOf_neg p h]; rfl
theorem methOf_step (p : List LClass) {n : Nat} (hs : SupOk p n) {c : Nat} {x : LClass} (slot : Int) (hn : c < n) (hx : p[c]? = some x) :
  methOf p (c : Int) slot = match slotIn x.meths slot with
   | some k => some (c, k)
   | none => methOf p x.sup slot := by
 unfold methOf
 rw [chainOf_cons p hs hn hx, List.findSome?_cons]
 have e : ownSlot p slot c = (slotIn x.meths slot).map fun k => (c, k) := by unfold ownSlot; rw [hx]; rfl
 rw [e]
 cases slotIn x.meths slot <;> rfl
theorem slotIn_at {ms : List LMeth} {slot : Int} {k : Nat} (h : slotIn ms slot = some k) : ∃ o, ms[k]? = some o ∧ o.slot = slot := by
 unfold slotIn at h
 rw [List.findIdx?_eq_some_iff_getElem] at h
 obtain ⟨hk, hs, _⟩ := h
 exact ⟨_, List.getElem?_eq_getElem hk, by simpa using hs⟩
theorem methOf_some (p : List LClass) {n : Nat} (hs : SupOk p n) (slot : Int) {i j : Nat} : ∀ (c : Nat), c < n → methOf p (c : Int) slot = some (i, j) → ∃ y o, p[i]? = some y ∧ y.meths[j]? = some o ∧ i ≤ c ∧ o.slot = slot := by
 intro c
 induction c using Nat.strongRecOn with
 | ind c ih =>
  intro hn h
  cases hx : p[c]? with
  | none =>
   unfold methOf chainOf chain at h
   rw [if_neg (by omega), Int.toNat_natCast, hx] at h
   simp at h
  | some x =>
   rw [methOf_step p hs slot hn hx] at h
   have hb := supB_le (hs c x hn hx)
   cases hk : slotIn x.meths slot with
   | some k =>
    rw [hk] at h
    cases h
    obtain ⟨o, h1, h2⟩ := slotIn_at hk
    exact ⟨x, o, hx, h1, Nat.le_refl _, h2⟩
   | none =>
    rw [hk] at h
    simp only at h
    rcases Int.lt_or_le x.sup 0 with g | g
    ·rw [methOf_neg p slot g] at h; cases h
    ·obtain ⟨d, hd⟩ := Int.eq_ofNat_of_zero_le g
     rw [hd] at h
     obtain ⟨y, o, h1, h2, h3, h4⟩ := ih d (by omega) (by omega) h
     exact ⟨y, o, h1, h2, by omega, h4⟩
theorem fieldsOf_step (p : List LClass) {n : Nat} (hs : SupOk p n) {c : Nat} {x : LClass} (hn : c < n) (hx : p[c]? = some x) : fieldsOf p (c : Int) = fieldsOf p x.sup ++ x.fields := by
 unfold fieldsOf
 rw [chainOf_cons p hs hn hx]
 simp [ownFields, hx]
theorem fieldsOf_neg (p : List LClass) {c : Int} (h : c < 0) : fieldsOf p c = [] := by unfold fieldsOf; rw [chainOf_neg p h]; rfl

def overB (p : List LClass) (x : LClass) (m : LMeth) : Bool :=
 match methOf p x.sup m.slot with
 | none => true
 | some ck => match methAt p ck with
  | none => true
  | some o => o.args == m.args && o.ret == m.ret
def bareB (n : Nat) (m : LMeth) : Bool :=
 decide (0 ≤ m.slot) && decide (m.slot ≤ 5) && decide (m.args.length ≤ 3) && m.args.all (declB n) && declB n m.ret && decide (1 + m.args.length ≤ m.locals) && decide (m.locals ≤ 8) && decide (0 ≤ m.stack) && decide (m.stack ≤ 8)
def headB (p : List LClass) (x : LClass) (k : Nat) (m : LMeth) : Bool :=
 bareB p.length m && ((x.meths.take k).all fun o => !(o.slot == m.slot)) && overB p x m
theorem bareB_iff {n : Nat} {m : LMeth} : bareB n m = true ↔ (0 ≤ m.slot ∧ m.slot ≤ 5 ∧ m.args.length ≤ 3 ∧ m.args.all (declB n) = true ∧ declB n m.ret = true ∧ 1 + m.args.length ≤ m.locals ∧ m.locals ≤ 8 ∧ 0 ≤ m.stack ∧ m.stack ≤ 8) := by
 unfold bareB
 simp only [Bool.and_eq_true, decide_eq_true_eq, and_assoc]
theorem head_no {p : List LClass} {x : LClass} {k : Nat} {m : LMeth} (h : ¬ (0 ≤ m.slot ∧ m.slot ≤ 5 ∧ m.args.length ≤ 3 ∧ m.args.all (declB p.length) = true ∧ declB p.length m.ret = true ∧ 1 + m.args.length ≤ m.locals ∧ m.locals ≤ 8 ∧ 0 ≤ m.stack ∧ m.stack ≤ 8)) : headB p x k m = false := by
 unfold headB
 rw [Bool.eq_false_iff.2 (fun e => h (bareB_iff.1 e))]
 rfl
theorem head_dup {p : List LClass} {x : LClass} {k : Nat} {m : LMeth} {i : Nat} (hi : i < x.meths.length) (hik : i < k) (h : x.meths[i].slot = m.slot) : headB p x k m = false := by
 unfold headB
 rw [show ((x.meths.take k).all fun o => !(o.slot == m.slot)) = false from ?_]
 ·simp
 ·rw [List.all_eq_false]
  exact ⟨x.meths[i], by rw [List.mem_iff_getElem]; exact ⟨i, by rw [List.length_take]; omega, by rw [List.getElem_take]⟩, by simp [h]⟩
theorem head_eq {p : List LClass} {x : LClass} {k : Nat} {m : LMeth} (hb : bareB p.length m = true) (h : ∀ (j : Nat) (hj : j < x.meths.length), j < k → x.meths[j].slot ≠ m.slot) : headB p x k m = overB p x m := by
 unfold headB
 rw [hb, show ((x.meths.take k).all fun o => !(o.slot == m.slot)) = true from ?_]
 ·simp
 ·rw [List.all_eq_true]
  intro o ho
  obtain ⟨j, hj, rfl⟩ := List.getElem_of_mem ho
  rw [List.getElem_take]
  rw [List.length_take] at hj
  simpa using h j (by omega) (by omega)
def restB (p : List LClass) (c : Nat) (x : LClass) : Bool :=
 x.fields.all (declB p.length) && decide ((fieldsOf p c).length ≤ 8) && decide (x.meths.length ≤ 6) && (List.range x.meths.length).all fun k => match x.meths[k]? with
  | none => true
  | some m => headB p x k m
def classB (p : List LClass) (c : Nat) : Bool := match p[c]? with
 | none => true
 | some x => supB c x && restB p c x
def insB (p : List LClass) (m : LMeth) (i : LIns) : Bool :=
 if i.op = 0 then i.b == 0
 else if i.op = 1 ∨ i.op = 2 then placeB i.a m.locals && i.b == 0
 else if i.op = 7 ∨ i.op = 8 ∨ i.op = 18 then placeB i.a m.code.length && i.b == 0
 else if i.op = 9 ∨ i.op = 17 then placeB i.a p.length && i.b == 0
 else if i.op = 10 ∨ i.op = 11 then placeB i.a p.length && placeB i.b (fieldsOf p i.a).length
 else if i.op = 12 then placeB i.a p.length && (methOf p i.a i.b).isSome
 else placeB i.op 21 && i.a == 0 && i.b == 0
def frameB (n : Nat) (m : LMeth) (f : LFrame) : Bool :=
 decide (f.pc < m.code.length) && decide ((f.locals.length : Int) = m.locals) && decide ((f.stack.length : Int) ≤ m.stack) && f.locals.all (framedB n) && f.stack.all (framedB n)
def framesB (n : Nat) (m : LMeth) : Int → List LFrame → Bool
 | _, [] => true
 | last, f :: r => decide (last < f.pc) && frameB n m f && framesB n m f.pc r
def codeB (p : List LClass) (m : LMeth) : Bool :=
 decide (1 ≤ m.code.length) && decide (m.code.length ≤ 40) && decide (m.frames.length ≤ 40) && m.code.all (insB p m) && framesB p.length m (-1) m.frames
def formI (p : List LClass) : Int :=
 if p.length < 1 ∨ 6 < p.length then 2
 else if (List.range p.length).all (classB p) then
  if p.all (fun x => x.meths.all (codeB p)) then 0 else 3
 else 2

def wfFrame (f : LFrame) : Prop := I64 f.pc ∧ (∀ x ∈ f.locals, I64 x) ∧ ∀ x ∈ f.stack, I64 x
def wfIns (i : LIns) : Prop := I64 i.op ∧ I64 i.a ∧ I64 i.b
def wfMeth (m : LMeth) : Prop := I64 m.slot ∧ (∀ x ∈ m.args, I64 x) ∧ I64 m.ret ∧ I64 m.locals ∧ I64 m.stack ∧ (∀ i ∈ m.code, wfIns i) ∧ ∀ f ∈ m.frames, wfFrame f
def wfClass (x : LClass) : Prop := I64 x.sup ∧ (∀ t ∈ x.fields, I64 t) ∧ ∀ m ∈ x.meths, wfMeth m
def wfProg (p : List LClass) : Prop := ∀ x ∈ p, wfClass x
def szFrame (f : LFrame) : Nat := f.locals.length + f.stack.length + 4
def szMeth (m : LMeth) : Nat := m.args.length + 4 * m.code.length + (m.frames.map szFrame).sum + 8
def szClass (x : LClass) : Nat := x.fields.length + (x.meths.map szMeth).sum + 4
def szProg (p : List LClass) : Nat := (p.map szClass).sum

theorem le_sum_map {α : Type} (f : α → Nat) : ∀ (l : List α) (x : α), x ∈ l → f x ≤ (l.map f).sum
 | [], x, h => by simp at h
 | y :: r, x, h => by
  simp only [List.map_cons, List.sum_cons]
  rcases List.mem_cons.1 h with rfl | h
  ·omega
  ·have := le_sum_map f r x h; omega
theorem length_le_sum_map {α : Type} (f : α → Nat) (hf : ∀ x, 1 ≤ f x) : ∀ (l : List α), l.length ≤ (l.map f).sum
 | [] => by simp
 | y :: r => by
  simp only [List.map_cons, List.sum_cons, List.length_cons]
  have := length_le_sum_map f hf r
  have := hf y
  omega
theorem szProg_len (p : List LClass) : p.length ≤ szProg p := length_le_sum_map _ (fun x => by unfold szClass; omega) p
theorem szClass_le {p : List LClass} {x : LClass} (h : x ∈ p) : szClass x ≤ szProg p := le_sum_map _ p x h
theorem szMeth_le {x : LClass} {m : LMeth} (h : m ∈ x.meths) : szMeth m ≤ szClass x := by
 have := le_sum_map szMeth _ m h
 unfold szClass; omega
theorem szFields_le (x : LClass) : x.fields.length ≤ szClass x := by unfold szClass; omega
theorem szMeths_le (x : LClass) : x.meths.length ≤ szClass x := by
 have := length_le_sum_map szMeth (fun m => by unfold szMeth; omega) x.meths
 unfold szClass; omega
theorem sum_take_le {α : Type} (f : α → Nat) (k : Nat) (l : List α) : ((l.take k).map f).sum ≤ (l.map f).sum := by
 have := List.take_append_drop k l
 conv => rhs; rw [← this]
 rw [List.map_append, List.sum_append]; omega
theorem fieldsOf_len (p : List LClass) {n : Nat} (hs : SupOk p n) : ∀ (c : Nat), c < n → (fieldsOf p (c : Int)).length ≤ ((p.take (c + 1)).map szClass).sum := by
 intro c
 induction c using Nat.strongRecOn with
 | ind c ih =>
  intro hn
  rcases Nat.lt_or_ge c p.length with hc | hc
  ·have hx := List.getElem?_eq_getElem hc
   have hb := supB_le (hs c _ hn hx)
   rw [fieldsOf_step p hs hn hx, List.take_add_one, hx, List.map_append, List.sum_append, List.length_append]
   have h0 : szClass p[c] = ((Option.toList (some p[c])).map szClass).sum := by simp
   have h1 := szFields_le p[c]
   rcases Int.lt_or_le p[c].sup 0 with g | g
   ·rw [fieldsOf_neg p g]; simp only [List.length_nil]; omega
   ·obtain ⟨k, hk⟩ := Int.eq_ofNat_of_zero_le g
    rw [hk]
    have := ih k (by omega) (by omega)
    have h2 : ((p.take (k + 1)).map szClass).sum ≤ ((p.take c).map szClass).sum := by
     have : p.take (k + 1) = (p.take c).take (k + 1) := by rw [List.take_take]; congr 1; omega
     rw [this]
     exact sum_take_le szClass (k + 1) (p.take c)
    omega
  ·unfold fieldsOf chainOf chain
   rw [if_neg (by omega), Int.toNat_natCast, List.getElem?_eq_none hc]
   simp
theorem fieldsOf_sz (p : List LClass) {n : Nat} (hs : SupOk p n) {c : Nat} (hn : c < n) : (fieldsOf p (c : Int)).length ≤ szProg p := by
 refine Nat.le_trans (fieldsOf_len p hs c hn) ?_
 have := List.take_append_drop (c + 1) p
 unfold szProg
 conv => rhs; rw [← this]
 rw [List.map_append, List.sum_append]; omega
theorem szFrame_le {m : LMeth} {f : LFrame} (h : f ∈ m.frames) : szFrame f ≤ szMeth m := by
 have := le_sum_map szFrame _ f h
 unfold szMeth; omega
theorem szFrames_le (m : LMeth) : m.frames.length ≤ szMeth m := by
 have := length_le_sum_map szFrame (fun m => by unfold szFrame; omega) m.frames
 unfold szMeth; omega
set_option maxHeartbeats 400000 in
theorem ref_place (v n : Int) (w : World) :
  Calls Tryz.prog 200 #[.int .i64 v, .int .i64 n] w fun e w' => e = .returned (.bool (placeB v n)) ∧ w' = w := by
 go_enter Tryz.func200, Tryz.ntmps200
 go_wp2
 all_goals go_ret
 all_goals exact ⟨ret_bool (by simp [placeB, *] <;> omega), rfl⟩

set_option maxHeartbeats 400000 in
theorem ref_declared (t n : Int) (w : World) (ht : I64 t) :
  Calls Tryz.prog 147 #[.int .i64 t, .int .i64 n] w fun e w' => e = .returned (.bool (declB n t)) ∧ w' = w := by
 obtain ⟨h1, h2⟩ := ht
 go_enter Tryz.func147, Tryz.ntmps147
 go_wp2
 all_goals go_ret
 all_goals exact ⟨ret_bool (by simp [declB, *] <;> omega), rfl⟩

set_option maxHeartbeats 400000 in
theorem ref_alldeclared (l : List Int) (v : Value) (n : Int) (w : World) (hl : SlAt 1 (RInt w) v l) (hw : ∀ x ∈ l, I64 x) (hs : l.length ≤ 4194304) :
  Calls Tryz.prog 91 #[v, .int .i64 n] w fun e w' => e = .returned (.bool (l.all (declB n))) ∧ w' = w := by
 obtain ⟨a, b, off, cap, rfl, hcap, ha, hr⟩ := ints_open hl
 go_enter Tryz.func91, Tryz.ntmps91
 go_wp2
 go_loop [5] (fun i => ∃ k : Nat, k ≤ l.length ∧ i = .int .i64 k ∧ (l.take k).all (declB n) = true) (fun i => l.length - (intOf i).toNat)
 case atStart => exact ⟨0, Nat.zero_le _, rfl, rfl⟩
 case round =>
  obtain ⟨k, hk, rfl, hall⟩ := hrel
  have HA : Hid ((l.take k).all (declB n) = true) := hall
  clear hall
  by_cases hlt : k < l.length
  ·obtain rfl := ha (ne_nil_of_lt hlt)
   have hx := hw _ (List.getElem_mem hlt)
   have hS := all_snoc (f := declB n) hlt
   rw [HA.out] at hS
   have HS := hide hS
   clear hS hw
   cases hb : declB n l[k]
   ·go_wp2_with (go_at_call 147; refine (ref_declared _ _ _ hx).mono ?_; rintro e w' ⟨rfl, rfl⟩)
    go_ret
    exact ⟨ret_bool (by rw [← List.take_append_drop (k + 1) l, List.all_append, unhide HS, hb]; rfl), rfl⟩
   ·go_wp2_with (go_at_call 147; refine (ref_declared _ _ _ hx).mono ?_; rintro e w' ⟨rfl, rfl⟩)
    go_round
    case rel => exact ⟨k + 1, by omega, by go_num, by rw [unhide HS, hb]; rfl⟩
    case measure => simp [intOf]; omega
  ·go_wp2
   go_ret
   exact ⟨ret_bool (by rw [← HA.out, List.take_of_length_le (by omega)]), rfl⟩
set_option maxHeartbeats 400000 in
theorem ref_framed (l : List Int) (v : Value) (n : Int) (w : World) (hl : SlAt 1 (RInt w) v l) (hw : ∀ x ∈ l, I64 x) (hs : l.length ≤ 4194304) :
  Calls Tryz.prog 150 #[v, .int .i64 n] w fun e w' => e = .returned (.bool (l.all (framedB n))) ∧ w' = w := by
 obtain ⟨a, b, off, cap, rfl, hcap, ha, hr⟩ := ints_open hl
 go_enter Tryz.func150, Tryz.ntmps150
 go_wp2
 go_loop [5] (fun i => ∃ k : Nat, k ≤ l.length ∧ i = .int .i64 k ∧ (l.take k).all (framedB n) = true) (fun i => l.length - (intOf i).toNat)
 case atStart => exact ⟨0, Nat.zero_le _, rfl, rfl⟩
 case round =>
  obtain ⟨k, hk, rfl, hall⟩ := hrel
  have HA : Hid ((l.take k).all (framedB n) = true) := hall
  clear hall
  by_cases hlt : k < l.length
  ·obtain rfl := ha (ne_nil_of_lt hlt)
   have hx := hw _ (List.getElem_mem hlt)
   have hS := all_snoc (f := framedB n) hlt
   rw [HA.out] at hS
   have HS := hide hS
   clear hS hw
   cases hb : declB n l[k]
   ·go_wp2_with (go_at_call 147; refine (ref_declared _ _ _ hx).mono ?_; rintro e w' ⟨rfl, rfl⟩)
    ·exact ⟨⟨k + 1, by omega, by go_num, by rw [unhide HS]; simp_all [framedB]⟩, by simp [intOf]; omega⟩
    ·go_ret
     exact ⟨ret_bool (by rw [← List.take_append_drop (k + 1) l, List.all_append, unhide HS]; simp_all [framedB]), rfl⟩
    ·exact ⟨⟨k + 1, by omega, by go_num, by rw [unhide HS]; simp_all [framedB]⟩, by simp [intOf]; omega⟩
   ·go_wp2_with (go_at_call 147; refine (ref_declared _ _ _ hx).mono ?_; rintro e w' ⟨rfl, rfl⟩)
    go_round
    case rel => exact ⟨k + 1, by omega, by go_num, by rw [unhide HS]; simp [framedB, hb]⟩
    case measure => simp [intOf]; omega
  ·go_wp2
   go_ret
   exact ⟨ret_bool (by rw [← HA.out, List.take_of_length_le (by omega)]), rfl⟩

theorem take_snoc_eq {l r : List Int} {k : Nat} (h1 : k < l.length) (h2 : k < r.length) : (l.take (k + 1) = r.take (k + 1)) ↔ (l.take k = r.take k ∧ l[k] = r[k]) := by
 rw [List.take_add_one, List.take_add_one, List.getElem?_eq_getElem h1, List.getElem?_eq_getElem h2]
 simp only [Option.toList_some]
 constructor
 ·intro h
  have := List.append_inj' h rfl
  simpa using this
 ·rintro ⟨h, k⟩; rw [h, k]

set_option maxHeartbeats 400000 in
theorem ref_sametypes (l r : List Int) (v u : Value) (w : World) (hl : SlAt 1 (RInt w) v l) (hr : SlAt 1 (RInt w) u r) (hs : l.length ≤ 4194304) (hs' : r.length ≤ 4194304) :
  Calls Tryz.prog 148 #[v, u] w fun e w' => e = .returned (.bool (l == r)) ∧ ∃ n, w' = w.drewN n := by
 obtain ⟨a, b, off, cap, rfl, hcap, ha, hc⟩ := ints_open hl
 obtain ⟨a', b', off', cap', rfl, hcap', ha', hc'⟩ := ints_open hr
 by_cases hn : l.length = r.length
 ·have hne : ((l.length : Int) == (r.length : Int)) = true := by rw [hn]; simp
  go_enter Tryz.func148, Tryz.ntmps148
  go_wp2
  go_loopw [5] (fun i wr => ∃ k : Nat, k ≤ l.length ∧ i = .int .i64 k ∧ l.take k = r.take k ∧ ∃ n, wr = w.drewN n) (fun i _ => l.length - (intOf i).toNat)
  case atStart => exact ⟨0, Nat.zero_le _, rfl, rfl, 0, rfl⟩
  case round =>
   obtain ⟨k, hk, rfl, htk, nn, rfl⟩ := hrel
   have HT := hide htk
   have HN := hide hn
   clear htk hn
   by_cases hlt : k < l.length
   ·have hlt' : k < r.length := by rw [← unhide HN]; exact hlt
    obtain rfl := ha (ne_nil_of_lt hlt)
    obtain rfl := ha' (ne_nil_of_lt hlt')
    have HE := hide (take_snoc_eq hlt hlt')
    go_wp2
    go_quiet (fail)
    go_wp2
    ·go_ret
     have hx : l[k] ≠ r[k] := by simp_all
     exact ⟨ret_bool (by rw [eq_comm, beq_eq_false_iff_ne]; intro e; subst e; exact hx rfl), nn + nq, by rw [World.drewN_drewN]⟩
    ·have hx : l[k] = r[k] := by simp_all
     exact ⟨⟨k + 1, by omega, by go_num, (unhide HE).2 ⟨unhide HT, hx⟩, _, rfl⟩, by simp [intOf]; omega⟩
   ·go_wp2
    go_ret
    refine ⟨ret_bool ?_, _, rfl⟩
    have := unhide HT
    rw [List.take_of_length_le (by omega), List.take_of_length_le (by have := unhide HN; omega)] at this
    simp [this]
 ·have hne : ((l.length : Int) == (r.length : Int)) = false := by simp; omega
  go_enter Tryz.func148, Tryz.ntmps148
  go_wp2
  go_ret
  exact ⟨ret_bool (by rw [eq_comm, beq_eq_false_iff_ne]; intro e; subst e; exact hn rfl), 0, rfl⟩
def methC (p : List LClass) (c slot : Int) : Int × Int := match methOf p c slot with
 | none => (-1, -1)
 | some (x, y) => (x, y)

set_option maxHeartbeats 400000 in
theorem ref_method (p : List LClass) (vc : Value) (n : Nat) (c slot : Int) (w : World) (hp : RProg w vc p) (hs : SupOk p n) (hn : n ≤ p.length) (hc : -1 ≤ c) (hcn : c < n) (hz : szProg p ≤ 4194304) :
  Calls Tryz.prog 116 #[.agg #[vc], .int .i64 c, .int .i64 slot] w fun e w' =>
   e = .returned (.tuple #[.int .i64 (methC p c slot).1, .int .i64 (methC p c slot).2]) ∧ Below w.heap.size w w' := by
 obtain ⟨a, b, off, cap, rfl, hcap, ha, hr⟩ := sl_open hp
 go_enter Tryz.func116, Tryz.ntmps116
 go_wp2
 generalize hW : w.alloc _ = W
 have hbel : Below w.heap.size w W := hW ▸ box_below _ _
 have hbox : W.cell? ⟨w.heap.size, 0, none⟩ = some (.slice a p.length cap) := hW ▸ box_cell w #[.slice a p.length cap] 24 0
 clear hW
 go_loop [1] (fun s1 => ∃ c' : Int, -1 ≤ c' ∧ c' < n ∧ s1 = .int .i64 c' ∧ methOf p c slot = methOf p c' slot) (fun s1 => (intOf s1 + 1).toNat)
 case atStart => exact ⟨c, hc, hcn, rfl, rfl⟩
 case round =>
  obtain ⟨c', h1, h2, rfl, hm⟩ := hrel
  have HM := hide hm
  clear hm
  rcases Int.lt_or_le c' 0 with hneg | hpos
  ·go_wp2
   go_ret2
   exact ⟨by simp [methC, unhide HM, methOf_neg p slot hneg], hbel⟩
  ·obtain ⟨i, rfl⟩ := Int.eq_ofNat_of_zero_le hpos
   have hi : i < p.length := by omega
   obtain rfl := ha (ne_nil_of_lt hi)
   obtain ⟨vf, vm, c0, c1, c2, hf, hmm⟩ := (hr i hi).keep (Keeps.of_below hbel)
   obtain ⟨ma, mb, moff, mcap, rfl, hmcap, hma, hmr⟩ := sl_open hmm
   have hslot : ∀ (j : Nat) (hj : j < p[i].meths.length), W.cell? ⟨mb, moff + j * 7, none⟩ = some (.int .i64 p[i].meths[j].slot) := fun j hj => by
    obtain ⟨_, _, _, _, h, _⟩ := hmr j hj; exact h
   have hlen : p[i].meths.length ≤ 4194304 := by
    have := szMeths_le p[i]; have := szClass_le (List.getElem_mem hi); omega
   have HX := hide (List.getElem?_eq_getElem hi)
   clear hmr hr hmm hf
   generalize p[i] = x at *
   go_wp2
   go_loop [8] (fun s8 => ∃ k : Nat, k ≤ x.meths.length ∧ s8 = .int .i64 k ∧ ∀ (j : Nat) (hj : j < x.meths.length), j < k → x.meths[j].slot ≠ slot) (fun s8 => x.meths.length - (intOf s8).toNat)
   case atStart => exact ⟨0, Nat.zero_le _, rfl, fun j _ h => absurd h (Nat.not_lt_zero j)⟩
   case round =>
    obtain ⟨k, hk, rfl, hno⟩ := hrel
    have HNO := hide hno
    clear hno
    by_cases hlt : k < x.meths.length
    ·obtain rfl := hma (ne_nil_of_lt hlt)
     by_cases hq : x.meths[k].slot = slot
     ·have hqb : (x.meths[k].slot == slot) = true := by simpa using hq
      have HQ := hide hq
      clear hq
      go_wp2
      go_ret2
      exact ⟨by simp [methC, unhide HM, methOf_step p hs slot (by omega) (unhide HX), slotIn_some hlt (unhide HQ) (unhide HNO)], hbel⟩
     ·have hqb : (x.meths[k].slot == slot) = false := by simpa using hq
      go_wp2
      go_round
      case rel => exact ⟨k + 1, by omega, by go_num, fun j hj h => by
       rcases Nat.lt_or_ge j k with g | g
       ·exact unhide HNO j hj g
       ·obtain rfl : j = k := by omega
        exact hq⟩
      case measure => simp [intOf]; omega
    ·go_wp2
     have hsup := supB_le (hs i x (by omega) (unhide HX))
     exact ⟨⟨x.sup, hsup.1, by omega, rfl, by rw [unhide HM, methOf_step p hs slot (by omega) (unhide HX), slotIn_none fun j hj => unhide HNO j hj (by omega)]⟩, by simp [intOf]; omega⟩
section
variable {P : Program} {w : World}

theorem wp_append_sl {o : Oper} {a : Act} {K : Act → World → Prop} {Q : Exit → Act → World → Prop} (s x : Operand) (t : TypeId)
  (ho : o.op = .call { callee := .builtin .append, args := #[s, x], argTypes := #[t, t] })
  (base : Nat) (e : TypeId) (i : TypeInfo) (z : Value) (size bytes : Nat) (ht : P.underlying t = some (.slice e)) (hi : P.info? e = some i) (hz : i.zero = some z)
  (hsize : i.size = size) (hby : i.bytes = bytes) (hzs : z.cells.size = size) (hsz : 0 < size)
  (v : Value) (n : Nat) (xs : List Value) (hs : a.eval s = v) (hown : w.ownsRow base e size v n xs)
  (sa : Option Addr) (m c : Nat) (news : List Value) (hx : a.eval x = .slice sa m c) (hl : news.length = m * size) (hnil : sa = none → m = 0 ∧ c = 0)
  (hnews : ∀ ad, sa = some ad → ∀ j u, news[j]? = some u → w.cell? (ad.add j) = some u) (h1 : ∀ u ∈ news, u.oneCell' = true)
  (h63 : n + m ≤ maxLen) (hbytes : (n + m) * bytes ≤ 140737488355328) (hbase : base ≤ w.heap.size)
  (h : ∀ v' w', w'.ownsRow base e size v' (n + m) (xs ++ news) → w.grownBy w' v.ownBlock → (v'.ownBlock = v.ownBlock ∨ v'.ownBlock = some w.heap.size) → K (a.put o.dst v') w') : o.wp P a w K Q := by
 cases sa with
 | none =>
  obtain ⟨rfl, rfl⟩ := hnil rfl
  obtain rfl : news = [] := List.eq_nil_of_length_eq_zero (by simpa using hl)
  have hr := run_append_owned_none (P := P) (w := w) base t o.type e i size ht hi v n xs hown
  unfold Oper.wp execOp
  simp only [ho, resolve, invoke, builtin, Sem.run_bind, Sem.run_pure, Result.andThen_ok, List.map_toArray, List.map_cons, List.map_nil, hs, hx, hr]
  exact h v w (by simpa using hown) ⟨rfl, rfl, rfl, Nat.le_refl _, fun _ _ _ => rfl⟩ (.inl rfl)
 | some ad =>
  obtain ⟨v', w', hr, h2, h3, _, h5⟩ := run_append_own_at (P := P) w base t o.type e i z size bytes ht hi hz hsize hby hzs hsz v n xs hown ad m c news hl (hnews ad rfl) h1 h63 hbytes hbase
  unfold Oper.wp execOp
  simp only [ho, resolve, invoke, builtin, Sem.run_bind, Sem.run_pure, Result.andThen_ok, List.map_toArray, List.map_cons, List.map_nil, hs, hx, hr]
  exact h v' w' h2 h3 h5

theorem wpList_append_sl {ops : Array Oper} {rest : List Oper} {o : Oper} {a : Act} {Q : Exit → Act → World → Prop} (hgd : o.guard = none) (s x : Operand) (t : TypeId)
  (ho : o.op = .call { callee := .builtin .append, args := #[s, x], argTypes := #[t, t] })
  (base : Nat) (e : TypeId) (i : TypeInfo) (z : Value) (size bytes : Nat) (ht : P.underlying t = some (.slice e)) (hi : P.info? e = some i) (hz : i.zero = some z)
  (hsize : i.size = size) (hby : i.bytes = bytes) (hzs : z.cells.size = size) (hsz : 0 < size)
  (v : Value) (n : Nat) (xs : List Value) (hs : a.eval s = v) (hown : w.ownsRow base e size v n xs)
  (sa : Option Addr) (m c : Nat) (news : List Value) (hx : a.eval x = .slice sa m c) (hl : news.length = m * size) (hnil : sa = none → m = 0 ∧ c = 0)
  (hnews : ∀ ad, sa = some ad → ∀ j u, news[j]? = some u → w.cell? (ad.add j) = some u) (h1 : ∀ u ∈ news, u.oneCell' = true)
  (h63 : n + m ≤ maxLen) (hbytes : (n + m) * bytes ≤ 140737488355328) (hbase : base ≤ w.heap.size)
  (h : ∀ v' w', w'.ownsRow base e size v' (n + m) (xs ++ news) → w.grownBy w' v.ownBlock → (v'.ownBlock = v.ownBlock ∨ v'.ownBlock = some w.heap.size) → wpList P ops Q rest (a.put o.dst v') w') : wpList P ops Q (o :: rest) a w :=
 wpList_plain hgd fun _ hK => wp_append_sl s x t ho base e i z size bytes ht hi hz hsize hby hzs hsz v n xs hs hown sa m c news hx hl hnil hnews h1 h63 hbytes hbase fun v' w' h2 h3 h4 => hK _ _ (h v' w' h2 h3 h4)
end

theorem own_base {w : World} {base base' : Nat} {e : TypeId} {size : Nat} {v : Value} {n : Nat} {xs : List Value} (h : w.ownsRow base e size v n xs) (hb : base' ≤ base) : w.ownsRow base' e size v n xs := by
 refine ⟨h.1, ?_⟩
 rcases h.2 with g | ⟨g, cap, cur, h1, h2, h3⟩
 ·exact .inl g
 ·exact .inr ⟨g, cap, cur, h1, Nat.le_trans hb h2, h3⟩
theorem own_form {w : World} {base : Nat} {e : TypeId} {size : Nat} {v : Value} {n : Nat} {xs : List Value} (h : w.ownsRow base e size v n xs) : ∃ a cap, v = .slice a n cap := by
 rcases h.2 with ⟨rfl, rfl⟩ | ⟨g, cap, cur, rfl, _⟩
 ·exact ⟨_, _, rfl⟩
 ·exact ⟨_, _, rfl⟩
theorem oneCell_ints (l : List Int) : ∀ u ∈ l.map (Value.int .i64), u.oneCell' = true := by
 intro u hu
 obtain ⟨x, _, rfl⟩ := List.mem_map.1 hu
 rfl
end Go.Proofs.YtiiokkllmchohaaGreat
namespace Go.Proofs.YtiiokkllmchohaaGreat
open Go.RowKit
attribute [local go_sem ↓] Go.wp_at_zero Go.wp_at_succ
theorem infoType : (Tryz.prog.info? 43).map (fun i => (i.zero, i.size, i.bytes)) = some (some (.int .i64 0), 1, 8) := by kernel_rfl

set_option maxHeartbeats 800000 in
set_option maxRecDepth 100000 in
theorem ref_fields (p : List LClass) (n : Nat) (hs : SupOk p n) (hn : n ≤ p.length) (hz : szProg p ≤ 4194304) : ∀ (c : Nat) (vc : Value) (w : World), RProg w vc p → c < n →
  Calls Tryz.prog 92 #[.agg #[vc], .int .i64 c] w fun e w' => ∃ v', e = .returned v' ∧
   w'.ownsRow w.heap.size 43 1 v' (fieldsOf p c).length ((fieldsOf p c).map (Value.int .i64)) ∧ Below w.heap.size w w' := by
 intro c
 induction c using Nat.strongRecOn with
 | ind c ih =>
  intro vc w hp hcn
  have IH := hide ih
  clear ih
  obtain ⟨i0, hi0, hz0, hz1, hz2⟩ := info_parts infoType
  obtain ⟨a, b, off, cap, rfl, hcap, ha, hr⟩ := sl_open hp
  have hi : c < p.length := by omega
  obtain rfl := ha (ne_nil_of_lt hi)
  have hX := List.getElem?_eq_getElem hi
  have hsup := supB_le (hs c _ hcn hX)
  have hfz := fieldsOf_sz p hs hcn
  have HF := hide (fieldsOf_step p hs hcn hX)
  have HX := hide hX
  clear hX
  obtain ⟨vf, vm, c0, c1, c2, hf, hmm⟩ := hr c hi
  have hlen : p[c].fields.length ≤ 4194304 := by
   have := szFields_le p[c]; have := szClass_le (List.getElem_mem hi); omega
  obtain ⟨fa, fcap, rfl, hnil, hsrc⟩ := ints_src hf
  have hlt := cell_lt c0
  clear hr hmm
  generalize p[c] = x at *
  have HR := hide hsrc
  have HN : Hid (fa = none → x.fields.length = 0 ∧ fcap = 0) := fun e => ⟨by rw [(hnil e).1]; rfl, (hnil e).2⟩
  have h63 : x.fields.length ≤ maxLen := by unfold maxLen; omega
  have HFI := hide hf
  clear hsrc hnil hf
  rcases Nat.eq_zero_or_pos c with h0 | hpos
  ·have hpos' : ¬ (0 : Int) < (c : Int) := by omega
   have hnegs : x.sup < 0 := by omega
   have H0 := hide h0
   clear h0
   go_enter Tryz.func92, Tryz.ntmps92
   go_wp2_with (at_builtin; refine wpList_append_sl rfl (.tmp 16) (.tmp 22) 40 rfl w.heap.size 43 i0 (.int .i64 0) 1 8 Tryz.underlying40 hi0 hz0 hz1 hz2 rfl (by decide) (.slice none 0 0) 0 [] rfl (World.ownsRow_nil _ _ _ _) fa x.fields.length fcap (x.fields.map (Value.int .i64)) rfl (by rw [List.length_map, Nat.mul_one]) (unhide HN) (fun ad e j u h => box_keeps w _ _ _ (unhide HR ad e j u h)) (oneCell_ints _) (by rw [Nat.zero_add]; exact h63) (by omega) (box_below w _).size ?_; intro v' w' hown hgr hat)
   go_ret
   refine ⟨_, rfl, ?_, (box_below w _).grown hgr (box_below w _).size (fun k e => by cases e)⟩
   rw [unhide HF, fieldsOf_neg p hnegs]
   simpa using hown
  ·have hpos' : (0 : Int) < (c : Int) := by omega
   obtain ⟨k, hk⟩ := Int.eq_ofNat_of_zero_le (supB_pos hpos (hs c x hcn (unhide HX))).1
   have hkc : k < c := by omega
   rw [hk] at c0 HF
   clear hk hsup
   go_enter Tryz.func92, Tryz.ntmps92
   go_wp2_with fail
   generalize hW : w.alloc _ = W
   have hbel : Below w.heap.size w W := hW ▸ box_below _ _
   have hbox : W.cell? ⟨w.heap.size, 0, none⟩ = some (.slice (some ⟨b, off, none⟩) p.length cap) := hW ▸ box_cell w #[.slice (some ⟨b, off, none⟩) p.length cap] 24 0
   clear hW
   have hsz := hbel.size
   have d0 := Keeps.of_below hbel _ _ c0
   have d1 := Keeps.of_below hbel _ _ c1
   have hpW := prog_keep (Keeps.of_below hbel) hp
   have HPW := hide hpW
   clear hpW
   have hci : (c : Int) < (p.length : Int) := by omega
   have hc0 : (0 : Int) ≤ (c : Int) := by omega
   go_region_held3 (fun w' => w'.cell? ⟨w.heap.size, 0, none⟩ = some (.slice (some ⟨b, off, none⟩) p.length cap) ∧ w'.cell? ⟨b, off + c * 3, none⟩ = some (.int .i64 (k : Int)))
    (first | go_keep | (exact ⟨Keeps.of_below hb1 _ _ (by simpa using hbox), Keeps.of_below hb1 _ _ (by simpa using d0)⟩))
    (first | ((go_at_call 92; refine (unhide IH k hkc _ _ ?_ ?_).mono ?_); (exact prog_keep (Keeps.of_below ((Below.refl _ _).drew)) (unhide HPW)); omega; rintro e w1 ⟨v1, rfl, hown1, hb1⟩))
   have hW1 : Below w.heap.size w w1 := hbel.drew.trans (hb1.mono hsz)
   have e0 : w1.cell? ⟨w.heap.size, 0, none⟩ = some (.slice (some ⟨b, off, none⟩) p.length cap) := Keeps.of_below hb1 _ _ hbox
   have e1 : w1.cell? ⟨b, off + c * 3 + 1, none⟩ = some (.slice fa x.fields.length fcap) := Keeps.of_below hb1 _ _ d1
   have hfl : (fieldsOf p k).length + x.fields.length ≤ 4194304 := by
    have := unhide HF; rw [this, List.length_append] at hfz; omega
   have hown2 : w1.ownsRow w.heap.size 43 1 v1 (fieldsOf p k).length ((fieldsOf p k).map (Value.int .i64)) := own_base hown1 (by simpa using hsz)
   have HB1 := hide hb1
   clear hown1 hb1 d0 d1 c0 c1 hbox hfz
   go_wp2_with (at_builtin; refine wpList_append_sl rfl (.tmp 16) (.tmp 22) 40 rfl w.heap.size 43 i0 (.int .i64 0) 1 8 Tryz.underlying40 hi0 hz0 hz1 hz2 rfl (by decide) v1 _ _ rfl hown2 fa x.fields.length fcap (x.fields.map (Value.int .i64)) rfl (by rw [List.length_map, Nat.mul_one]) (unhide HN) (fun ad e j u h => Keeps.of_below hW1 _ _ (unhide HR ad e j u h)) (oneCell_ints _) (by unfold maxLen; omega) (by omega) hW1.size ?_; intro v' w' hown hgr hat)
   go_ret
   refine ⟨_, rfl, ?_, hW1.grown hgr hW1.size (fun j e => (hown2.lt j e).1)⟩
   rw [unhide HF, List.map_append, List.length_append]
   exact hown
end Go.Proofs.YtiiokkllmchohaaGreat
namespace Go.Proofs.YtiiokkllmchohaaGreat
open Go.RowKit
structure Mods (S : Nat → Prop) (w w' : World) : Prop where
 os : w'.os = w.os
 tape : w'.tape = w.tape
 output : w'.output = w.output
 size : w.heap.size ≤ w'.heap.size
 block : ∀ k, k < w.heap.size → ¬ S k → w'.heap[k]? = w.heap[k]?

theorem Mods.refl (S : Nat → Prop) (w : World) : Mods S w w := ⟨rfl, rfl, rfl, Nat.le_refl _, fun _ _ _ => rfl⟩
theorem Mods.trans {S T : Nat → Prop} {a b c : World} (h : Mods S a b) (k : Mods T b c) (hT : ∀ i, i < a.heap.size → T i → S i) : Mods S a c :=
 ⟨k.os.trans h.os, k.tape.trans h.tape, k.output.trans h.output, Nat.le_trans h.size k.size, fun i hi hs => (k.block i (Nat.lt_of_lt_of_le hi h.size) (fun t => hs (hT i hi t))).trans (h.block i hi hs)⟩
theorem Mods.mono {S T : Nat → Prop} {a b : World} (h : Mods S a b) (hT : ∀ i, i < a.heap.size → S i → T i) : Mods T a b :=
 ⟨h.os, h.tape, h.output, h.size, fun i hi hs => h.block i hi (fun t => hs (hT i hi t))⟩
theorem Mods.alloc {S : Nat → Prop} {a w : World} (h : Mods S a w) (o : Obj) : Mods S a (w.alloc o) :=
 h.trans (T := fun _ => False) ⟨rfl, rfl, rfl, by simp, fun i hi _ => Below.heap_alloc _ _ _ hi⟩ (fun _ _ f => f.elim)
theorem Mods.drew {S : Nat → Prop} {a w : World} (h : Mods S a w) : Mods S a w.drew := ⟨h.os, h.tape, h.output, h.size, h.block⟩
theorem Mods.setCell {S : Nat → Prop} {a w : World} (h : Mods S a w) {p : Addr} (hp : p.block < a.heap.size → S p.block) (u : Value) : Mods S a (w.setCell p u) :=
 h.trans (T := fun k => k = p.block) ⟨rfl, rfl, rfl, by simp [World.setCell], fun i _ hs => Below.heap_setCell _ _ _ _ hs⟩ (fun i hi e => by subst e; exact hp hi)
theorem Mods.grown {S : Nat → Prop} {a w w' : World} {row : Option Nat} (h : Mods S a w) (hg : w.grownBy w' row) (hr : ∀ k, row = some k → k < a.heap.size → S k) : Mods S a w' :=
 h.trans (T := fun k => row = some k) ⟨hg.os, hg.tape, hg.output, hg.size, fun i hi hs => hg.block i hi (fun e => hs e.symm)⟩ (fun i hi e => hr i e hi)
theorem Mods.of_below {B : Nat} {w w' : World} (h : Below B w w') : Mods (fun k => B ≤ k) w w' := ⟨h.os, h.tape, h.output, h.size, fun i _ hs => h.block i (by omega)⟩
theorem Mods.below {S : Nat → Prop} {w w' : World} {B : Nat} (h : Mods S w w') (hB : B ≤ w.heap.size) (hS : ∀ k, k < B → ¬ S k) : Below B w w' := ⟨h.os, h.tape, h.output, h.size, fun i hi => h.block i (by omega) (hS i hi)⟩
theorem Mods.cell {S : Nat → Prop} {w w' : World} (h : Mods S w w') {p : Addr} {v : Value} (e : w.cell? p = some v) (hp : ¬ S p.block) : w'.cell? p = some v := by
 rw [World.cell?_of_block (w := w) (h.block p.block (cell_lt e) hp)]; exact e

def Blk (w : World) (b : Nat) (t : TypeId) (cs : List Value) : Prop := w.heap[b]? = some (.cells cs.toArray t (0, 0))
section
variable {w w' : World} {b : Nat} {t : TypeId} {cs : List Value}
theorem Blk.lt (h : Blk w b t cs) : b < w.heap.size := (Array.getElem?_eq_some_iff.1 h).1
theorem Blk.cell (h : Blk w b t cs) (i : Nat) : w.cell? ⟨b, i, none⟩ = cs[i]? := by
 unfold Blk at h
 simp [World.cell?, h]
theorem Blk.frozen (h : Blk w b t cs) (i : Nat) : w.frozen? ⟨b, i, none⟩ = false := by
 unfold Blk at h
 simp [World.frozen?, h]
theorem Blk.mods {S : Nat → Prop} (h : Blk w b t cs) (m : Mods S w w') (hb : ¬ S b) : Blk w' b t cs := (m.block b h.lt hb).trans h
theorem Blk.alloc (h : Blk w b t cs) (o : Obj) : Blk (w.alloc o) b t cs := (Below.heap_alloc w o b h.lt).trans h
theorem Blk.drew (h : Blk w b t cs) : Blk w.drew b t cs := h
theorem Blk.setCell (h : Blk w b t cs) (i : Nat) (v : Value) : Blk (w.setCell ⟨b, i, none⟩ v) b t (cs.set i v) := by
 have := setCell_eq_setRow w b i cs.toArray t (0, 0) v h
 unfold Blk
 rw [this, setRow_heap w b cs.toArray _ t (0, 0) h]
 simp
theorem Blk.setCell_ne (h : Blk w b t cs) {p : Addr} (hp : b ≠ p.block) (v : Value) : Blk (w.setCell p v) b t cs := (Below.heap_setCell w p v b hp).trans h
theorem Blk.uniq {t' : TypeId} {cs' : List Value} (h : Blk w b t cs) (h' : Blk w b t' cs') : t = t' := by
 unfold Blk at h h'
 rw [h] at h'
 injection h' with e
 injection e
theorem Blk.new (w : World) (cs : Array Value) (t : TypeId) : Blk (w.alloc (.cells cs t)) w.heap.size t cs.toList := by
 unfold Blk
 show (w.heap.push (Obj.cells cs t))[w.heap.size]? = _
 rw [Array.getElem?_push_size]
theorem own_blk {base : Nat} {e : TypeId} {size : Nat} {v : Value} {n : Nat} {xs : List Value} (h : w.ownsRow base e size v n xs) {g : Nat} (hg : v.ownBlock = some g) : ∃ cur, Blk w g e cur := by
 rcases h.2 with ⟨rfl, _⟩ | ⟨g', cap, cur, rfl, _, h3, _⟩
 ·cases hg
 ·cases hg
  exact ⟨cur.toList, by unfold Blk; simpa using h3⟩
theorem own_mods {base : Nat} {e : TypeId} {size : Nat} {v : Value} {n : Nat} {xs : List Value} {S : Nat → Prop} (h : w.ownsRow base e size v n xs) (m : Mods S w w') (hv : ∀ g, v.ownBlock = some g → ¬ S g) : w'.ownsRow base e size v n xs := by
 refine ⟨h.1, ?_⟩
 rcases h.2 with g | ⟨g, cap, cur, h1, h2, h3, h4⟩
 ·exact .inl g
 ·subst h1
  exact .inr ⟨g, cap, cur, rfl, h2, (m.block g (Array.getElem?_eq_some_iff.1 h3).1 (hv g rfl)).trans h3, h4⟩
end

theorem wpList_make_blk {P : Program} {w : World} {ops : Array Oper} {rest : List Oper} {o : Oper} {a : Act} {Q : Exit → Act → World → Prop}
  (hg : o.guard = none) (l c : Operand) (t : TypeId) (hop : o.op = Op.makeSlice t l c)
  (e : TypeId) (i : TypeInfo) (z : Value) (size bytes : Nat) (h1 : P.underlying t = some (.slice e)) (h2 : P.info? e = some i) (h3 : i.zero = some z) (h4 : i.size = size) (h5 : i.bytes = bytes)
  (kl kc : IntKind) (L : Int) (n : Nat) (hl : a.eval l = .int kl L) (hc : a.eval c = .int kc L) (hL : L = (n : Int)) (b2 : bytes * n ≤ 281474976710656) (b3 : n ≤ 4611686018427387904)
  (hK : ∀ w', Blk w' w.heap.size e (madeCells z.cells (n * size)).toList → Mods (fun _ => False) w w' → w'.heap.size = w.heap.size + 1 → wpList P ops Q rest (a.put o.dst (.slice (some ⟨w.heap.size, 0, none⟩) n n)) w') :
  wpList P ops Q (o :: rest) a w := by
 refine wpList_plain hg fun K hK' => ?_
 subst hL h4 h5
 have hb' : (i.bytes : Int) * (n : Int) ≤ 281474976710656 := by
  have h : ((i.bytes * n : Nat) : Int) ≤ 281474976710656 := by omega
  rwa [Int.natCast_mul] at h
 have hr := run_make (P := P) w t e i z h1 h2 h3 kl kc n n (by omega) (Int.le_refl _) hb' (by omega)
 simp only [Int.toNat_natCast] at hr
 unfold Oper.wp
 simp [execOp, hop, hl, hc, hr, Result.andThen]
 exact hK' _ _ (hK _ (Blk.new _ _ _) ((Mods.refl _ _).alloc _) (by simp))

theorem app_ex {P : Program} {W : World} (t ty e : TypeId) (i : TypeInfo) (z : Value) (size bytes : Nat) (ht : P.underlying t = some (.slice e)) (hi : P.info? e = some i) (hz : i.zero = some z)
  (hsize : i.size = size) (hby : i.bytes = bytes) (hzs : z.cells.size = size) (hsz : 0 < size) (base : Nat) (v : Value) (n : Nat) (xs : List Value) (hown : W.ownsRow base e size v n xs)
  (news : Array Value) (hl : news.size = size) (h1 : ∀ u ∈ news.toList, u.oneCell' = true) (H : Nat) (hH : W.heap.size = H) (h63 : n + 1 ≤ maxLen) (hbytes : (n + 1) * bytes ≤ 140737488355328) (hbase : base ≤ W.heap.size) :
  ∃ v' W', (Builtin.append_ #[t, t] ty #[v, .slice (some ⟨H, 0, none⟩) 1 1]).run P (W.alloc (.cells news e)) = .ok v' W' ∧ W'.ownsRow base e size v' (n + 1) (xs ++ news.toList) ∧
   Mods (fun k => v.ownBlock = some k) W W' ∧ (v'.ownBlock = v.ownBlock ∨ ∃ k, H ≤ k ∧ v'.ownBlock = some k) := by
 subst hH
 obtain ⟨v', w', hr, h2, h3, _, h5⟩ := run_append_own_at (P := P) (W.alloc (.cells news e)) base t ty e i z size bytes ht hi hz hsize hby hzs hsz v n xs (own_mods hown ((Mods.refl (fun _ => False) W).alloc _) (fun _ _ f => f)) ⟨W.heap.size, 0, none⟩ 1 1 news.toList (by simpa using hl)
  (fun j u h => by
    have := (Blk.new W news e).cell j
    rw [show (⟨W.heap.size, 0, none⟩ : Addr).add j = ⟨W.heap.size, j, none⟩ by unfold Addr.add; split <;> simp_all, this]
    exact h) h1 h63 hbytes (by simp; omega)
 refine ⟨v', w', hr, h2, ((Mods.refl _ W).alloc _).grown h3 (fun k e _ => e), ?_⟩
 rcases h5 with h5 | h5
 ·exact .inl h5
 ·exact .inr ⟨_, by simp, h5⟩

theorem wpList_append_run {P : Program} {w : World} {ops : Array Oper} {rest : List Oper} {o : Oper} {a : Act} {Q : Exit → Act → World → Prop} (hgd : o.guard = none) (s x : Operand) (t : TypeId)
  (ho : o.op = .call { callee := .builtin .append, args := #[s, x], argTypes := #[t, t] }) (v u : Value) (hs : a.eval s = v) (hx : a.eval x = u) {v' : Value} {w' : World}
  (hr : (Builtin.append_ #[t, t] o.type #[v, u]).run P w = .ok v' w') (h : wpList P ops Q rest (a.put o.dst v') w') : wpList P ops Q (o :: rest) a w := by
 refine wpList_plain hgd fun K hK => ?_
 unfold Oper.wp execOp
 simp only [ho, resolve, invoke, builtin, Sem.run_bind, Sem.run_pure, Result.andThen_ok, List.map_toArray, List.map_cons, List.map_nil, hs, hx, hr]
 exact hK _ _ h

theorem copy_ex {P : Program} {w : World} (t ty e : TypeId) (i : TypeInfo) (size : Nat) (ht : P.underlying t = some (.slice e)) (hi : P.info? e = some i) (hsize : i.size = size)
  (g dLen dCap : Nat) (sa : Option Addr) (m c : Nat) (hm : m ≤ dLen) (hnil : sa = none → m = 0 ∧ c = 0) (cs : List Value) (hl : cs.length = m * size)
  (hsrc : ∀ ad, sa = some ad → ∀ j v, cs[j]? = some v → w.cell? (ad.add j) = some v) (et : TypeId) (cur : List Value) (hg : Blk w g et cur) (hfit : cs.length ≤ cur.length) (h1 : ∀ v ∈ cs, v.oneCell' = true) :
  ∃ w', (Builtin.copy_ #[t, t] ty #[.slice (some ⟨g, 0, none⟩) dLen dCap, .slice sa m c]).run P w = .ok (goInt m) w' ∧ Blk w' g et (cs ++ cur.drop cs.length) ∧ Mods (fun k => k = g) w w' ∧ w'.heap.size = w.heap.size := by
 subst hsize
 have hmin : Nat.min m dLen = m := Nat.min_eq_left hm
 cases sa with
 | none =>
  obtain ⟨rfl, rfl⟩ := hnil rfl
  obtain rfl : cs = [] := List.eq_nil_of_length_eq_zero (by simpa using hl)
  refine ⟨w, ?_, by simpa using hg, Mods.refl _ _, rfl⟩
  simp [Builtin.copy_, run_underlying ht, Builtin.lenOf, Builtin.firstCells, sizeOf, typeInfo, hi, storeCells]
 | some ad =>
  have hld := run_loadCells_list (P := P) w ad cs (hsrc ad rfl)
  have hst := run_storeCells_at P g 0 et cs 0 cur.toArray w hg (by simpa using hfit) h1
  simp only [Nat.zero_add, List.take_zero, List.nil_append] at hst
  refine ⟨w.setRow g (cs ++ cur.drop cs.length).toArray, ?_, setRow_heap w g cur.toArray _ et (0, 0) hg, ⟨rfl, rfl, rfl, by simp [World.setRow], fun k _ hk => setRow_other w g k _ hk⟩, by simp [World.setRow]⟩
  ·simp [Builtin.copy_, run_underlying ht, Builtin.lenOf, Builtin.firstCells, sizeOf, typeInfo, hi, hmin, ← hl, hld, hst]
theorem flat_len {α β : Type} {f : α → List β} {s : Nat} (hf : ∀ x, (f x).length = s) : ∀ (l : List α), (l.flatMap f).length = l.length * s
 | [] => by simp
 | x :: r => by
  rw [List.flatMap_cons, List.length_append, hf, flat_len hf r, List.length_cons, Nat.succ_mul, Nat.add_comm]
theorem flat_get {α β : Type} {f : α → List β} {s : Nat} (hf : ∀ x, (f x).length = s) : ∀ (l : List α) (j r : Nat), r < s → (l.flatMap f)[j * s + r]? = (l[j]?).bind fun x => (f x)[r]?
 | [], j, r, _ => by simp
 | x :: l, 0, r, hr => by
  rw [List.flatMap_cons, Nat.zero_mul, Nat.zero_add, List.getElem?_append_left (by rw [hf]; exact hr)]
  rfl
 | x :: l, j + 1, r, hr => by
  rw [List.flatMap_cons, List.getElem?_append_right (by rw [hf, Nat.succ_mul]; omega), hf, show (j + 1) * s + r - s = j * s + r by rw [Nat.succ_mul]; omega, flat_get hf l j r hr]
  rfl
def insCells (i : LIns) : List Value := [.int .i64 i.op, .int .i64 i.a, .int .i64 i.b]
def codeCells (l : List LIns) : List Value := l.flatMap insCells
theorem codeCells_len (l : List LIns) : (codeCells l).length = l.length * 3 := flat_len (f := insCells) (s := 3) (fun _ => rfl) l
theorem codeCells_one (l : List LIns) : ∀ u ∈ codeCells l, u.oneCell' = true := by
 intro u hu
 obtain ⟨x, _, hx⟩ := List.mem_flatMap.1 hu
 simp only [insCells, List.mem_cons, List.not_mem_nil, or_false] at hx
 rcases hx with rfl | rfl | rfl <;> rfl
theorem addr_add (b off j : Nat) : (⟨b, off, none⟩ : Addr).add j = ⟨b, off + j, none⟩ := by unfold Addr.add; split <;> simp_all
theorem code_src {g : Addr → Option Value} {v : Value} {l : List LIns} (h : SlAt 3 (GIns g) v l) :
  ∃ (a : Option Addr) (cap : Nat), v = .slice a l.length cap ∧ (a = none → l.length = 0 ∧ cap = 0) ∧ ∀ ad, a = some ad → ∀ (j : Nat) (u : Value), (codeCells l)[j]? = some u → g (ad.add j) = some u := by
 obtain ⟨a, b, off, cap, h1, h2, h3, h4⟩ := h
 refine ⟨a, cap, h1, fun e => ?_, fun ad e j u hu => ?_⟩
 ·rcases h3.2 with ⟨_, hc⟩ | hc | ⟨_, hc⟩
  ·exact ⟨Nat.eq_zero_of_not_pos fun hn => (by have := h3.1 (List.ne_nil_of_length_pos hn); rw [e] at this; cases this), hc⟩
  ·rw [e] at hc; cases hc
  ·exact absurd e hc
 ·rcases h3.2 with ⟨hc, _⟩ | hc | ⟨hc, _⟩
  ·rw [e] at hc; cases hc
  ·rw [e] at hc; cases hc
   have hj : j = j / 3 * 3 + j % 3 := by omega
   rw [hj] at hu
   unfold codeCells at hu
   rw [flat_get (f := insCells) (s := 3) (fun _ => rfl) l (j / 3) (j % 3) (by omega)] at hu
   cases hx : l[j / 3]? with
   | none => rw [hx] at hu; cases hu
   | some x =>
    rw [hx] at hu
    obtain ⟨i0, i1, i2⟩ := h4 (j / 3) x hx
    simp only [Option.bind_some] at hu
    rw [addr_add, hj]
    have hr : j % 3 = 0 ∨ j % 3 = 1 ∨ j % 3 = 2 := by omega
    rcases hr with hr | hr | hr <;> rw [hr] at hu ⊢ <;> simp only [insCells, List.getElem?_cons_zero, List.getElem?_cons_succ, Option.some.injEq] at hu <;> subst hu
    ·exact i0
    ·exact i1
    ·exact i2
  ·subst hc; simp [codeCells] at hu
theorem drop1 {l : List Value} {k : Nat} {a : Value} (hl : l.length = k + 1) (h0 : l[k]? = some a) : l.drop k = [a] := by
 rw [List.drop_eq_getElem_cons (by omega), List.drop_eq_nil_of_le (by omega)]
 have := List.getElem?_eq_some_iff.1 h0
 rw [this.2]
theorem drop_cons {l : List Value} {k : Nat} {a : Value} {r : List Value} (h0 : l[k]? = some a) (hr : l.drop (k + 1) = r) : l.drop k = a :: r := by
 obtain ⟨h1, h2⟩ := List.getElem?_eq_some_iff.1 h0
 rw [List.drop_eq_getElem_cons h1, h2, hr]
theorem drop3 {l : List Value} {k : Nat} {a b c : Value} (hl : l.length = k + 3) (h0 : l[k]? = some a) (h1 : l[k + 1]? = some b) (h2 : l[k + 2]? = some c) : l.drop k = [a, b, c] :=
 drop_cons h0 (drop_cons h1 (drop1 (by omega) h2))
theorem drop7 {l : List Value} {k : Nat} {a b c d e f g : Value} (hl : l.length = k + 7) (h0 : l[k]? = some a) (h1 : l[k + 1]? = some b) (h2 : l[k + 2]? = some c) (h3 : l[k + 3]? = some d) (h4 : l[k + 4]? = some e) (h5 : l[k + 5]? = some f) (h6 : l[k + 6]? = some g) :
  l.drop k = [a, b, c, d, e, f, g] :=
 drop_cons h0 (drop_cons h1 (drop_cons h2 (drop_cons h3 (drop_cons h4 (drop_cons h5 (drop1 (by omega) h6))))))
def set3 (l : List Value) (k : Nat) (a b c : Value) : List Value := ((l.set k a).set (k + 1) b).set (k + 2) c
theorem set3_len (l : List Value) (k : Nat) (a b c : Value) : (set3 l k a b c).length = l.length := by simp [set3]
theorem set3_0 {l : List Value} {k : Nat} {a b c : Value} (h : k + 2 < l.length) : (set3 l k a b c)[k]? = some a := by
 unfold set3; rw [List.getElem?_set_ne (by omega), List.getElem?_set_ne (by omega), List.getElem?_set_self (by omega)]
theorem set3_1 {l : List Value} {k : Nat} {a b c : Value} (h : k + 2 < l.length) : (set3 l k a b c)[k + 1]? = some b := by
 unfold set3; rw [List.getElem?_set_ne (by omega), List.getElem?_set_self (by simp; omega)]
theorem set3_2 {l : List Value} {k : Nat} {a b c : Value} (h : k + 2 < l.length) : (set3 l k a b c)[k + 2]? = some c := by
 unfold set3; rw [List.getElem?_set_self (by simp; omega)]
theorem set3_ne {l : List Value} {k j : Nat} {a b c : Value} (h : j < k ∨ k + 2 < j) : (set3 l k a b c)[j]? = l[j]? := by
 unfold set3; rw [List.getElem?_set_ne (by omega), List.getElem?_set_ne (by omega), List.getElem?_set_ne (by omega)]
theorem made_get (z : Array Value) (n j : Nat) (hj : j < n) (hz : 0 < z.size) : (madeCells z n).toList[j]? = z[j % z.size]? := by
 unfold madeCells
 have : j % z.size < z.size := Nat.mod_lt _ hz
 simp [hj, this]
theorem made_len (z : Array Value) (n : Nat) : (madeCells z n).toList.length = n := by simp [madeCells]
end Go.Proofs.YtiiokkllmchohaaGreat
