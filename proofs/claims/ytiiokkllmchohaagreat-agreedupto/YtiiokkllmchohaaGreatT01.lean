/- The data of programs as plain Lean values, and what it means that a value of the machine's memory holds them; that such a reading stays while old blocks stay. -/
import Derived.WalkKit
import Derived.WalkSpells
import Derived.WalkLawsBesides
import Derived.Test.YtiiokkllmchohaaGreatRows
import Derived.Deep.QuietTactic
import Derived.BigQuiet
import Derived.Deep.LoopGhost
import Derived.Deep.RegionHeld3
import Derived.Maps.AppendAt
import Derived.Deep.DrawnRows
import Derived.Laws.CopyRow
/- Base -/
namespace Go.Proofs.YtiiokkllmchohaaGreat
open Go.RowKit

structure LIns where
 op : Int
 a : Int
 b : Int
structure LFrame where
 pc : Int
 locals : List Int
 stack : List Int
structure LMeth where
 slot : Int
 args : List Int
 ret : Int
 locals : Int
 stack : Int
 code : List LIns
 frames : List LFrame
structure LClass where
 sup : Int
 fields : List Int
 meths : List LMeth

def SlAt {α : Type} (sz : Nat) (R : α → Nat → Nat → Prop) (v : Value) (l : List α) : Prop :=
 ∃ (a : Option Addr) (b off cap : Nat), v = .slice a l.length cap ∧ l.length ≤ cap ∧ ((l ≠ [] → a = some ⟨b, off, none⟩) ∧ (a = none ∧ cap = 0 ∨ a = some ⟨b, off, none⟩ ∨ l = [] ∧ a ≠ none)) ∧ ∀ (j : Nat) (x : α), l[j]? = some x → R x b (off + j * sz)

def GInt (g : Addr → Option Value) (x : Int) (b o : Nat) : Prop := g ⟨b, o, none⟩ = some (.int .i64 x)
def GIns (g : Addr → Option Value) (x : LIns) (b o : Nat) : Prop :=
 g ⟨b, o, none⟩ = some (.int .i64 x.op) ∧ g ⟨b, o + 1, none⟩ = some (.int .i64 x.a) ∧ g ⟨b, o + 2, none⟩ = some (.int .i64 x.b)
def GFrame (g : Addr → Option Value) (x : LFrame) (b o : Nat) : Prop :=
 ∃ vl vs, g ⟨b, o, none⟩ = some (.int .i64 x.pc) ∧ g ⟨b, o + 1, none⟩ = some vl ∧ g ⟨b, o + 2, none⟩ = some vs ∧
  SlAt 1 (GInt g) vl x.locals ∧ SlAt 1 (GInt g) vs x.stack
def GVals (g : Addr → Option Value) (x : LMeth) (va vc vf : Value) : Prop :=
 SlAt 1 (GInt g) va x.args ∧ SlAt 3 (GIns g) vc x.code ∧ SlAt 3 (GFrame g) vf x.frames
def GMeth (g : Addr → Option Value) (x : LMeth) (b o : Nat) : Prop :=
 ∃ va vc vf, GVals g x va vc vf ∧ g ⟨b, o, none⟩ = some (.int .i64 x.slot) ∧ g ⟨b, o + 1, none⟩ = some va ∧ g ⟨b, o + 2, none⟩ = some (.int .i64 x.ret) ∧
  g ⟨b, o + 3, none⟩ = some (.int .i64 x.locals) ∧ g ⟨b, o + 4, none⟩ = some (.int .i64 x.stack) ∧ g ⟨b, o + 5, none⟩ = some vc ∧ g ⟨b, o + 6, none⟩ = some vf
def GClass (g : Addr → Option Value) (x : LClass) (b o : Nat) : Prop :=
 ∃ vf vm, g ⟨b, o, none⟩ = some (.int .i64 x.sup) ∧ g ⟨b, o + 1, none⟩ = some vf ∧ g ⟨b, o + 2, none⟩ = some vm ∧
  SlAt 1 (GInt g) vf x.fields ∧ SlAt 7 (GMeth g) vm x.meths
abbrev RInt (w : World) : Int → Nat → Nat → Prop := GInt w.cell?
abbrev RIns (w : World) : LIns → Nat → Nat → Prop := GIns w.cell?
abbrev RFrame (w : World) : LFrame → Nat → Nat → Prop := GFrame w.cell?
abbrev MVals (w : World) (x : LMeth) (va vc vf : Value) : Prop := GVals w.cell? x va vc vf
abbrev RMeth (w : World) : LMeth → Nat → Nat → Prop := GMeth w.cell?
abbrev RClass (w : World) : LClass → Nat → Nat → Prop := GClass w.cell?
abbrev RProg (w : World) (vc : Value) (p : List LClass) : Prop := SlAt 3 (RClass w) vc p

theorem SlAt.mono {α : Type} {sz : Nat} {R R' : α → Nat → Nat → Prop} {v : Value} {l : List α} (h : SlAt sz R v l) (k : ∀ x b o, R x b o → R' x b o) : SlAt sz R' v l := by
 obtain ⟨a, b, off, cap, h1, h2, h3, h4⟩ := h
 exact ⟨a, b, off, cap, h1, h2, h3, fun j x hj => k _ _ _ (h4 j x hj)⟩

def GLe (g g' : Addr → Option Value) : Prop := ∀ p v, g p = some v → g' p = some v
theorem GLe.trans {a b c : Addr → Option Value} (h : GLe a b) (k : GLe b c) : GLe a c := fun p v e => k p v (h p v e)
abbrev Keeps (w w' : World) : Prop := GLe w.cell? w'.cell?
theorem cell_lt {w : World} {p : Addr} {v : Value} (h : w.cell? p = some v) : p.block < w.heap.size := by
 unfold World.cell? at h
 rcases Nat.lt_or_ge p.block w.heap.size with g | g
 ·exact g
 ·rw [Array.getElem?_eq_none g] at h; simp at h
theorem Keeps.of_below {w w' : World} (h : Below w.heap.size w w') : Keeps w w' := fun p v e => by rw [h.cell (cell_lt e)]; exact e

section
variable {g g' : Addr → Option Value}
theorem GInt.keep (h : GLe g g') {x : Int} {b o : Nat} (r : GInt g x b o) : GInt g' x b o := h _ _ r
theorem ints_keep (h : GLe g g') {v : Value} {l : List Int} (r : SlAt 1 (GInt g) v l) : SlAt 1 (GInt g') v l := r.mono fun _ _ _ => GInt.keep h
theorem GIns.keep (h : GLe g g') {x : LIns} {b o : Nat} (r : GIns g x b o) : GIns g' x b o := ⟨h _ _ r.1, h _ _ r.2.1, h _ _ r.2.2⟩
theorem GFrame.keep (h : GLe g g') {x : LFrame} {b o : Nat} (r : GFrame g x b o) : GFrame g' x b o := by
 obtain ⟨vl, vs, h1, h2, h3, h4, h5⟩ := r
 exact ⟨vl, vs, h _ _ h1, h _ _ h2, h _ _ h3, ints_keep h h4, ints_keep h h5⟩
theorem code_keep (h : GLe g g') {v : Value} {l : List LIns} (r : SlAt 3 (GIns g) v l) : SlAt 3 (GIns g') v l := r.mono fun _ _ _ => GIns.keep h
theorem frames_keep (h : GLe g g') {v : Value} {l : List LFrame} (r : SlAt 3 (GFrame g) v l) : SlAt 3 (GFrame g') v l := r.mono fun _ _ _ => GFrame.keep h
theorem GVals.keep (h : GLe g g') {x : LMeth} {va vc vf : Value} (r : GVals g x va vc vf) : GVals g' x va vc vf := ⟨ints_keep h r.1, code_keep h r.2.1, frames_keep h r.2.2⟩
theorem GMeth.keep (h : GLe g g') {x : LMeth} {b o : Nat} (r : GMeth g x b o) : GMeth g' x b o := by
 obtain ⟨va, vc, vf, h0, h1, h2, h3, h4, h5, h6, h7⟩ := r
 exact ⟨va, vc, vf, h0.keep h, h _ _ h1, h _ _ h2, h _ _ h3, h _ _ h4, h _ _ h5, h _ _ h6, h _ _ h7⟩
theorem meths_keep (h : GLe g g') {v : Value} {l : List LMeth} (r : SlAt 7 (GMeth g) v l) : SlAt 7 (GMeth g') v l := r.mono fun _ _ _ => GMeth.keep h
theorem GClass.keep (h : GLe g g') {x : LClass} {b o : Nat} (r : GClass g x b o) : GClass g' x b o := by
 obtain ⟨vf, vm, h1, h2, h3, h4, h5⟩ := r
 exact ⟨vf, vm, h _ _ h1, h _ _ h2, h _ _ h3, ints_keep h h4, meths_keep h h5⟩
theorem prog_keep (h : GLe g g') {v : Value} {l : List LClass} (r : SlAt 3 (GClass g) v l) : SlAt 3 (GClass g') v l := r.mono fun _ _ _ => GClass.keep h
end

theorem box_cell (w : World) (cs : Array Value) (t : TypeId) (i : Nat) : (w.alloc (.cells cs t)).cell? ⟨w.heap.size, i, none⟩ = cs[i]? := by
 show (match (w.heap.push (Obj.cells cs t))[w.heap.size]? with | some (.cells c _ _) => if (none : Option Nat).isSome then none else c[i]? | _ => none) = _
 rw [Array.getElem?_push_size]; rfl
theorem box_below (w : World) (o : Obj) : Below w.heap.size w (w.alloc o) := (Below.refl _ _).alloc (Nat.le_refl _) _
theorem box_keeps (w : World) (o : Obj) : Keeps w (w.alloc o) := Keeps.of_below (box_below w o)
theorem box2_below (w : World) (o o' : Obj) : Below w.heap.size w ((w.alloc o).alloc o') := (box_below w o).alloc (box_below w o).size _
theorem box2_fst (w : World) (cs : Array Value) (t : TypeId) (o' : Obj) (i : Nat) : ((w.alloc (.cells cs t)).alloc o').cell? ⟨w.heap.size, i, none⟩ = cs[i]? := by
 rw [World.cell?_alloc_lt _ _ _ (by simp)]; exact box_cell w cs t i
theorem box2_snd (w : World) (o : Obj) (cs : Array Value) (t : TypeId) (i : Nat) : ((w.alloc o).alloc (.cells cs t)).cell? ⟨w.heap.size + 1, i, none⟩ = cs[i]? := by
 have := box_cell (w.alloc o) cs t i
 rwa [show (w.alloc o).heap.size = w.heap.size + 1 by simp] at this
theorem ret_bool {a b : Bool} (h : a = b) : Ending.returned (.bool a) = .returned (.bool b) := by rw [h]
theorem ret_int {k : IntKind} {a b : Int} (h : a = b) : Ending.returned (.int k a) = .returned (.int k b) := by rw [h]

theorem ints_open {w : World} {v : Value} {l : List Int} (h : SlAt 1 (RInt w) v l) :
  ∃ (a : Option Addr) (b off cap : Nat), v = .slice a l.length cap ∧ l.length ≤ cap ∧ (l ≠ [] → a = some ⟨b, off, none⟩) ∧ ∀ (j : Nat) (hj : j < l.length), w.cell? ⟨b, off + j, none⟩ = some (.int .i64 l[j]) := by
 obtain ⟨a, b, off, cap, h1, h2, h3, h4⟩ := h
 refine ⟨a, b, off, cap, h1, h2, h3.1, fun j hj => ?_⟩
 have := h4 j _ (List.getElem?_eq_getElem hj)
 unfold RInt GInt at this
 rwa [Nat.mul_one] at this
theorem ints_src {w : World} {v : Value} {l : List Int} (h : SlAt 1 (RInt w) v l) :
  ∃ (a : Option Addr) (cap : Nat), v = .slice a l.length cap ∧ (a = none → l = [] ∧ cap = 0) ∧ ∀ ad, a = some ad → ∀ (j : Nat) (u : Value), (l.map (Value.int .i64))[j]? = some u → w.cell? (ad.add j) = some u := by
 obtain ⟨a, b, off, cap, h1, h2, h3, h4⟩ := h
 refine ⟨a, cap, h1, fun e => ?_, fun ad e j u hu => ?_⟩
 ·rcases h3.2 with ⟨_, hc⟩ | hc | ⟨_, hc⟩
  ·exact ⟨Classical.byContradiction fun hn => (by have := h3.1 hn; rw [e] at this; cases this), hc⟩
  ·rw [e] at hc; cases hc
  ·exact absurd e hc
 ·rcases h3.2 with ⟨hc, _⟩ | hc | ⟨hc, _⟩
  ·rw [e] at hc; cases hc
  ·rw [e] at hc; cases hc
   rw [List.getElem?_map] at hu
   cases hl : l[j]? with
   | none => rw [hl] at hu; cases hu
   | some x =>
    rw [hl] at hu; cases hu
    have := h4 j x hl
    unfold RInt GInt at this
    rw [Nat.mul_one] at this
    rw [show (⟨b, off, none⟩ : Addr).add j = ⟨b, off + j, none⟩ by unfold Addr.add; split <;> simp_all]
    exact this
  ·subst hc; simp at hu
theorem code_open {w : World} {v : Value} {l : List LIns} (h : SlAt 3 (RIns w) v l) :
  ∃ (a : Option Addr) (b off cap : Nat), v = .slice a l.length cap ∧ l.length ≤ cap ∧ (l ≠ [] → a = some ⟨b, off, none⟩) ∧
   (∀ (j : Nat) (hj : j < l.length), w.cell? ⟨b, off + j * 3, none⟩ = some (.int .i64 l[j].op)) ∧ (∀ (j : Nat) (hj : j < l.length), w.cell? ⟨b, off + j * 3 + 1, none⟩ = some (.int .i64 l[j].a)) ∧
   (∀ (j : Nat) (hj : j < l.length), w.cell? ⟨b, off + j * 3 + 2, none⟩ = some (.int .i64 l[j].b)) := by
 obtain ⟨a, b, off, cap, h1, h2, h3, h4⟩ := h
 exact ⟨a, b, off, cap, h1, h2, h3.1, fun j hj => (h4 j _ (List.getElem?_eq_getElem hj)).1, fun j hj => (h4 j _ (List.getElem?_eq_getElem hj)).2.1, fun j hj => (h4 j _ (List.getElem?_eq_getElem hj)).2.2⟩
theorem sl_open {α : Type} {sz : Nat} {R : α → Nat → Nat → Prop} {v : Value} {l : List α} (h : SlAt sz R v l) :
  ∃ (a : Option Addr) (b off cap : Nat), v = .slice a l.length cap ∧ l.length ≤ cap ∧ (l ≠ [] → a = some ⟨b, off, none⟩) ∧ ∀ (j : Nat) (hj : j < l.length), R l[j] b (off + j * sz) := by
 obtain ⟨a, b, off, cap, h1, h2, h3, h4⟩ := h
 exact ⟨a, b, off, cap, h1, h2, h3.1, fun j hj => h4 j _ (List.getElem?_eq_getElem hj)⟩
theorem ne_nil_of_lt {α : Type} {l : List α} {k : Nat} (h : k < l.length) : l ≠ [] := by intro e; subst e; simp at h
theorem all_snoc {α : Type} {l : List α} {f : α → Bool} {k : Nat} (h : k < l.length) : (l.take (k + 1)).all f = ((l.take k).all f && f l[k]) := by
 rw [List.take_add_one, List.getElem?_eq_getElem h, List.all_append, Option.toList_some, List.all_cons, List.all_nil, Bool.and_true]
theorem hide {p : Prop} (h : p) : Hid p := h
theorem unhide {p : Prop} (h : Hid p) : p := h

def I64 (x : Int) : Prop := -9223372036854775808 ≤ x ∧ x ≤ 9223372036854775807
end Go.Proofs.YtiiokkllmchohaaGreat
/- Plain mathematics: what the document's words say of a program (Form), on plain Lean data. -/
namespace Go.Proofs.YtiiokkllmchohaaGreat
open Go.RowKit

def declB (n : Int) (t : Int) : Bool := t == 0 || (decide (3 ≤ t) && decide (t - 3 < n))
def framedB (n : Int) (t : Int) : Bool := declB n t || t == 1 || t == 2
def placeB (v n : Int) : Bool := decide (0 ≤ v) && decide (v < n)

def chain (p : List LClass) : Nat → Int → List Nat
 | 0, _ => []
 | f + 1, c => if c < 0 then [] else match p[c.toNat]? with
  | none => []
  | some x => c.toNat :: chain p f x.sup
def chainOf (p : List LClass) (c : Int) : List Nat := chain p (c.toNat + 1) c
def supB (c : Nat) (x : LClass) : Bool := if c = 0 then x.sup == -1 else decide (0 ≤ x.sup) && decide (x.sup < c)
def SupOk (p : List LClass) (n : Nat) : Prop := ∀ (c : Nat) (x : LClass), c < n → p[c]? = some x → supB c x = true

theorem supB_zero {x : LClass} (h : supB 0 x = true) : x.sup = -1 := by simpa [supB] using h
theorem supB_pos {c : Nat} {x : LClass} (hc : 0 < c) (h : supB c x = true) : 0 ≤ x.sup ∧ x.sup < c := by
 unfold supB at h
 rw [if_neg (by omega)] at h
 simpa using h
theorem supB_le {c : Nat} {x : LClass} (h : supB c x = true) : -1 ≤ x.sup ∧ x.sup < c := by
 rcases Nat.eq_zero_or_pos c with rfl | hc
 ·have := supB_zero h; omega
 ·have := supB_pos hc h; omega

theorem chain_neg (p : List LClass) (f : Nat) {c : Int} (h : c < 0) : chain p f c = [] := by
 cases f with
 | zero => rfl
 | succ f => simp [chain, h]
theorem chain_fuel (p : List LClass) {n : Nat} (hs : SupOk p n) : ∀ (f g : Nat) (c : Int), c < n → c.toNat + 1 ≤ f → c.toNat + 1 ≤ g → chain p f c = chain p g c := by
 intro f
 induction f with
 | zero => intro g c _ h; omega
 | succ f ih =>
  intro g c hn hf hg
  match g, hg with
  | g + 1, hg =>
   rcases Int.lt_or_le c 0 with h | h
   ·rw [chain_neg p _ h, chain_neg p _ h]
   ·simp only [chain, if_neg (Int.not_lt.2 h)]
    cases hx : p[c.toNat]? with
    | none => rfl
    | some x =>
     have hb := supB_le (hs c.toNat x (by omega) hx)
     simp only
     rcases Int.lt_or_le x.sup 0 with k | k
     ·rw [chain_neg p _ k, chain_neg p _ k]
     ·rw [ih g x.sup (by omega) (by omega) (by omega)]
theorem chainOf_neg (p : List LClass) {c : Int} (h : c < 0) : chainOf p c = [] := chain_neg p _ h
theorem chainOf_cons (p : List LClass) {n : Nat} (hs : SupOk p n) {c : Nat} {x : LClass} (hn : c < n) (hx : p[c]? = some x) : chainOf p (c : Int) = c :: chainOf p x.sup := by
 have hb := supB_le (hs c x hn hx)
 show chain p (c + 1) (c : Int) = _
 simp only [chain]
 rw [if_neg (by omega), Int.toNat_natCast, hx]
 simp only
 rcases Int.lt_or_le x.sup 0 with k | k
 ·rw [chain_neg p _ k, chainOf_neg p k]
 ·unfold chainOf
  rw [chain_fuel p hs c (x.sup.toNat + 1) x.sup (by omega) (by omega) (by omega)]

def ownFields (p : List LClass) (c : Nat) : List Int := ((p[c]?).map (·.fields)).getD []
def fieldsOf (p : List LClass) (c : Int) : List Int := ((chainOf p c).reverse.map (ownFields p)).flatten
def slotIn (ms : List LMeth) (slot : Int) : Option Nat := ms.findIdx? (fun m => m.slot == slot)
def ownSlot (p : List LClass) (slot : Int) (c : Nat) : Option (Nat × Nat) := (p[c]?).bind fun x => (slotIn x.meths slot).map fun k => (c, k)
def methOf (p : List LClass) (c slot : Int) : Option (Nat × Nat) := (chainOf p c).findSome? (ownSlot p slot)
def methAt (p : List LClass) (ck : Nat × Nat) : Option LMeth := (p[ck.1]?).bind fun x => x.meths[ck.2]?

theorem slotIn_some {ms : List LMeth} {slot : Int} {k : Nat} (hk : k < ms.length) (h : ms[k].slot = slot) (hb : ∀ (j : Nat) (hj : j < ms.length), j < k → ms[j].slot ≠ slot) : slotIn ms slot = some k := by
 unfold slotIn
 rw [List.findIdx?_eq_some_iff_getElem]
 refine ⟨hk, by simpa using h, fun j hj => ?_⟩
 simpa using hb j (by omega) hj
theorem slotIn_none {ms : List LMeth} {slot : Int} (hb : ∀ (j : Nat) (hj : j < ms.length), ms[j].slot ≠ slot) : slotIn ms slot = none := by
 unfold slotIn
 rw [List.findIdx?_eq_none_iff]
 intro m hm
 obtain ⟨j, hj, rfl⟩ := List.getElem_of_mem hm
 simpa using hb j hj
theorem methOf_neg (p : List LClass) {c : Int} (slot : Int) (h : c < 0) : methOf p c slot = none := by
 unfold methOf; rw [chainOf_neg p h]; rfl
theorem methOf_step (p : List LClass) {n : Nat} (hs : SupOk p n) {c : Nat} {x : LClass} (slot : Int) (hn : c < n) (hx : p[c]? = some x) :
  methOf p (c : Int) slot = match slotIn x.meths slot with
   | some k => some (c, k)
   | none => methOf p x.sup slot := by
 unfold methOf
 rw [chainOf_cons p hs hn hx, List.findSome?_cons]
 have e : ownSlot p slot c = (slotIn x.meths slot).map fun k => (c, k) := by unfold ownSlot; rw [hx]; rfl
 rw [e]
 cases slotIn x.meths slot <;> rfl
theorem slotIn_at {ms : List LMeth} {slot : Int} {k : Nat} (h : slotIn ms slot = some k) : ∃ o, ms[k]? = some o ∧ o.slot = slot := by
 unfold slotIn at h
 rw [List.findIdx?_eq_some_iff_getElem] at h
 obtain ⟨hk, hs, _⟩ := h
 exact ⟨_, List.getElem?_eq_getElem hk, by simpa using hs⟩
theorem methOf_some (p : List LClass) {n : Nat} (hs : SupOk p n) (slot : Int) {i j : Nat} : ∀ (c : Nat), c < n → methOf p (c : Int) slot = some (i, j) → ∃ y o, p[i]? = some y ∧ y.meths[j]? = some o ∧ i ≤ c ∧ o.slot = slot := by
 intro c
 induction c using Nat.strongRecOn with
 | ind c ih =>
  intro hn h
  cases hx : p[c]? with
  | none =>
   unfold methOf chainOf chain at h
   rw [if_neg (by omega), Int.toNat_natCast, hx] at h
   simp at h
  | some x =>
   rw [methOf_step p hs slot hn hx] at h
   have hb := supB_le (hs c x hn hx)
   cases hk : slotIn x.meths slot with
   | some k =>
    rw [hk] at h
    cases h
    obtain ⟨o, h1, h2⟩ := slotIn_at hk
    exact ⟨x, o, hx, h1, Nat.le_refl _, h2⟩
   | none =>
    rw [hk] at h
    simp only at h
    rcases Int.lt_or_le x.sup 0 with g | g
    ·rw [methOf_neg p slot g] at h; cases h
    ·obtain ⟨d, hd⟩ := Int.eq_ofNat_of_zero_le g
     rw [hd] at h
     obtain ⟨y, o, h1, h2, h3, h4⟩ := ih d (by omega) (by omega) h
     exact ⟨y, o, h1, h2, by omega, h4⟩
theorem fieldsOf_step (p : List LClass) {n : Nat} (hs : SupOk p n) {c : Nat} {x : LClass} (hn : c < n) (hx : p[c]? = some x) : fieldsOf p (c : Int) = fieldsOf p x.sup ++ x.fields := by
 unfold fieldsOf
 rw [chainOf_cons p hs hn hx]
 simp [ownFields, hx]
theorem fieldsOf_neg (p : List LClass) {c : Int} (h : c < 0) : fieldsOf p c = [] := by unfold fieldsOf; rw [chainOf_neg p h]; rfl

def overB (p : List LClass) (x : LClass) (m : LMeth) : Bool :=
 match methOf p x.sup m.slot with
 | none => true
 | some ck => match methAt p ck with
  | none => true
  | some o => o.args == m.args && o.ret == m.ret
def bareB (n : Nat) (m : LMeth) : Bool :=
 decide (0 ≤ m.slot) && decide (m.slot ≤ 5) && decide (m.args.length ≤ 3) && m.args.all (declB n) && declB n m.ret && decide (1 + m.args.length ≤ m.locals) && decide (m.locals ≤ 8) && decide (0 ≤ m.stack) && decide (m.stack ≤ 8)
def headB (p : List LClass) (x : LClass) (k : Nat) (m : LMeth) : Bool :=
 bareB p.length m && ((x.meths.take k).all fun o => !(o.slot == m.slot)) && overB p x m
theorem bareB_iff {n : Nat} {m : LMeth} : bareB n m = true ↔ (0 ≤ m.slot ∧ m.slot ≤ 5 ∧ m.args.length ≤ 3 ∧ m.args.all (declB n) = true ∧ declB n m.ret = true ∧ 1 + m.args.length ≤ m.locals ∧ m.locals ≤ 8 ∧ 0 ≤ m.stack ∧ m.stack ≤ 8) := by
 unfold bareB
 simp only [Bool.and_eq_true, decide_eq_true_eq, and_assoc]
def restB (p : List LClass) (c : Nat) (x : LClass) : Bool :=
 x.fields.all (declB p.length) && decide ((fieldsOf p c).length ≤ 8) && decide (x.meths.length ≤ 6) && (List.range x.meths.length).all fun k => match x.meths[k]? with
  | none => true
  | some m => headB p x k m
def classB (p : List LClass) (c : Nat) : Bool := match p[c]? with
 | none => true
 | some x => supB c x && restB p c x
def insB (p : List LClass) (m : LMeth) (i : LIns) : Bool :=
 if i.op = 0 then i.b == 0
 else if i.op = 1 ∨ i.op = 2 then placeB i.a m.locals && i.b == 0
 else if i.op = 7 ∨ i.op = 8 ∨ i.op = 18 then placeB i.a m.code.length && i.b == 0
 else if i.op = 9 ∨ i.op = 17 then placeB i.a p.length && i.b == 0
 else if i.op = 10 ∨ i.op = 11 then placeB i.a p.length && placeB i.b (fieldsOf p i.a).length
 else if i.op = 12 then placeB i.a p.length && (methOf p i.a i.b).isSome
 else placeB i.op 21 && i.a == 0 && i.b == 0
def frameB (n : Nat) (m : LMeth) (f : LFrame) : Bool :=
 decide (f.pc < m.code.length) && decide ((f.locals.length : Int) = m.locals) && decide ((f.stack.length : Int) ≤ m.stack) && f.locals.all (framedB n) && f.stack.all (framedB n)
def framesB (n : Nat) (m : LMeth) : Int → List LFrame → Bool
 | _, [] => true
 | last, f :: r => decide (last < f.pc) && frameB n m f && framesB n m f.pc r
def codeB (p : List LClass) (m : LMeth) : Bool :=
 decide (1 ≤ m.code.length) && decide (m.code.length ≤ 40) && decide (m.frames.length ≤ 40) && m.code.all (insB p m) && framesB p.length m (-1) m.frames
def formI (p : List LClass) : Int :=
 if p.length < 1 ∨ 6 < p.length then 2
 else if (List.range p.length).all (classB p) then
  if p.all (fun x => x.meths.all (codeB p)) then 0 else 3
 else 2

def wfFrame (f : LFrame) : Prop := I64 f.pc ∧ (∀ x ∈ f.locals, I64 x) ∧ ∀ x ∈ f.stack, I64 x
def wfIns (i : LIns) : Prop := I64 i.op ∧ I64 i.a ∧ I64 i.b
def wfMeth (m : LMeth) : Prop := I64 m.slot ∧ (∀ x ∈ m.args, I64 x) ∧ I64 m.ret ∧ I64 m.locals ∧ I64 m.stack ∧ (∀ i ∈ m.code, wfIns i) ∧ ∀ f ∈ m.frames, wfFrame f
def wfClass (x : LClass) : Prop := I64 x.sup ∧ (∀ t ∈ x.fields, I64 t) ∧ ∀ m ∈ x.meths, wfMeth m
def wfProg (p : List LClass) : Prop := ∀ x ∈ p, wfClass x
def szFrame (f : LFrame) : Nat := f.locals.length + f.stack.length + 4
def szMeth (m : LMeth) : Nat := m.args.length + 4 * m.code.length + (m.frames.map szFrame).sum + 8
def szClass (x : LClass) : Nat := x.fields.length + (x.meths.map szMeth).sum + 4
def szProg (p : List LClass) : Nat := (p.map szClass).sum

theorem le_sum_map {α : Type} (f : α → Nat) : ∀ (l : List α) (x : α), x ∈ l → f x ≤ (l.map f).sum
 | [], x, h => by simp at h
 | y :: r, x, h => by
  simp only [List.map_cons, List.sum_cons]
  rcases List.mem_cons.1 h with rfl | h
  ·omega
  ·have := le_sum_map f r x h; omega
theorem length_le_sum_map {α : Type} (f : α → Nat) (hf : ∀ x, 1 ≤ f x) : ∀ (l : List α), l.length ≤ (l.map f).sum
 | [] => by simp
 | y :: r => by
  simp only [List.map_cons, List.sum_cons, List.length_cons]
  have := length_le_sum_map f hf r
  have := hf y
  omega
theorem szProg_len (p : List LClass) : p.length ≤ szProg p := length_le_sum_map _ (fun x => by unfold szClass; omega) p
theorem szClass_le {p : List LClass} {x : LClass} (h : x ∈ p) : szClass x ≤ szProg p := le_sum_map _ p x h
theorem szMeth_le {x : LClass} {m : LMeth} (h : m ∈ x.meths) : szMeth m ≤ szClass x := by
 have := le_sum_map szMeth _ m h
 unfold szClass; omega
theorem szFields_le (x : LClass) : x.fields.length ≤ szClass x := by unfold szClass; omega
theorem szMeths_le (x : LClass) : x.meths.length ≤ szClass x := by
 have := length_le_sum_map szMeth (fun m => by unfold szMeth; omega) x.meths
 unfold szClass; omega
theorem sum_take_le {α : Type} (f : α → Nat) (k : Nat) (l : List α) : ((l.take k).map f).sum ≤ (l.map f).sum := by
 have := List.take_append_drop k l
 conv => rhs; rw [← this]
 rw [List.map_append, List.sum_append]; omega
theorem fieldsOf_len (p : List LClass) {n : Nat} (hs : SupOk p n) : ∀ (c : Nat), c < n → (fieldsOf p (c : Int)).length ≤ ((p.take (c + 1)).map szClass).sum := by
 intro c
 induction c using Nat.strongRecOn with
 | ind c ih =>
  intro hn
  rcases Nat.lt_or_ge c p.length with hc | hc
  ·have hx := List.getElem?_eq_getElem hc
   have hb := supB_le (hs c _ hn hx)
   rw [fieldsOf_step p hs hn hx, List.take_add_one, hx, List.map_append, List.sum_append, List.length_append]
   have h0 : szClass p[c] = ((Option.toList (some p[c])).map szClass).sum := by simp
   have h1 := szFields_le p[c]
   rcases Int.lt_or_le p[c].sup 0 with g | g
   ·rw [fieldsOf_neg p g]; simp only [List.length_nil]; omega
   ·obtain ⟨k, hk⟩ := Int.eq_ofNat_of_zero_le g
    rw [hk]
    have := ih k (by omega) (by omega)
    have h2 : ((p.take (k + 1)).map szClass).sum ≤ ((p.take c).map szClass).sum := by
     have : p.take (k + 1) = (p.take c).take (k + 1) := by rw [List.take_take]; congr 1; omega
     rw [this]
     exact sum_take_le szClass (k + 1) (p.take c)
    omega
  ·unfold fieldsOf chainOf chain
   rw [if_neg (by omega), Int.toNat_natCast, List.getElem?_eq_none hc]
   simp
theorem fieldsOf_sz (p : List LClass) {n : Nat} (hs : SupOk p n) {c : Nat} (hn : c < n) : (fieldsOf p (c : Int)).length ≤ szProg p := by
 refine Nat.le_trans (fieldsOf_len p hs c hn) ?_
 have := List.take_append_drop (c + 1) p
 unfold szProg
 conv => rhs; rw [← this]
 rw [List.map_append, List.sum_append]; omega
theorem szFrame_le {m : LMeth} {f : LFrame} (h : f ∈ m.frames) : szFrame f ≤ szMeth m := by
 have := le_sum_map szFrame _ f h
 unfold szMeth; omega
theorem szFrames_le (m : LMeth) : m.frames.length ≤ szMeth m := by
 have := length_le_sum_map szFrame (fun m => by unfold szFrame; omega) m.frames
 unfold szMeth; omega
end Go.Proofs.YtiiokkllmchohaaGreat
/- Walks of the document's answer: small tests on types. -/
namespace Go.Proofs.YtiiokkllmchohaaGreat
open Go.RowKit

end Go.Proofs.YtiiokkllmchohaaGreat
/- Walks of the document's answer: types in frames, lists of types that are the same. -/
namespace Go.Proofs.YtiiokkllmchohaaGreat
open Go.RowKit

theorem take_snoc_eq {l r : List Int} {k : Nat} (h1 : k < l.length) (h2 : k < r.length) : (l.take (k + 1) = r.take (k + 1)) ↔ (l.take k = r.take k ∧ l[k] = r[k]) := by
 rw [List.take_add_one, List.take_add_one, List.getElem?_eq_getElem h1, List.getElem?_eq_getElem h2]
 simp only [Option.toList_some]
 constructor
 ·intro h
  have := List.append_inj' h rfl
  simpa using this
 ·rintro ⟨h, k⟩; rw [h, k]

end Go.Proofs.YtiiokkllmchohaaGreat
/- Walks of the document's answer: the method of a class and a slot. -/
namespace Go.Proofs.YtiiokkllmchohaaGreat
open Go.RowKit

end Go.Proofs.YtiiokkllmchohaaGreat
/- Laws for slices that the call itself owns: append of whatever slice, with where the new slice lies. -/
namespace Go.Proofs.YtiiokkllmchohaaGreat
open Go.RowKit

section
variable {P : Program} {w : World}

theorem wp_append_sl {o : Oper} {a : Act} {K : Act → World → Prop} {Q : Exit → Act → World → Prop} (s x : Operand) (t : TypeId)
  (ho : o.op = .call { callee := .builtin .append, args := #[s, x], argTypes := #[t, t] })
  (base : Nat) (e : TypeId) (i : TypeInfo) (z : Value) (size bytes : Nat) (ht : P.underlying t = some (.slice e)) (hi : P.info? e = some i) (hz : i.zero = some z)
  (hsize : i.size = size) (hby : i.bytes = bytes) (hzs : z.cells.size = size) (hsz : 0 < size)
  (v : Value) (n : Nat) (xs : List Value) (hs : a.eval s = v) (hown : w.ownsRow base e size v n xs)
  (sa : Option Addr) (m c : Nat) (news : List Value) (hx : a.eval x = .slice sa m c) (hl : news.length = m * size) (hnil : sa = none → m = 0 ∧ c = 0)
  (hnews : ∀ ad, sa = some ad → ∀ j u, news[j]? = some u → w.cell? (ad.add j) = some u) (h1 : ∀ u ∈ news, u.oneCell' = true)
  (h63 : n + m ≤ maxLen) (hbytes : (n + m) * bytes ≤ 140737488355328) (hbase : base ≤ w.heap.size)
  (h : ∀ v' w', w'.ownsRow base e size v' (n + m) (xs ++ news) → w.grownBy w' v.ownBlock → (v'.ownBlock = v.ownBlock ∨ v'.ownBlock = some w.heap.size) → K (a.put o.dst v') w') : o.wp P a w K Q := by
 cases sa with
 | none =>
  obtain ⟨rfl, rfl⟩ := hnil rfl
  obtain rfl : news = [] := List.eq_nil_of_length_eq_zero (by simpa using hl)
  have hr := run_append_owned_none (P := P) (w := w) base t o.type e i size ht hi v n xs hown
  unfold Oper.wp execOp
  simp only [ho, resolve, invoke, builtin, Sem.run_bind, Sem.run_pure, Result.andThen_ok, List.map_toArray, List.map_cons, List.map_nil, hs, hx, hr]
  exact h v w (by simpa using hown) ⟨rfl, rfl, rfl, Nat.le_refl _, fun _ _ _ => rfl⟩ (.inl rfl)
 | some ad =>
  obtain ⟨v', w', hr, h2, h3, _, h5⟩ := run_append_own_at (P := P) w base t o.type e i z size bytes ht hi hz hsize hby hzs hsz v n xs hown ad m c news hl (hnews ad rfl) h1 h63 hbytes hbase
  unfold Oper.wp execOp
  simp only [ho, resolve, invoke, builtin, Sem.run_bind, Sem.run_pure, Result.andThen_ok, List.map_toArray, List.map_cons, List.map_nil, hs, hx, hr]
  exact h v' w' h2 h3 h5

theorem wpList_append_sl {ops : Array Oper} {rest : List Oper} {o : Oper} {a : Act} {Q : Exit → Act → World → Prop} (hgd : o.guard = none) (s x : Operand) (t : TypeId)
  (ho : o.op = .call { callee := .builtin .append, args := #[s, x], argTypes := #[t, t] })
  (base : Nat) (e : TypeId) (i : TypeInfo) (z : Value) (size bytes : Nat) (ht : P.underlying t = some (.slice e)) (hi : P.info? e = some i) (hz : i.zero = some z)
  (hsize : i.size = size) (hby : i.bytes = bytes) (hzs : z.cells.size = size) (hsz : 0 < size)
  (v : Value) (n : Nat) (xs : List Value) (hs : a.eval s = v) (hown : w.ownsRow base e size v n xs)
  (sa : Option Addr) (m c : Nat) (news : List Value) (hx : a.eval x = .slice sa m c) (hl : news.length = m * size) (hnil : sa = none → m = 0 ∧ c = 0)
  (hnews : ∀ ad, sa = some ad → ∀ j u, news[j]? = some u → w.cell? (ad.add j) = some u) (h1 : ∀ u ∈ news, u.oneCell' = true)
  (h63 : n + m ≤ maxLen) (hbytes : (n + m) * bytes ≤ 140737488355328) (hbase : base ≤ w.heap.size)
  (h : ∀ v' w', w'.ownsRow base e size v' (n + m) (xs ++ news) → w.grownBy w' v.ownBlock → (v'.ownBlock = v.ownBlock ∨ v'.ownBlock = some w.heap.size) → wpList P ops Q rest (a.put o.dst v') w') : wpList P ops Q (o :: rest) a w :=
 wpList_plain hgd fun _ hK => wp_append_sl s x t ho base e i z size bytes ht hi hz hsize hby hzs hsz v n xs hs hown sa m c news hx hl hnil hnews h1 h63 hbytes hbase fun v' w' h2 h3 h4 => hK _ _ (h v' w' h2 h3 h4)
end

theorem own_base {w : World} {base base' : Nat} {e : TypeId} {size : Nat} {v : Value} {n : Nat} {xs : List Value} (h : w.ownsRow base e size v n xs) (hb : base' ≤ base) : w.ownsRow base' e size v n xs := by
 refine ⟨h.1, ?_⟩
 rcases h.2 with g | ⟨g, cap, cur, h1, h2, h3⟩
 ·exact .inl g
 ·exact .inr ⟨g, cap, cur, h1, Nat.le_trans hb h2, h3⟩
theorem own_form {w : World} {base : Nat} {e : TypeId} {size : Nat} {v : Value} {n : Nat} {xs : List Value} (h : w.ownsRow base e size v n xs) : ∃ a cap, v = .slice a n cap := by
 rcases h.2 with ⟨rfl, rfl⟩ | ⟨g, cap, cur, rfl, _⟩
 ·exact ⟨_, _, rfl⟩
 ·exact ⟨_, _, rfl⟩
theorem oneCell_ints (l : List Int) : ∀ u ∈ l.map (Value.int .i64), u.oneCell' = true := by
 intro u hu
 obtain ⟨x, _, rfl⟩ := List.mem_map.1 hu
 rfl
end Go.Proofs.YtiiokkllmchohaaGreat
/- Walk of the document's answer: the fields of a class, inherited ones first. -/
namespace Go.Proofs.YtiiokkllmchohaaGreat
open Go.RowKit
attribute [local go_sem ↓] Go.wp_at_zero Go.wp_at_succ

theorem infoType : (Tryz.prog.info? 43).map (fun i => (i.zero, i.size, i.bytes)) = some (some (.int .i64 0), 1, 8) := by kernel_rfl

end Go.Proofs.YtiiokkllmchohaaGreat
/- Walks of the code's own tests: numbers within a bound, classes that are there, declared types, types in frames. -/
namespace Go.Proofs.YtiiokkllmchohaaGreat
open Go.RowKit
attribute [local go_sem ↓] Go.wp_at_zero Go.wp_at_succ

set_option maxHeartbeats 400000 in
theorem code_within (v n : Int) (w : World) :
  Calls Tryz.prog 182 #[.int .i64 v, .int .i64 n] w fun e w' => e = .returned (.bool (placeB v n)) ∧ w' = w := by
 go_enter Tryz.func182, Tryz.ntmps182
 go_wp2
 all_goals go_ret
 all_goals exact ⟨ret_bool (by simp [placeB, *] <;> omega), rfl⟩

set_option maxHeartbeats 400000 in
theorem code_hasclass (p : List LClass) (vc : Value) (c : Int) (w : World) (hp : RProg w vc p) (_hl : p.length ≤ 4194304) :
  Calls Tryz.prog 108 #[.agg #[vc], .int .i64 c] w fun e w' => e = .returned (.bool (placeB c p.length)) ∧ Below w.heap.size w w' := by
 obtain ⟨a, b, off, cap, rfl, hcap, ha, hr⟩ := sl_open hp
 clear ha hr hp
 go_enter Tryz.func108, Tryz.ntmps108
 go_wp2
 all_goals go_ret
 all_goals exact ⟨ret_bool (by simp [placeB, *] <;> omega), box_below _ _⟩

set_option maxHeartbeats 400000 in
theorem code_isdeclared (p : List LClass) (vc : Value) (t : Int) (w : World) (hp : RProg w vc p) (ht : I64 t) (_hl : p.length ≤ 4194304) :
  Calls Tryz.prog 219 #[.agg #[vc], .int .i64 t] w fun e w' => e = .returned (.bool (declB p.length t)) ∧ Below w.heap.size w w' := by
 obtain ⟨a, b, off, cap, rfl, hcap, ha, hr⟩ := sl_open hp
 obtain ⟨h1, h2⟩ := ht
 clear ha hr hp
 go_enter Tryz.func219, Tryz.ntmps219
 go_wp2
 all_goals go_ret
 all_goals exact ⟨ret_bool (by simp [declB, *] <;> omega), box_below _ _⟩
end Go.Proofs.YtiiokkllmchohaaGreat
/- Walks of the code's own tests: lists of types. -/
namespace Go.Proofs.YtiiokkllmchohaaGreat
open Go.RowKit
attribute [local go_sem ↓] Go.wp_at_zero Go.wp_at_succ

theorem code_isdeclared_eq {p : List LClass} {t : Int} {q : Bool} (h : declB p.length t = q) (vc : Value) (w : World) (hp : RProg w vc p) (ht : I64 t) (hl : p.length ≤ 4194304) :
  Calls Tryz.prog 219 #[.agg #[vc], .int .i64 t] w fun e w' => e = .returned (.bool q) ∧ Below w.heap.size w w' := h ▸ code_isdeclared p vc t w hp ht hl

set_option maxHeartbeats 800000 in
theorem code_aredeclared (p : List LClass) (vc : Value) (l : List Int) (v : Value) (w : World) (hp : RProg w vc p) (hpl : p.length ≤ 4194304) (hl : SlAt 1 (RInt w) v l) (hw : ∀ x ∈ l, I64 x) (hs : l.length ≤ 4194304) :
  Calls Tryz.prog 184 #[.agg #[vc], v] w fun e w' => e = .returned (.bool (l.all (declB p.length))) ∧ Below w.heap.size w w' := by
 have HP := hide hp
 obtain ⟨pa, pb, poff, pcap, rfl, _, _, _⟩ := sl_open hp
 obtain ⟨a, b, off, cap, rfl, hcap, ha, hr⟩ := ints_open hl
 have HR := hide hr
 clear hp hr hl
 go_enter Tryz.func184, Tryz.ntmps184
 go_wp2
 generalize hW : w.alloc _ = W
 have hbel : Below w.heap.size w W := hW ▸ box_below _ _
 have hbox : W.cell? ⟨w.heap.size, 0, none⟩ = some (.slice pa p.length pcap) := hW ▸ box_cell w #[.slice pa p.length pcap] 24 0
 clear hW
 go_loopw [9] (fun i wr => ∃ k : Nat, k ≤ l.length ∧ i = .int .i64 k ∧ (l.take k).all (declB p.length) = true ∧ Below W.heap.size W wr) (fun i _ => l.length - (intOf i).toNat)
 case atStart => exact ⟨0, Nat.zero_le _, rfl, rfl, Below.refl _ _⟩
 case round =>
  obtain ⟨k, hk, rfl, hall, hbr⟩ := hrel
  have HA : Hid ((l.take k).all (declB p.length) = true) := hall
  clear hall
  have hfin : Below w.heap.size w wr := hbel.trans (hbr.mono hbel.size)
  by_cases hlt : k < l.length
  ·obtain rfl := ha (ne_nil_of_lt hlt)
   have hx := hw _ (List.getElem_mem hlt)
   have hS := all_snoc (f := declB p.length) hlt
   rw [HA.out] at hS
   have HS := hide hS
   have e0 := Keeps.of_below hbr _ _ hbox
   have e1 := Keeps.of_below hfin _ _ (unhide HR k hlt)
   clear hS hw
   cases hb : declB p.length l[k]
   ·have hB := code_isdeclared_eq hb _ wr (prog_keep (Keeps.of_below hfin) (unhide HP)) hx hpl
    go_wp2_with (go_at_call 219; refine hB.mono ?_; rintro e w' ⟨rfl, hb1⟩)
    go_ret
    exact ⟨ret_bool (by rw [← List.take_append_drop (k + 1) l, List.all_append, unhide HS, hb]; rfl), hfin.trans (hb1.mono hfin.size)⟩
   ·have hB := code_isdeclared_eq hb _ wr (prog_keep (Keeps.of_below hfin) (unhide HP)) hx hpl
    go_wp2_with (go_at_call 219; refine hB.mono ?_; rintro e w' ⟨rfl, hb1⟩)
    exact ⟨⟨k + 1, by omega, by go_num, by rw [unhide HS, hb]; rfl, hbr.trans (hb1.mono hbr.size)⟩, by simp [intOf]; omega⟩
  ·go_wp2
   go_ret
   exact ⟨ret_bool (by rw [← HA.out, List.take_of_length_le (by omega)]), hfin⟩

set_option maxHeartbeats 800000 in
theorem code_maystand (p : List LClass) (vc : Value) (l : List Int) (v : Value) (w : World) (hp : RProg w vc p) (hpl : p.length ≤ 4194304) (hl : SlAt 1 (RInt w) v l) (hw : ∀ x ∈ l, I64 x) (hs : l.length ≤ 4194304) :
  Calls Tryz.prog 222 #[.agg #[vc], v] w fun e w' => e = .returned (.bool (l.all (framedB p.length))) ∧ Below w.heap.size w w' := by
 have HP := hide hp
 obtain ⟨pa, pb, poff, pcap, rfl, _, _, _⟩ := sl_open hp
 obtain ⟨a, b, off, cap, rfl, hcap, ha, hr⟩ := ints_open hl
 have HR := hide hr
 clear hp hr hl
 go_enter Tryz.func222, Tryz.ntmps222
 go_wp2
 generalize hW : w.alloc _ = W
 have hbel : Below w.heap.size w W := hW ▸ box_below _ _
 have hbox : W.cell? ⟨w.heap.size, 0, none⟩ = some (.slice pa p.length pcap) := hW ▸ box_cell w #[.slice pa p.length pcap] 24 0
 clear hW
 go_loopw [9] (fun i wr => ∃ k : Nat, k ≤ l.length ∧ i = .int .i64 k ∧ (l.take k).all (framedB p.length) = true ∧ Below W.heap.size W wr) (fun i _ => l.length - (intOf i).toNat)
 case atStart => exact ⟨0, Nat.zero_le _, rfl, rfl, Below.refl _ _⟩
 case round =>
  obtain ⟨k, hk, rfl, hall, hbr⟩ := hrel
  have HA : Hid ((l.take k).all (framedB p.length) = true) := hall
  clear hall
  have hfin : Below w.heap.size w wr := hbel.trans (hbr.mono hbel.size)
  by_cases hlt : k < l.length
  ·obtain rfl := ha (ne_nil_of_lt hlt)
   have hx := hw _ (List.getElem_mem hlt)
   have hS := all_snoc (f := framedB p.length) hlt
   rw [HA.out] at hS
   have HS := hide hS
   have e0 := Keeps.of_below hbr _ _ hbox
   have e1 := Keeps.of_below hfin _ _ (unhide HR k hlt)
   clear hS hw
   by_cases h1 : l[k] = 1
   ·have HT : Hid (framedB p.length l[k] = true) := hide (by simp [framedB, h1])
    rw [h1] at e1
    go_wp2_with fail
    exact ⟨⟨k + 1, by omega, by go_num, by rw [unhide HS, unhide HT]; rfl, hbr⟩, by simp [intOf]; omega⟩
   by_cases h2 : l[k] = 2
   ·have HT : Hid (framedB p.length l[k] = true) := hide (by simp [framedB, h2])
    rw [h2] at e1
    go_wp2_with fail
    exact ⟨⟨k + 1, by omega, by go_num, by rw [unhide HS, unhide HT]; rfl, hbr⟩, by simp [intOf]; omega⟩
   have h1' : (l[k] != 1) = true := by simpa using h1
   have h2' : (l[k] != 2) = true := by simpa using h2
   have hD : framedB p.length l[k] = declB p.length l[k] := by unfold framedB; rw [beq_eq_false_iff_ne.2 h1, beq_eq_false_iff_ne.2 h2, Bool.or_false, Bool.or_false]
   have HD := hide hD
   clear hD h1 h2
   cases hb : declB p.length l[k]
   ·have hB := code_isdeclared_eq hb _ wr (prog_keep (Keeps.of_below hfin) (unhide HP)) hx hpl
    go_wp2_with (go_at_call 219; refine hB.mono ?_; rintro e w' ⟨rfl, hb1⟩)
    go_ret
    exact ⟨ret_bool (by rw [← List.take_append_drop (k + 1) l, List.all_append, unhide HS, unhide HD, hb]; rfl), hfin.trans (hb1.mono hfin.size)⟩
   ·have hB := code_isdeclared_eq hb _ wr (prog_keep (Keeps.of_below hfin) (unhide HP)) hx hpl
    go_wp2_with (go_at_call 219; refine hB.mono ?_; rintro e w' ⟨rfl, hb1⟩)
    exact ⟨⟨k + 1, by omega, by go_num, by rw [unhide HS, unhide HD, hb]; rfl, hbr.trans (hb1.mono hbr.size)⟩, by simp [intOf]; omega⟩
  ·go_wp2
   go_ret
   exact ⟨ret_bool (by rw [← HA.out, List.take_of_length_le (by omega)]), hfin⟩

set_option maxHeartbeats 400000 in
theorem code_equal (l r : List Int) (v u : Value) (w : World) (hl : SlAt 1 (RInt w) v l) (hr : SlAt 1 (RInt w) u r) (hs : l.length ≤ 4194304) (hs' : r.length ≤ 4194304) :
  Calls Tryz.prog 220 #[v, u] w fun e w' => e = .returned (.bool (l == r)) ∧ ∃ n, w' = w.drewN n := by
 obtain ⟨a, b, off, cap, rfl, hcap, ha, hc⟩ := ints_open hl
 obtain ⟨a', b', off', cap', rfl, hcap', ha', hc'⟩ := ints_open hr
 by_cases hn : l.length = r.length
 ·have hne : ((l.length : Int) == (r.length : Int)) = true := by rw [hn]; simp
  go_enter Tryz.func220, Tryz.ntmps220
  go_wp2
  go_loopw [13] (fun i wr => ∃ k : Nat, k ≤ l.length ∧ i = .int .i64 k ∧ l.take k = r.take k ∧ ∃ n, wr = w.drewN n) (fun i _ => l.length - (intOf i).toNat)
  case atStart => exact ⟨0, Nat.zero_le _, rfl, rfl, 0, rfl⟩
  case round =>
   obtain ⟨k, hk, rfl, htk, nn, rfl⟩ := hrel
   have HT := hide htk
   have HN := hide hn
   clear htk hn
   by_cases hlt : k < l.length
   ·have hlt' : k < r.length := by rw [← unhide HN]; exact hlt
    obtain rfl := ha (ne_nil_of_lt hlt)
    obtain rfl := ha' (ne_nil_of_lt hlt')
    have HE := hide (take_snoc_eq hlt hlt')
    go_wp2
    go_quiet (fail)
    go_wp2
    ·go_ret
     have hx : l[k] ≠ r[k] := by simp_all
     exact ⟨ret_bool (by rw [eq_comm, beq_eq_false_iff_ne]; intro e; subst e; exact hx rfl), nn + nq, by rw [World.drewN_drewN]⟩
    ·have hx : l[k] = r[k] := by simp_all
     exact ⟨⟨k + 1, by omega, by go_num, (unhide HE).2 ⟨unhide HT, hx⟩, _, rfl⟩, by simp [intOf]; omega⟩
   ·have hlt' : ¬ k < r.length := by rw [← unhide HN]; exact hlt
    go_wp2
    go_ret
    refine ⟨ret_bool ?_, _, rfl⟩
    have := unhide HT
    rw [List.take_of_length_le (by omega), List.take_of_length_le (by have := unhide HN; omega)] at this
    simp [this]
 ·have hne : ((l.length : Int) == (r.length : Int)) = false := by simp; omega
  go_enter Tryz.func220, Tryz.ntmps220
  go_wp2
  go_ret
  exact ⟨ret_bool (by rw [eq_comm, beq_eq_false_iff_ne]; intro e; subst e; exact hn rfl), 0, rfl⟩
end Go.Proofs.YtiiokkllmchohaaGreat
/- Walks of the code's own search: fields counted, a slot among methods, the method of a class and a slot. -/
namespace Go.Proofs.YtiiokkllmchohaaGreat
open Go.RowKit
attribute [local go_sem ↓] Go.wp_at_zero Go.wp_at_succ

set_option maxHeartbeats 800000 in
theorem code_countfields (p : List LClass) (vc : Value) (n : Nat) (c : Int) (w : World) (hp : RProg w vc p) (hs : SupOk p n) (hn : n ≤ p.length) (hc : -1 ≤ c) (hcn : c < n) (hz : szProg p ≤ 4194304) :
  Calls Tryz.prog 183 #[.agg #[vc], .int .i64 c] w fun e w' =>
   e = .returned (.int .i64 (fieldsOf p c).length) ∧ Below w.heap.size w w' := by
 have hfz : (fieldsOf p c).length ≤ 4194304 := by
  rcases Int.lt_or_le c 0 with h | h
  ·rw [fieldsOf_neg p h]; simp
  ·obtain ⟨k, rfl⟩ := Int.eq_ofNat_of_zero_le h
   exact Nat.le_trans (fieldsOf_sz p hs (by omega)) hz
 obtain ⟨a, b, off, cap, rfl, hcap, ha, hr⟩ := sl_open hp
 go_enter Tryz.func183, Tryz.ntmps183
 go_wp2
 generalize hW : w.alloc _ = W
 have hbel : Below w.heap.size w W := hW ▸ box_below _ _
 have hbox : W.cell? ⟨w.heap.size, 0, none⟩ = some (.slice a p.length cap) := hW ▸ box_cell w #[.slice a p.length cap] 24 0
 clear hW
 go_loop [5, 6] (fun s5 s6 => ∃ (c' : Int) (t : Nat), -1 ≤ c' ∧ c' < n ∧ s6 = .int .i64 c' ∧ s5 = .int .i64 t ∧ t + (fieldsOf p c').length = (fieldsOf p c).length) (fun _ s6 => (intOf s6 + 1).toNat)
 case atStart => exact ⟨c, 0, hc, hcn, rfl, rfl, by omega⟩
 case round =>
  obtain ⟨c', t, h1, h2, rfl, rfl, hm⟩ := hrel
  have HM := hide hm
  have ht : t ≤ 4194304 := by omega
  clear hm
  rcases Int.lt_or_le c' 0 with hneg | hpos
  ·go_wp2
   go_ret
   refine ⟨ret_int ?_, hbel⟩
   have := unhide HM
   rw [fieldsOf_neg p hneg] at this
   simp only [List.length_nil] at this
   omega
  ·obtain ⟨i, rfl⟩ := Int.eq_ofNat_of_zero_le hpos
   have hi : i < p.length := by omega
   obtain rfl := ha (ne_nil_of_lt hi)
   obtain ⟨vf, vm, c0, c1, c2, hf, hmm⟩ := (hr i hi).keep (Keeps.of_below hbel)
   obtain ⟨fa, fb, foff, fcap, rfl, _, _, _⟩ := sl_open hf
   have HX := hide (List.getElem?_eq_getElem hi)
   have hlen : p[i].fields.length ≤ 4194304 := by
    have := szFields_le p[i]; have := szClass_le (List.getElem_mem hi); omega
   clear hr hmm hf
   generalize p[i] = x at *
   go_wp2
   have hsup := supB_le (hs i x (by omega) (unhide HX))
   refine ⟨⟨x.sup, t + x.fields.length, hsup.1, by omega, rfl, by go_num, ?_⟩, by simp [intOf]; omega⟩
   have := unhide HM
   rw [fieldsOf_step p hs (by omega) (unhide HX), List.length_append] at this
   omega

set_option maxHeartbeats 800000 in
theorem code_hasslot (ms : List LMeth) (vm : Value) (slot : Int) (w : World) (hp : SlAt 7 (RMeth w) vm ms) (hz : ms.length ≤ 4194304) :
  Calls Tryz.prog 186 #[vm, .int .i64 slot] w fun e w' =>
   e = .returned (.bool (!(ms.all fun o => !(o.slot == slot)))) ∧ Below w.heap.size w w' := by
 obtain ⟨a, b, off, cap, rfl, hcap, ha, hr⟩ := sl_open hp
 have HR := hide hr
 clear hp hr
 go_enter Tryz.func186, Tryz.ntmps186
 go_wp2
 go_loopw [9] (fun i wr => ∃ k : Nat, k ≤ ms.length ∧ i = .int .i64 k ∧ (ms.take k).all (fun o => !(o.slot == slot)) = true ∧ Below w.heap.size w wr) (fun i _ => ms.length - (intOf i).toNat)
 case atStart => exact ⟨0, Nat.zero_le _, rfl, rfl, Below.refl _ _⟩
 case round =>
  obtain ⟨k, hk, rfl, hall, hbr⟩ := hrel
  have HA := hide hall
  clear hall
  by_cases hlt : k < ms.length
  ·obtain rfl := ha (ne_nil_of_lt hlt)
   have hS := all_snoc (f := fun o : LMeth => !(o.slot == slot)) hlt
   rw [HA.out] at hS
   have HS := hide hS
   obtain ⟨va, vc, vf, hv, m0, m1, m2, m3, m4, m5, m6⟩ := (unhide HR k hlt).keep (Keeps.of_below hbr)
   obtain ⟨_, _, _, _, rfl, _⟩ := hv.1
   obtain ⟨_, _, _, _, rfl, _⟩ := hv.2.1
   obtain ⟨_, _, _, _, rfl, _⟩ := hv.2.2
   have hltb := cell_lt m0
   clear hS hv
   generalize ms[k] = m at *
   cases hb : (m.slot == slot)
   ·go_wp2
    exact ⟨⟨k + 1, by omega, by go_num, by rw [unhide HS]; simp [hb], hbr.trans ((box_below _ _).mono hbr.size)⟩, by simp [intOf]; omega⟩
   ·go_wp2
    go_ret
    exact ⟨ret_bool (by rw [← List.take_append_drop (k + 1) ms, List.all_append, unhide HS]; simp [hb]), hbr.trans ((box_below _ _).mono hbr.size)⟩
  ·go_wp2
   go_ret
   exact ⟨ret_bool (by rw [← List.take_append_drop k ms, List.all_append, unhide HA, List.drop_of_length_le (by omega)]; rfl), hbr⟩
end Go.Proofs.YtiiokkllmchohaaGreat
/- What a step may have changed, block by block; blocks that are known whole; make and copy over them. -/
namespace Go.Proofs.YtiiokkllmchohaaGreat
open Go.RowKit

structure Mods (S : Nat → Prop) (w w' : World) : Prop where
 os : w'.os = w.os
 tape : w'.tape = w.tape
 output : w'.output = w.output
 size : w.heap.size ≤ w'.heap.size
 block : ∀ k, k < w.heap.size → ¬ S k → w'.heap[k]? = w.heap[k]?

theorem Mods.refl (S : Nat → Prop) (w : World) : Mods S w w := ⟨rfl, rfl, rfl, Nat.le_refl _, fun _ _ _ => rfl⟩
theorem Mods.trans {S T : Nat → Prop} {a b c : World} (h : Mods S a b) (k : Mods T b c) (hT : ∀ i, i < a.heap.size → T i → S i) : Mods S a c :=
 ⟨k.os.trans h.os, k.tape.trans h.tape, k.output.trans h.output, Nat.le_trans h.size k.size, fun i hi hs => (k.block i (Nat.lt_of_lt_of_le hi h.size) (fun t => hs (hT i hi t))).trans (h.block i hi hs)⟩
theorem Mods.mono {S T : Nat → Prop} {a b : World} (h : Mods S a b) (hT : ∀ i, i < a.heap.size → S i → T i) : Mods T a b :=
 ⟨h.os, h.tape, h.output, h.size, fun i hi hs => h.block i hi (fun t => hs (hT i hi t))⟩
theorem Mods.alloc {S : Nat → Prop} {a w : World} (h : Mods S a w) (o : Obj) : Mods S a (w.alloc o) :=
 h.trans (T := fun _ => False) ⟨rfl, rfl, rfl, by simp, fun i hi _ => Below.heap_alloc _ _ _ hi⟩ (fun _ _ f => f.elim)
theorem Mods.drew {S : Nat → Prop} {a w : World} (h : Mods S a w) : Mods S a w.drew := ⟨h.os, h.tape, h.output, h.size, h.block⟩
theorem Mods.setCell {S : Nat → Prop} {a w : World} (h : Mods S a w) {p : Addr} (hp : p.block < a.heap.size → S p.block) (u : Value) : Mods S a (w.setCell p u) :=
 h.trans (T := fun k => k = p.block) ⟨rfl, rfl, rfl, by simp [World.setCell], fun i _ hs => Below.heap_setCell _ _ _ _ hs⟩ (fun i hi e => by subst e; exact hp hi)
theorem Mods.grown {S : Nat → Prop} {a w w' : World} {row : Option Nat} (h : Mods S a w) (hg : w.grownBy w' row) (hr : ∀ k, row = some k → k < a.heap.size → S k) : Mods S a w' :=
 h.trans (T := fun k => row = some k) ⟨hg.os, hg.tape, hg.output, hg.size, fun i hi hs => hg.block i hi (fun e => hs e.symm)⟩ (fun i hi e => hr i e hi)
theorem Mods.of_below {B : Nat} {w w' : World} (h : Below B w w') : Mods (fun k => B ≤ k) w w' := ⟨h.os, h.tape, h.output, h.size, fun i _ hs => h.block i (by omega)⟩
theorem Mods.below {S : Nat → Prop} {w w' : World} {B : Nat} (h : Mods S w w') (hB : B ≤ w.heap.size) (hS : ∀ k, k < B → ¬ S k) : Below B w w' := ⟨h.os, h.tape, h.output, h.size, fun i hi => h.block i (by omega) (hS i hi)⟩
theorem Mods.cell {S : Nat → Prop} {w w' : World} (h : Mods S w w') {p : Addr} {v : Value} (e : w.cell? p = some v) (hp : ¬ S p.block) : w'.cell? p = some v := by
 rw [World.cell?_of_block (w := w) (h.block p.block (cell_lt e) hp)]; exact e

def Blk (w : World) (b : Nat) (t : TypeId) (cs : List Value) : Prop := w.heap[b]? = some (.cells cs.toArray t (0, 0))
section
variable {w w' : World} {b : Nat} {t : TypeId} {cs : List Value}
theorem Blk.lt (h : Blk w b t cs) : b < w.heap.size := (Array.getElem?_eq_some_iff.1 h).1
theorem Blk.cell (h : Blk w b t cs) (i : Nat) : w.cell? ⟨b, i, none⟩ = cs[i]? := by
 unfold Blk at h
 simp [World.cell?, h]
theorem Blk.frozen (h : Blk w b t cs) (i : Nat) : w.frozen? ⟨b, i, none⟩ = false := by
 unfold Blk at h
 simp [World.frozen?, h]
theorem Blk.mods {S : Nat → Prop} (h : Blk w b t cs) (m : Mods S w w') (hb : ¬ S b) : Blk w' b t cs := (m.block b h.lt hb).trans h
theorem Blk.alloc (h : Blk w b t cs) (o : Obj) : Blk (w.alloc o) b t cs := (Below.heap_alloc w o b h.lt).trans h
theorem Blk.drew (h : Blk w b t cs) : Blk w.drew b t cs := h
theorem Blk.setCell (h : Blk w b t cs) (i : Nat) (v : Value) : Blk (w.setCell ⟨b, i, none⟩ v) b t (cs.set i v) := by
 have := setCell_eq_setRow w b i cs.toArray t (0, 0) v h
 unfold Blk
 rw [this, setRow_heap w b cs.toArray _ t (0, 0) h]
 simp
theorem Blk.setCell_ne (h : Blk w b t cs) {p : Addr} (hp : b ≠ p.block) (v : Value) : Blk (w.setCell p v) b t cs := (Below.heap_setCell w p v b hp).trans h
theorem Blk.uniq {t' : TypeId} {cs' : List Value} (h : Blk w b t cs) (h' : Blk w b t' cs') : t = t' := by
 unfold Blk at h h'
 rw [h] at h'
 injection h' with e
 injection e
theorem Blk.new (w : World) (cs : Array Value) (t : TypeId) : Blk (w.alloc (.cells cs t)) w.heap.size t cs.toList := by
 unfold Blk
 show (w.heap.push (Obj.cells cs t))[w.heap.size]? = _
 rw [Array.getElem?_push_size]
theorem own_blk {base : Nat} {e : TypeId} {size : Nat} {v : Value} {n : Nat} {xs : List Value} (h : w.ownsRow base e size v n xs) {g : Nat} (hg : v.ownBlock = some g) : ∃ cur, Blk w g e cur := by
 rcases h.2 with ⟨rfl, _⟩ | ⟨g', cap, cur, rfl, _, h3, _⟩
 ·cases hg
 ·cases hg
  exact ⟨cur.toList, by unfold Blk; simpa using h3⟩
theorem own_mods {base : Nat} {e : TypeId} {size : Nat} {v : Value} {n : Nat} {xs : List Value} {S : Nat → Prop} (h : w.ownsRow base e size v n xs) (m : Mods S w w') (hv : ∀ g, v.ownBlock = some g → ¬ S g) : w'.ownsRow base e size v n xs := by
 refine ⟨h.1, ?_⟩
 rcases h.2 with g | ⟨g, cap, cur, h1, h2, h3, h4⟩
 ·exact .inl g
 ·subst h1
  exact .inr ⟨g, cap, cur, rfl, h2, (m.block g (Array.getElem?_eq_some_iff.1 h3).1 (hv g rfl)).trans h3, h4⟩
end

theorem app_ex {P : Program} {W : World} (t ty e : TypeId) (i : TypeInfo) (z : Value) (size bytes : Nat) (ht : P.underlying t = some (.slice e)) (hi : P.info? e = some i) (hz : i.zero = some z)
  (hsize : i.size = size) (hby : i.bytes = bytes) (hzs : z.cells.size = size) (hsz : 0 < size) (base : Nat) (v : Value) (n : Nat) (xs : List Value) (hown : W.ownsRow base e size v n xs)
  (news : Array Value) (hl : news.size = size) (h1 : ∀ u ∈ news.toList, u.oneCell' = true) (H : Nat) (hH : W.heap.size = H) (h63 : n + 1 ≤ maxLen) (hbytes : (n + 1) * bytes ≤ 140737488355328) (hbase : base ≤ W.heap.size) :
  ∃ v' W', (Builtin.append_ #[t, t] ty #[v, .slice (some ⟨H, 0, none⟩) 1 1]).run P (W.alloc (.cells news e)) = .ok v' W' ∧ W'.ownsRow base e size v' (n + 1) (xs ++ news.toList) ∧
   Mods (fun k => v.ownBlock = some k) W W' ∧ (v'.ownBlock = v.ownBlock ∨ ∃ k, H ≤ k ∧ v'.ownBlock = some k) := by
 subst hH
 obtain ⟨v', w', hr, h2, h3, _, h5⟩ := run_append_own_at (P := P) (W.alloc (.cells news e)) base t ty e i z size bytes ht hi hz hsize hby hzs hsz v n xs (own_mods hown ((Mods.refl (fun _ => False) W).alloc _) (fun _ _ f => f)) ⟨W.heap.size, 0, none⟩ 1 1 news.toList (by simpa using hl)
  (fun j u h => by
   have := (Blk.new W news e).cell j
   rw [show (⟨W.heap.size, 0, none⟩ : Addr).add j = ⟨W.heap.size, j, none⟩ by unfold Addr.add; split <;> simp_all, this]
   exact h) h1 h63 hbytes (by simp; omega)
 refine ⟨v', w', hr, h2, ((Mods.refl _ W).alloc _).grown h3 (fun k e _ => e), ?_⟩
 rcases h5 with h5 | h5
 ·exact .inl h5
 ·exact .inr ⟨_, by simp, h5⟩

theorem wpList_append_run {P : Program} {w : World} {ops : Array Oper} {rest : List Oper} {o : Oper} {a : Act} {Q : Exit → Act → World → Prop} (hgd : o.guard = none) (s x : Operand) (t : TypeId)
  (ho : o.op = .call { callee := .builtin .append, args := #[s, x], argTypes := #[t, t] }) (v u : Value) (hs : a.eval s = v) (hx : a.eval x = u) {v' : Value} {w' : World}
  (hr : (Builtin.append_ #[t, t] o.type #[v, u]).run P w = .ok v' w') (h : wpList P ops Q rest (a.put o.dst v') w') : wpList P ops Q (o :: rest) a w := by
 refine wpList_plain hgd fun K hK => ?_
 unfold Oper.wp execOp
 simp only [ho, resolve, invoke, builtin, Sem.run_bind, Sem.run_pure, Result.andThen_ok, List.map_toArray, List.map_cons, List.map_nil, hs, hx, hr]
 exact hK _ _ h

end Go.Proofs.YtiiokkllmchohaaGreat
/- Walk of the document's answer: a method's head. -/
namespace Go.Proofs.YtiiokkllmchohaaGreat
open Go.RowKit
attribute [local go_sem ↓] Go.wp_at_zero Go.wp_at_succ

end Go.Proofs.YtiiokkllmchohaaGreat
/- What the document says of states, of what fits, and of the pass, on plain Lean data. -/
namespace Go.Proofs.YtiiokkllmchohaaGreat
open Go.RowKit

def descB (p : List LClass) (c o : Int) : Bool := (chainOf p c).any fun k => (k : Int) == o
def belowB (p : List LClass) (t o : Int) : Bool := t == o || o == 2 || (decide (3 ≤ o) && (t == 1 || (decide (3 ≤ t) && descB p (t - 3) (o - 3))))

structure TSt where
 loc : List Int
 stk : List Int

def beginS (c : Int) (m : LMeth) : TSt := ⟨(c + 3) :: (m.args ++ List.replicate (7 - m.args.length) 2), []⟩
def toldS (f : LFrame) : TSt := ⟨f.locals ++ List.replicate (8 - f.locals.length) 2, f.stack⟩
def belowS (p : List LClass) (s t : TSt) : Bool := (s.stk.length == t.stk.length) && ((s.loc.zip t.loc).all fun x => belowB p x.1 x.2) && ((s.stk.zip t.stk).all fun x => belowB p x.1 x.2)
def takeS (s : TSt) : Option (Int × TSt) := s.stk.getLast?.map fun t => (t, { s with stk := s.stk.dropLast })
def wantS (p : List LClass) (t : Int) (s : TSt) : Option TSt := (takeS s).bind fun x => if belowB p x.1 t then some x.2 else none
def mayObj (t : Int) : Bool := t == 1 || decide (3 ≤ t)
def wantO (s : TSt) : Option TSt := (takeS s).bind fun x => if mayObj x.1 then some x.2 else none
def leaveS (m : LMeth) (t : Int) (s : TSt) : Option TSt := if (s.stk.length : Int) = m.stack then none else some { s with stk := s.stk ++ [t] }
def knownS (t : Int) : Option Int := if t = 2 then none else some t
def wantsS (p : List LClass) : List Int → TSt → Option TSt
 | [], s => some s
 | t :: r, s => (wantS p t s).bind (wantsS p r)
def fieldT (p : List LClass) (c b : Int) : Int := (fieldsOf p c).getD b.toNat 0
def findM (p : List LClass) (c slot : Int) : LMeth := (((methOf p c slot).bind (methAt p)).getD ⟨0, [], 0, 0, 0, [], []⟩)
def doS (p : List LClass) (m : LMeth) (i : LIns) (s : TSt) : Option TSt :=
 if i.op = 0 then leaveS m 0 s
 else if i.op = 1 then (knownS (s.loc.getD i.a.toNat 0)).bind fun t => leaveS m t s
 else if i.op = 2 then (takeS s).bind fun x => (knownS x.1).map fun t => { x.2 with loc := x.2.loc.set i.a.toNat t }
 else if i.op = 3 ∨ i.op = 4 ∨ i.op = 5 ∨ i.op = 6 then (wantS p 0 s).bind fun s => (wantS p 0 s).bind (leaveS m 0)
 else if i.op = 8 ∨ i.op = 19 then wantS p 0 s
 else if i.op = 9 then leaveS m (i.a + 3) s
 else if i.op = 10 then (wantS p (i.a + 3) s).bind (leaveS m (fieldT p i.a i.b))
 else if i.op = 11 then (wantS p (fieldT p i.a i.b) s).bind (wantS p (i.a + 3))
 else if i.op = 12 then (wantsS p (findM p i.a i.b).args.reverse s).bind fun s => (wantS p (i.a + 3) s).bind (leaveS m (findM p i.a i.b).ret)
 else if i.op = 13 then wantS p m.ret s
 else if i.op = 14 then (takeS s).map (·.2)
 else if i.op = 15 then (takeS s).bind fun x => (leaveS m x.1 x.2).bind (leaveS m x.1)
 else if i.op = 16 then leaveS m 1 s
 else if i.op = 17 then (wantO s).bind (leaveS m (i.a + 3))
 else if i.op = 18 then wantO s
 else if i.op = 20 then (takeS s).bind fun y => (takeS y.2).bind fun x => (leaveS m y.1 x.2).bind (leaveS m x.1)
 else some s
def jumpsB (i : LIns) : Bool := i.op == 7 || i.op == 8 || i.op == 18
def fallsB (i : LIns) : Bool := !(i.op == 7) && !(i.op == 13)
def onwardL (i : LIns) (pc : Nat) : List (Int × Bool) := (if jumpsB i then [(i.a, true)] else []) ++ (if fallsB i then [((pc : Int) + 1, false)] else [])
def insAt (m : LMeth) (pc : Nat) : LIns := (m.code[pc]?).getD ⟨0, 0, 0⟩
def endB (m : LMeth) (pc : Nat) : Bool := (onwardL (insAt m pc) pc).any fun x => x.1 == (m.code.length : Int)
def nextS (p : List LClass) (m : LMeth) (pc : Nat) (s : TSt) : Option TSt := (doS p m (insAt m pc) s).bind fun s' => if endB m pc then none else some s'
def frameAtS (m : LMeth) (pc : Int) : Option TSt := (m.frames.find? fun f => f.pc == pc).map toldS
def frOk (p : List LClass) (m : LMeth) (s : TSt) (pc : Int) : Bool := match frameAtS m pc with
 | none => false
 | some t => belowS p s t
def goS (p : List LClass) (m : LMeth) (pc : Nat) (s : TSt) : Option (Option TSt) := (nextS p m pc s).bind fun s' =>
 if (onwardL (insAt m pc) pc).all fun x => !x.2 || frOk p m s' x.1 then some (if fallsB (insAt m pc) then some s' else none) else none
def stepS (p : List LClass) (m : LMeth) (pc : Nat) (h : Option TSt) : Option (Option TSt) := match frameAtS m pc, h with
 | some t, some s => if belowS p s t then goS p m pc t else none
 | some t, none => goS p m pc t
 | none, some s => goS p m pc s
 | none, none => some none
def passK (p : List LClass) (c : Int) (m : LMeth) : Nat → Option (Option TSt)
 | 0 => some (some (beginS c m))
 | k + 1 => (passK p c m k).bind (stepS p m k)
def passB (p : List LClass) (c : Int) (m : LMeth) : Bool := (passK p c m m.code.length).isSome

def okS (s : TSt) : Prop := s.loc.length = 8 ∧ s.stk.length ≤ 8
theorem okS_begin {c : Int} {m : LMeth} (h : m.args.length ≤ 7) : okS (beginS c m) := by
 refine ⟨?_, by simp [beginS]⟩
 simp [beginS]; omega
theorem okS_told {f : LFrame} (h : f.locals.length ≤ 8) (h' : f.stack.length ≤ 8) : okS (toldS f) := by
 refine ⟨?_, h'⟩
 simp [toldS]; omega
end Go.Proofs.YtiiokkllmchohaaGreat
/- Numbers in bytes, and the walk of the document's answer that writes one. -/
namespace Go.Proofs.YtiiokkllmchohaaGreat
open Go.RowKit

def foldZ (n : Int) : Nat := if n < 0 then (2 * (-(n + 1)) + 1).toNat else (2 * n).toNat
def encU : Nat → Nat → List UInt8
 | 0, _ => []
 | f + 1, v => if v < 128 then [UInt8.ofNat v] else UInt8.ofNat (128 + v % 128) :: encU f (v / 128)
def encN (n : Int) : List UInt8 := encU 10 (foldZ n)
theorem foldZ_lt {n : Int} (h : I64 n) : foldZ n < 18446744073709551616 := by
 obtain ⟨h1, h2⟩ := h
 unfold foldZ
 split <;> omega

theorem encU_lt {f v : Nat} (h : v < 128) : encU (f + 1) v = [UInt8.ofNat v] := by rw [encU, if_pos h]
theorem encU_ge {f v : Nat} (h : ¬ v < 128) : encU (f + 1) v = UInt8.ofNat (128 + v % 128) :: encU f (v / 128) := by rw [encU, if_neg h]
end Go.Proofs.YtiiokkllmchohaaGreat
/- Walks of the document's answer that write types and methods in bytes. -/
namespace Go.Proofs.YtiiokkllmchohaaGreat
open Go.RowKit
attribute [local go_sem ↓] Go.wp_at_zero Go.wp_at_succ

theorem encU_len : ∀ (f v : Nat), (encU f v).length ≤ f
 | 0, _ => Nat.le_refl _
 | f + 1, v => by
  rw [encU]
  split
  ·simp
  ·have := encU_len f (v / 128); simp; omega
theorem encN_len (n : Int) : (encN n).length ≤ 10 := encU_len 10 _
def encTs (l : List Int) : List UInt8 := l.flatMap encN
theorem encTs_len (l : List Int) : (encTs l).length ≤ 10 * l.length := by
 unfold encTs
 induction l with
 | nil => simp
 | cons x r ih => rw [List.flatMap_cons, List.length_append, List.length_cons]; have := encN_len x; omega
def encIns (i : LIns) : List UInt8 := encN i.op ++ encN i.a ++ encN i.b
def encFrame (f : LFrame) : List UInt8 := encN f.pc ++ encTs f.locals ++ encN f.stack.length ++ encTs f.stack
def encHead (m : LMeth) : List UInt8 := encN m.slot ++ encN m.args.length ++ encTs m.args ++ encN m.ret ++ encN m.locals ++ encN m.stack ++ encN m.code.length
def encMeth (m : LMeth) : List UInt8 := encHead m ++ m.code.flatMap encIns ++ encN m.frames.length ++ m.frames.flatMap encFrame
theorem encHead_len (m : LMeth) : (encHead m).length ≤ 10 * m.args.length + 60 := by
 unfold encHead
 simp only [List.length_append]
 have := encN_len m.slot; have := encN_len (m.args.length : Int); have := encTs_len m.args; have := encN_len m.ret; have := encN_len m.locals; have := encN_len m.stack; have := encN_len (m.code.length : Int)
 omega
theorem encIns_len (i : LIns) : (encIns i).length ≤ 30 := by
 unfold encIns
 simp only [List.length_append]
 have := encN_len i.op; have := encN_len i.a; have := encN_len i.b
 omega
theorem encFrame_len (f : LFrame) : (encFrame f).length ≤ 10 * szFrame f := by
 unfold encFrame szFrame
 simp only [List.length_append]
 have := encN_len f.pc; have := encTs_len f.locals; have := encN_len (f.stack.length : Int); have := encTs_len f.stack
 omega
theorem i64_nat {n : Nat} (h : n ≤ 4194304) : I64 (n : Int) := ⟨by omega, by omega⟩

theorem code_len : ∀ l : List LIns, (l.flatMap encIns).length ≤ 30 * l.length
 | [] => by simp
 | x :: r => by rw [List.flatMap_cons, List.length_append, List.length_cons]; have := encIns_len x; have := code_len r; omega
theorem frames_len : ∀ l : List LFrame, (l.flatMap encFrame).length ≤ 10 * (l.map szFrame).sum
 | [] => by simp
 | x :: r => by rw [List.flatMap_cons, List.length_append, List.map_cons, List.sum_cons]; have := encFrame_len x; have := frames_len r; omega
end Go.Proofs.YtiiokkllmchohaaGreat
/- The walk of the document's answer that reads one number. -/
namespace Go.Proofs.YtiiokkllmchohaaGreat
open Go.RowKit
attribute [local go_sem ↓] Go.wp_at_zero Go.wp_at_succ

end Go.Proofs.YtiiokkllmchohaaGreat
/- The walk of the document's answer that reads how many there are. -/
namespace Go.Proofs.YtiiokkllmchohaaGreat
open Go.RowKit
attribute [local go_sem ↓] Go.wp_at_zero Go.wp_at_succ

end Go.Proofs.YtiiokkllmchohaaGreat
/- Walk of the law's lendTypes. -/
namespace Go.Proofs.YtiiokkllmchohaaGreat
open Go.RowKit

def HBlk (w : World) (bh : Nat) (cs : List Value) : Prop := Blk w bh 53 cs ∧ cs.length = 19
def slOf (e : Nat × Nat) : Value := .slice (some ⟨e.1, 0, none⟩) e.2 e.2

end Go.Proofs.YtiiokkllmchohaaGreat
/- The walk of the document's answer that reads types. -/
namespace Go.Proofs.YtiiokkllmchohaaGreat
open Go.RowKit
attribute [local go_sem ↓] Go.wp_at_zero Go.wp_at_succ

end Go.Proofs.YtiiokkllmchohaaGreat
/- What was written is read back: numbers and lists of numbers. -/
namespace Go.Proofs.YtiiokkllmchohaaGreat
open Go.RowKit

end Go.Proofs.YtiiokkllmchohaaGreat
/- Walk of the document's answer: a method's head, the good case. -/
namespace Go.Proofs.YtiiokkllmchohaaGreat
open Go.RowKit
attribute [local go_sem ↓] Go.wp_at_zero Go.wp_at_succ

end Go.Proofs.YtiiokkllmchohaaGreat
/- Walk of the document's answer: may an instruction be? -/
namespace Go.Proofs.YtiiokkllmchohaaGreat
open Go.RowKit
attribute [local go_sem ↓] Go.wp_at_zero Go.wp_at_succ

theorem box3_below (w : World) (o o' o'' : Obj) : Below w.heap.size w (((w.alloc o).alloc o').alloc o'') := (box2_below w o o').alloc (box2_below w o o').size _
theorem box3_1 (w : World) (cs : Array Value) (t : TypeId) (o' o'' : Obj) (i : Nat) : (((w.alloc (.cells cs t)).alloc o').alloc o'').cell? ⟨w.heap.size, i, none⟩ = cs[i]? := by
 rw [World.cell?_alloc_lt _ _ _ (by simp; omega)]; exact box2_fst w cs t o' i
theorem box3_3 (w : World) (o o' : Obj) (cs : Array Value) (t : TypeId) (i : Nat) : (((w.alloc o).alloc o').alloc (.cells cs t)).cell? ⟨w.heap.size + 2, i, none⟩ = cs[i]? := by
 have := box_cell ((w.alloc o).alloc o') cs t i
 rwa [show ((w.alloc o).alloc o').heap.size = w.heap.size + 2 by simp] at this

def insArgs (vc : Value) (m : LMeth) (aa ca fa : Option Addr) (al acap ccap fl fcap : Nat) (op a b : Int) : Array Value :=
 #[.agg #[vc], .agg #[.int .i64 m.slot, .slice aa al acap, .int .i64 m.ret, .int .i64 m.locals, .int .i64 m.stack, .slice ca m.code.length ccap, .slice fa fl fcap], .agg #[.int .i64 op, .int .i64 a, .int .i64 b]]

end Go.Proofs.YtiiokkllmchohaaGreat
