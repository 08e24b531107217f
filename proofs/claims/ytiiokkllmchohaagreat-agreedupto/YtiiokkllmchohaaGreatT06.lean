/- Walk of the document's answer: may an instruction be that names a field or a slot? -/
import Derived.Test.YtiiokkllmchohaaGreatT01
/- RefH -/
namespace Go.Proofs.YtiiokkllmchohaaGreat
open Go.RowKit
attribute [local go_sem ↓] Go.wp_at_zero Go.wp_at_succ

theorem placeB_nat {a n : Int} (h : placeB a n = true) : ∃ k : Nat, a = k ∧ (k : Int) < n := by
 unfold placeB at h
 simp only [Bool.and_eq_true, decide_eq_true_eq] at h
 obtain ⟨k, hk⟩ := Int.eq_ofNat_of_zero_le h.1
 exact ⟨k, hk, by omega⟩

end Go.Proofs.YtiiokkllmchohaaGreat
/- Walk of the document's answer: may a method's code and frames be? -/
namespace Go.Proofs.YtiiokkllmchohaaGreat
open Go.RowKit
attribute [local go_sem ↓] Go.wp_at_zero Go.wp_at_succ

theorem all_no {α : Type} {l : List α} {f : α → Bool} {k : Nat} (hk : k < l.length) (h : f l[k] = false) : l.all f = false := by
 rw [List.all_eq_false]
 exact ⟨_, List.getElem_mem hk, by rw [h]; exact Bool.false_ne_true⟩

end Go.Proofs.YtiiokkllmchohaaGreat
/- Walk of the document's answer: Form. -/
namespace Go.Proofs.YtiiokkllmchohaaGreat
open Go.RowKit
attribute [local go_sem ↓] Go.wp_at_zero Go.wp_at_succ

theorem classB_at {p : List LClass} {c : Nat} {x : LClass} (hx : p[c]? = some x) : classB p c = (supB c x && restB p c x) := by unfold classB; rw [hx]
theorem supOk_of {p : List LClass} {c : Nat} (h : (List.range c).all (classB p) = true) : SupOk p c := by
 intro d x hd hx
 rw [List.all_eq_true] at h
 have := h d (List.mem_range.2 hd)
 rw [classB_at hx, Bool.and_eq_true] at this
 exact this.1
end Go.Proofs.YtiiokkllmchohaaGreat
/- The walk of the document's answer that writes a program in bytes. -/
namespace Go.Proofs.YtiiokkllmchohaaGreat
open Go.RowKit
attribute [local go_sem ↓] Go.wp_at_zero Go.wp_at_succ

def encCH (x : LClass) : List UInt8 := encN x.sup ++ encN x.fields.length ++ encTs x.fields ++ encN x.meths.length
def encClass (x : LClass) : List UInt8 := encCH x ++ x.meths.flatMap encMeth
def encProg (p : List LClass) : List UInt8 := encN p.length ++ p.flatMap encClass
theorem encMeth_len (m : LMeth) : (encMeth m).length ≤ 10 * szMeth m := by
 unfold encMeth szMeth
 simp only [List.length_append]
 have := encHead_len m; have := code_len m.code; have := encN_len (m.frames.length : Int); have := frames_len m.frames
 omega
theorem meths_len : ∀ l : List LMeth, (l.flatMap encMeth).length ≤ 10 * (l.map szMeth).sum
 | [] => by simp
 | x :: r => by rw [List.flatMap_cons, List.length_append, List.map_cons, List.sum_cons]; have := encMeth_len x; have := meths_len r; omega
theorem encCH_len (x : LClass) : (encCH x).length ≤ 10 * x.fields.length + 30 := by
 unfold encCH
 simp only [List.length_append]
 have := encN_len x.sup; have := encN_len (x.fields.length : Int); have := encTs_len x.fields; have := encN_len (x.meths.length : Int)
 omega
theorem encClass_len (x : LClass) : (encClass x).length ≤ 10 * szClass x := by
 unfold encClass szClass
 simp only [List.length_append]
 have := encCH_len x; have := meths_len x.meths
 omega
def encodeI (p : List LClass) : List UInt8 × Int := if formI p = 0 then (encProg p, 0) else ([], formI p)

end Go.Proofs.YtiiokkllmchohaaGreat
/- What is read, as pure functions: instructions, frames, methods, classes, a program; what was written is read back. -/
namespace Go.Proofs.YtiiokkllmchohaaGreat
open Go.RowKit

section
variable (s : List UInt8)
end

def shortF (n : Int) (f : LFrame) : Prop := (f.locals.length : Int) = n ∧ f.stack.length ≤ 40
def shortM (m : LMeth) : Prop := m.args.length ≤ 40 ∧ (0 ≤ m.locals ∧ m.locals ≤ 40) ∧ m.code.length ≤ 40 ∧ m.frames.length ≤ 40 ∧ ∀ f ∈ m.frames, shortF m.locals f
def shortC (x : LClass) : Prop := x.fields.length ≤ 40 ∧ x.meths.length ≤ 40 ∧ ∀ m ∈ x.meths, shortM m
section
variable {s : List UInt8}
end
end Go.Proofs.YtiiokkllmchohaaGreat
/- A well formed program is short enough to be read back. -/
namespace Go.Proofs.YtiiokkllmchohaaGreat
open Go.RowKit

theorem framesB_all {n : Nat} {m : LMeth} : ∀ {l : List LFrame} {last : Int}, framesB n m last l = true → ∀ f ∈ l, frameB n m f = true
 | [], _, _ => fun f hf => by cases hf
 | x :: r, last, h => by
  unfold framesB at h
  simp only [Bool.and_eq_true] at h
  intro f hf
  rcases List.mem_cons.1 hf with rfl | hf
  ·exact h.1.2
  ·exact framesB_all h.2 f hf
theorem frameB_short {n : Nat} {m : LMeth} {f : LFrame} (h : frameB n m f = true) (hs : m.stack ≤ 8) : shortF m.locals f := by
 unfold frameB at h
 simp only [Bool.and_eq_true, decide_eq_true_eq] at h
 unfold shortF
 omega
theorem form_short {p : List LClass} (h : formI p = 0) : p.length ≤ 6 ∧ ∀ x ∈ p, shortC x := by
 unfold formI at h
 split at h
 ·cases h
 rename_i hn
 split at h
 ·rename_i hc
  split at h
  ·rename_i hcode
   refine ⟨by omega, fun x hx => ?_⟩
   obtain ⟨c, hcl, rfl⟩ := List.getElem_of_mem hx
   have hX := List.getElem?_eq_getElem hcl
   have hsup := supOk_of hc
   rw [List.all_eq_true] at hc hcode
   have h1 := hc c (List.mem_range.2 hcl)
   rw [classB_at hX, Bool.and_eq_true] at h1
   have h2 := h1.2
   unfold restB at h2
   simp only [Bool.and_eq_true, decide_eq_true_eq] at h2
   obtain ⟨⟨⟨_, hf⟩, hm⟩, hh⟩ := h2
   have hfs := fieldsOf_step p hsup hcl hX
   rw [hfs, List.length_append] at hf
   have hco := hcode _ hx
   rw [List.all_eq_true] at hco hh
   refine ⟨by omega, by omega, fun m hmm => ?_⟩
   obtain ⟨k, hk, rfl⟩ := List.getElem_of_mem hmm
   have hK := List.getElem?_eq_getElem hk
   have h3 := hh k (List.mem_range.2 hk)
   rw [hK] at h3
   simp only at h3
   unfold headB at h3
   simp only [Bool.and_eq_true] at h3
   have h4 := bareB_iff.1 h3.1.1
   have h5 := hco _ hmm
   unfold codeB at h5
   simp only [Bool.and_eq_true, decide_eq_true_eq] at h5
   obtain ⟨⟨⟨⟨_, hcl2⟩, hfl⟩, _⟩, hfr⟩ := h5
   exact ⟨by omega, by omega, hcl2, hfl, fun f hf' => frameB_short (framesB_all hfr f hf') (by omega)⟩
  ·cases h
 ·cases h
end Go.Proofs.YtiiokkllmchohaaGreat
/- What the code's reader reads, as pure functions; it reads just what is written. -/
namespace Go.Proofs.YtiiokkllmchohaaGreat
open Go.RowKit

end Go.Proofs.YtiiokkllmchohaaGreat
