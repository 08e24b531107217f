/- Walk of the document's answer: Form. -/
import Derived.Test.YtiiokkllmchohaaGreatT03
import Derived.Test.YtiiokkllmchohaaGreatT04
import Derived.Test.YtiiokkllmchohaaGreatT09
import Derived.Test.YtiiokkllmchohaaGreatT10
import Derived.Test.YtiiokkllmchohaaGreatT11
import Derived.Test.YtiiokkllmchohaaGreatT12
namespace Go.Proofs.YtiiokkllmchohaaGreat
open Go.RowKit
attribute [local go_sem ↓] Go.wp_at_zero Go.wp_at_succ
theorem form_class {p : List LClass} (hn : ¬ (p.length < 1 ∨ 6 < p.length)) {c : Nat} (hc : c < p.length) (h : classB p c = false) : formI p = 2 := by
 unfold formI
 rw [if_neg hn, if_neg]
 intro e
 rw [List.all_eq_true] at e
 have := e c (List.mem_range.2 hc)
 rw [h] at this; cases this
theorem form_code {p : List LClass} (hn : ¬ (p.length < 1 ∨ 6 < p.length)) (h : (List.range p.length).all (classB p) = true) : formI p = if p.all (fun x => x.meths.all (codeB p)) then 0 else 3 := by
 unfold formI
 rw [if_neg hn, if_pos h]
theorem classB_at {p : List LClass} {c : Nat} {x : LClass} (hx : p[c]? = some x) : classB p c = (supB c x && restB p c x) := by unfold classB; rw [hx]
theorem supOk_of {p : List LClass} {c : Nat} (h : (List.range c).all (classB p) = true) : SupOk p c := by
 intro d x hd hx
 rw [List.all_eq_true] at h
 have := h d (List.mem_range.2 hd)
 rw [classB_at hx, Bool.and_eq_true] at this
 exact this.1
theorem supOk_succ {p : List LClass} {c : Nat} {x : LClass} (h : SupOk p c) (hx : p[c]? = some x) (hs : supB c x = true) : SupOk p (c + 1) := by
 intro d y hd hy
 rcases Nat.lt_or_ge d c with g | g
 ·exact h d y g hy
 ·obtain rfl : d = c := by omega
  rw [hx] at hy; cases hy; exact hs
theorem range_all_succ {f : Nat → Bool} {c : Nat} : (List.range (c + 1)).all f = ((List.range c).all f && f c) := by
 rw [List.range_succ, List.all_append, List.all_cons, List.all_nil, Bool.and_true]
theorem rest_no {p : List LClass} {c : Nat} {x : LClass} (h : ¬ (x.fields.all (declB p.length) = true ∧ (fieldsOf p c).length ≤ 8 ∧ x.meths.length ≤ 6)) : restB p c x = false := by
 unfold restB
 rw [Bool.eq_false_iff]
 intro e
 simp only [Bool.and_eq_true, decide_eq_true_eq] at e
 exact h ⟨e.1.1.1, e.1.1.2, e.1.2⟩
theorem rest_head {p : List LClass} {c : Nat} {x : LClass} {k : Nat} {m : LMeth} (hm : x.meths[k]? = some m) (h : headB p x k m = false) : restB p c x = false := by
 unfold restB
 rw [Bool.eq_false_iff]
 intro e
 simp only [Bool.and_eq_true, List.all_eq_true] at e
 have := e.2 k (List.mem_range.2 (List.getElem?_eq_some_iff.1 hm).1)
 rw [hm] at this
 simp only [h] at this
 cases this
theorem rest_yes {p : List LClass} {c : Nat} {x : LClass} (h : x.fields.all (declB p.length) = true ∧ (fieldsOf p c).length ≤ 8 ∧ x.meths.length ≤ 6) (hh : ∀ (k : Nat) (m : LMeth), x.meths[k]? = some m → headB p x k m = true) : restB p c x = true := by
 unfold restB
 rw [h.1, decide_eq_true h.2.1, decide_eq_true h.2.2, Bool.and_self, Bool.and_self, Bool.true_and, List.all_eq_true]
 intro k _
 cases hm : x.meths[k]? with
 | none => rfl
 | some m => exact hh k m hm
theorem ref_alldeclared_eq {l : List Int} {v : Value} {n : Int} {q : Bool} (h : l.all (declB n) = q) (w : World) (hl : SlAt 1 (RInt w) v l) (hw : ∀ x ∈ l, I64 x) (hs : l.length ≤ 4194304) :
  Calls Tryz.prog 91 #[v, .int .i64 n] w fun e w' => e = .returned (.bool q) ∧ w' = w := h ▸ ref_alldeclared l v n w hl hw hs

theorem ref_code_eq {m : LMeth} {q : Bool} (p : List LClass) (h : codeB p m = q) (vc : Value) (va vcd vfr : Value) (w : World) (hp : RProg w vc p) (hm : MVals w m va vcd vfr) (hs : SupOk p p.length) (hz : szProg p ≤ 4194304) (hml : szMeth m ≤ 4194304) (hwm : wfMeth m) :
  Calls Tryz.prog 94 #[.agg #[vc], .agg #[.int .i64 m.slot, va, .int .i64 m.ret, .int .i64 m.locals, .int .i64 m.stack, vcd, vfr]] w fun e w' => e = .returned (.bool q) ∧ Below w.heap.size w w' := h ▸ ref_code p vc m va vcd vfr w hp hm hs hz hml hwm
theorem ref_head_eq {x : LClass} {m : LMeth} {k : Nat} {q : Bool} (p : List LClass) (h : headB p x k m = q) (vc : Value) (c : Nat) (w : World) (hp : RProg w vc p) (hs : SupOk p (c + 1)) (hX : p[c]? = some x) (hM : x.meths[k]? = some m) (hwf : wfProg p) (hz : szProg p ≤ 4194304) :
  Calls Tryz.prog 93 #[.agg #[vc], .int .i64 c, .int .i64 k] w fun e w' => e = .returned (.bool q) ∧ Below w.heap.size w w' := h ▸ ref_head p vc c k x m w hp hs hX hM hwf hz

set_option maxHeartbeats 8000000 in
set_option maxRecDepth 100000 in
theorem ref_form (p : List LClass) (vc : Value) (w : World) (hp : RProg w vc p) (hwf : wfProg p) (hz : szProg p ≤ 4194304) :
  Calls Tryz.prog 51 #[.agg #[vc]] w fun e w' => e = .returned (.int .i64 (formI p)) ∧ Below w.heap.size w w' := by
 have hpl : p.length ≤ 4194304 := Nat.le_trans (szProg_len p) hz
 have HP := hide hp
 obtain ⟨pa, pb, poff, pcap, rfl, hpcap, hpa, hpr⟩ := sl_open hp
 have HPR := hide hpr
 clear hp hpr
 by_cases g1 : p.length < 1
 ·have g1' : (p.length : Int) < 1 := by omega
  go_enter Tryz.func51, Tryz.ntmps51
  go_wp2_with fail
  go_ret
  exact ⟨ret_int (by unfold formI; rw [if_pos (.inl g1)]), box_below _ _⟩
 by_cases g2 : 6 < p.length
 ·have g1' : ¬ (p.length : Int) < 1 := by omega
  have g2' : (6 : Int) < p.length := by omega
  go_enter Tryz.func51, Tryz.ntmps51
  go_wp2_with fail
  go_ret
  exact ⟨ret_int (by unfold formI; rw [if_pos (.inr g2)]), box_below _ _⟩
 have g1' : ¬ (p.length : Int) < 1 := by omega
 have g2' : ¬ (6 : Int) < p.length := by omega
 have HN : Hid (¬ (p.length < 1 ∨ 6 < p.length)) := fun h => by omega
 obtain rfl := hpa (by intro e; subst e; simp at g1)
 go_enter Tryz.func51, Tryz.ntmps51
 go_wp2_with fail
 generalize hW : w.alloc _ = W
 have hbel : Below w.heap.size w W := by rw [← hW]; exact box_below _ _
 have p0 : W.cell? ⟨w.heap.size, 0, none⟩ = some (.slice (some ⟨pb, poff, none⟩) p.length pcap) := by rw [← hW]; exact box_cell _ _ _ 0
 clear hW
 have KP := hide (Keeps.of_below hbel)
 have hsz := hbel.size
 go_loopw [4] (fun s wr => ∃ c : Nat, c ≤ p.length ∧ s = .int .i64 c ∧ (List.range c).all (classB p) = true ∧ Below W.heap.size W wr) (fun s _ => p.length - (intOf s).toNat)
 case atStart => exact ⟨0, Nat.zero_le _, rfl, rfl, Below.refl _ _⟩
 case round =>
  obtain ⟨c, hc, rfl, hall, hbr⟩ := hrel
  have HA := hide hall
  have hkr := Keeps.of_below hbr
  have KR := hide hkr
  have hszr := hbr.size
  have q0 := hkr _ _ p0
  clear hall hkr
  by_cases hlt : c < p.length
  ·have hX := List.getElem?_eq_getElem hlt
   obtain ⟨vf, vm, c0, c1, c2, hf, hmt⟩ := (unhide HPR c hlt).keep ((unhide KP).trans (unhide KR))
   have hwx := hwf _ (List.getElem_mem hlt)
   have hxl : szClass p[c] ≤ 4194304 := Nat.le_trans (szClass_le (List.getElem_mem hlt)) hz
   have HX := hide hX
   clear hX
   generalize p[c] = x at *
   have hfl : x.fields.length ≤ 4194304 := Nat.le_trans (szFields_le x) hxl
   have hms : x.meths.length ≤ 4194304 := Nat.le_trans (szMeths_le x) hxl
   have HF := hide hf
   have HMT := hide hmt
   obtain ⟨fa, fb, foff, fcap, rfl, _, _, _⟩ := sl_open hf
   obtain ⟨ma, mb, moff, mcap, rfl, hmcap, hma, _⟩ := sl_open hmt
   have hlt1 := cell_lt c0
   have hlt2 := cell_lt q0
   clear hf hmt
   have hfin0 : Below w.heap.size w (wr.alloc (.cells #[.int .i64 x.sup, .slice fa x.fields.length fcap, .slice ma x.meths.length mcap] 66)) := (hbel.trans (hbr.mono hsz)).trans ((box_below wr _).mono (Nat.le_trans hsz hszr))
   cases hsb : supB c x
   ·have HNO := hide (form_class (unhide HN) hlt (by rw [classB_at (unhide HX), hsb]; rfl))
    by_cases hc0 : c = 0
    ·have hne : (x.sup != -1) = true := by subst hc0; simpa [supB] using hsb
     have hne' : ¬ x.sup = -1 := by simpa using hne
     have hc1 : ((c : Int) == 0) = true := by subst hc0; rfl
     have HC := hide hc0
     clear hc0 hsb
     go_wp2_with fail
     go_ret
     exact ⟨ret_int (unhide HNO).symm, hfin0⟩
    ·have hc1 : ((c : Int) == 0) = false := by simpa using hc0
     have hc2 : (0 : Int) < (c : Int) := by omega
     have hbad : x.sup < 0 ∨ (c : Int) ≤ x.sup := by
      unfold supB at hsb
      rw [if_neg hc0] at hsb
      simp only [Bool.and_eq_false_iff, decide_eq_false_iff_not] at hsb
      omega
     clear hsb
     by_cases hs0 : x.sup < 0
     ·go_wp2_with fail
      go_ret
      exact ⟨ret_int (unhide HNO).symm, hfin0⟩
     ·have hs1 : (c : Int) ≤ x.sup := by omega
      clear hbad
      go_wp2_with fail
      go_ret
      exact ⟨ret_int (unhide HNO).symm, hfin0⟩
   ·have HSUP := hide (supOk_succ (supOk_of (unhide HA)) (unhide HX) hsb)
    have HSB := hide hsb
    clear hsb
    have hfsz := fieldsOf_sz p (unhide HSUP) (Nat.lt_succ_self c)
    by_cases hc0 : c = 0
    ·have hne : x.sup = -1 := supB_zero (hc0 ▸ unhide HSB)
     have hne' : (x.sup != -1) = false := by simpa using hne
     have hc1 : ((c : Int) == 0) = true := by subst hc0; rfl
     have hc2 : ¬ (0 : Int) < (c : Int) := by omega
     have HC := hide hc0
     have HNE := hide hne
     clear hc0 hne
     go_wp2_with fail
     obtain ⟨wo, rfl⟩ : ∃ wo : World, wo = wr := ⟨_, rfl⟩
     generalize hW2 : wo.alloc _ = W2
     have hb2 : Below wo.heap.size wo W2 := by rw [← hW2]; exact box_below _ _
     have s2 : W2.cell? ⟨wo.heap.size, 2, none⟩ = some (.slice ma x.meths.length mcap) := by rw [← hW2]; exact box_cell _ _ _ 2
     clear hW2 hfin0 c0 c1 c2
     have hk2 := Keeps.of_below hb2
     have K2 := hide hk2
     have t0 := hk2 _ _ q0
     have hnext : Below W.heap.size W W2 := hbr.trans (hb2.mono hszr)
     have hfin : Below w.heap.size w W2 := hbel.trans (hnext.mono hsz)
     clear hk2 q0 p0
     cases hd : x.fields.all (declB p.length)
     ·refine (ref_alldeclared_eq hd _ (ints_keep (unhide K2) (unhide HF)) hwx.2.1 hfl).mono ?_
      rintro e w3 ⟨rfl, rfl⟩
      go_wp2_with fail
      go_ret
      exact ⟨ret_int (form_class (unhide HN) hlt (by rw [classB_at (unhide HX), rest_no (fun h => Bool.false_ne_true (hd.symm.trans h.1)), Bool.and_false])).symm, hfin⟩
     refine (ref_alldeclared_eq hd _ (ints_keep (unhide K2) (unhide HF)) hwx.2.1 hfl).mono ?_
     rintro e w3 ⟨rfl, rfl⟩
     go_wp2_with fail
     refine (ref_fields p (c + 1) (unhide HSUP) (by omega) hz c _ _ (prog_keep (unhide K2) (prog_keep ((unhide KP).trans (unhide KR)) (unhide HP))) (by omega)).mono ?_
     rintro e w4 ⟨v4, rfl, hown4, hb4⟩
     obtain ⟨a4, cap4, rfl⟩ := own_form hown4
     have s3 := Keeps.of_below hb4 _ _ s2
     have t3 := Keeps.of_below hb4 _ _ t0
     have hsz4 := hb4.size
     have hnext4 : Below W.heap.size W w4 := hnext.trans (hb4.mono hnext.size)
     have hfin4 : Below w.heap.size w w4 := hbel.trans (hnext4.mono hsz)
     have KW := hide (Keeps.of_below hfin4)
     clear hown4 hb4 s2 t0
     by_cases g8 : 8 < (fieldsOf p c).length
     ·have g8' : (8 : Int) < (fieldsOf p c).length := by omega
      go_wp2_with fail
      go_ret
      exact ⟨ret_int (form_class (unhide HN) hlt (by rw [classB_at (unhide HX), rest_no (fun h => by omega), Bool.and_false])).symm, hfin4⟩
     have g8' : ¬ (8 : Int) < (fieldsOf p c).length := by omega
     by_cases g9 : 6 < x.meths.length
     ·have g9' : (6 : Int) < x.meths.length := by omega
      go_wp2_with fail
      go_ret
      exact ⟨ret_int (form_class (unhide HN) hlt (by rw [classB_at (unhide HX), rest_no (fun h => by omega), Bool.and_false])).symm, hfin4⟩
     have g9' : ¬ (6 : Int) < x.meths.length := by omega
     go_wp2_with fail
     go_loopw [7] (fun s wi => ∃ k : Nat, k ≤ x.meths.length ∧ s = .int .i64 k ∧ (∀ (j : Nat) (m : LMeth), j < k → x.meths[j]? = some m → headB p x j m = true) ∧ Below w4.heap.size w4 wi) (fun s _ => x.meths.length - (intOf s).toNat)
     case atStart => exact ⟨0, Nat.zero_le _, rfl, fun j _ h => absurd h (Nat.not_lt_zero j), Below.refl _ _⟩
     case round =>
      obtain ⟨k, hk, rfl, hh, hbi⟩ := hrel
      have HH := hide hh
      have s5 := Keeps.of_below hbi _ _ s3
      have t5 := Keeps.of_below hbi _ _ t3
      have KI := hide (Keeps.of_below hbi)
      have hszi := hbi.size
      clear hh s3 t3
      by_cases hk2 : k < x.meths.length
      ·have HM := hide (List.getElem?_eq_getElem hk2)
       cases hhd : headB p x k x.meths[k]
       ·go_wp2_with fail
        refine (ref_head_eq p hhd _ c _ (prog_keep ((unhide KW).trans (unhide KI)) (unhide HP)) (unhide HSUP) (unhide HX) (unhide HM) hwf hz).mono ?_
        rintro e w5 ⟨rfl, hb5⟩
        go_wp2_with fail
        go_ret
        exact ⟨ret_int (form_class (unhide HN) hlt (by rw [classB_at (unhide HX), rest_head (unhide HM) hhd, Bool.and_false])).symm, hfin4.trans ((hbi.trans (hb5.mono hszi)).mono hfin4.size)⟩
       ·go_wp2_with fail
        refine (ref_head_eq p hhd _ c _ (prog_keep ((unhide KW).trans (unhide KI)) (unhide HP)) (unhide HSUP) (unhide HX) (unhide HM) hwf hz).mono ?_
        rintro e w5 ⟨rfl, hb5⟩
        go_wp2_with fail
        exact ⟨⟨k + 1, by omega, by go_num, fun j m hj hjm => by
         rcases Nat.lt_or_ge j k with g | g
         ·exact unhide HH j m g hjm
         ·obtain rfl : j = k := by omega
          rw [unhide HM] at hjm; cases hjm; exact hhd, hbi.trans (hb5.mono hszi)⟩, by simp [intOf]; omega⟩
      ·go_wp2_with fail
       exact ⟨⟨c + 1, by omega, by go_num, by rw [range_all_succ, unhide HA, classB_at (unhide HX), unhide HSB, rest_yes ⟨hd, by omega, by omega⟩ (fun j m hjm => unhide HH j m (by have := (List.getElem?_eq_some_iff.1 hjm).1; omega) hjm)]; rfl, hnext4.trans (hbi.mono hnext4.size)⟩, by simp [intOf]; omega⟩
    ·have hsup := supB_pos (by omega) (unhide HSB)
     have hc1 : ((c : Int) == 0) = false := by simpa using hc0
     have hc2 : (0 : Int) < (c : Int) := by omega
     have hs0 : ¬ x.sup < 0 := by omega
     have hs1 : ¬ (c : Int) ≤ x.sup := by omega
     go_wp2_with fail
     obtain ⟨wo, rfl⟩ : ∃ wo : World, wo = wr := ⟨_, rfl⟩
     generalize hW2 : wo.alloc _ = W2
     have hb2 : Below wo.heap.size wo W2 := by rw [← hW2]; exact box_below _ _
     have s2 : W2.cell? ⟨wo.heap.size, 2, none⟩ = some (.slice ma x.meths.length mcap) := by rw [← hW2]; exact box_cell _ _ _ 2
     clear hW2 hfin0 c0 c1 c2
     have hk2 := Keeps.of_below hb2
     have K2 := hide hk2
     have t0 := hk2 _ _ q0
     have hnext : Below W.heap.size W W2 := hbr.trans (hb2.mono hszr)
     have hfin : Below w.heap.size w W2 := hbel.trans (hnext.mono hsz)
     clear hk2 q0 p0
     cases hd : x.fields.all (declB p.length)
     ·refine (ref_alldeclared_eq hd _ (ints_keep (unhide K2) (unhide HF)) hwx.2.1 hfl).mono ?_
      rintro e w3 ⟨rfl, rfl⟩
      go_wp2_with fail
      go_ret
      exact ⟨ret_int (form_class (unhide HN) hlt (by rw [classB_at (unhide HX), rest_no (fun h => Bool.false_ne_true (hd.symm.trans h.1)), Bool.and_false])).symm, hfin⟩
     refine (ref_alldeclared_eq hd _ (ints_keep (unhide K2) (unhide HF)) hwx.2.1 hfl).mono ?_
     rintro e w3 ⟨rfl, rfl⟩
     go_wp2_with fail
     refine (ref_fields p (c + 1) (unhide HSUP) (by omega) hz c _ _ (prog_keep (unhide K2) (prog_keep ((unhide KP).trans (unhide KR)) (unhide HP))) (by omega)).mono ?_
     rintro e w4 ⟨v4, rfl, hown4, hb4⟩
     obtain ⟨a4, cap4, rfl⟩ := own_form hown4
     have s3 := Keeps.of_below hb4 _ _ s2
     have t3 := Keeps.of_below hb4 _ _ t0
     have hsz4 := hb4.size
     have hnext4 : Below W.heap.size W w4 := hnext.trans (hb4.mono hnext.size)
     have hfin4 : Below w.heap.size w w4 := hbel.trans (hnext4.mono hsz)
     have KW := hide (Keeps.of_below hfin4)
     clear hown4 hb4 s2 t0
     by_cases g8 : 8 < (fieldsOf p c).length
     ·have g8' : (8 : Int) < (fieldsOf p c).length := by omega
      go_wp2_with fail
      go_ret
      exact ⟨ret_int (form_class (unhide HN) hlt (by rw [classB_at (unhide HX), rest_no (fun h => by omega), Bool.and_false])).symm, hfin4⟩
     have g8' : ¬ (8 : Int) < (fieldsOf p c).length := by omega
     by_cases g9 : 6 < x.meths.length
     ·have g9' : (6 : Int) < x.meths.length := by omega
      go_wp2_with fail
      go_ret
      exact ⟨ret_int (form_class (unhide HN) hlt (by rw [classB_at (unhide HX), rest_no (fun h => by omega), Bool.and_false])).symm, hfin4⟩
     have g9' : ¬ (6 : Int) < x.meths.length := by omega
     go_wp2_with fail
     go_loopw [7] (fun s wi => ∃ k : Nat, k ≤ x.meths.length ∧ s = .int .i64 k ∧ (∀ (j : Nat) (m : LMeth), j < k → x.meths[j]? = some m → headB p x j m = true) ∧ Below w4.heap.size w4 wi) (fun s _ => x.meths.length - (intOf s).toNat)
     case atStart => exact ⟨0, Nat.zero_le _, rfl, fun j _ h => absurd h (Nat.not_lt_zero j), Below.refl _ _⟩
     case round =>
      obtain ⟨k, hk, rfl, hh, hbi⟩ := hrel
      have HH := hide hh
      have s5 := Keeps.of_below hbi _ _ s3
      have t5 := Keeps.of_below hbi _ _ t3
      have KI := hide (Keeps.of_below hbi)
      have hszi := hbi.size
      clear hh s3 t3
      by_cases hk2 : k < x.meths.length
      ·have HM := hide (List.getElem?_eq_getElem hk2)
       cases hhd : headB p x k x.meths[k]
       ·go_wp2_with fail
        refine (ref_head_eq p hhd _ c _ (prog_keep ((unhide KW).trans (unhide KI)) (unhide HP)) (unhide HSUP) (unhide HX) (unhide HM) hwf hz).mono ?_
        rintro e w5 ⟨rfl, hb5⟩
        go_wp2_with fail
        go_ret
        exact ⟨ret_int (form_class (unhide HN) hlt (by rw [classB_at (unhide HX), rest_head (unhide HM) hhd, Bool.and_false])).symm, hfin4.trans ((hbi.trans (hb5.mono hszi)).mono hfin4.size)⟩
       ·go_wp2_with fail
        refine (ref_head_eq p hhd _ c _ (prog_keep ((unhide KW).trans (unhide KI)) (unhide HP)) (unhide HSUP) (unhide HX) (unhide HM) hwf hz).mono ?_
        rintro e w5 ⟨rfl, hb5⟩
        go_wp2_with fail
        exact ⟨⟨k + 1, by omega, by go_num, fun j m hj hjm => by
         rcases Nat.lt_or_ge j k with g | g
         ·exact unhide HH j m g hjm
         ·obtain rfl : j = k := by omega
          rw [unhide HM] at hjm; cases hjm; exact hhd, hbi.trans (hb5.mono hszi)⟩, by simp [intOf]; omega⟩
      ·go_wp2_with fail
       exact ⟨⟨c + 1, by omega, by go_num, by rw [range_all_succ, unhide HA, classB_at (unhide HX), unhide HSB, rest_yes ⟨hd, by omega, by omega⟩ (fun j m hjm => unhide HH j m (by have := (List.getElem?_eq_some_iff.1 hjm).1; omega) hjm)]; rfl, hnext4.trans (hbi.mono hnext4.size)⟩, by simp [intOf]; omega⟩
  ·have HALL : Hid ((List.range p.length).all (classB p) = true) := by
    have := unhide HA
    rwa [show c = p.length by omega] at this
   have HSUP := hide (supOk_of (unhide HALL))
   have HFC := hide (form_code (unhide HN) (unhide HALL))
   go_wp2_with fail
   clear q0 hlt hc HA
   obtain ⟨wo, rfl⟩ : ∃ wo : World, wo = wr := ⟨_, rfl⟩
   go_loopw [9] (fun s wr => ∃ c : Nat, c ≤ p.length ∧ s = .int .i64 c ∧ (p.take c).all (fun x => x.meths.all (codeB p)) = true ∧ Below W.heap.size W wr) (fun s _ => p.length - (intOf s).toNat)
   case atStart => exact ⟨0, Nat.zero_le _, rfl, rfl, hbr⟩
   case round =>
    clear KR hszr hbr
    obtain ⟨c, hc, rfl, hall, hbr⟩ := hrel
    have HA := hide hall
    have hkr := Keeps.of_below hbr
    have KR := hide hkr
    have hszr := hbr.size
    have q0 := hkr _ _ p0
    clear hall hkr
    by_cases hlt : c < p.length
    ·obtain ⟨vf, vm, c0, c1, c2, hf, hmt⟩ := (unhide HPR c hlt).keep ((unhide KP).trans (unhide KR))
     have hwx := hwf _ (List.getElem_mem hlt)
     have hxl : szClass p[c] ≤ 4194304 := Nat.le_trans (szClass_le (List.getElem_mem hlt)) hz
     have hS := all_snoc (f := fun x => x.meths.all (codeB p)) hlt
     have HNOX := hide (fun h => all_no (f := fun x : LClass => x.meths.all (codeB p)) hlt h)
     rw [unhide HA] at hS
     have HS := hide hS
     clear hS
     generalize p[c] = x at *
     have hms : x.meths.length ≤ 4194304 := Nat.le_trans (szMeths_le x) hxl
     obtain ⟨ma, mb, moff, mcap, rfl, hmcap, hma, hmr⟩ := sl_open hmt
     have HMR := hide hmr
     clear hf hmt hmr
     obtain ⟨wo2, rfl⟩ : ∃ wo2 : World, wo2 = wr := ⟨_, rfl⟩
     go_wp2_with fail
     go_loopw [10] (fun s wi => ∃ k : Nat, k ≤ x.meths.length ∧ s = .int .i64 k ∧ (x.meths.take k).all (codeB p) = true ∧ Below wo2.heap.size wo2 wi) (fun s _ => x.meths.length - (intOf s).toNat)
     case atStart => exact ⟨0, Nat.zero_le _, rfl, rfl, Below.refl _ _⟩
     case round =>
      obtain ⟨k, hk, rfl, hh, hbi⟩ := hrel
      have HH := hide hh
      have KI := hide (Keeps.of_below hbi)
      have hszi := hbi.size
      have t0 := unhide KI _ _ q0
      have t2 := unhide KI _ _ c2
      clear hh
      by_cases hk2 : k < x.meths.length
      ·obtain rfl := hma (ne_nil_of_lt hk2)
       obtain ⟨va, vcd, vfr, hmv, m0, m1, m2, m3, m4, m5, m6⟩ := (unhide HMR k hk2).keep (unhide KI)
       have hwm := hwx.2.2 _ (List.getElem_mem hk2)
       have hml : szMeth x.meths[k] ≤ 4194304 := Nat.le_trans (szMeth_le (List.getElem_mem hk2)) hxl
       have hSm := all_snoc (f := codeB p) hk2
       have HNOM := hide (fun h => all_no (f := codeB p) hk2 h)
       rw [unhide HH] at hSm
       have HSM := hide hSm
       clear hSm
       generalize x.meths[k] = m at *
       have HMV := hide hmv
       obtain ⟨ha1, hc1, hf1⟩ := hmv
       obtain ⟨aa, ab, aoff, acap, rfl, _, _, _⟩ := sl_open ha1
       obtain ⟨ca, cb, coff, ccap, rfl, _, _, _⟩ := sl_open hc1
       obtain ⟨fa, fb, foff, fcap, rfl, _, _, _⟩ := sl_open hf1
       have hci : (c : Int) < (p.length : Int) := by omega
       have hcz : (0 : Int) ≤ (c : Int) := by omega
       have hki : (k : Int) < (x.meths.length : Int) := by omega
       have hkz : (0 : Int) ≤ (k : Int) := by omega
       clear ha1 hc1 hf1 q0 c0 c1 c2 p0
       cases hcd : codeB p m
       ·go_wp2_with fail
        go_region_held3 (fun w' => w'.cell? ⟨w.heap.size, 0, none⟩ = some (.slice (some ⟨pb, poff, none⟩) p.length pcap) ∧ w'.cell? ⟨pb, poff + c * 3 + 2, none⟩ = some (.slice (some ⟨mb, moff, none⟩) x.meths.length mcap) ∧
          w'.cell? ⟨mb, moff + k * 7, none⟩ = some (.int .i64 m.slot) ∧ w'.cell? ⟨mb, moff + k * 7 + 1, none⟩ = some (.slice aa m.args.length acap) ∧ w'.cell? ⟨mb, moff + k * 7 + 2, none⟩ = some (.int .i64 m.ret) ∧ w'.cell? ⟨mb, moff + k * 7 + 3, none⟩ = some (.int .i64 m.locals) ∧
          w'.cell? ⟨mb, moff + k * 7 + 4, none⟩ = some (.int .i64 m.stack) ∧ w'.cell? ⟨mb, moff + k * 7 + 5, none⟩ = some (.slice ca m.code.length ccap) ∧ w'.cell? ⟨mb, moff + k * 7 + 6, none⟩ = some (.slice fa m.frames.length fcap))
         (first | go_keep | (exact ⟨Keeps.of_below hb5 _ _ (by simpa using t0), Keeps.of_below hb5 _ _ (by simpa using t2), Keeps.of_below hb5 _ _ (by simpa using m0), Keeps.of_below hb5 _ _ (by simpa using m1), Keeps.of_below hb5 _ _ (by simpa using m2), Keeps.of_below hb5 _ _ (by simpa using m3), Keeps.of_below hb5 _ _ (by simpa using m4), Keeps.of_below hb5 _ _ (by simpa using m5), Keeps.of_below hb5 _ _ (by simpa using m6)⟩))
         (first | ((go_at_call 94; refine (ref_code_eq p hcd _ _ _ _ _ (prog_keep (Keeps.of_below ((Below.refl _ _).drew)) (prog_keep ((unhide KP).trans ((unhide KR).trans (unhide KI))) (unhide HP))) ((unhide HMV).keep (Keeps.of_below ((Below.refl _ _).drew))) (unhide HSUP) hz hml hwm).mono ?_); rintro e w5 ⟨rfl, hb5⟩))
        have hnext : Below wo2.heap.size wo2 w5 := hbi.drew.trans (hb5.mono (by simpa using hszi))
        go_wp2_with fail
        go_ret
        refine ⟨ret_int ?_, hbel.trans ((hbr.trans (hnext.mono hszr)).mono hsz)⟩
        rw [unhide HFC, unhide HNOX (unhide HNOM hcd)]
        rfl
       ·go_wp2_with fail
        go_region_held3 (fun w' => w'.cell? ⟨w.heap.size, 0, none⟩ = some (.slice (some ⟨pb, poff, none⟩) p.length pcap) ∧ w'.cell? ⟨pb, poff + c * 3 + 2, none⟩ = some (.slice (some ⟨mb, moff, none⟩) x.meths.length mcap) ∧
          w'.cell? ⟨mb, moff + k * 7, none⟩ = some (.int .i64 m.slot) ∧ w'.cell? ⟨mb, moff + k * 7 + 1, none⟩ = some (.slice aa m.args.length acap) ∧ w'.cell? ⟨mb, moff + k * 7 + 2, none⟩ = some (.int .i64 m.ret) ∧ w'.cell? ⟨mb, moff + k * 7 + 3, none⟩ = some (.int .i64 m.locals) ∧
          w'.cell? ⟨mb, moff + k * 7 + 4, none⟩ = some (.int .i64 m.stack) ∧ w'.cell? ⟨mb, moff + k * 7 + 5, none⟩ = some (.slice ca m.code.length ccap) ∧ w'.cell? ⟨mb, moff + k * 7 + 6, none⟩ = some (.slice fa m.frames.length fcap))
         (first | go_keep | (exact ⟨Keeps.of_below hb5 _ _ (by simpa using t0), Keeps.of_below hb5 _ _ (by simpa using t2), Keeps.of_below hb5 _ _ (by simpa using m0), Keeps.of_below hb5 _ _ (by simpa using m1), Keeps.of_below hb5 _ _ (by simpa using m2), Keeps.of_below hb5 _ _ (by simpa using m3), Keeps.of_below hb5 _ _ (by simpa using m4), Keeps.of_below hb5 _ _ (by simpa using m5), Keeps.of_below hb5 _ _ (by simpa using m6)⟩))
         (first | ((go_at_call 94; refine (ref_code_eq p hcd _ _ _ _ _ (prog_keep (Keeps.of_below ((Below.refl _ _).drew)) (prog_keep ((unhide KP).trans ((unhide KR).trans (unhide KI))) (unhide HP))) ((unhide HMV).keep (Keeps.of_below ((Below.refl _ _).drew))) (unhide HSUP) hz hml hwm).mono ?_); rintro e w5 ⟨rfl, hb5⟩))
        have hnext : Below wo2.heap.size wo2 w5 := hbi.drew.trans (hb5.mono (by simpa using hszi))
        go_wp2_with fail
        exact ⟨⟨k + 1, by omega, by go_num, by rw [unhide HSM, hcd]; rfl, hnext⟩, by simp [intOf]; omega⟩
      ·go_wp2_with fail
       exact ⟨⟨c + 1, by omega, by go_num, by
        have h1 := unhide HH
        rw [List.take_of_length_le (by omega)] at h1
        rw [unhide HS, h1]; rfl, hbr.trans (hbi.mono hszr)⟩, by simp [intOf]; omega⟩
    ·go_wp2_with fail
     go_ret
     refine ⟨ret_int ?_, hbel.trans (hbr.mono hsz)⟩
     have h1 := unhide HA
     rw [List.take_of_length_le (by omega)] at h1
     rw [unhide HFC, h1]
     rfl
end Go.Proofs.YtiiokkllmchohaaGreat
namespace Go.Proofs.YtiiokkllmchohaaGreat
open Go.RowKit
section
variable (s : List UInt8)
end

def shortF (n : Int) (f : LFrame) : Prop := (f.locals.length : Int) = n ∧ f.stack.length ≤ 40
def shortM (m : LMeth) : Prop := m.args.length ≤ 40 ∧ (0 ≤ m.locals ∧ m.locals ≤ 40) ∧ m.code.length ≤ 40 ∧ m.frames.length ≤ 40 ∧ ∀ f ∈ m.frames, shortF m.locals f
def shortC (x : LClass) : Prop := x.fields.length ≤ 40 ∧ x.meths.length ≤ 40 ∧ ∀ m ∈ x.meths, shortM m
section
variable {s : List UInt8}
end
theorem framesB_all {n : Nat} {m : LMeth} : ∀ {l : List LFrame} {last : Int}, framesB n m last l = true → ∀ f ∈ l, frameB n m f = true
 | [], _, _ => fun f hf => by cases hf
 | x :: r, last, h => by
  unfold framesB at h
  simp only [Bool.and_eq_true] at h
  intro f hf
  rcases List.mem_cons.1 hf with rfl | hf
  ·exact h.1.2
  ·exact framesB_all h.2 f hf
theorem frameB_short {n : Nat} {m : LMeth} {f : LFrame} (h : frameB n m f = true) (hs : m.stack ≤ 8) : shortF m.locals f := by
 unfold frameB at h
 simp only [Bool.and_eq_true, decide_eq_true_eq] at h
 unfold shortF
 omega
theorem form_short {p : List LClass} (h : formI p = 0) : p.length ≤ 6 ∧ ∀ x ∈ p, shortC x := by
 unfold formI at h
 split at h
 ·cases h
 rename_i hn
 split at h
 ·rename_i hc
  split at h
  ·rename_i hcode
   refine ⟨by omega, fun x hx => ?_⟩
   obtain ⟨c, hcl, rfl⟩ := List.getElem_of_mem hx
   have hX := List.getElem?_eq_getElem hcl
   have hsup := supOk_of hc
   rw [List.all_eq_true] at hc hcode
   have h1 := hc c (List.mem_range.2 hcl)
   rw [classB_at hX, Bool.and_eq_true] at h1
   have h2 := h1.2
   unfold restB at h2
   simp only [Bool.and_eq_true, decide_eq_true_eq] at h2
   obtain ⟨⟨⟨_, hf⟩, hm⟩, hh⟩ := h2
   have hfs := fieldsOf_step p hsup hcl hX
   rw [hfs, List.length_append] at hf
   have hco := hcode _ hx
   rw [List.all_eq_true] at hco hh
   refine ⟨by omega, by omega, fun m hmm => ?_⟩
   obtain ⟨k, hk, rfl⟩ := List.getElem_of_mem hmm
   have hK := List.getElem?_eq_getElem hk
   have h3 := hh k (List.mem_range.2 hk)
   rw [hK] at h3
   simp only at h3
   unfold headB at h3
   simp only [Bool.and_eq_true] at h3
   have h4 := bareB_iff.1 h3.1.1
   have h5 := hco _ hmm
   unfold codeB at h5
   simp only [Bool.and_eq_true, decide_eq_true_eq] at h5
   obtain ⟨⟨⟨⟨_, hcl2⟩, hfl⟩, _⟩, hfr⟩ := h5
   exact ⟨by omega, by omega, hcl2, hfl, fun f hf' => frameB_short (framesB_all hfr f hf') (by omega)⟩
  ·cases h
 ·cases h
section
variable (s : List UInt8)
end
section
variable {s : List UInt8} {w W W' : World} {b : Nat} {cs : List Value} {i i' : Nat} {bad bad' : Bool}
end
section
variable {s : List UInt8} {w W W' : World} {b : Nat} {cs : List Value} {i i' : Nat} {bad bad' : Bool} {va : Value} {args : List Int} {vc : Value} {l : List LIns} {vf : Value} {fs : List LFrame} {cells : List Value}
end
end Go.Proofs.YtiiokkllmchohaaGreat
namespace Go.Proofs.YtiiokkllmchohaaGreat
open Go.RowKit
attribute [local go_sem ↓] Go.wp_at_zero Go.wp_at_succ
end Go.Proofs.YtiiokkllmchohaaGreat
namespace Go.Proofs.YtiiokkllmchohaaGreat
open Go.RowKit
section
variable {s : List UInt8}
end
section
variable {s : List UInt8} {w W W' : World} {N i i' : Nat} {bad bad' : Bool} {pv : Value} {cl : List LClass} {cells xc : List Value} {G : Addr → Option Value}
variable {sup : Int} {vf vm : Value} {fields : List Int} {ml : List LMeth} {mc : List Value}
end
end Go.Proofs.YtiiokkllmchohaaGreat
