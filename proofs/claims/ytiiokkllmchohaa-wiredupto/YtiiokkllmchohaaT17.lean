/- Walks of the code's own tests: frames, code, and Form. -/
import Derived.Test.YtiiokkllmchohaaT11
import Derived.Test.YtiiokkllmchohaaT16
/- CodeL -/
namespace Go.Proofs.Ytiiokkllmchohaa
open Go.RowKit
attribute [local go_sem ↓] Go.wp_at_zero Go.wp_at_succ

theorem code_maystand_eq {p : List LClass} {l : List Int} {q : Bool} (h : l.all (framedB p.length) = q) (vc v : Value) (w : World) (hp : RProg w vc p) (hpl : p.length ≤ 4194304) (hl : SlAt 1 (RInt w) v l) (hw : ∀ x ∈ l, I64 x) (hs : l.length ≤ 4194304) :
    Calls Try.prog 94 #[.agg #[vc], v] w fun e w' => e = .returned (.bool q) ∧ Below w.heap.size w w' := h ▸ code_maystand p vc l v w hp hpl hl hw hs

/-- A frame but its At. -/
def frame0B (n : Nat) (m : LMeth) (f : LFrame) : Bool :=
  decide ((f.locals.length : Int) = m.locals) && decide ((f.stack.length : Int) ≤ m.stack) && f.locals.all (framedB n) && f.stack.all (framedB n)

set_option maxHeartbeats 4000000 in
set_option maxRecDepth 100000 in
theorem code_frameholds (p : List LClass) (vc : Value) (m : LMeth) (va vcd vfr : Value) (f : LFrame) (vl vs : Value) (w : World) (hp : RProg w vc p) (hm : MVals w m va vcd vfr) (hfl : SlAt 1 (RInt w) vl f.locals) (hfs : SlAt 1 (RInt w) vs f.stack) (hz : szProg p ≤ 4194304) (hfz : szFrame f ≤ 4194304) (hwf : wfFrame f) :
    Calls Try.prog 79 #[.agg #[vc], methV m va vcd vfr, .agg #[.int .i64 f.pc, vl, vs]] w fun e w' => e = .returned (.bool (frame0B p.length m f)) ∧ Below w.heap.size w w' := by
  have hpl : p.length ≤ 4194304 := Nat.le_trans (szProg_len p) hz
  have hll : f.locals.length ≤ 4194304 := by unfold szFrame at hfz; omega
  have hsl : f.stack.length ≤ 4194304 := by unfold szFrame at hfz; omega
  have HP := hide hp
  have HL := hide hfl
  have HS := hide hfs
  obtain ⟨pa, _, _, pcap, rfl, _⟩ := hp
  obtain ⟨⟨aa, _, _, acap, rfl, _⟩, ⟨ca, _, _, ccap, rfl, _⟩, ⟨fa, _, _, fcap, rfl, _⟩⟩ := hm
  obtain ⟨la, _, _, lcap, rfl, _⟩ := hfl
  obtain ⟨sa, _, _, scap, rfl, _⟩ := hfs
  unfold methV
  by_cases q1 : (f.locals.length : Int) = m.locals
  · have k1 : ((f.locals.length : Int) == m.locals) = true := by simpa using q1
    have Q1 := hide (decide_eq_true q1)
    clear q1
    by_cases q2 : (f.stack.length : Int) ≤ m.stack
    · have Q2 := hide (decide_eq_true q2)
      go_enter Try.func79, Try.ntmps79
      go_wp2_with fail
      generalize hW : ((w.alloc _).alloc _).alloc _ = W
      have hbel : Below w.heap.size w W := by rw [← hW]; exact box3_below _ _ _ _
      have i0 : W.cell? ⟨w.heap.size, 0, none⟩ = some (.slice pa p.length pcap) := by rw [← hW]; exact box3_1 _ _ _ _ _ 0
      have i2 : W.cell? ⟨w.heap.size + 1 + 1, 2, none⟩ = some (.slice sa f.stack.length scap) := by rw [← hW]; exact box3_3 _ _ _ _ _ 2
      clear hW
      cases q3 : f.locals.all (framedB p.length)
      · refine (code_maystand_eq q3 _ _ _ (prog_keep (Keeps.of_below hbel) (unhide HP)) hpl (ints_keep (Keeps.of_below hbel) (unhide HL)) hwf.2.1 hll).mono ?_
        rintro e w1 ⟨rfl, hb1⟩
        go_wp2_with fail
        go_ret
        exact ⟨ret_bool (by unfold frame0B; rw [q3, Bool.and_false, Bool.false_and]), hbel.trans (hb1.mono hbel.size)⟩
      · refine (code_maystand_eq q3 _ _ _ (prog_keep (Keeps.of_below hbel) (unhide HP)) hpl (ints_keep (Keeps.of_below hbel) (unhide HL)) hwf.2.1 hll).mono ?_
        rintro e w1 ⟨rfl, hb1⟩
        replace i0 := Keeps.of_below hb1 _ _ i0
        replace i2 := Keeps.of_below hb1 _ _ i2
        have hf1 := hbel.trans (hb1.mono hbel.size)
        clear hbel hb1
        go_wp2_with fail
        refine (code_maystand_eq rfl _ _ _ (prog_keep (Keeps.of_below hf1) (unhide HP)) hpl (ints_keep (Keeps.of_below hf1) (unhide HS)) hwf.2.2 hsl).mono ?_
        rintro e w2 ⟨rfl, hb2⟩
        go_wp2_with fail
        go_ret
        exact ⟨ret_bool (by unfold frame0B; rw [unhide Q1, unhide Q2, q3]; rfl), hf1.trans (hb2.mono hf1.size)⟩
    · have Q2 := hide (decide_eq_false q2)
      go_enter Try.func79, Try.ntmps79
      go_wp2_with fail
      go_ret
      exact ⟨ret_bool (by unfold frame0B; rw [unhide Q2, Bool.and_false, Bool.false_and, Bool.false_and]), box3_below _ _ _ _⟩
  · have k1 : ((f.locals.length : Int) == m.locals) = false := by simpa using q1
    have Q1 := hide (decide_eq_false q1)
    clear q1
    go_enter Try.func79, Try.ntmps79
    go_wp2_with fail
    go_ret
    exact ⟨ret_bool (by unfold frame0B; rw [unhide Q1, Bool.false_and, Bool.false_and, Bool.false_and]), box3_below _ _ _ _⟩

theorem framesB_cons {n : Nat} {m : LMeth} {last : Int} {f : LFrame} {r : List LFrame} : framesB n m last (f :: r) = (decide (last < f.pc) && (decide (f.pc < m.code.length) && frame0B n m f) && framesB n m f.pc r) := by
  have e : frameB n m f = (decide (f.pc < m.code.length) && frame0B n m f) := by
    unfold frameB frame0B
    cases decide (f.pc < m.code.length) <;> cases decide ((f.locals.length : Int) = m.locals) <;> cases decide ((f.stack.length : Int) ≤ m.stack) <;> cases f.locals.all (framedB n) <;> rfl
  rw [framesB, e]
theorem code_frameholds_eq {p : List LClass} {m : LMeth} {f : LFrame} {q : Bool} (h : frame0B p.length m f = q) (vc va vcd vfr vl vs : Value) (w : World) (hp : RProg w vc p) (hm : MVals w m va vcd vfr) (hfl : SlAt 1 (RInt w) vl f.locals) (hfs : SlAt 1 (RInt w) vs f.stack) (hz : szProg p ≤ 4194304) (hfz : szFrame f ≤ 4194304) (hwf : wfFrame f) :
    Calls Try.prog 79 #[.agg #[vc], methV m va vcd vfr, .agg #[.int .i64 f.pc, vl, vs]] w fun e w' => e = .returned (.bool q) ∧ Below w.heap.size w w' := h ▸ code_frameholds p vc m va vcd vfr f vl vs w hp hm hfl hfs hz hfz hwf

set_option maxHeartbeats 4000000 in
set_option maxRecDepth 100000 in
theorem code_frameshold (p : List LClass) (vc : Value) (m : LMeth) (va vcd vfr : Value) (w : World) (hp : RProg w vc p) (hm : MVals w m va vcd vfr) (hz : szProg p ≤ 4194304) (hml : szMeth m ≤ 4194304) (hwm : wfMeth m) :
    Calls Try.prog 56 #[.agg #[vc], methV m va vcd vfr] w fun e w' => e = .returned (.bool (framesB p.length m (-1) m.frames)) ∧ Below w.heap.size w w' := by
  have hcl : m.code.length ≤ 4194304 := by unfold szMeth at hml; omega
  have hfl : m.frames.length ≤ 4194304 := Nat.le_trans (szFrames_le m) hml
  have hwfr := hwm.2.2.2.2.2.2
  have HP := hide hp
  have HMV := hide hm
  obtain ⟨pa, _, _, pcap, rfl, _⟩ := hp
  obtain ⟨⟨aa, _, _, acap, rfl, _⟩, ⟨ca, _, _, ccap, rfl, _⟩, hf⟩ := hm
  obtain ⟨fa, fb, foff, fcap, rfl, _, hfa, hfr⟩ := sl_open hf
  have HFR := hide hfr
  clear hfr hf
  unfold methV
  go_enter Try.func56, Try.ntmps56
  go_wp2_with fail
  generalize hW : (w.alloc _).alloc _ = W
  have hbel : Below w.heap.size w W := by rw [← hW]; exact box2_below _ _ _
  have i0 : W.cell? ⟨w.heap.size, 0, none⟩ = some (.slice pa p.length pcap) := by rw [← hW]; exact box2_fst _ _ _ _ 0
  have l0 : W.cell? ⟨w.heap.size + 1, 0, none⟩ = some (.int .i64 m.slot) := by rw [← hW]; exact box2_snd _ _ _ _ 0
  have l1 : W.cell? ⟨w.heap.size + 1, 1, none⟩ = some (.slice aa m.args.length acap) := by rw [← hW]; exact box2_snd _ _ _ _ 1
  have l2 : W.cell? ⟨w.heap.size + 1, 2, none⟩ = some (.int .i64 m.ret) := by rw [← hW]; exact box2_snd _ _ _ _ 2
  have l3 : W.cell? ⟨w.heap.size + 1, 3, none⟩ = some (.int .i64 m.locals) := by rw [← hW]; exact box2_snd _ _ _ _ 3
  have l4 : W.cell? ⟨w.heap.size + 1, 4, none⟩ = some (.int .i64 m.stack) := by rw [← hW]; exact box2_snd _ _ _ _ 4
  have l5 : W.cell? ⟨w.heap.size + 1, 5, none⟩ = some (.slice ca m.code.length ccap) := by rw [← hW]; exact box2_snd _ _ _ _ 5
  have l6 : W.cell? ⟨w.heap.size + 1, 6, none⟩ = some (.slice fa m.frames.length fcap) := by rw [← hW]; exact box2_snd _ _ _ _ 6
  clear hW
  go_loopw [5, 11] (fun s5 s wr => ∃ (k : Nat) (from' : Int), k ≤ m.frames.length ∧ s = .int .i64 k ∧ s5 = .int .i64 from' ∧ 0 ≤ from' ∧ from' ≤ m.code.length ∧ framesB p.length m (-1) m.frames = framesB p.length m (from' - 1) (m.frames.drop k) ∧ Below W.heap.size W wr) (fun _ s _ => m.frames.length - (intOf s).toNat)
  case atStart => exact ⟨0, 0, Nat.zero_le _, rfl, rfl, by omega, by omega, by rw [List.drop_zero]; rfl, Below.refl _ _⟩
  case round =>
    obtain ⟨k, from', hk, rfl, rfl, hf0, hf1, hinv, hbr⟩ := hrel
    have HI := hide hinv
    clear hinv
    have hfin : Below w.heap.size w wr := hbel.trans (hbr.mono hbel.size)
    by_cases hlt : k < m.frames.length
    · obtain rfl := hfa (ne_nil_of_lt hlt)
      obtain ⟨vl, vs, c0, c1, c2, hl, hst⟩ := (unhide HFR k hlt).keep (Keeps.of_below hfin)
      have HD := hide (show framesB p.length m (-1) m.frames = framesB p.length m (from' - 1) (m.frames[k] :: m.frames.drop (k + 1)) by rw [unhide HI, List.drop_eq_getElem_cons hlt])
      have hwk := hwfr _ (List.getElem_mem hlt)
      have hfz : szFrame m.frames[k] ≤ 4194304 := Nat.le_trans (szFrame_le (List.getElem_mem hlt)) hml
      have HL := hide hl
      have HST := hide hst
      obtain ⟨la, _, _, lcap, rfl, _⟩ := hl
      obtain ⟨sa, _, _, scap, rfl, _⟩ := hst
      generalize m.frames[k] = f at *
      have hltb := cell_lt c0
      have hk1 := Keeps.of_below hbr
      have e0 := hk1 _ _ i0
      have r0 := hk1 _ _ l0
      have r1 := hk1 _ _ l1
      have r2 := hk1 _ _ l2
      have r3 := hk1 _ _ l3
      have r4 := hk1 _ _ l4
      have r5 := hk1 _ _ l5
      have r6 := hk1 _ _ l6
      have hlt0 := cell_lt r0
      have hlt1 := cell_lt e0
      clear hk1
      have hbz := hbr.trans ((box_below wr (.cells #[.int .i64 f.pc, .slice la f.locals.length lcap, .slice sa f.stack.length scap] 103)).mono hbr.size)
      have hfz2 := hbel.trans (hbz.mono hbel.size)
      by_cases g1 : f.pc < from'
      · have HN := hide (show framesB p.length m (-1) m.frames = false by rw [unhide HD, framesB_cons, decide_eq_false (by omega)]; rfl)
        go_wp2_with fail
        go_ret
        exact ⟨ret_bool (unhide HN).symm, hfz2⟩
      by_cases g2 : (m.code.length : Int) ≤ f.pc
      · have HN := hide (show framesB p.length m (-1) m.frames = false by rw [unhide HD, framesB_cons, decide_eq_false (show ¬ f.pc < (m.code.length : Int) by omega), Bool.false_and, Bool.and_false]; rfl)
        go_wp2_with fail
        go_ret
        exact ⟨ret_bool (unhide HN).symm, hfz2⟩
      have d1 := decide_eq_true (show from' - 1 < f.pc by omega)
      have d2 := decide_eq_true (show f.pc < (m.code.length : Int) by omega)
      have HDD := hide (show framesB p.length m (-1) m.frames = (frame0B p.length m f && framesB p.length m f.pc (m.frames.drop (k + 1))) by rw [unhide HD, framesB_cons, d1, d2]; rfl)
      clear d1 d2 HD
      go_wp2_with fail
      have HPZ := hide (prog_keep (Keeps.of_below hfz2) (unhide HP))
      have HMZ := hide ((unhide HMV).keep (Keeps.of_below hfz2))
      have HLZ := hide (ints_keep (box_keeps wr (.cells #[.int .i64 f.pc, .slice la f.locals.length lcap, .slice sa f.stack.length scap] 103)) (unhide HL))
      have HSZ := hide (ints_keep (box_keeps wr (.cells #[.int .i64 f.pc, .slice la f.locals.length lcap, .slice sa f.stack.length scap] 103)) (unhide HST))
      have z0 := box_cell wr #[.int .i64 f.pc, .slice la f.locals.length lcap, .slice sa f.stack.length scap] 103 0
      obtain ⟨wo, rfl⟩ : ∃ wo : World, wo = wr := ⟨_, rfl⟩
      generalize wo.alloc _ = Z at *
      replace z0 : Z.cell? ⟨wo.heap.size, 0, none⟩ = some (.int .i64 f.pc) := z0
      cases hq : frame0B p.length m f
      · refine (code_frameholds_eq hq _ _ _ _ _ _ _ (unhide HPZ) (unhide HMZ) (unhide HLZ) (unhide HSZ) hz hfz hwk).mono ?_
        rintro e w1 ⟨rfl, hb1⟩
        go_wp2_with fail
        go_ret
        exact ⟨ret_bool (by rw [unhide HDD, hq]; rfl), hfz2.trans (hb1.mono hfz2.size)⟩
      · refine (code_frameholds_eq hq _ _ _ _ _ _ _ (unhide HPZ) (unhide HMZ) (unhide HLZ) (unhide HSZ) hz hfz hwk).mono ?_
        rintro e w1 ⟨rfl, hb1⟩
        have z1 := Keeps.of_below hb1 _ _ z0
        clear z0
        go_wp2_with fail
        exact ⟨⟨k + 1, f.pc + 1, by omega, by go_num, by go_num, by omega, by omega, by rw [unhide HDD, hq, Bool.true_and, Int.add_sub_cancel], hbz.trans (hb1.mono hbz.size)⟩, by simp [intOf]; omega⟩
    · go_wp2
      go_ret
      have : m.frames.drop k = [] := List.drop_of_length_le (by omega)
      exact ⟨ret_bool (by rw [unhide HI, this]; rfl), hfin⟩
end Go.Proofs.Ytiiokkllmchohaa
/- Walks of the code's own tests: all code; what Form answers. -/
namespace Go.Proofs.Ytiiokkllmchohaa
open Go.RowKit
attribute [local go_sem ↓] Go.wp_at_zero Go.wp_at_succ

def code0B (p : List LClass) (m : LMeth) : Bool := !(decide (m.code.length < 1) || decide (40 < m.code.length)) && m.code.all (insB p m)
theorem frames_rise {n : Nat} {m : LMeth} : ∀ (l : List LFrame) (last : Int), -1 ≤ last → framesB n m last l = true → last + l.length < m.code.length ∨ l = []
  | [], _, _, _ => .inr rfl
  | f :: r, last, hl, h => by
    rw [framesB_cons] at h
    simp only [Bool.and_eq_true, decide_eq_true_eq] at h
    rcases frames_rise r f.pc (by omega) h.2 with g | g
    · left
      simp only [List.length_cons]
      omega
    · subst g
      left
      simp only [List.length_cons, List.length_nil]
      omega
theorem codeB_split (p : List LClass) (m : LMeth) : codeB p m = (code0B p m && framesB p.length m (-1) m.frames) := by
  unfold codeB code0B
  by_cases h1 : m.code.length < 1
  · rw [decide_eq_true h1, decide_eq_false (by omega : ¬ 1 ≤ m.code.length)]; rfl
  by_cases h2 : 40 < m.code.length
  · rw [decide_eq_true h2, Bool.or_true, decide_eq_false (by omega : ¬ m.code.length ≤ 40), Bool.and_false]; rfl
  rw [decide_eq_false h1, decide_eq_false h2, decide_eq_true (by omega : 1 ≤ m.code.length), decide_eq_true (by omega : m.code.length ≤ 40)]
  cases hf : framesB p.length m (-1) m.frames
  · rw [Bool.and_false, Bool.and_false]
  · have : m.frames.length ≤ 40 := by
      rcases frames_rise m.frames (-1) (by omega) hf with g | g
      · omega
      · rw [g]; simp
    rw [decide_eq_true this]
    simp
theorem code_ins_eq {p : List LClass} {m : LMeth} {i : LIns} {q : Bool} (h : insB p m i = q) (vc : Value) (aa ca fa : Option Addr) (al acap ccap fl fcap : Nat) (w : World) (hp : RProg w vc p) (hs : SupOk p p.length) (hz : szProg p ≤ 4194304) (hcl : m.code.length ≤ 4194304) :
    Calls Try.prog 78 (insArgs vc m aa ca fa al acap ccap fl fcap i.op i.a i.b) w fun e w' => e = .returned (.bool q) ∧ Below w.heap.size w w' := h ▸ code_ins p vc m aa ca fa al acap ccap fl fcap i w hp hs hz hcl

set_option maxHeartbeats 4000000 in
set_option maxRecDepth 100000 in
theorem code_codeholds (p : List LClass) (vc : Value) (m : LMeth) (va vcd vfr : Value) (w : World) (hp : RProg w vc p) (hm : MVals w m va vcd vfr) (hs : SupOk p p.length) (hz : szProg p ≤ 4194304) (hml : szMeth m ≤ 4194304) :
    Calls Try.prog 55 #[.agg #[vc], methV m va vcd vfr] w fun e w' => e = .returned (.bool (code0B p m)) ∧ Below w.heap.size w w' := by
  have hcl : m.code.length ≤ 4194304 := by unfold szMeth at hml; omega
  have HP := hide hp
  obtain ⟨pa, _, _, pcap, rfl, _⟩ := hp
  obtain ⟨⟨aa, _, _, acap, rfl, _⟩, hc, ⟨fa, _, _, fcap, rfl, _⟩⟩ := hm
  obtain ⟨ca, cb, coff, ccap, rfl, _, hca, hc0, hc1, hc2⟩ := code_open hc
  have H0 := hide hc0
  have H1 := hide hc1
  have H2 := hide hc2
  clear hc0 hc1 hc2 hc
  unfold methV
  by_cases g1 : m.code.length < 1
  · have g1' : (m.code.length : Int) < 1 := by omega
    have HF := hide (show code0B p m = false by unfold code0B; rw [decide_eq_true g1]; rfl)
    go_enter Try.func55, Try.ntmps55
    go_wp2_with fail
    go_ret
    exact ⟨ret_bool (unhide HF).symm, box2_below _ _ _⟩
  by_cases g2 : 40 < m.code.length
  · have g1' : ¬ (m.code.length : Int) < 1 := by omega
    have g2' : (40 : Int) < m.code.length := by omega
    have HF := hide (show code0B p m = false by unfold code0B; rw [decide_eq_true g2, Bool.or_true]; rfl)
    go_enter Try.func55, Try.ntmps55
    go_wp2_with fail
    go_ret
    exact ⟨ret_bool (unhide HF).symm, box2_below _ _ _⟩
  have g1' : ¬ (m.code.length : Int) < 1 := by omega
  have g2' : ¬ (40 : Int) < m.code.length := by omega
  have HC := hide (show code0B p m = m.code.all (insB p m) by unfold code0B; rw [decide_eq_false g1, decide_eq_false g2]; rfl)
  go_enter Try.func55, Try.ntmps55
  go_wp2_with fail
  generalize hW : (w.alloc _).alloc _ = W
  have hbel : Below w.heap.size w W := by rw [← hW]; exact box2_below _ _ _
  have i0 : W.cell? ⟨w.heap.size, 0, none⟩ = some (.slice pa p.length pcap) := by rw [← hW]; exact box2_fst _ _ _ _ 0
  have l0 : W.cell? ⟨w.heap.size + 1, 0, none⟩ = some (.int .i64 m.slot) := by rw [← hW]; exact box2_snd _ _ _ _ 0
  have l1 : W.cell? ⟨w.heap.size + 1, 1, none⟩ = some (.slice aa m.args.length acap) := by rw [← hW]; exact box2_snd _ _ _ _ 1
  have l2 : W.cell? ⟨w.heap.size + 1, 2, none⟩ = some (.int .i64 m.ret) := by rw [← hW]; exact box2_snd _ _ _ _ 2
  have l3 : W.cell? ⟨w.heap.size + 1, 3, none⟩ = some (.int .i64 m.locals) := by rw [← hW]; exact box2_snd _ _ _ _ 3
  have l4 : W.cell? ⟨w.heap.size + 1, 4, none⟩ = some (.int .i64 m.stack) := by rw [← hW]; exact box2_snd _ _ _ _ 4
  have l5 : W.cell? ⟨w.heap.size + 1, 5, none⟩ = some (.slice ca m.code.length ccap) := by rw [← hW]; exact box2_snd _ _ _ _ 5
  have l6 : W.cell? ⟨w.heap.size + 1, 6, none⟩ = some (.slice fa m.frames.length fcap) := by rw [← hW]; exact box2_snd _ _ _ _ 6
  clear hW
  go_loopw [20] (fun s wr => ∃ k : Nat, k ≤ m.code.length ∧ s = .int .i64 k ∧ (m.code.take k).all (insB p m) = true ∧ Below W.heap.size W wr) (fun s _ => m.code.length - (intOf s).toNat)
  case atStart => exact ⟨0, Nat.zero_le _, rfl, rfl, Below.refl _ _⟩
  case round =>
    obtain ⟨k, hk, rfl, hall, hbr⟩ := hrel
    have HA := hide hall
    clear hall
    have hfin : Below w.heap.size w wr := hbel.trans (hbr.mono hbel.size)
    by_cases hlt : k < m.code.length
    · obtain rfl := hca (ne_nil_of_lt hlt)
      have hkf := Keeps.of_below hfin
      have c0 := hkf _ _ (unhide H0 k hlt)
      have c1 := hkf _ _ (unhide H1 k hlt)
      have c2 := hkf _ _ (unhide H2 k hlt)
      have HNO := hide (fun h : insB p m m.code[k] = false => all_no (f := insB p m) hlt h)
      have hS := all_snoc (f := insB p m) hlt
      rw [HA.out] at hS
      have HS := hide hS
      clear hS hkf
      generalize m.code[k] = i at *
      have hk1 := Keeps.of_below hbr
      have e0 := hk1 _ _ i0
      have r0 := hk1 _ _ l0
      have r1 := hk1 _ _ l1
      have r2 := hk1 _ _ l2
      have r3 := hk1 _ _ l3
      have r4 := hk1 _ _ l4
      have r5 := hk1 _ _ l5
      have r6 := hk1 _ _ l6
      have hlt0 := cell_lt r0
      have hlt1 := cell_lt e0
      have hltb := cell_lt c0
      clear hk1
      have hbz := hbr.trans ((box_below wr (.cells #[.int .i64 i.op, .int .i64 i.a, .int .i64 i.b] 54)).mono hbr.size)
      have hfz2 := hbel.trans (hbz.mono hbel.size)
      have HPZ := hide (prog_keep (Keeps.of_below hfz2) (unhide HP))
      go_wp2_with fail
      cases hq : insB p m i
      · refine Calls.mono (code_ins_eq hq _ aa (some ⟨cb, coff, none⟩) fa m.args.length acap ccap m.frames.length fcap _ (unhide HPZ) hs hz hcl) ?_
        rintro e w1 ⟨rfl, hb1⟩
        go_wp2_with fail
        go_ret
        exact ⟨ret_bool (by rw [unhide HC, unhide HNO hq]), hfz2.trans (hb1.mono hfz2.size)⟩
      · refine Calls.mono (code_ins_eq hq _ aa (some ⟨cb, coff, none⟩) fa m.args.length acap ccap m.frames.length fcap _ (unhide HPZ) hs hz hcl) ?_
        rintro e w1 ⟨rfl, hb1⟩
        go_wp2_with fail
        exact ⟨⟨k + 1, by omega, by go_num, by rw [unhide HS, hq]; rfl, hbz.trans (hb1.mono hbz.size)⟩, by simp [intOf]; omega⟩
    · go_wp2
      go_ret
      exact ⟨ret_bool (by rw [unhide HC, ← HA.out, List.take_of_length_le (by omega)]), hfin⟩

theorem code_codeholds_eq {p : List LClass} {m : LMeth} {q : Bool} (h : code0B p m = q) (vc va vcd vfr : Value) (w : World) (hp : RProg w vc p) (hm : MVals w m va vcd vfr) (hs : SupOk p p.length) (hz : szProg p ≤ 4194304) (hml : szMeth m ≤ 4194304) :
    Calls Try.prog 55 #[.agg #[vc], methV m va vcd vfr] w fun e w' => e = .returned (.bool q) ∧ Below w.heap.size w w' := h ▸ code_codeholds p vc m va vcd vfr w hp hm hs hz hml
theorem code_frameshold_eq {p : List LClass} {m : LMeth} {q : Bool} (h : framesB p.length m (-1) m.frames = q) (vc va vcd vfr : Value) (w : World) (hp : RProg w vc p) (hm : MVals w m va vcd vfr) (hz : szProg p ≤ 4194304) (hml : szMeth m ≤ 4194304) (hwm : wfMeth m) :
    Calls Try.prog 56 #[.agg #[vc], methV m va vcd vfr] w fun e w' => e = .returned (.bool q) ∧ Below w.heap.size w w' := h ▸ code_frameshold p vc m va vcd vfr w hp hm hz hml hwm

set_option maxHeartbeats 4000000 in
set_option maxRecDepth 100000 in
theorem code_allcode (p : List LClass) (vc : Value) (w : World) (hp : RProg w vc p) (hs : SupOk p p.length) (hwf : wfProg p) (hz : szProg p ≤ 4194304) :
    Calls Try.prog 28 #[.agg #[vc]] w fun e w' => e = .returned (.bool (p.all fun x => x.meths.all (codeB p))) ∧ Below w.heap.size w w' := by
  have hpl : p.length ≤ 4194304 := Nat.le_trans (szProg_len p) hz
  have HP := hide hp
  obtain ⟨pa, pb, poff, pcap, rfl, _, hpa, hpr⟩ := sl_open hp
  have HPR := hide hpr
  clear hp hpr
  go_enter Try.func28, Try.ntmps28
  go_wp2_with fail
  generalize hW : w.alloc _ = W
  have hbel : Below w.heap.size w W := by rw [← hW]; exact box_below _ _
  have hbox : W.cell? ⟨w.heap.size, 0, none⟩ = some (.slice pa p.length pcap) := by rw [← hW]; exact box_cell _ _ _ 0
  clear hW
  go_loopw [10] (fun s wr => ∃ c : Nat, c ≤ p.length ∧ s = .int .i64 c ∧ (p.take c).all (fun x => x.meths.all (codeB p)) = true ∧ Below W.heap.size W wr) (fun s _ => p.length - (intOf s).toNat)
  case atStart => exact ⟨0, Nat.zero_le _, rfl, rfl, Below.refl _ _⟩
  case round =>
    obtain ⟨c, hc, rfl, hall, hbr⟩ := hrel
    have HA := hide hall
    clear hall
    obtain ⟨wo, rfl⟩ : ∃ wo : World, wo = wr := ⟨_, rfl⟩
    have hfin : Below w.heap.size w wo := hbel.trans (hbr.mono hbel.size)
    by_cases hlt : c < p.length
    · obtain rfl := hpa (ne_nil_of_lt hlt)
      obtain ⟨vf, vm, c0, c1, c2, hf, hmt⟩ := (unhide HPR c hlt).keep (Keeps.of_below hfin)
      have hwx := (hwf _ (List.getElem_mem hlt)).2.2
      have hxl : szClass p[c] ≤ 4194304 := Nat.le_trans (szClass_le (List.getElem_mem hlt)) hz
      have HNO := hide (fun h : p[c].meths.all (codeB p) = false => all_no (f := fun x : LClass => x.meths.all (codeB p)) hlt h)
      have hS := all_snoc (f := fun x : LClass => x.meths.all (codeB p)) hlt
      rw [HA.out] at hS
      have HS := hide hS
      clear hS
      generalize p[c] = x at *
      obtain ⟨fa, _, _, fcap, rfl, _⟩ := hf
      obtain ⟨ma, mb, moff, mcap, rfl, hmcap, hma, hmr⟩ := sl_open hmt
      have HMR := hide hmr
      have hms : x.meths.length ≤ 4194304 := Nat.le_trans (szMeths_le x) hxl
      have hltb := cell_lt c0
      clear hmr hmt
      have e0 := Keeps.of_below hbr _ _ hbox
      go_wp2_with fail
      have hbz := hbr.trans ((box_below wo (.cells #[.int .i64 x.sup, .slice fa x.fields.length fcap, .slice ma x.meths.length mcap] 34)).mono hbr.size)
      have hk0 := box_keeps wo (.cells #[.int .i64 x.sup, .slice fa x.fields.length fcap, .slice ma x.meths.length mcap] 34)
      generalize wo.alloc _ = Z at *
      have HK0 := hide hk0
      have b0 := hk0 _ _ e0
      clear hk0 c0 c1 c2 e0 hbr hfin
      have hfz := hbel.trans (hbz.mono hbel.size)
      go_loopw [17] (fun s wr => ∃ k : Nat, k ≤ x.meths.length ∧ s = .int .i64 k ∧ (x.meths.take k).all (codeB p) = true ∧ Below Z.heap.size Z wr) (fun s _ => x.meths.length - (intOf s).toNat)
      case atStart => exact ⟨0, Nat.zero_le _, rfl, rfl, Below.refl _ _⟩
      case round =>
        obtain ⟨k, hk, rfl, hall2, hbr2⟩ := hrel
        have HA2 := hide hall2
        clear hall2
        have hf2 : Below w.heap.size w wr := hfz.trans (hbr2.mono hfz.size)
        by_cases hlt2 : k < x.meths.length
        · obtain rfl := hma (ne_nil_of_lt hlt2)
          obtain ⟨va, vcd, vfr, hv, m0, m1, m2, m3, m4, m5, m6⟩ := ((unhide HMR k hlt2).keep (unhide HK0)).keep (Keeps.of_below hbr2)
          have hmm := List.getElem_mem hlt2
          have hwm := hwx _ hmm
          have hml : szMeth x.meths[k] ≤ 4194304 := Nat.le_trans (szMeth_le hmm) hxl
          have HN2 := hide (fun h : codeB p x.meths[k] = false => all_no (f := codeB p) hlt2 h)
          have hS2 := all_snoc (f := codeB p) hlt2
          rw [HA2.out] at hS2
          have HS2 := hide hS2
          clear hS2 hmm
          generalize x.meths[k] = m at *
          have HV := hide hv
          obtain ⟨ala, _, _, alc, rfl, _⟩ := hv.1
          obtain ⟨cla, _, _, clc, rfl, _⟩ := hv.2.1
          obtain ⟨fla, _, _, flc, rfl, _⟩ := hv.2.2
          have hltm := cell_lt m0
          have e1 := Keeps.of_below hbr2 _ _ b0
          have hlt1 := cell_lt e1
          clear hv
          go_wp2_with fail
          have hby := hbr2.trans ((box_below wr (.cells #[.int .i64 m.slot, .slice ala m.args.length alc, .int .i64 m.ret, .int .i64 m.locals, .int .i64 m.stack, .slice cla m.code.length clc, .slice fla m.frames.length flc] 58)).mono hbr2.size)
          have hky := box_keeps wr (.cells #[.int .i64 m.slot, .slice ala m.args.length alc, .int .i64 m.ret, .int .i64 m.locals, .int .i64 m.stack, .slice cla m.code.length clc, .slice fla m.frames.length flc] 58)
          have hbl := Blk.new wr #[.int .i64 m.slot, .slice ala m.args.length alc, .int .i64 m.ret, .int .i64 m.locals, .int .i64 m.stack, .slice cla m.code.length clc, .slice fla m.frames.length flc] 58
          obtain ⟨w0, rfl⟩ : ∃ w0 : World, w0 = wr := ⟨_, rfl⟩
          generalize w0.alloc _ = Y at *
          have HVY := hide ((unhide HV).keep hky)
          have hfy := hfz.trans (hby.mono hfz.size)
          have HPY := hide (prog_keep (Keeps.of_below hfy) (unhide HP))
          have y0 := hky _ _ e1
          clear m0 m1 m2 m3 m4 m5 m6 e1 hky HV
          have HSP := hide (codeB_split p m)
          cases hq : code0B p m
          · refine Calls.mono (code_codeholds_eq hq _ _ _ _ _ (unhide HPY) (unhide HVY) hs hz hml) ?_
            rintro e w1 ⟨rfl, hb1⟩
            go_wp2_with fail
            go_ret
            exact ⟨ret_bool (unhide HNO (unhide HN2 (by rw [unhide HSP, hq]; rfl))).symm, hfy.trans (hb1.mono hfy.size)⟩
          · refine Calls.mono (code_codeholds_eq hq _ _ _ _ _ (unhide HPY) (unhide HVY) hs hz hml) ?_
            rintro e w1 ⟨rfl, hb1⟩
            obtain ⟨⟨f0, f1, f2, f3, f4, f5, f6⟩, _⟩ := blk7 (hbl.below hb1 hbl.lt)
            have y1 := Keeps.of_below hb1 _ _ y0
            have hby1 := hby.trans (hb1.mono hby.size)
            have hfy1 := hfy.trans (hb1.mono hfy.size)
            have HPY1 := hide (prog_keep (Keeps.of_below hb1) (unhide HPY))
            have HVY1 := hide ((unhide HVY).keep (Keeps.of_below hb1))
            clear y0 hbl hb1
            go_wp2_with fail
            cases hq2 : framesB p.length m (-1) m.frames
            · refine Calls.mono (code_frameshold_eq hq2 _ _ _ _ _ (unhide HPY1) (unhide HVY1) hz hml hwm) ?_
              rintro e w2 ⟨rfl, hb2⟩
              go_wp2_with fail
              go_ret
              exact ⟨ret_bool (unhide HNO (unhide HN2 (by rw [unhide HSP, hq2, Bool.and_false]))).symm, hfy1.trans (hb2.mono hfy1.size)⟩
            · refine Calls.mono (code_frameshold_eq hq2 _ _ _ _ _ (unhide HPY1) (unhide HVY1) hz hml hwm) ?_
              rintro e w2 ⟨rfl, hb2⟩
              go_wp2_with fail
              exact ⟨⟨k + 1, by omega, by go_num, by rw [unhide HS2, unhide HSP, hq, hq2]; rfl, hby1.trans (hb2.mono hby1.size)⟩, by simp [intOf]; omega⟩
        · go_wp2
          have hmall : x.meths.all (codeB p) = true := by rw [← HA2.out, List.take_of_length_le (by omega)]
          exact ⟨⟨c + 1, by omega, by go_num, by rw [unhide HS, hmall]; rfl, hbz.trans (hbr2.mono hbz.size)⟩, by simp [intOf]; omega⟩
    · go_wp2
      go_ret
      exact ⟨ret_bool (by rw [← HA.out, List.take_of_length_le (by omega)]), hfin⟩
end Go.Proofs.Ytiiokkllmchohaa
