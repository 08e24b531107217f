/- Walk of the document's answer: may an instruction be that names a field or a slot? -/
import Derived.Test.YtiiokkllmchohaaT03
import Derived.Test.YtiiokkllmchohaaT10
/- RefH -/
namespace Go.Proofs.Ytiiokkllmchohaa
open Go.RowKit
attribute [local go_sem ↓] Go.wp_at_zero Go.wp_at_succ

theorem placeB_nat {a n : Int} (h : placeB a n = true) : ∃ k : Nat, a = k ∧ (k : Int) < n := by
  unfold placeB at h
  simp only [Bool.and_eq_true, decide_eq_true_eq] at h
  obtain ⟨k, hk⟩ := Int.eq_ofNat_of_zero_le h.1
  exact ⟨k, hk, by omega⟩

theorem ref_place_eq {v n : Int} {q : Bool} (h : placeB v n = q) (w : World) : Calls Try.prog 88 #[.int .i64 v, .int .i64 n] w fun e w' => e = .returned (.bool q) ∧ w' = w := h ▸ ref_place v n w

set_option maxHeartbeats 2000000 in
set_option maxRecDepth 100000 in
theorem ref_ins_field (p : List LClass) (vc : Value) (m : LMeth) (aa ca fa : Option Addr) (al acap ccap fl fcap : Nat) (op a b : Int) (w : World) (hp : RProg w vc p) (hs : SupOk p p.length) (hz : szProg p ≤ 4194304)
    (hop : op = 10 ∨ op = 11) :
    Calls Try.prog 68 (insArgs vc m aa ca fa al acap ccap fl fcap op a b) w fun e w' => e = .returned (.bool (insB p m ⟨op, a, b⟩)) ∧ Below w.heap.size w w' := by
  have hpl : p.length ≤ 4194304 := Nat.le_trans (szProg_len p) hz
  have hdef : insB p m ⟨op, a, b⟩ = (placeB a p.length && placeB b (fieldsOf p a).length) := by
    unfold insB
    rcases hop with rfl | rfl <;> simp
  have HD := hide hdef
  clear hdef
  have HP := hide hp
  obtain ⟨pa, pb, poff, pcap, rfl, hpcap, hpa, hpr⟩ := sl_open hp
  clear hpr hpa hp
  unfold insArgs
  cases hpb : placeB a p.length
  · rcases hop with rfl | rfl <;>
    · go_enter Try.func68, Try.ntmps68
      go_wp2
      generalize hW : ((w.alloc _).alloc _).alloc _ = W
      have hbel : Below w.heap.size w W := by rw [← hW]; exact box3_below _ _ _ _
      have i1 : W.cell? ⟨w.heap.size + 1 + 1, 1, none⟩ = some (.int .i64 a) := by rw [← hW]; exact box3_3 _ _ _ _ _ 1
      clear hW
      go_quiet ((go_at_call 88; exact Calls.quiet_of_same (ref_place_eq hpb _)))
      go_wp2
      go_ret
      exact ⟨ret_bool (by rw [unhide HD, hpb]; rfl), below_drewN hbel _⟩
  · obtain ⟨k, rfl, hk⟩ := placeB_nat hpb
    cases hpb2 : placeB b (fieldsOf p k).length <;> rcases hop with rfl | rfl <;>
    · go_enter Try.func68, Try.ntmps68
      go_wp2
      generalize hW : ((w.alloc _).alloc _).alloc _ = W
      have hbel : Below w.heap.size w W := by rw [← hW]; exact box3_below _ _ _ _
      have i0 : W.cell? ⟨w.heap.size, 0, none⟩ = some (.slice pa p.length pcap) := by rw [← hW]; exact box3_1 _ _ _ _ _ 0
      have i1 : W.cell? ⟨w.heap.size + 1 + 1, 1, none⟩ = some (.int .i64 k) := by rw [← hW]; exact box3_3 _ _ _ _ _ 1
      have i2 : W.cell? ⟨w.heap.size + 1 + 1, 2, none⟩ = some (.int .i64 b) := by rw [← hW]; exact box3_3 _ _ _ _ _ 2
      clear hW
      have HPW := hide (prog_keep (Keeps.of_below hbel) (unhide HP))
      have hsz := hbel.size
      go_region_held3 (fun w' => w'.cell? ⟨w.heap.size, 0, none⟩ = some (.slice pa p.length pcap) ∧ w'.cell? ⟨w.heap.size + 1 + 1, 1, none⟩ = some (.int .i64 (k : Int)) ∧ w'.cell? ⟨w.heap.size + 1 + 1, 2, none⟩ = some (.int .i64 b))
        (first | go_keep | (exact ⟨Keeps.of_below hb1 _ _ (by simpa using i0), Keeps.of_below hb1 _ _ (by simpa using i1), Keeps.of_below hb1 _ _ (by simpa using i2)⟩))
        (first | ((go_at_call_of 88 (Value.int .i64 (p.length : Int)); refine (ref_place_eq hpb _).mono ?_); rintro e w' ⟨rfl, rfl⟩)
               | ((go_at_call_of 88 (Value.int .i64 ((fieldsOf p (k : Int)).length : Int)); refine (ref_place_eq hpb2 _).mono ?_); rintro e w' ⟨rfl, rfl⟩)
               | ((go_at_call 40; refine (ref_fields p p.length hs (Nat.le_refl _) hz k _ _ (prog_keep (Keeps.of_below ((Below.refl _ _).drew)) (unhide HPW)) (by omega)).mono ?_); rintro e w1 ⟨v1, rfl, hown1, hb1⟩; obtain ⟨va1, vcap1, rfl⟩ := own_form hown1))
      go_wp2
      go_ret
      exact ⟨ret_bool (by rw [unhide HD, hpb, hpb2]; rfl), hbel.drew.trans (hb1.mono (by simpa using hsz))⟩

theorem methC_pos (p : List LClass) (c slot : Int) : decide (0 ≤ (methC p c slot).1) = (methOf p c slot).isSome := by
  unfold methC
  cases methOf p c slot with
  | none => rfl
  | some x => simp

set_option maxHeartbeats 2000000 in
set_option maxRecDepth 100000 in
theorem ref_ins_call (p : List LClass) (vc : Value) (m : LMeth) (aa ca fa : Option Addr) (al acap ccap fl fcap : Nat) (a b : Int) (w : World) (hp : RProg w vc p) (hs : SupOk p p.length) (hz : szProg p ≤ 4194304) :
    Calls Try.prog 68 (insArgs vc m aa ca fa al acap ccap fl fcap 12 a b) w fun e w' => e = .returned (.bool (insB p m ⟨12, a, b⟩)) ∧ Below w.heap.size w w' := by
  have hpl : p.length ≤ 4194304 := Nat.le_trans (szProg_len p) hz
  have hdef : insB p m ⟨12, a, b⟩ = (placeB a p.length && (methOf p a b).isSome) := by unfold insB; simp
  have HD := hide hdef
  clear hdef
  have HP := hide hp
  obtain ⟨pa, pb, poff, pcap, rfl, hpcap, hpa, hpr⟩ := sl_open hp
  clear hpr hpa hp
  unfold insArgs
  cases hpb : placeB a p.length
  · go_enter Try.func68, Try.ntmps68
    go_wp2_with (go_at_call 88; refine (ref_place_eq hpb _).mono ?_; rintro e w' ⟨rfl, rfl⟩)
    go_ret
    exact ⟨ret_bool (by rw [unhide HD, hpb]; rfl), box3_below _ _ _ _⟩
  · obtain ⟨k, rfl, hk⟩ := placeB_nat hpb
    go_enter Try.func68, Try.ntmps68
    go_wp2_with fail
    generalize hW : ((w.alloc _).alloc _).alloc _ = W
    have hbel : Below w.heap.size w W := by rw [← hW]; exact box3_below _ _ _ _
    have i0 : W.cell? ⟨w.heap.size, 0, none⟩ = some (.slice pa p.length pcap) := by rw [← hW]; exact box3_1 _ _ _ _ _ 0
    have i1 : W.cell? ⟨w.heap.size + 1 + 1, 1, none⟩ = some (.int .i64 k) := by rw [← hW]; exact box3_3 _ _ _ _ _ 1
    have i2 : W.cell? ⟨w.heap.size + 1 + 1, 2, none⟩ = some (.int .i64 b) := by rw [← hW]; exact box3_3 _ _ _ _ _ 2
    clear hW
    refine (ref_place_eq hpb _).mono ?_
    rintro e w1 ⟨rfl, rfl⟩
    go_wp2_with fail
    refine (ref_method p _ p.length _ _ _ (prog_keep (Keeps.of_below hbel) (unhide HP)) hs (Nat.le_refl _) (by omega) (by omega) hz).mono ?_
    rintro e w2 ⟨rfl, hb2⟩
    go_wp2
    go_ret
    exact ⟨ret_bool (by rw [unhide HD, hpb, methC_pos]; rfl), hbel.trans (hb2.mono hbel.size)⟩

theorem ref_ins (p : List LClass) (vc : Value) (m : LMeth) (aa ca fa : Option Addr) (al acap ccap fl fcap : Nat) (i : LIns) (w : World) (hp : RProg w vc p) (hs : SupOk p p.length) (hz : szProg p ≤ 4194304) (hcl : m.code.length ≤ 4194304) :
    Calls Try.prog 68 (insArgs vc m aa ca fa al acap ccap fl fcap i.op i.a i.b) w fun e w' => e = .returned (.bool (insB p m i)) ∧ Below w.heap.size w w' := by
  by_cases h1 : i.op = 10 ∨ i.op = 11
  · exact ref_ins_field p vc m aa ca fa al acap ccap fl fcap i.op i.a i.b w hp hs hz h1
  by_cases h2 : i.op = 12
  · have := ref_ins_call p vc m aa ca fa al acap ccap fl fcap i.a i.b w hp hs hz
    rw [← h2] at this
    exact this
  · exact ref_ins_plain p vc m aa ca fa al acap ccap fl fcap i.op i.a i.b w hp hz hcl (fun e => h1 (.inl e)) (fun e => h1 (.inr e)) h2
end Go.Proofs.Ytiiokkllmchohaa
/- Walk of the document's answer: may a method's code and frames be? -/
namespace Go.Proofs.Ytiiokkllmchohaa
open Go.RowKit
attribute [local go_sem ↓] Go.wp_at_zero Go.wp_at_succ

theorem code_no {p : List LClass} {m : LMeth} (h : ¬ (1 ≤ m.code.length ∧ m.code.length ≤ 40 ∧ m.frames.length ≤ 40)) : codeB p m = false := by
  unfold codeB
  simp only [Bool.and_eq_false_iff, decide_eq_false_iff_not]
  omega
theorem code_eq {p : List LClass} {m : LMeth} (h : 1 ≤ m.code.length ∧ m.code.length ≤ 40 ∧ m.frames.length ≤ 40) : codeB p m = (m.code.all (insB p m) && framesB p.length m (-1) m.frames) := by
  unfold codeB
  rw [decide_eq_true h.1, decide_eq_true h.2.1, decide_eq_true h.2.2]
  rfl
theorem all_no {α : Type} {l : List α} {f : α → Bool} {k : Nat} (hk : k < l.length) (h : f l[k] = false) : l.all f = false := by
  rw [List.all_eq_false]
  exact ⟨_, List.getElem_mem hk, by rw [h]; exact Bool.false_ne_true⟩

theorem frames_no {n : Nat} {m : LMeth} {f : LFrame} {last : Int} {r : List LFrame}
    (h : ¬ (last < f.pc ∧ f.pc < m.code.length ∧ (f.locals.length : Int) = m.locals ∧ (f.stack.length : Int) ≤ m.stack ∧ f.locals.all (framedB n) = true ∧ f.stack.all (framedB n) = true)) : framesB n m last (f :: r) = false := by
  unfold framesB frameB
  rw [Bool.eq_false_iff]
  intro e
  simp only [Bool.and_eq_true, decide_eq_true_eq] at e
  exact h ⟨e.1.1, e.1.2.1.1.1.1, e.1.2.1.1.1.2, e.1.2.1.1.2, e.1.2.1.2, e.1.2.2⟩
theorem frames_yes {n : Nat} {m : LMeth} {f : LFrame} {last : Int} {r : List LFrame}
    (h : last < f.pc ∧ f.pc < m.code.length ∧ (f.locals.length : Int) = m.locals ∧ (f.stack.length : Int) ≤ m.stack ∧ f.locals.all (framedB n) = true ∧ f.stack.all (framedB n) = true) : framesB n m last (f :: r) = framesB n m f.pc r := by
  rw [framesB, frameB, decide_eq_true h.1, decide_eq_true h.2.1, decide_eq_true h.2.2.1, decide_eq_true h.2.2.2.1, h.2.2.2.2.1, h.2.2.2.2.2]
  rfl
theorem ref_framed_eq {l : List Int} {v : Value} {n : Int} {q : Bool} (h : l.all (framedB n) = q) (w : World) (hl : SlAt 1 (RInt w) v l) (hw : ∀ x ∈ l, I64 x) (hs : l.length ≤ 4194304) :
    Calls Try.prog 69 #[v, .int .i64 n] w fun e w' => e = .returned (.bool q) ∧ w' = w := h ▸ ref_framed l v n w hl hw hs

set_option maxHeartbeats 2000000 in
set_option maxRecDepth 100000 in
theorem ref_code_short (p : List LClass) (vc : Value) (m : LMeth) (va vcd vfr : Value) (w : World) (hm : MVals w m va vcd vfr)
    (hml : szMeth m ≤ 4194304) (hno : ¬ (1 ≤ m.code.length ∧ m.code.length ≤ 40 ∧ m.frames.length ≤ 40)) :
    Calls Try.prog 42 #[.agg #[vc], .agg #[.int .i64 m.slot, va, .int .i64 m.ret, .int .i64 m.locals, .int .i64 m.stack, vcd, vfr]] w fun e w' => e = .returned (.bool (codeB p m)) ∧ Below w.heap.size w w' := by
  have hcl : m.code.length ≤ 4194304 := by unfold szMeth at hml; omega
  have hfl : m.frames.length ≤ 4194304 := Nat.le_trans (szFrames_le m) hml
  obtain ⟨aa, ab, aoff, acap, rfl, _, _, _⟩ := sl_open hm.1
  obtain ⟨ca, cb, coff, ccap, rfl, _, _, _⟩ := sl_open hm.2.1
  obtain ⟨fa, fb, foff, fcap, rfl, _, _, _⟩ := sl_open hm.2.2
  have HN := hide (code_no (p := p) hno)
  have HNO := hide hno
  clear hm hno
  by_cases g1 : m.code.length < 1
  · have g1' : (m.code.length : Int) < 1 := by omega
    go_enter Try.func42, Try.ntmps42
    go_wp2_with fail
    go_ret
    exact ⟨ret_bool (unhide HN).symm, box2_below _ _ _⟩
  by_cases g2 : 40 < m.code.length
  · have g1' : ¬ (m.code.length : Int) < 1 := by omega
    have g2' : (40 : Int) < m.code.length := by omega
    go_enter Try.func42, Try.ntmps42
    go_wp2_with fail
    go_ret
    exact ⟨ret_bool (unhide HN).symm, box2_below _ _ _⟩
  have g3 : 40 < m.frames.length := by have := unhide HNO; omega
  have g1' : ¬ (m.code.length : Int) < 1 := by omega
  have g2' : ¬ (40 : Int) < m.code.length := by omega
  have g3' : (40 : Int) < m.frames.length := by omega
  go_enter Try.func42, Try.ntmps42
  go_wp2_with fail
  go_ret
  exact ⟨ret_bool (unhide HN).symm, box2_below _ _ _⟩

set_option maxHeartbeats 4000000 in
set_option maxRecDepth 100000 in
theorem ref_code (p : List LClass) (vc : Value) (m : LMeth) (va vcd vfr : Value) (w : World) (hp : RProg w vc p) (hm : MVals w m va vcd vfr) (hs : SupOk p p.length) (hz : szProg p ≤ 4194304)
    (hml : szMeth m ≤ 4194304) (hwm : wfMeth m) :
    Calls Try.prog 42 #[.agg #[vc], .agg #[.int .i64 m.slot, va, .int .i64 m.ret, .int .i64 m.locals, .int .i64 m.stack, vcd, vfr]] w fun e w' => e = .returned (.bool (codeB p m)) ∧ Below w.heap.size w w' := by
  by_cases hlen : ¬ (1 ≤ m.code.length ∧ m.code.length ≤ 40 ∧ m.frames.length ≤ 40)
  · exact ref_code_short p vc m va vcd vfr w hm hml hlen
  have hlen := Classical.not_not.1 hlen
  have HE := hide (code_eq (p := p) hlen)
  have hpl : p.length ≤ 4194304 := Nat.le_trans (szProg_len p) hz
  have g1 : ¬ (m.code.length : Int) < 1 := by omega
  have g2 : ¬ (40 : Int) < m.code.length := by omega
  have g3 : ¬ (40 : Int) < m.frames.length := by omega
  have HM := hide hm
  have HP := hide hp
  obtain ⟨pa, pb, poff, pcap, rfl, _, _, _⟩ := sl_open hp
  obtain ⟨aa, ab, aoff, acap, rfl, _, _, _⟩ := sl_open hm.1
  obtain ⟨ca, cb, coff, ccap, rfl, hccap, hca, hcr⟩ := sl_open hm.2.1
  obtain ⟨fa, fb, foff, fcap, rfl, hfcap, hfa, hfr⟩ := sl_open hm.2.2
  have HCR := hide hcr
  have HFR := hide hfr
  clear hp hm hcr hfr
  go_enter Try.func42, Try.ntmps42
  go_wp2_with fail
  generalize hW : (w.alloc _).alloc _ = W
  have hbel : Below w.heap.size w W := by rw [← hW]; exact box2_below _ _ _
  have p0 : W.cell? ⟨w.heap.size, 0, none⟩ = some (.slice pa p.length pcap) := by rw [← hW]; exact box2_fst _ _ _ _ 0
  have l0 : W.cell? ⟨w.heap.size + 1, 0, none⟩ = some (.int .i64 m.slot) := by rw [← hW]; exact box2_snd _ _ _ _ 0
  have l1 : W.cell? ⟨w.heap.size + 1, 1, none⟩ = some (.slice aa m.args.length acap) := by rw [← hW]; exact box2_snd _ _ _ _ 1
  have l2 : W.cell? ⟨w.heap.size + 1, 2, none⟩ = some (.int .i64 m.ret) := by rw [← hW]; exact box2_snd _ _ _ _ 2
  have l3 : W.cell? ⟨w.heap.size + 1, 3, none⟩ = some (.int .i64 m.locals) := by rw [← hW]; exact box2_snd _ _ _ _ 3
  have l4 : W.cell? ⟨w.heap.size + 1, 4, none⟩ = some (.int .i64 m.stack) := by rw [← hW]; exact box2_snd _ _ _ _ 4
  have l5 : W.cell? ⟨w.heap.size + 1, 5, none⟩ = some (.slice ca m.code.length ccap) := by rw [← hW]; exact box2_snd _ _ _ _ 5
  have l6 : W.cell? ⟨w.heap.size + 1, 6, none⟩ = some (.slice fa m.frames.length fcap) := by rw [← hW]; exact box2_snd _ _ _ _ 6
  clear hW
  have KP := hide (Keeps.of_below hbel)
  have hsz := hbel.size
  go_loopw [5] (fun s wr => ∃ k : Nat, k ≤ m.code.length ∧ s = .int .i64 k ∧ (m.code.take k).all (insB p m) = true ∧ Below W.heap.size W wr) (fun s _ => m.code.length - (intOf s).toNat)
  case atStart => exact ⟨0, Nat.zero_le _, rfl, rfl, Below.refl _ _⟩
  case round =>
    obtain ⟨k, hk, rfl, hall, hbr⟩ := hrel
    have HA := hide hall
    have hkr := Keeps.of_below hbr
    have KR := hide hkr
    have hszr := hbr.size
    have q0 := hkr _ _ p0
    have r0 := hkr _ _ l0
    have r1 := hkr _ _ l1
    have r2 := hkr _ _ l2
    have r3 := hkr _ _ l3
    have r4 := hkr _ _ l4
    have r5 := hkr _ _ l5
    have r6 := hkr _ _ l6
    clear hall hkr
    by_cases hlt : k < m.code.length
    · obtain rfl := hca (ne_nil_of_lt hlt)
      have hS := all_snoc (f := insB p m) hlt
      rw [unhide HA] at hS
      have HS := hide hS
      obtain ⟨c0, c1, c2⟩ := (unhide HCR k hlt).keep ((unhide KP).trans (unhide KR))
      have hki : (k : Int) < (m.code.length : Int) := by omega
      have hk0 : (0 : Int) ≤ (k : Int) := by omega
      clear hS
      have HL := hide (And.intro l0 (And.intro l1 (And.intro l2 (And.intro l3 (And.intro l4 (And.intro l5 l6))))))
      clear l0 l1 l2 l3 l4 l5 l6 p0
      cases hin : insB p m m.code[k]
      · go_wp2_with fail
        go_region_held3 (fun w' => w'.cell? ⟨w.heap.size, 0, none⟩ = some (.slice pa p.length pcap) ∧ w'.cell? ⟨w.heap.size + 1, 0, none⟩ = some (.int .i64 m.slot) ∧ w'.cell? ⟨w.heap.size + 1, 1, none⟩ = some (.slice aa m.args.length acap) ∧ w'.cell? ⟨w.heap.size + 1, 2, none⟩ = some (.int .i64 m.ret) ∧
            w'.cell? ⟨w.heap.size + 1, 3, none⟩ = some (.int .i64 m.locals) ∧ w'.cell? ⟨w.heap.size + 1, 4, none⟩ = some (.int .i64 m.stack) ∧ w'.cell? ⟨w.heap.size + 1, 5, none⟩ = some (.slice (some ⟨cb, coff, none⟩) m.code.length ccap) ∧ w'.cell? ⟨w.heap.size + 1, 6, none⟩ = some (.slice fa m.frames.length fcap) ∧
            w'.cell? ⟨cb, coff + k * 3, none⟩ = some (.int .i64 m.code[k].op) ∧ w'.cell? ⟨cb, coff + k * 3 + 1, none⟩ = some (.int .i64 m.code[k].a) ∧ w'.cell? ⟨cb, coff + k * 3 + 2, none⟩ = some (.int .i64 m.code[k].b))
          (first | go_keep | (exact ⟨Keeps.of_below hb1 _ _ (by simpa using q0), Keeps.of_below hb1 _ _ (by simpa using r0), Keeps.of_below hb1 _ _ (by simpa using r1), Keeps.of_below hb1 _ _ (by simpa using r2), Keeps.of_below hb1 _ _ (by simpa using r3), Keeps.of_below hb1 _ _ (by simpa using r4), Keeps.of_below hb1 _ _ (by simpa using r5), Keeps.of_below hb1 _ _ (by simpa using r6), Keeps.of_below hb1 _ _ (by simpa using c0), Keeps.of_below hb1 _ _ (by simpa using c1), Keeps.of_below hb1 _ _ (by simpa using c2)⟩))
          (first | ((go_at_call 68; refine (ref_ins p _ m aa (some ⟨cb, coff, none⟩) fa m.args.length acap ccap m.frames.length fcap m.code[k] _ (prog_keep (Keeps.of_below ((Below.refl _ _).drew)) (prog_keep ((unhide KP).trans (unhide KR)) (unhide HP))) hs hz (by omega)).mono ?_); rintro e w1 ⟨rfl, hb1⟩))
        have hfin : Below w.heap.size w w1 := (hbel.trans (hbr.mono hsz)).drew.trans (hb1.mono (by simpa using Nat.le_trans hsz hszr))
        go_wp2
        go_ret
        exact ⟨ret_bool (by rw [unhide HE, all_no hlt hin]; rfl), hfin⟩
      · go_wp2_with fail
        go_region_held3 (fun w' => w'.cell? ⟨w.heap.size, 0, none⟩ = some (.slice pa p.length pcap) ∧ w'.cell? ⟨w.heap.size + 1, 0, none⟩ = some (.int .i64 m.slot) ∧ w'.cell? ⟨w.heap.size + 1, 1, none⟩ = some (.slice aa m.args.length acap) ∧ w'.cell? ⟨w.heap.size + 1, 2, none⟩ = some (.int .i64 m.ret) ∧
            w'.cell? ⟨w.heap.size + 1, 3, none⟩ = some (.int .i64 m.locals) ∧ w'.cell? ⟨w.heap.size + 1, 4, none⟩ = some (.int .i64 m.stack) ∧ w'.cell? ⟨w.heap.size + 1, 5, none⟩ = some (.slice (some ⟨cb, coff, none⟩) m.code.length ccap) ∧ w'.cell? ⟨w.heap.size + 1, 6, none⟩ = some (.slice fa m.frames.length fcap) ∧
            w'.cell? ⟨cb, coff + k * 3, none⟩ = some (.int .i64 m.code[k].op) ∧ w'.cell? ⟨cb, coff + k * 3 + 1, none⟩ = some (.int .i64 m.code[k].a) ∧ w'.cell? ⟨cb, coff + k * 3 + 2, none⟩ = some (.int .i64 m.code[k].b))
          (first | go_keep | (exact ⟨Keeps.of_below hb1 _ _ (by simpa using q0), Keeps.of_below hb1 _ _ (by simpa using r0), Keeps.of_below hb1 _ _ (by simpa using r1), Keeps.of_below hb1 _ _ (by simpa using r2), Keeps.of_below hb1 _ _ (by simpa using r3), Keeps.of_below hb1 _ _ (by simpa using r4), Keeps.of_below hb1 _ _ (by simpa using r5), Keeps.of_below hb1 _ _ (by simpa using r6), Keeps.of_below hb1 _ _ (by simpa using c0), Keeps.of_below hb1 _ _ (by simpa using c1), Keeps.of_below hb1 _ _ (by simpa using c2)⟩))
          (first | ((go_at_call 68; refine (ref_ins p _ m aa (some ⟨cb, coff, none⟩) fa m.args.length acap ccap m.frames.length fcap m.code[k] _ (prog_keep (Keeps.of_below ((Below.refl _ _).drew)) (prog_keep ((unhide KP).trans (unhide KR)) (unhide HP))) hs hz (by omega)).mono ?_); rintro e w1 ⟨rfl, hb1⟩))
        have hnext : Below W.heap.size W w1 := hbr.drew.trans (hb1.mono (by simpa using hszr))
        go_wp2
        exact ⟨⟨k + 1, by omega, by go_num, by rw [unhide HS, hin]; rfl, hnext⟩, by simp [intOf]; omega⟩
    · have HALL : Hid (m.code.all (insB p m) = true) := by
        have := unhide HA
        rwa [List.take_of_length_le (by omega)] at this
      go_wp2_with fail
      clear q0 r0 r1 r2 r3 r4 r5 r6
      obtain ⟨wo, rfl⟩ : ∃ wo : World, wo = wr := ⟨_, rfl⟩
      go_loopw [7, 8] (fun s7 s8 wr' => ∃ (k : Nat) (last : Int), k ≤ m.frames.length ∧ s8 = .int .i64 k ∧ s7 = .int .i64 last ∧ framesB p.length m (-1) m.frames = framesB p.length m last (m.frames.drop k) ∧ Below W.heap.size W wr') (fun _ s8 _ => m.frames.length - (intOf s8).toNat)
      case atStart => exact ⟨0, -1, Nat.zero_le _, rfl, rfl, rfl, hbr⟩
      case round =>
        clear hlt hk HA KR hszr hbr
        obtain ⟨j, last, hj, rfl, rfl, hfrb, hbr⟩ := hrel
        have HFRB := hide hfrb
        have hkr := Keeps.of_below hbr
        have KR := hide hkr
        have hszr := hbr.size
        have q0 := hkr _ _ p0
        have r3 := hkr _ _ l3
        have r4 := hkr _ _ l4
        have r5 := hkr _ _ l5
        have r6 := hkr _ _ l6
        clear hfrb hkr
        by_cases hlt : j < m.frames.length
        · obtain rfl := hfa (ne_nil_of_lt hlt)
          have HD := hide (List.drop_eq_getElem_cons hlt)
          obtain ⟨vl, vs, c0, c1, c2, hl, hst⟩ := (unhide HFR j hlt).keep ((unhide KP).trans (unhide KR))
          have hwf := hwm.2.2.2.2.2.2 _ (List.getElem_mem hlt)
          have hfs := Nat.le_trans (szFrame_le (List.getElem_mem hlt)) hml
          have hll : m.frames[j].locals.length ≤ 4194304 := by unfold szFrame at hfs; omega
          have hsl : m.frames[j].stack.length ≤ 4194304 := by unfold szFrame at hfs; omega
          have HL := hide hl
          have HST := hide hst
          obtain ⟨la, lb, loff, lcap, rfl, _, _, _⟩ := sl_open hl
          obtain ⟨sa, sb, soff, scap, rfl, _, _, _⟩ := sl_open hst
          have hlt1 := cell_lt c0
          have hlt2 := cell_lt r5
          have hlt3 := cell_lt q0
          clear hl hst
          generalize m.frames[j] = f at *
          go_wp2_with fail
          generalize hW2 : wr.alloc _ = W2
          have hb2 : Below wr.heap.size wr W2 := by rw [← hW2]; exact box_below _ _
          have s0 : W2.cell? ⟨wr.heap.size, 0, none⟩ = some (.int .i64 f.pc) := by rw [← hW2]; exact box_cell _ _ _ 0
          have s1 : W2.cell? ⟨wr.heap.size, 1, none⟩ = some (.slice la f.locals.length lcap) := by rw [← hW2]; exact box_cell _ _ _ 1
          have s2 : W2.cell? ⟨wr.heap.size, 2, none⟩ = some (.slice sa f.stack.length scap) := by rw [← hW2]; exact box_cell _ _ _ 2
          clear hW2
          have hk2 := Keeps.of_below hb2
          have K2 := hide hk2
          have t0 := hk2 _ _ q0
          have t3 := hk2 _ _ r3
          have t4 := hk2 _ _ r4
          have t5 := hk2 _ _ r5
          have t6 := hk2 _ _ r6
          have hnext : Below W.heap.size W W2 := hbr.trans (hb2.mono hszr)
          have hfin : Below w.heap.size w W2 := hbel.trans (hnext.mono hsz)
          clear hk2 q0 r3 r4 r5 r6 c0 c1 c2 p0 l0 l1 l2 l3 l4 l5 l6
          refine (ref_framed_eq rfl _ (ints_keep (unhide K2) (unhide HL)) hwf.2.1 hll).mono ?_
          rintro e w3 ⟨rfl, rfl⟩
          go_wp2_with fail
          refine (ref_framed_eq rfl _ (ints_keep (unhide K2) (unhide HST)) hwf.2.2 hsl).mono ?_
          rintro e w4 ⟨rfl, rfl⟩
          by_cases g4 : f.pc ≤ last
          · go_wp2_with fail
            go_ret
            exact ⟨ret_bool (by rw [unhide HE, unhide HALL, unhide HFRB, unhide HD, frames_no (fun h => by omega)]; rfl), hfin⟩
          by_cases g5 : (m.code.length : Int) ≤ f.pc
          · go_wp2_with fail
            go_ret
            exact ⟨ret_bool (by rw [unhide HE, unhide HALL, unhide HFRB, unhide HD, frames_no (fun h => by omega)]; rfl), hfin⟩
          by_cases g6 : (f.locals.length : Int) ≠ m.locals
          · have g6' : ((f.locals.length : Int) == m.locals) = false := by simpa using g6
            have G6 := hide g6
            clear g6
            go_wp2_with fail
            go_ret
            exact ⟨ret_bool (by rw [unhide HE, unhide HALL, unhide HFRB, unhide HD, frames_no (fun h => unhide G6 h.2.2.1)]; rfl), hfin⟩
          have g6 := Classical.not_not.1 g6
          have g6' : ((f.locals.length : Int) == m.locals) = true := by simpa using g6
          have G6 := hide g6
          clear g6
          by_cases g7 : m.stack < (f.stack.length : Int)
          · go_wp2_with fail
            go_ret
            exact ⟨ret_bool (by rw [unhide HE, unhide HALL, unhide HFRB, unhide HD, frames_no (fun h => by omega)]; rfl), hfin⟩
          cases hA : f.locals.all (framedB p.length)
          · go_wp2_with fail
            go_ret
            exact ⟨ret_bool (by rw [unhide HE, unhide HALL, unhide HFRB, unhide HD, frames_no (fun h => Bool.false_ne_true (hA.symm.trans h.2.2.2.2.1))]; rfl), hfin⟩
          cases hB : f.stack.all (framedB p.length)
          · go_wp2_with fail
            go_ret
            exact ⟨ret_bool (by rw [unhide HE, unhide HALL, unhide HFRB, unhide HD, frames_no (fun h => Bool.false_ne_true (hB.symm.trans h.2.2.2.2.2))]; rfl), hfin⟩
          go_wp2_with fail
          exact ⟨⟨j + 1, f.pc, by omega, by go_num, rfl, by rw [unhide HFRB, unhide HD, frames_yes ⟨by omega, by omega, unhide G6, by omega, hA, hB⟩], hnext⟩, by simp [intOf]; omega⟩
        · go_wp2
          go_ret
          exact ⟨ret_bool (by rw [unhide HE, unhide HALL, unhide HFRB, List.drop_eq_nil_of_le (by omega)]; rfl), hbel.trans (hbr.mono hsz)⟩
end Go.Proofs.Ytiiokkllmchohaa
/- Walk of the document's answer: Form. -/
namespace Go.Proofs.Ytiiokkllmchohaa
open Go.RowKit
attribute [local go_sem ↓] Go.wp_at_zero Go.wp_at_succ

theorem form_class {p : List LClass} (hn : ¬ (p.length < 1 ∨ 6 < p.length)) {c : Nat} (hc : c < p.length) (h : classB p c = false) : formI p = 2 := by
  unfold formI
  rw [if_neg hn, if_neg]
  intro e
  rw [List.all_eq_true] at e
  have := e c (List.mem_range.2 hc)
  rw [h] at this; cases this
theorem form_code {p : List LClass} (hn : ¬ (p.length < 1 ∨ 6 < p.length)) (h : (List.range p.length).all (classB p) = true) : formI p = if p.all (fun x => x.meths.all (codeB p)) then 0 else 3 := by
  unfold formI
  rw [if_neg hn, if_pos h]
theorem classB_at {p : List LClass} {c : Nat} {x : LClass} (hx : p[c]? = some x) : classB p c = (supB c x && restB p c x) := by unfold classB; rw [hx]
theorem supOk_of {p : List LClass} {c : Nat} (h : (List.range c).all (classB p) = true) : SupOk p c := by
  intro d x hd hx
  rw [List.all_eq_true] at h
  have := h d (List.mem_range.2 hd)
  rw [classB_at hx, Bool.and_eq_true] at this
  exact this.1
theorem supOk_succ {p : List LClass} {c : Nat} {x : LClass} (h : SupOk p c) (hx : p[c]? = some x) (hs : supB c x = true) : SupOk p (c + 1) := by
  intro d y hd hy
  rcases Nat.lt_or_ge d c with g | g
  · exact h d y g hy
  · obtain rfl : d = c := by omega
    rw [hx] at hy; cases hy; exact hs
theorem range_all_succ {f : Nat → Bool} {c : Nat} : (List.range (c + 1)).all f = ((List.range c).all f && f c) := by
  rw [List.range_succ, List.all_append, List.all_cons, List.all_nil, Bool.and_true]
theorem rest_no {p : List LClass} {c : Nat} {x : LClass} (h : ¬ (x.fields.all (declB p.length) = true ∧ (fieldsOf p c).length ≤ 8 ∧ x.meths.length ≤ 6)) : restB p c x = false := by
  unfold restB
  rw [Bool.eq_false_iff]
  intro e
  simp only [Bool.and_eq_true, decide_eq_true_eq] at e
  exact h ⟨e.1.1.1, e.1.1.2, e.1.2⟩
theorem rest_head {p : List LClass} {c : Nat} {x : LClass} {k : Nat} {m : LMeth} (hm : x.meths[k]? = some m) (h : headB p x k m = false) : restB p c x = false := by
  unfold restB
  rw [Bool.eq_false_iff]
  intro e
  simp only [Bool.and_eq_true, List.all_eq_true] at e
  have := e.2 k (List.mem_range.2 (List.getElem?_eq_some_iff.1 hm).1)
  rw [hm] at this
  simp only [h] at this
  cases this
theorem rest_yes {p : List LClass} {c : Nat} {x : LClass} (h : x.fields.all (declB p.length) = true ∧ (fieldsOf p c).length ≤ 8 ∧ x.meths.length ≤ 6) (hh : ∀ (k : Nat) (m : LMeth), x.meths[k]? = some m → headB p x k m = true) : restB p c x = true := by
  unfold restB
  rw [h.1, decide_eq_true h.2.1, decide_eq_true h.2.2, Bool.and_self, Bool.and_self, Bool.true_and, List.all_eq_true]
  intro k _
  cases hm : x.meths[k]? with
  | none => rfl
  | some m => exact hh k m hm
theorem ref_alldeclared_eq {l : List Int} {v : Value} {n : Int} {q : Bool} (h : l.all (declB n) = q) (w : World) (hl : SlAt 1 (RInt w) v l) (hw : ∀ x ∈ l, I64 x) (hs : l.length ≤ 4194304) :
    Calls Try.prog 39 #[v, .int .i64 n] w fun e w' => e = .returned (.bool q) ∧ w' = w := h ▸ ref_alldeclared l v n w hl hw hs

theorem ref_code_eq {m : LMeth} {q : Bool} (p : List LClass) (h : codeB p m = q) (vc : Value) (va vcd vfr : Value) (w : World) (hp : RProg w vc p) (hm : MVals w m va vcd vfr) (hs : SupOk p p.length) (hz : szProg p ≤ 4194304) (hml : szMeth m ≤ 4194304) (hwm : wfMeth m) :
    Calls Try.prog 42 #[.agg #[vc], .agg #[.int .i64 m.slot, va, .int .i64 m.ret, .int .i64 m.locals, .int .i64 m.stack, vcd, vfr]] w fun e w' => e = .returned (.bool q) ∧ Below w.heap.size w w' := h ▸ ref_code p vc m va vcd vfr w hp hm hs hz hml hwm
theorem ref_head_eq {x : LClass} {m : LMeth} {k : Nat} {q : Bool} (p : List LClass) (h : headB p x k m = q) (vc : Value) (c : Nat) (w : World) (hp : RProg w vc p) (hs : SupOk p (c + 1)) (hX : p[c]? = some x) (hM : x.meths[k]? = some m) (hwf : wfProg p) (hz : szProg p ≤ 4194304) :
    Calls Try.prog 41 #[.agg #[vc], .int .i64 c, .int .i64 k] w fun e w' => e = .returned (.bool q) ∧ Below w.heap.size w w' := h ▸ ref_head p vc c k x m w hp hs hX hM hwf hz

set_option maxHeartbeats 8000000 in
set_option maxRecDepth 100000 in
theorem ref_form (p : List LClass) (vc : Value) (w : World) (hp : RProg w vc p) (hwf : wfProg p) (hz : szProg p ≤ 4194304) :
    Calls Try.prog 19 #[.agg #[vc]] w fun e w' => e = .returned (.int .i64 (formI p)) ∧ Below w.heap.size w w' := by
  have hpl : p.length ≤ 4194304 := Nat.le_trans (szProg_len p) hz
  have HP := hide hp
  obtain ⟨pa, pb, poff, pcap, rfl, hpcap, hpa, hpr⟩ := sl_open hp
  have HPR := hide hpr
  clear hp hpr
  by_cases g1 : p.length < 1
  · have g1' : (p.length : Int) < 1 := by omega
    go_enter Try.func19, Try.ntmps19
    go_wp2_with fail
    go_ret
    exact ⟨ret_int (by unfold formI; rw [if_pos (.inl g1)]), box_below _ _⟩
  by_cases g2 : 6 < p.length
  · have g1' : ¬ (p.length : Int) < 1 := by omega
    have g2' : (6 : Int) < p.length := by omega
    go_enter Try.func19, Try.ntmps19
    go_wp2_with fail
    go_ret
    exact ⟨ret_int (by unfold formI; rw [if_pos (.inr g2)]), box_below _ _⟩
  have g1' : ¬ (p.length : Int) < 1 := by omega
  have g2' : ¬ (6 : Int) < p.length := by omega
  have HN : Hid (¬ (p.length < 1 ∨ 6 < p.length)) := fun h => by omega
  obtain rfl := hpa (by intro e; subst e; simp at g1)
  go_enter Try.func19, Try.ntmps19
  go_wp2_with fail
  generalize hW : w.alloc _ = W
  have hbel : Below w.heap.size w W := by rw [← hW]; exact box_below _ _
  have p0 : W.cell? ⟨w.heap.size, 0, none⟩ = some (.slice (some ⟨pb, poff, none⟩) p.length pcap) := by rw [← hW]; exact box_cell _ _ _ 0
  clear hW
  have KP := hide (Keeps.of_below hbel)
  have hsz := hbel.size
  go_loopw [4] (fun s wr => ∃ c : Nat, c ≤ p.length ∧ s = .int .i64 c ∧ (List.range c).all (classB p) = true ∧ Below W.heap.size W wr) (fun s _ => p.length - (intOf s).toNat)
  case atStart => exact ⟨0, Nat.zero_le _, rfl, rfl, Below.refl _ _⟩
  case round =>
    obtain ⟨c, hc, rfl, hall, hbr⟩ := hrel
    have HA := hide hall
    have hkr := Keeps.of_below hbr
    have KR := hide hkr
    have hszr := hbr.size
    have q0 := hkr _ _ p0
    clear hall hkr
    by_cases hlt : c < p.length
    · have hX := List.getElem?_eq_getElem hlt
      obtain ⟨vf, vm, c0, c1, c2, hf, hmt⟩ := (unhide HPR c hlt).keep ((unhide KP).trans (unhide KR))
      have hwx := hwf _ (List.getElem_mem hlt)
      have hxl : szClass p[c] ≤ 4194304 := Nat.le_trans (szClass_le (List.getElem_mem hlt)) hz
      have HX := hide hX
      clear hX
      generalize p[c] = x at *
      have hfl : x.fields.length ≤ 4194304 := Nat.le_trans (szFields_le x) hxl
      have hms : x.meths.length ≤ 4194304 := Nat.le_trans (szMeths_le x) hxl
      have HF := hide hf
      have HMT := hide hmt
      obtain ⟨fa, fb, foff, fcap, rfl, _, _, _⟩ := sl_open hf
      obtain ⟨ma, mb, moff, mcap, rfl, hmcap, hma, _⟩ := sl_open hmt
      have hlt1 := cell_lt c0
      have hlt2 := cell_lt q0
      clear hf hmt
      have hfin0 : Below w.heap.size w (wr.alloc (.cells #[.int .i64 x.sup, .slice fa x.fields.length fcap, .slice ma x.meths.length mcap] 34)) := (hbel.trans (hbr.mono hsz)).trans ((box_below wr _).mono (Nat.le_trans hsz hszr))
      cases hsb : supB c x
      · have HNO := hide (form_class (unhide HN) hlt (by rw [classB_at (unhide HX), hsb]; rfl))
        by_cases hc0 : c = 0
        · have hne : (x.sup != -1) = true := by subst hc0; simpa [supB] using hsb
          have hne' : ¬ x.sup = -1 := by simpa using hne
          have hc1 : ((c : Int) == 0) = true := by subst hc0; rfl
          have HC := hide hc0
          clear hc0 hsb
          go_wp2_with fail
          go_ret
          exact ⟨ret_int (unhide HNO).symm, hfin0⟩
        · have hc1 : ((c : Int) == 0) = false := by simpa using hc0
          have hc2 : (0 : Int) < (c : Int) := by omega
          have hbad : x.sup < 0 ∨ (c : Int) ≤ x.sup := by
            unfold supB at hsb
            rw [if_neg hc0] at hsb
            simp only [Bool.and_eq_false_iff, decide_eq_false_iff_not] at hsb
            omega
          clear hsb
          by_cases hs0 : x.sup < 0
          · go_wp2_with fail
            go_ret
            exact ⟨ret_int (unhide HNO).symm, hfin0⟩
          · have hs1 : (c : Int) ≤ x.sup := by omega
            clear hbad
            go_wp2_with fail
            go_ret
            exact ⟨ret_int (unhide HNO).symm, hfin0⟩
      · have HSUP := hide (supOk_succ (supOk_of (unhide HA)) (unhide HX) hsb)
        have HSB := hide hsb
        clear hsb
        have hfsz := fieldsOf_sz p (unhide HSUP) (Nat.lt_succ_self c)
        by_cases hc0 : c = 0
        · have hne : x.sup = -1 := supB_zero (hc0 ▸ unhide HSB)
          have hne' : (x.sup != -1) = false := by simpa using hne
          have hc1 : ((c : Int) == 0) = true := by subst hc0; rfl
          have hc2 : ¬ (0 : Int) < (c : Int) := by omega
          have HC := hide hc0
          have HNE := hide hne
          clear hc0 hne
          go_wp2_with fail
          obtain ⟨wo, rfl⟩ : ∃ wo : World, wo = wr := ⟨_, rfl⟩
          generalize hW2 : wo.alloc _ = W2
          have hb2 : Below wo.heap.size wo W2 := by rw [← hW2]; exact box_below _ _
          have s2 : W2.cell? ⟨wo.heap.size, 2, none⟩ = some (.slice ma x.meths.length mcap) := by rw [← hW2]; exact box_cell _ _ _ 2
          clear hW2 hfin0 c0 c1 c2
          have hk2 := Keeps.of_below hb2
          have K2 := hide hk2
          have t0 := hk2 _ _ q0
          have hnext : Below W.heap.size W W2 := hbr.trans (hb2.mono hszr)
          have hfin : Below w.heap.size w W2 := hbel.trans (hnext.mono hsz)
          clear hk2 q0 p0
          cases hd : x.fields.all (declB p.length)
          · refine (ref_alldeclared_eq hd _ (ints_keep (unhide K2) (unhide HF)) hwx.2.1 hfl).mono ?_
            rintro e w3 ⟨rfl, rfl⟩
            go_wp2_with fail
            go_ret
            exact ⟨ret_int (form_class (unhide HN) hlt (by rw [classB_at (unhide HX), rest_no (fun h => Bool.false_ne_true (hd.symm.trans h.1)), Bool.and_false])).symm, hfin⟩
          refine (ref_alldeclared_eq hd _ (ints_keep (unhide K2) (unhide HF)) hwx.2.1 hfl).mono ?_
          rintro e w3 ⟨rfl, rfl⟩
          go_wp2_with fail
          refine (ref_fields p (c + 1) (unhide HSUP) (by omega) hz c _ _ (prog_keep (unhide K2) (prog_keep ((unhide KP).trans (unhide KR)) (unhide HP))) (by omega)).mono ?_
          rintro e w4 ⟨v4, rfl, hown4, hb4⟩
          obtain ⟨a4, cap4, rfl⟩ := own_form hown4
          have s3 := Keeps.of_below hb4 _ _ s2
          have t3 := Keeps.of_below hb4 _ _ t0
          have hsz4 := hb4.size
          have hnext4 : Below W.heap.size W w4 := hnext.trans (hb4.mono hnext.size)
          have hfin4 : Below w.heap.size w w4 := hbel.trans (hnext4.mono hsz)
          have KW := hide (Keeps.of_below hfin4)
          clear hown4 hb4 s2 t0
          by_cases g8 : 8 < (fieldsOf p c).length
          · have g8' : (8 : Int) < (fieldsOf p c).length := by omega
            go_wp2_with fail
            go_ret
            exact ⟨ret_int (form_class (unhide HN) hlt (by rw [classB_at (unhide HX), rest_no (fun h => by omega), Bool.and_false])).symm, hfin4⟩
          have g8' : ¬ (8 : Int) < (fieldsOf p c).length := by omega
          by_cases g9 : 6 < x.meths.length
          · have g9' : (6 : Int) < x.meths.length := by omega
            go_wp2_with fail
            go_ret
            exact ⟨ret_int (form_class (unhide HN) hlt (by rw [classB_at (unhide HX), rest_no (fun h => by omega), Bool.and_false])).symm, hfin4⟩
          have g9' : ¬ (6 : Int) < x.meths.length := by omega
          go_wp2_with fail
          go_loopw [7] (fun s wi => ∃ k : Nat, k ≤ x.meths.length ∧ s = .int .i64 k ∧ (∀ (j : Nat) (m : LMeth), j < k → x.meths[j]? = some m → headB p x j m = true) ∧ Below w4.heap.size w4 wi) (fun s _ => x.meths.length - (intOf s).toNat)
          case atStart => exact ⟨0, Nat.zero_le _, rfl, fun j _ h => absurd h (Nat.not_lt_zero j), Below.refl _ _⟩
          case round =>
            obtain ⟨k, hk, rfl, hh, hbi⟩ := hrel
            have HH := hide hh
            have s5 := Keeps.of_below hbi _ _ s3
            have t5 := Keeps.of_below hbi _ _ t3
            have KI := hide (Keeps.of_below hbi)
            have hszi := hbi.size
            clear hh s3 t3
            by_cases hk2 : k < x.meths.length
            · have HM := hide (List.getElem?_eq_getElem hk2)
              cases hhd : headB p x k x.meths[k]
              · go_wp2_with fail
                refine (ref_head_eq p hhd _ c _ (prog_keep ((unhide KW).trans (unhide KI)) (unhide HP)) (unhide HSUP) (unhide HX) (unhide HM) hwf hz).mono ?_
                rintro e w5 ⟨rfl, hb5⟩
                go_wp2_with fail
                go_ret
                exact ⟨ret_int (form_class (unhide HN) hlt (by rw [classB_at (unhide HX), rest_head (unhide HM) hhd, Bool.and_false])).symm, hfin4.trans ((hbi.trans (hb5.mono hszi)).mono hfin4.size)⟩
              · go_wp2_with fail
                refine (ref_head_eq p hhd _ c _ (prog_keep ((unhide KW).trans (unhide KI)) (unhide HP)) (unhide HSUP) (unhide HX) (unhide HM) hwf hz).mono ?_
                rintro e w5 ⟨rfl, hb5⟩
                go_wp2_with fail
                exact ⟨⟨k + 1, by omega, by go_num, fun j m hj hjm => by
                  rcases Nat.lt_or_ge j k with g | g
                  · exact unhide HH j m g hjm
                  · obtain rfl : j = k := by omega
                    rw [unhide HM] at hjm; cases hjm; exact hhd, hbi.trans (hb5.mono hszi)⟩, by simp [intOf]; omega⟩
            · go_wp2_with fail
              exact ⟨⟨c + 1, by omega, by go_num, by rw [range_all_succ, unhide HA, classB_at (unhide HX), unhide HSB, rest_yes ⟨hd, by omega, by omega⟩ (fun j m hjm => unhide HH j m (by have := (List.getElem?_eq_some_iff.1 hjm).1; omega) hjm)]; rfl, hnext4.trans (hbi.mono hnext4.size)⟩, by simp [intOf]; omega⟩
        · have hsup := supB_pos (by omega) (unhide HSB)
          have hc1 : ((c : Int) == 0) = false := by simpa using hc0
          have hc2 : (0 : Int) < (c : Int) := by omega
          have hs0 : ¬ x.sup < 0 := by omega
          have hs1 : ¬ (c : Int) ≤ x.sup := by omega
          go_wp2_with fail
          obtain ⟨wo, rfl⟩ : ∃ wo : World, wo = wr := ⟨_, rfl⟩
          generalize hW2 : wo.alloc _ = W2
          have hb2 : Below wo.heap.size wo W2 := by rw [← hW2]; exact box_below _ _
          have s2 : W2.cell? ⟨wo.heap.size, 2, none⟩ = some (.slice ma x.meths.length mcap) := by rw [← hW2]; exact box_cell _ _ _ 2
          clear hW2 hfin0 c0 c1 c2
          have hk2 := Keeps.of_below hb2
          have K2 := hide hk2
          have t0 := hk2 _ _ q0
          have hnext : Below W.heap.size W W2 := hbr.trans (hb2.mono hszr)
          have hfin : Below w.heap.size w W2 := hbel.trans (hnext.mono hsz)
          clear hk2 q0 p0
          cases hd : x.fields.all (declB p.length)
          · refine (ref_alldeclared_eq hd _ (ints_keep (unhide K2) (unhide HF)) hwx.2.1 hfl).mono ?_
            rintro e w3 ⟨rfl, rfl⟩
            go_wp2_with fail
            go_ret
            exact ⟨ret_int (form_class (unhide HN) hlt (by rw [classB_at (unhide HX), rest_no (fun h => Bool.false_ne_true (hd.symm.trans h.1)), Bool.and_false])).symm, hfin⟩
          refine (ref_alldeclared_eq hd _ (ints_keep (unhide K2) (unhide HF)) hwx.2.1 hfl).mono ?_
          rintro e w3 ⟨rfl, rfl⟩
          go_wp2_with fail
          refine (ref_fields p (c + 1) (unhide HSUP) (by omega) hz c _ _ (prog_keep (unhide K2) (prog_keep ((unhide KP).trans (unhide KR)) (unhide HP))) (by omega)).mono ?_
          rintro e w4 ⟨v4, rfl, hown4, hb4⟩
          obtain ⟨a4, cap4, rfl⟩ := own_form hown4
          have s3 := Keeps.of_below hb4 _ _ s2
          have t3 := Keeps.of_below hb4 _ _ t0
          have hsz4 := hb4.size
          have hnext4 : Below W.heap.size W w4 := hnext.trans (hb4.mono hnext.size)
          have hfin4 : Below w.heap.size w w4 := hbel.trans (hnext4.mono hsz)
          have KW := hide (Keeps.of_below hfin4)
          clear hown4 hb4 s2 t0
          by_cases g8 : 8 < (fieldsOf p c).length
          · have g8' : (8 : Int) < (fieldsOf p c).length := by omega
            go_wp2_with fail
            go_ret
            exact ⟨ret_int (form_class (unhide HN) hlt (by rw [classB_at (unhide HX), rest_no (fun h => by omega), Bool.and_false])).symm, hfin4⟩
          have g8' : ¬ (8 : Int) < (fieldsOf p c).length := by omega
          by_cases g9 : 6 < x.meths.length
          · have g9' : (6 : Int) < x.meths.length := by omega
            go_wp2_with fail
            go_ret
            exact ⟨ret_int (form_class (unhide HN) hlt (by rw [classB_at (unhide HX), rest_no (fun h => by omega), Bool.and_false])).symm, hfin4⟩
          have g9' : ¬ (6 : Int) < x.meths.length := by omega
          go_wp2_with fail
          go_loopw [7] (fun s wi => ∃ k : Nat, k ≤ x.meths.length ∧ s = .int .i64 k ∧ (∀ (j : Nat) (m : LMeth), j < k → x.meths[j]? = some m → headB p x j m = true) ∧ Below w4.heap.size w4 wi) (fun s _ => x.meths.length - (intOf s).toNat)
          case atStart => exact ⟨0, Nat.zero_le _, rfl, fun j _ h => absurd h (Nat.not_lt_zero j), Below.refl _ _⟩
          case round =>
            obtain ⟨k, hk, rfl, hh, hbi⟩ := hrel
            have HH := hide hh
            have s5 := Keeps.of_below hbi _ _ s3
            have t5 := Keeps.of_below hbi _ _ t3
            have KI := hide (Keeps.of_below hbi)
            have hszi := hbi.size
            clear hh s3 t3
            by_cases hk2 : k < x.meths.length
            · have HM := hide (List.getElem?_eq_getElem hk2)
              cases hhd : headB p x k x.meths[k]
              · go_wp2_with fail
                refine (ref_head_eq p hhd _ c _ (prog_keep ((unhide KW).trans (unhide KI)) (unhide HP)) (unhide HSUP) (unhide HX) (unhide HM) hwf hz).mono ?_
                rintro e w5 ⟨rfl, hb5⟩
                go_wp2_with fail
                go_ret
                exact ⟨ret_int (form_class (unhide HN) hlt (by rw [classB_at (unhide HX), rest_head (unhide HM) hhd, Bool.and_false])).symm, hfin4.trans ((hbi.trans (hb5.mono hszi)).mono hfin4.size)⟩
              · go_wp2_with fail
                refine (ref_head_eq p hhd _ c _ (prog_keep ((unhide KW).trans (unhide KI)) (unhide HP)) (unhide HSUP) (unhide HX) (unhide HM) hwf hz).mono ?_
                rintro e w5 ⟨rfl, hb5⟩
                go_wp2_with fail
                exact ⟨⟨k + 1, by omega, by go_num, fun j m hj hjm => by
                  rcases Nat.lt_or_ge j k with g | g
                  · exact unhide HH j m g hjm
                  · obtain rfl : j = k := by omega
                    rw [unhide HM] at hjm; cases hjm; exact hhd, hbi.trans (hb5.mono hszi)⟩, by simp [intOf]; omega⟩
            · go_wp2_with fail
              exact ⟨⟨c + 1, by omega, by go_num, by rw [range_all_succ, unhide HA, classB_at (unhide HX), unhide HSB, rest_yes ⟨hd, by omega, by omega⟩ (fun j m hjm => unhide HH j m (by have := (List.getElem?_eq_some_iff.1 hjm).1; omega) hjm)]; rfl, hnext4.trans (hbi.mono hnext4.size)⟩, by simp [intOf]; omega⟩
    · have HALL : Hid ((List.range p.length).all (classB p) = true) := by
        have := unhide HA
        rwa [show c = p.length by omega] at this
      have HSUP := hide (supOk_of (unhide HALL))
      have HFC := hide (form_code (unhide HN) (unhide HALL))
      go_wp2_with fail
      clear q0 hlt hc HA
      obtain ⟨wo, rfl⟩ : ∃ wo : World, wo = wr := ⟨_, rfl⟩
      go_loopw [9] (fun s wr => ∃ c : Nat, c ≤ p.length ∧ s = .int .i64 c ∧ (p.take c).all (fun x => x.meths.all (codeB p)) = true ∧ Below W.heap.size W wr) (fun s _ => p.length - (intOf s).toNat)
      case atStart => exact ⟨0, Nat.zero_le _, rfl, rfl, hbr⟩
      case round =>
        clear KR hszr hbr
        obtain ⟨c, hc, rfl, hall, hbr⟩ := hrel
        have HA := hide hall
        have hkr := Keeps.of_below hbr
        have KR := hide hkr
        have hszr := hbr.size
        have q0 := hkr _ _ p0
        clear hall hkr
        by_cases hlt : c < p.length
        · obtain ⟨vf, vm, c0, c1, c2, hf, hmt⟩ := (unhide HPR c hlt).keep ((unhide KP).trans (unhide KR))
          have hwx := hwf _ (List.getElem_mem hlt)
          have hxl : szClass p[c] ≤ 4194304 := Nat.le_trans (szClass_le (List.getElem_mem hlt)) hz
          have hS := all_snoc (f := fun x => x.meths.all (codeB p)) hlt
          have HNOX := hide (fun h => all_no (f := fun x : LClass => x.meths.all (codeB p)) hlt h)
          rw [unhide HA] at hS
          have HS := hide hS
          clear hS
          generalize p[c] = x at *
          have hms : x.meths.length ≤ 4194304 := Nat.le_trans (szMeths_le x) hxl
          obtain ⟨ma, mb, moff, mcap, rfl, hmcap, hma, hmr⟩ := sl_open hmt
          have HMR := hide hmr
          clear hf hmt hmr
          obtain ⟨wo2, rfl⟩ : ∃ wo2 : World, wo2 = wr := ⟨_, rfl⟩
          go_wp2_with fail
          go_loopw [10] (fun s wi => ∃ k : Nat, k ≤ x.meths.length ∧ s = .int .i64 k ∧ (x.meths.take k).all (codeB p) = true ∧ Below wo2.heap.size wo2 wi) (fun s _ => x.meths.length - (intOf s).toNat)
          case atStart => exact ⟨0, Nat.zero_le _, rfl, rfl, Below.refl _ _⟩
          case round =>
            obtain ⟨k, hk, rfl, hh, hbi⟩ := hrel
            have HH := hide hh
            have KI := hide (Keeps.of_below hbi)
            have hszi := hbi.size
            have t0 := unhide KI _ _ q0
            have t2 := unhide KI _ _ c2
            clear hh
            by_cases hk2 : k < x.meths.length
            · obtain rfl := hma (ne_nil_of_lt hk2)
              obtain ⟨va, vcd, vfr, hmv, m0, m1, m2, m3, m4, m5, m6⟩ := (unhide HMR k hk2).keep (unhide KI)
              have hwm := hwx.2.2 _ (List.getElem_mem hk2)
              have hml : szMeth x.meths[k] ≤ 4194304 := Nat.le_trans (szMeth_le (List.getElem_mem hk2)) hxl
              have hSm := all_snoc (f := codeB p) hk2
              have HNOM := hide (fun h => all_no (f := codeB p) hk2 h)
              rw [unhide HH] at hSm
              have HSM := hide hSm
              clear hSm
              generalize x.meths[k] = m at *
              have HMV := hide hmv
              obtain ⟨ha1, hc1, hf1⟩ := hmv
              obtain ⟨aa, ab, aoff, acap, rfl, _, _, _⟩ := sl_open ha1
              obtain ⟨ca, cb, coff, ccap, rfl, _, _, _⟩ := sl_open hc1
              obtain ⟨fa, fb, foff, fcap, rfl, _, _, _⟩ := sl_open hf1
              have hci : (c : Int) < (p.length : Int) := by omega
              have hcz : (0 : Int) ≤ (c : Int) := by omega
              have hki : (k : Int) < (x.meths.length : Int) := by omega
              have hkz : (0 : Int) ≤ (k : Int) := by omega
              clear ha1 hc1 hf1 q0 c0 c1 c2 p0
              cases hcd : codeB p m
              · go_wp2_with fail
                go_region_held3 (fun w' => w'.cell? ⟨w.heap.size, 0, none⟩ = some (.slice (some ⟨pb, poff, none⟩) p.length pcap) ∧ w'.cell? ⟨pb, poff + c * 3 + 2, none⟩ = some (.slice (some ⟨mb, moff, none⟩) x.meths.length mcap) ∧
                    w'.cell? ⟨mb, moff + k * 7, none⟩ = some (.int .i64 m.slot) ∧ w'.cell? ⟨mb, moff + k * 7 + 1, none⟩ = some (.slice aa m.args.length acap) ∧ w'.cell? ⟨mb, moff + k * 7 + 2, none⟩ = some (.int .i64 m.ret) ∧ w'.cell? ⟨mb, moff + k * 7 + 3, none⟩ = some (.int .i64 m.locals) ∧
                    w'.cell? ⟨mb, moff + k * 7 + 4, none⟩ = some (.int .i64 m.stack) ∧ w'.cell? ⟨mb, moff + k * 7 + 5, none⟩ = some (.slice ca m.code.length ccap) ∧ w'.cell? ⟨mb, moff + k * 7 + 6, none⟩ = some (.slice fa m.frames.length fcap))
                  (first | go_keep | (exact ⟨Keeps.of_below hb5 _ _ (by simpa using t0), Keeps.of_below hb5 _ _ (by simpa using t2), Keeps.of_below hb5 _ _ (by simpa using m0), Keeps.of_below hb5 _ _ (by simpa using m1), Keeps.of_below hb5 _ _ (by simpa using m2), Keeps.of_below hb5 _ _ (by simpa using m3), Keeps.of_below hb5 _ _ (by simpa using m4), Keeps.of_below hb5 _ _ (by simpa using m5), Keeps.of_below hb5 _ _ (by simpa using m6)⟩))
                  (first | ((go_at_call 42; refine (ref_code_eq p hcd _ _ _ _ _ (prog_keep (Keeps.of_below ((Below.refl _ _).drew)) (prog_keep ((unhide KP).trans ((unhide KR).trans (unhide KI))) (unhide HP))) ((unhide HMV).keep (Keeps.of_below ((Below.refl _ _).drew))) (unhide HSUP) hz hml hwm).mono ?_); rintro e w5 ⟨rfl, hb5⟩))
                have hnext : Below wo2.heap.size wo2 w5 := hbi.drew.trans (hb5.mono (by simpa using hszi))
                go_wp2_with fail
                go_ret
                refine ⟨ret_int ?_, hbel.trans ((hbr.trans (hnext.mono hszr)).mono hsz)⟩
                rw [unhide HFC, unhide HNOX (unhide HNOM hcd)]
                rfl
              · go_wp2_with fail
                go_region_held3 (fun w' => w'.cell? ⟨w.heap.size, 0, none⟩ = some (.slice (some ⟨pb, poff, none⟩) p.length pcap) ∧ w'.cell? ⟨pb, poff + c * 3 + 2, none⟩ = some (.slice (some ⟨mb, moff, none⟩) x.meths.length mcap) ∧
                    w'.cell? ⟨mb, moff + k * 7, none⟩ = some (.int .i64 m.slot) ∧ w'.cell? ⟨mb, moff + k * 7 + 1, none⟩ = some (.slice aa m.args.length acap) ∧ w'.cell? ⟨mb, moff + k * 7 + 2, none⟩ = some (.int .i64 m.ret) ∧ w'.cell? ⟨mb, moff + k * 7 + 3, none⟩ = some (.int .i64 m.locals) ∧
                    w'.cell? ⟨mb, moff + k * 7 + 4, none⟩ = some (.int .i64 m.stack) ∧ w'.cell? ⟨mb, moff + k * 7 + 5, none⟩ = some (.slice ca m.code.length ccap) ∧ w'.cell? ⟨mb, moff + k * 7 + 6, none⟩ = some (.slice fa m.frames.length fcap))
                  (first | go_keep | (exact ⟨Keeps.of_below hb5 _ _ (by simpa using t0), Keeps.of_below hb5 _ _ (by simpa using t2), Keeps.of_below hb5 _ _ (by simpa using m0), Keeps.of_below hb5 _ _ (by simpa using m1), Keeps.of_below hb5 _ _ (by simpa using m2), Keeps.of_below hb5 _ _ (by simpa using m3), Keeps.of_below hb5 _ _ (by simpa using m4), Keeps.of_below hb5 _ _ (by simpa using m5), Keeps.of_below hb5 _ _ (by simpa using m6)⟩))
                  (first | ((go_at_call 42; refine (ref_code_eq p hcd _ _ _ _ _ (prog_keep (Keeps.of_below ((Below.refl _ _).drew)) (prog_keep ((unhide KP).trans ((unhide KR).trans (unhide KI))) (unhide HP))) ((unhide HMV).keep (Keeps.of_below ((Below.refl _ _).drew))) (unhide HSUP) hz hml hwm).mono ?_); rintro e w5 ⟨rfl, hb5⟩))
                have hnext : Below wo2.heap.size wo2 w5 := hbi.drew.trans (hb5.mono (by simpa using hszi))
                go_wp2_with fail
                exact ⟨⟨k + 1, by omega, by go_num, by rw [unhide HSM, hcd]; rfl, hnext⟩, by simp [intOf]; omega⟩
            · go_wp2_with fail
              exact ⟨⟨c + 1, by omega, by go_num, by
                have h1 := unhide HH
                rw [List.take_of_length_le (by omega)] at h1
                rw [unhide HS, h1]; rfl, hbr.trans (hbi.mono hszr)⟩, by simp [intOf]; omega⟩
        · go_wp2_with fail
          go_ret
          refine ⟨ret_int ?_, hbel.trans (hbr.mono hsz)⟩
          have h1 := unhide HA
          rw [List.take_of_length_le (by omega)] at h1
          rw [unhide HFC, h1]
          rfl
end Go.Proofs.Ytiiokkllmchohaa
