/- What the code's Form answers. -/
import Derived.Test.YtiiokkllmchohaaT02
import Derived.Test.YtiiokkllmchohaaT12
import Derived.Test.YtiiokkllmchohaaT17
/- CodeN -/
namespace Go.Proofs.Ytiiokkllmchohaa
open Go.RowKit
attribute [local go_sem ↓] Go.wp_at_zero Go.wp_at_succ

theorem code_classeshold_eq {p : List LClass} {q : Bool} (h : classesB p = q) (vc : Value) (w : World) (hp : RProg w vc p) (hwf : wfProg p) (hz : szProg p ≤ 4194304) :
    Calls Try.prog 27 #[.agg #[vc]] w fun e w' => e = .returned (.bool q) ∧ Below w.heap.size w w' := h ▸ code_classeshold p vc w hp hwf hz
theorem code_allcode_eq {p : List LClass} {q : Bool} (h : (p.all fun x => x.meths.all (codeB p)) = q) (vc : Value) (w : World) (hp : RProg w vc p) (hs : SupOk p p.length) (hwf : wfProg p) (hz : szProg p ≤ 4194304) :
    Calls Try.prog 28 #[.agg #[vc]] w fun e w' => e = .returned (.bool q) ∧ Below w.heap.size w w' := h ▸ code_allcode p vc w hp hs hwf hz
theorem classes_sup {p : List LClass} (h : classesB p = true) : SupOk p p.length := by
  unfold classesB at h
  simp only [Bool.and_eq_true] at h
  exact supOk_all h.2.1

set_option maxHeartbeats 1000000 in
theorem code_check (p : List LClass) (vc : Value) (w : World) (hp : RProg w vc p) (hwf : wfProg p) (hz : szProg p ≤ 4194304) :
    Calls Try.prog 10 #[.agg #[vc]] w fun e w' => e = .returned (.int .i64 (formI p)) ∧ Below w.heap.size w w' := by
  have HP := hide hp
  have HF := hide (formI_classes p)
  obtain ⟨pa, _, _, pcap, rfl, _⟩ := hp
  go_enter Try.func10, Try.ntmps10
  go_wp2_with fail
  generalize hW : w.alloc _ = W
  have hbel : Below w.heap.size w W := by rw [← hW]; exact box_below _ _
  have hbox : W.cell? ⟨w.heap.size, 0, none⟩ = some (.slice pa p.length pcap) := by rw [← hW]; exact box_cell _ _ _ 0
  clear hW
  cases hq : classesB p
  · refine Calls.mono (code_classeshold_eq hq _ _ (prog_keep (Keeps.of_below hbel) (unhide HP)) hwf hz) ?_
    rintro e w1 ⟨rfl, hb1⟩
    go_wp2_with fail
    go_ret
    exact ⟨ret_int (by rw [unhide HF, hq]; rfl), hbel.trans (hb1.mono hbel.size)⟩
  refine Calls.mono (code_classeshold_eq hq _ _ (prog_keep (Keeps.of_below hbel) (unhide HP)) hwf hz) ?_
  rintro e w1 ⟨rfl, hb1⟩
  have b1 := Keeps.of_below hb1 _ _ hbox
  have hf1 := hbel.trans (hb1.mono hbel.size)
  clear hbel hbox hb1
  go_wp2_with fail
  cases hq2 : (p.all fun x => x.meths.all (codeB p))
  · refine Calls.mono (code_allcode_eq hq2 _ _ (prog_keep (Keeps.of_below hf1) (unhide HP)) (classes_sup hq) hwf hz) ?_
    rintro e w2 ⟨rfl, hb2⟩
    go_wp2_with fail
    go_ret
    exact ⟨ret_int (by rw [unhide HF, hq, hq2]; rfl), hf1.trans (hb2.mono hf1.size)⟩
  · refine Calls.mono (code_allcode_eq hq2 _ _ (prog_keep (Keeps.of_below hf1) (unhide HP)) (classes_sup hq) hwf hz) ?_
    rintro e w2 ⟨rfl, hb2⟩
    go_wp2_with fail
    go_ret
    exact ⟨ret_int (by rw [unhide HF, hq, hq2]; rfl), hf1.trans (hb2.mono hf1.size)⟩

set_option maxHeartbeats 1000000 in
theorem code_form (p : List LClass) (vc : Value) (w : World) (hp : RProg w vc p) (hwf : wfProg p) (hz : szProg p ≤ 4194304) :
    Calls Try.prog 16 #[.agg #[vc]] w fun e w' => e = .returned (.int .i64 (formI p)) ∧ Below w.heap.size w w' := by
  have HP := hide hp
  obtain ⟨pa, _, _, pcap, rfl, _⟩ := hp
  go_enter Try.func16, Try.ntmps16
  go_wp2_with fail
  generalize hW : w.alloc _ = W
  have hbel : Below w.heap.size w W := by rw [← hW]; exact box_below _ _
  clear hW
  refine Calls.mono (code_check p _ _ (prog_keep (Keeps.of_below hbel) (unhide HP)) hwf hz) ?_
  rintro e w1 ⟨rfl, hb1⟩
  go_wp2_with fail
  go_ret
  exact ⟨rfl, hbel.trans (hb1.mono hbel.size)⟩
end Go.Proofs.Ytiiokkllmchohaa
/- The code's writer: its state, and the walk that writes a number. -/
namespace Go.Proofs.Ytiiokkllmchohaa
open Go.RowKit
attribute [local go_sem ↓] Go.wp_at_zero Go.wp_at_succ

def byteV (b : UInt8) : Value := .int .u8 (b.toNat : Int)
/-- The writer lies in block bw; it has written the bytes bs, into a row of its own behind. -/
def WrAt (w : World) (bw : Nat) (bs : List UInt8) : Prop := ∃ vb, Blk w bw 75 [vb] ∧ w.ownsRow (bw + 1) 5 1 vb bs.length (bs.map byteV)
/-- What writing leaves as it was: all that lies ahead of the writer, and boxes of other types. -/
structure Wrote (w w' : World) (bw : Nat) : Prop where
  below : Below bw w w'
  boxes : ∀ k t c, t ≠ 75 → t ≠ 5 → Blk w k t c → Blk w' k t c
theorem Wrote.refl (w : World) (bw : Nat) : Wrote w w bw := ⟨Below.refl _ _, fun _ _ _ _ _ h => h⟩
theorem Wrote.trans {a b c : World} {bw : Nat} (h : Wrote a b bw) (k : Wrote b c bw) : Wrote a c bw := ⟨h.below.trans k.below, fun i t cs h1 h2 hb => k.boxes i t cs h1 h2 (h.boxes i t cs h1 h2 hb)⟩
theorem Wrote.alloc {a b : World} {bw : Nat} (h : Wrote a b bw) (hb : bw ≤ b.heap.size) (o : Obj) : Wrote a (b.alloc o) bw := ⟨h.below.alloc hb o, fun i t cs h1 h2 hk => (h.boxes i t cs h1 h2 hk).alloc o⟩
theorem WrAt.alloc {w : World} {bw : Nat} {bs : List UInt8} (h : WrAt w bw bs) (o : Obj) : WrAt (w.alloc o) bw bs := by
  obtain ⟨vb, h1, h2⟩ := h
  exact ⟨vb, h1.alloc o, own_mods h2 ((Mods.refl (fun _ => False) w).alloc o) (fun _ _ f => f)⟩
theorem WrAt.lt {w : World} {bw : Nat} {bs : List UInt8} (h : WrAt w bw bs) : bw < w.heap.size := by
  obtain ⟨vb, h1, h2⟩ := h; exact h1.lt
theorem infoByte : (Try.prog.info? 5).map (fun i => (i.zero, i.size, i.bytes)) = some (some (.int .u8 0), 1, 1) := by kernel_rfl

/-- One byte more: the append's run, and what it leaves behind the store. -/
theorem wr_push {w : World} {bw : Nat} {bs : List UInt8} {vb : Value} (hb : Blk w bw 75 [vb]) (hrow : w.ownsRow (bw + 1) 5 1 vb bs.length (bs.map byteV)) (x : UInt8) (xv : Int) (hxv : xv = (x.toNat : Int)) (hlen : bs.length + 1 ≤ 1073741824) :
    ∃ v' w', (Builtin.append_ #[73, 73] 73 #[vb, .slice (some ⟨w.heap.size, 0, none⟩) 1 1]).run Try.prog (w.alloc (.cells #[.int .u8 xv] 5)) = .ok v' w' ∧
      w'.cell? ⟨bw, 0, none⟩ = some vb ∧ w'.frozen? ⟨bw, 0, none⟩ = false ∧ (∃ a cap, v' = .slice a (bs.length + 1) cap) ∧
      WrAt (w'.setCell ⟨bw, 0, none⟩ v') bw (bs ++ [x]) ∧ Wrote w (w'.setCell ⟨bw, 0, none⟩ v') bw := by
  subst hxv
  obtain ⟨i0, hi0, hz0, hz1, hz2⟩ := info_parts infoByte
  have hlt := hb.lt
  obtain ⟨v', w', hr, hown, hm, hat⟩ := app_ex (P := Try.prog) (W := w) 73 73 5 i0 (.int .u8 0) 1 1 Try.underlying73 hi0 hz0 hz1 hz2 rfl (by decide) (bw + 1) vb bs.length (bs.map byteV) hrow #[byteV x] rfl (by simp [byteV, Value.oneCell']) w.heap.size rfl (by unfold maxLen; omega) (by omega) (by omega)
  have hne : ¬ (vb.ownBlock = some bw) := fun e => by have := (hrow.lt bw e).1; omega
  have hb' := hb.mods hm hne
  refine ⟨v', w', hr, hb'.cell 0, hb'.frozen 0, own_form hown, ⟨v', hb'.setCell 0 v', ?_⟩, ?_, ?_⟩
  · have := own_mods (S := fun k => k = bw) hown ((Mods.refl (fun k => k = bw) w').setCell (p := ⟨bw, 0, none⟩) (fun _ => rfl) v') (fun g e f => by have := (hown.lt g e).1; omega)
    simpa using this
  · have h2 : Mods (fun k => vb.ownBlock = some k ∨ k = bw) w w' := hm.mono (fun _ _ e => .inl e)
    exact (h2.setCell (p := ⟨bw, 0, none⟩) (fun _ => .inr rfl) v').below (by omega) (fun k hk e => by
      rcases e with e | e
      · have := (hrow.lt k e).1; omega
      · omega)
  · intro k t c h1 h2 hk
    have hk' := hk.mods hm (fun e => by
      obtain ⟨cur, hc⟩ := own_blk hrow e
      exact h2 (hk.uniq hc))
    refine hk'.setCell_ne ?_ v'
    intro e
    have e' : k = bw := e
    subst e'
    exact h1 (hk'.uniq hb')

set_option maxRecDepth 20000 in
theorem u8_high (v : Nat) : bits BinOp.or IntKind.u8 ((v : Int) % 256) 128 = ((UInt8.ofNat (128 + v % 128)).toNat : Int) := by
  have h : ∀ x : Fin 256, (x.val ||| 128) = 128 + x.val % 128 := by decide
  have h1 := h ⟨v % 256, Nat.mod_lt _ (by omega)⟩
  have h2 : ((v : Int) % 256) = ((v % 256 : Nat) : Int) := by omega
  rw [h2]
  have h3 := u8_or_nat (v % 256) 128 (Nat.mod_lt _ (by omega)) (by omega)
  have h4 : ((128 : Nat) : Int) = 128 := rfl
  rw [h4] at h3
  rw [h3, h1, UInt8.toNat_ofNat']
  have : v % 256 % 128 = v % 128 := by omega
  simp only [this]
  omega
theorem u64_not (a : Nat) (ha : a < 18446744073709551616) : bits .xor .u64 IntKind.u64.max (a : Int) = 18446744073709551615 - (a : Int) := by
  show IntKind.u64.wrap ((BitVec.ofInt 64 18446744073709551615 ^^^ BitVec.ofInt 64 (a : Int)).toNat : Int) = _
  have h1 : BitVec.ofInt 64 18446744073709551615 = BitVec.allOnes 64 := by decide
  rw [h1, BitVec.allOnes_xor, BitVec.toNat_not, ofInt_u64 a (by omega)]
  simp [IntKind.wrap, IntKind.bits, IntKind.signed]
  omega
theorem fold_dbl {n : Int} (hn : 0 ≤ n) : n * 2 = (foldZ n : Int) := by
  unfold foldZ; rw [if_neg (by omega)]; omega
theorem fold_neg {n : Int} (h : I64 n) (hn : n < 0) : bits .xor .u64 IntKind.u64.max (IntKind.u64.wrap (IntKind.u64.wrap n * 2)) = (foldZ n : Int) := by
  obtain ⟨h1, h2⟩ := h
  have hst : (foldZ n : Int) = 2 * -(n + 1) + 1 := by unfold foldZ; rw [if_pos hn]; omega
  have e : IntKind.u64.wrap (IntKind.u64.wrap n * 2) = ((2 * n + 18446744073709551616).toNat : Int) := by
    rw [IntKind.wrap_u64, IntKind.wrap_u64]
    omega
  rw [e, u64_not _ (by omega), hst]
  omega

set_option maxHeartbeats 1000000 in
set_option maxRecDepth 100000 in
theorem wr_number (n : Int) (w : World) (bw : Nat) (bs : List UInt8) (hn : I64 n) (h : WrAt w bw bs) (hlen : bs.length + 10 ≤ 1073741824) :
    Calls Try.prog 29 #[.pointer (some ⟨bw, 0, none⟩), .int .i64 n] w fun e w' => e = .returned (.tuple #[]) ∧ WrAt w' bw (bs ++ encN n) ∧ Wrote w w' bw := by
  have hf := foldZ_lt hn
  have HI := hide hn
  have HH := hide h
  clear h
  obtain ⟨h1, h2⟩ := hn
  by_cases hneg : n < 0
  all_goals
    go_enter Try.func29, Try.ntmps29
    go_wp2_with fail
    go_loopw [4] (fun s4 wr => ∃ (v f : Nat) (acc : List UInt8), s4 = .int .u64 v ∧ v < 128 ^ (f + 1) ∧ v < 18446744073709551616 ∧ acc.length + f ≤ 9 ∧ acc ++ encU (f + 1) v = encN n ∧ WrAt wr bw (bs ++ acc) ∧ Wrote w wr bw) (fun s4 _ => (intOf s4).toNat)
    case atStart =>
      first
        | exact ⟨foldZ n, 9, [], by rw [fold_neg (unhide HI) hneg], by omega, hf, by simp, rfl, by rw [List.append_nil]; exact unhide HH, Wrote.refl _ _⟩
        | exact ⟨foldZ n, 9, [], by rw [fold_dbl hneg], by omega, hf, by simp, rfl, by rw [List.append_nil]; exact unhide HH, Wrote.refl _ _⟩
    case round =>
      obtain ⟨v, f, acc, rfl, hv, hv2, hal, he, hW, hwr⟩ := hrel
      have HE := hide he
      have HV := hide hv
      have HWR := hide hwr
      clear he hv hwr
      have hbl : (bs ++ acc).length + 1 ≤ 1073741824 := by rw [List.length_append]; omega
      have HL := hide (List.append_assoc bs acc)
      generalize bs ++ acc = bb at *
      obtain ⟨vb, hB, hrow⟩ := hW
      obtain ⟨va, vcap, rfl⟩ := own_form hrow
      have c0 : wr.cell? ⟨bw, 0, none⟩ = some (.slice va bb.length vcap) := hB.cell 0
      by_cases hlt : v < 128
      · have hlt' : ¬ (128 : Int) ≤ (v : Int) := by omega
        obtain ⟨v', w', happ, d0, d1, ⟨ya, ycap, rfl⟩, hW', hwr'⟩ := wr_push hB hrow (UInt8.ofNat v) (v : Int) (by rw [UInt8.toNat_ofNat']; omega) hbl
        have HW' := hide hW'
        have HWR' := hide hwr'
        clear hW' hwr' hB hrow
        go_wp2_with (at_builtin; refine wpList_append_run rfl (.tmp 32) (.tmp 35) 73 rfl _ _ rfl rfl happ ?_)
        go_end0
        refine ⟨rfl, ?_, (unhide HWR).trans (unhide HWR')⟩
        have e := unhide HE
        rw [encU_lt hlt] at e
        rw [← e, ← unhide HL]
        exact unhide HW'
      · have hlt' : (128 : Int) ≤ (v : Int) := by omega
        obtain ⟨v', w', happ, d0, d1, ⟨ya, ycap, rfl⟩, hW', hwr'⟩ := wr_push hB hrow (UInt8.ofNat (128 + v % 128)) (bits BinOp.or IntKind.u8 ((v : Int) % 256) 128) (u8_high v) hbl
        have HW' := hide hW'
        have HWR' := hide hwr'
        clear hW' hwr' hB hrow
        go_wp2_with (at_builtin; refine wpList_append_run rfl (.tmp 18) (.tmp 22) 73 rfl _ _ rfl rfl happ ?_)
        obtain ⟨f', rfl⟩ : ∃ f', f = f' + 1 := by
          cases f with
          | zero => have := unhide HV; simp at this; omega
          | succ f' => exact ⟨f', rfl⟩
        refine ⟨⟨v / 128, f', acc ++ [UInt8.ofNat (128 + v % 128)], by go_num, ?_, by omega, by simp; omega, ?_, ?_, (unhide HWR).trans (unhide HWR')⟩, by simp [intOf]; omega⟩
        · have := unhide HV
          rw [Nat.pow_succ] at this
          omega
        · rw [← unhide HE, encU_ge hlt, List.append_assoc]; rfl
        · rw [← unhide HL]; exact unhide HW'
end Go.Proofs.Ytiiokkllmchohaa
/- The code's writer: types, frames, methods. -/
namespace Go.Proofs.Ytiiokkllmchohaa
open Go.RowKit
attribute [local go_sem ↓] Go.wp_at_zero Go.wp_at_succ

theorem blk3 {w : World} {b : Nat} {t : TypeId} {a0 a1 a2 : Value} (h : Blk w b t [a0, a1, a2]) : w.cell? ⟨b, 0, none⟩ = some a0 ∧ w.cell? ⟨b, 1, none⟩ = some a1 ∧ w.cell? ⟨b, 2, none⟩ = some a2 := ⟨h.cell 0, h.cell 1, h.cell 2⟩
theorem Wrote.from {w0 w w' : World} {bw : Nat} (h : Wrote w w' bw) (h0 : Below w0.heap.size w0 w) (hw : w0.heap.size ≤ bw) : Below w0.heap.size w0 w' := h0.trans (h.below.mono hw)
theorem app_eq {w : World} {bw : Nat} {a b : List UInt8} (h : WrAt w bw a) (e : a = b) : WrAt w bw b := e ▸ h

set_option maxHeartbeats 1000000 in
set_option maxRecDepth 100000 in
theorem wr_types (l : List Int) (v : Value) (w0 w : World) (bw : Nat) (bs : List UInt8) (hl : SlAt 1 (RInt w0) v l) (h0 : Below w0.heap.size w0 w) (hw0 : w0.heap.size ≤ bw) (hw : ∀ x ∈ l, I64 x) (h : WrAt w bw bs) (_hs : l.length ≤ 4194304) (hlen : bs.length + 10 * l.length ≤ 1073741824) :
    Calls Try.prog 57 #[.pointer (some ⟨bw, 0, none⟩), v] w fun e w' => e = .returned (.tuple #[]) ∧ WrAt w' bw (bs ++ encTs l) ∧ Wrote w w' bw := by
  obtain ⟨a, b, off, cap, rfl, hcap, ha, hr⟩ := ints_open hl
  have HR := hide hr
  have HH := hide h
  clear hr h
  go_enter Try.func57, Try.ntmps57
  go_wp2_with fail
  go_loopw [8] (fun s wr => ∃ k : Nat, k ≤ l.length ∧ s = .int .i64 k ∧ WrAt wr bw (bs ++ encTs (l.take k)) ∧ Wrote w wr bw) (fun s _ => l.length - (intOf s).toNat)
  case atStart => exact ⟨0, Nat.zero_le _, rfl, by simpa [encTs] using unhide HH, Wrote.refl _ _⟩
  case round =>
    obtain ⟨k, hk, rfl, hW, hwr⟩ := hrel
    have HW := hide hW
    have HWR := hide hwr
    clear hW hwr
    by_cases hlt : k < l.length
    · obtain rfl := ha (ne_nil_of_lt hlt)
      have c0 := Keeps.of_below ((unhide HWR).from h0 hw0) _ _ (unhide HR k hlt)
      have hx := hw _ (List.getElem_mem hlt)
      have HS : Hid (bs ++ encTs (l.take k) ++ encN l[k] = bs ++ encTs (l.take (k + 1))) := by
        show _ = _
        unfold encTs
        rw [List.take_add_one, List.getElem?_eq_getElem hlt, List.flatMap_append, List.append_assoc]; simp
      have hl1 := encTs_len (l.take k)
      rw [List.length_take] at hl1
      have hbl : (bs ++ encTs (l.take k)).length + 10 ≤ 1073741824 := by rw [List.length_append]; omega
      generalize l[k] = x at *
      go_wp2_with fail
      refine Calls.mono (wr_number x _ bw _ hx (unhide HW) hbl) ?_
      rintro e w1 ⟨rfl, hW1, hwr1⟩
      have HW1 := hide hW1
      have HWR1 := hide hwr1
      clear hW1 hwr1
      go_wp2_with fail
      exact ⟨⟨k + 1, by omega, by go_num, app_eq (unhide HW1) (unhide HS), (unhide HWR).trans (unhide HWR1)⟩, by simp [intOf]; omega⟩
    · go_wp2
      go_end0
      refine ⟨rfl, ?_, unhide HWR⟩
      have := unhide HW
      rwa [List.take_of_length_le (by omega)] at this

set_option maxHeartbeats 1000000 in
set_option maxRecDepth 100000 in
theorem wr_frame (f : LFrame) (vl vs : Value) (w0 w : World) (bw : Nat) (bs : List UInt8) (hl : SlAt 1 (RInt w0) vl f.locals) (hst : SlAt 1 (RInt w0) vs f.stack) (h0 : Below w0.heap.size w0 w) (hw0 : w0.heap.size ≤ bw) (hw : wfFrame f) (h : WrAt w bw bs) (hs : szFrame f ≤ 4194304) (hlen : bs.length + 10 * szFrame f ≤ 1073741824) :
    Calls Try.prog 80 #[.pointer (some ⟨bw, 0, none⟩), .agg #[.int .i64 f.pc, vl, vs]] w fun e w' => e = .returned (.tuple #[]) ∧ WrAt w' bw (bs ++ encFrame f) ∧ Wrote w w' bw := by
  unfold szFrame at hs hlen
  have HL := hide hl
  have HS := hide hst
  have hW := h.alloc (.cells #[.int .i64 f.pc, vl, vs] 103)
  have hwr := (Wrote.refl w bw).alloc (Nat.le_of_lt h.lt) (.cells #[.int .i64 f.pc, vl, vs] 103)
  have hB := Blk.new w #[.int .i64 f.pc, vl, vs] 103
  obtain ⟨la, _, _, lcap, rfl, _⟩ := hl
  obtain ⟨sa, _, _, scap, rfl, _⟩ := hst
  have n1 := encN_len f.pc
  have n2 := encTs_len f.locals
  have n3 := encN_len (f.stack.length : Int)
  go_enter Try.func80, Try.ntmps80
  go_wp2_with fail
  generalize w.alloc _ = W at *
  have HB := hide hB
  have HWR := hide hwr
  clear hB hwr h
  refine Calls.mono (wr_number f.pc _ bw _ hw.1 hW (by omega)) ?_
  rintro e w1 ⟨rfl, hW1, hwr1⟩
  have hB1 := hwr1.boxes _ _ _ (by decide) (by decide) (unhide HB)
  obtain ⟨c0, c1, c2⟩ := blk3 hB1
  have HWR1 := hide ((unhide HWR).trans hwr1)
  have HB1 := hide hB1
  clear HB HWR hB1 hwr1 hW
  go_wp2_with fail
  refine Calls.mono (wr_types f.locals _ w0 _ bw _ (unhide HL) ((unhide HWR1).from h0 hw0) hw0 hw.2.1 hW1 (by omega) (by rw [List.length_append]; omega)) ?_
  rintro e w2 ⟨rfl, hW2, hwr2⟩
  have hB2 := hwr2.boxes _ _ _ (by decide) (by decide) (unhide HB1)
  obtain ⟨d0, d1, d2⟩ := blk3 hB2
  have HWR2 := hide ((unhide HWR1).trans hwr2)
  have HB2 := hide hB2
  clear HB1 HWR1 hB2 hwr2 hW1 c0 c1 c2
  go_wp2_with fail
  refine Calls.mono (wr_number f.stack.length _ bw _ ⟨by omega, by omega⟩ hW2 (by simp only [List.length_append]; omega)) ?_
  rintro e w3 ⟨rfl, hW3, hwr3⟩
  have hB3 := hwr3.boxes _ _ _ (by decide) (by decide) (unhide HB2)
  obtain ⟨e0, e1, e2⟩ := blk3 hB3
  have HWR3 := hide ((unhide HWR2).trans hwr3)
  clear HB2 HWR2 hB3 hwr3 hW2 d0 d1 d2
  go_wp2_with fail
  refine Calls.mono (wr_types f.stack _ w0 _ bw _ (unhide HS) ((unhide HWR3).from h0 hw0) hw0 hw.2.2 hW3 (by omega) (by simp only [List.length_append]; omega)) ?_
  rintro e w4 ⟨rfl, hW4, hwr4⟩
  go_wp2_with fail
  go_end0
  exact ⟨rfl, app_eq hW4 (by unfold encFrame; simp only [List.append_assoc]), (unhide HWR3).trans hwr4⟩
end Go.Proofs.Ytiiokkllmchohaa
/- The code's writer: methods. -/
namespace Go.Proofs.Ytiiokkllmchohaa
open Go.RowKit
attribute [local go_sem ↓] Go.wp_at_zero Go.wp_at_succ

/-- On the way: from w on the bytes acc were written, at most L of them; the box B is as it was. -/
structure WSt (w wi : World) (bw B : Nat) (t : TypeId) (cs : List Value) (bs acc : List UInt8) (L : Nat) : Prop where
  wrote_at : WrAt wi bw (bs ++ acc)
  wr : Wrote w wi bw
  box : Blk wi B t cs
  len : (bs ++ acc).length ≤ bs.length + L
theorem WSt.step {w wi w' : World} {bw B : Nat} {t : TypeId} {cs : List Value} {bs acc e : List UInt8} {L n : Nat} (h : WSt w wi bw B t cs bs acc L) (h1 : t ≠ 75) (h2 : t ≠ 5) (hW : WrAt w' bw (bs ++ acc ++ e)) (hwr : Wrote wi w' bw) (he : e.length ≤ n) : WSt w w' bw B t cs bs (acc ++ e) (L + n) :=
  ⟨app_eq hW (List.append_assoc _ _ _), h.wr.trans hwr, hwr.boxes _ _ _ h1 h2 h.box, by rw [← List.append_assoc, List.length_append]; have := h.len; omega⟩
theorem WSt.alloc {w wi : World} {bw B : Nat} {t : TypeId} {cs : List Value} {bs acc : List UInt8} {L : Nat} (h : WSt w wi bw B t cs bs acc L) (o : Obj) : WSt w (wi.alloc o) bw B t cs bs acc L :=
  ⟨h.wrote_at.alloc o, h.wr.alloc (Nat.le_of_lt h.wrote_at.lt) o, h.box.alloc o, h.len⟩
theorem WSt.start {w : World} {bw : Nat} {bs : List UInt8} (h : WrAt w bw bs) (cs : Array Value) (t : TypeId) : WSt w (w.alloc (.cells cs t)) bw w.heap.size t cs.toList bs [] 0 :=
  ⟨by rw [List.append_nil]; exact h.alloc _, (Wrote.refl w bw).alloc (Nat.le_of_lt h.lt) _, Blk.new w cs t, by rw [List.append_nil]; omega⟩

set_option maxHeartbeats 2000000 in
set_option maxRecDepth 100000 in
theorem wr_method (m : LMeth) (va vcd vfr : Value) (w0 w : World) (bw : Nat) (bs : List UInt8) (hm : MVals w0 m va vcd vfr) (h0 : Below w0.heap.size w0 w) (hw0 : w0.heap.size ≤ bw) (hw : wfMeth m) (h : WrAt w bw bs) (hs : szMeth m ≤ 4194304) (hlen : bs.length + 10 * szMeth m ≤ 1073741824) :
    Calls Try.prog 58 #[.pointer (some ⟨bw, 0, none⟩), methV m va vcd vfr] w fun e w' => e = .returned (.tuple #[]) ∧ WrAt w' bw (bs ++ encMeth m) ∧ Wrote w w' bw := by
  have HMV := hide hm
  have HSZ := hide (show m.args.length + 4 * m.code.length + (m.frames.map szFrame).sum + 8 = szMeth m from rfl)
  have hal : m.args.length ≤ 4194304 := by have := unhide HSZ; omega
  have hcl : m.code.length ≤ 4194304 := by have := unhide HSZ; omega
  have hfl : m.frames.length ≤ 4194304 := Nat.le_trans (szFrames_le m) hs
  have hlen' : bs.length + 10 * m.args.length + 40 * m.code.length + 10 * (m.frames.map szFrame).sum + 80 ≤ 1073741824 := by have := unhide HSZ; omega
  clear HSZ
  obtain ⟨⟨aa, _, _, acap, rfl, _⟩, hc, hf⟩ := hm
  obtain ⟨ca, cb, coff, ccap, rfl, _, hca, hc0, hc1, hc2⟩ := code_open hc
  obtain ⟨fa, fb, foff, fcap, rfl, _, hfa, hfr⟩ := sl_open hf
  have H0 := hide hc0
  have H1 := hide hc1
  have H2 := hide hc2
  have HFR := hide hfr
  clear hc0 hc1 hc2 hc hfr hf
  unfold methV
  have S0 := hide (WSt.start h #[.int .i64 m.slot, .slice aa m.args.length acap, .int .i64 m.ret, .int .i64 m.locals, .int .i64 m.stack, .slice ca m.code.length ccap, .slice fa m.frames.length fcap] 58)
  go_enter Try.func58, Try.ntmps58
  go_wp2_with fail
  generalize w.alloc _ = W at *
  refine Calls.mono (wr_number m.slot _ bw _ hw.1 (unhide S0).wrote_at (by have := (unhide S0).len; omega)) ?_
  rintro e w1 ⟨rfl, hW, hwr⟩
  have S1 := hide ((unhide S0).step (by decide) (by decide) hW hwr (encN_len _))
  clear hW hwr S0
  obtain ⟨c0, c1, c2, c3, c4, c5, c6⟩ := And.left (blk7 (unhide S1).box)
  go_wp2_with fail
  clear c0 c1 c2 c3 c4 c5 c6
  refine Calls.mono (wr_number (m.args.length : Int) _ bw _ ⟨by omega, by omega⟩ (unhide S1).wrote_at (by have := (unhide S1).len; omega)) ?_
  rintro e w2 ⟨rfl, hW, hwr⟩
  have S2 := hide ((unhide S1).step (by decide) (by decide) hW hwr (encN_len _))
  clear hW hwr S1
  obtain ⟨c0, c1, c2, c3, c4, c5, c6⟩ := And.left (blk7 (unhide S2).box)
  go_wp2_with fail
  clear c0 c1 c2 c3 c4 c5 c6
  refine Calls.mono (wr_types m.args _ w0 _ bw _ (unhide HMV).1 ((unhide S2).wr.from h0 hw0) hw0 hw.2.1 (unhide S2).wrote_at (by omega) (by have := (unhide S2).len; omega)) ?_
  rintro e w3 ⟨rfl, hW, hwr⟩
  have S3 := hide ((unhide S2).step (by decide) (by decide) hW hwr (encTs_len _))
  clear hW hwr S2
  obtain ⟨c0, c1, c2, c3, c4, c5, c6⟩ := And.left (blk7 (unhide S3).box)
  go_wp2_with fail
  clear c0 c1 c2 c3 c4 c5 c6
  refine Calls.mono (wr_number m.ret _ bw _ hw.2.2.1 (unhide S3).wrote_at (by have := (unhide S3).len; omega)) ?_
  rintro e w4 ⟨rfl, hW, hwr⟩
  have S4 := hide ((unhide S3).step (by decide) (by decide) hW hwr (encN_len _))
  clear hW hwr S3
  obtain ⟨c0, c1, c2, c3, c4, c5, c6⟩ := And.left (blk7 (unhide S4).box)
  go_wp2_with fail
  clear c0 c1 c2 c3 c4 c5 c6
  refine Calls.mono (wr_number m.locals _ bw _ hw.2.2.2.1 (unhide S4).wrote_at (by have := (unhide S4).len; omega)) ?_
  rintro e w5 ⟨rfl, hW, hwr⟩
  have S5 := hide ((unhide S4).step (by decide) (by decide) hW hwr (encN_len _))
  clear hW hwr S4
  obtain ⟨c0, c1, c2, c3, c4, c5, c6⟩ := And.left (blk7 (unhide S5).box)
  go_wp2_with fail
  clear c0 c1 c2 c3 c4 c5 c6
  refine Calls.mono (wr_number m.stack _ bw _ hw.2.2.2.2.1 (unhide S5).wrote_at (by have := (unhide S5).len; omega)) ?_
  rintro e w6 ⟨rfl, hW, hwr⟩
  have S6 := hide ((unhide S5).step (by decide) (by decide) hW hwr (encN_len _))
  clear hW hwr S5
  obtain ⟨c0, c1, c2, c3, c4, c5, c6⟩ := And.left (blk7 (unhide S6).box)
  go_wp2_with fail
  clear c0 c1 c2 c3 c4 c5 c6
  refine Calls.mono (wr_number (m.code.length : Int) _ bw _ ⟨by omega, by omega⟩ (unhide S6).wrote_at (by have := (unhide S6).len; omega)) ?_
  rintro e w7 ⟨rfl, hW, hwr⟩
  have S7 := hide ((unhide S6).step (by decide) (by decide) hW hwr (encN_len _))
  clear hW hwr S6
  obtain ⟨c0, c1, c2, c3, c4, c5, c6⟩ := And.left (blk7 (unhide S7).box)
  go_wp2_with fail
  have HEAD := hide (show [] ++ encN m.slot ++ encN (m.args.length : Int) ++ encTs m.args ++ encN m.ret ++ encN m.locals ++ encN m.stack ++ encN (m.code.length : Int) = encHead m from rfl)
  have hhl := encHead_len m
  rw [unhide HEAD] at S7
  clear HEAD
  go_loopw [41] (fun s wr => ∃ k : Nat, k ≤ m.code.length ∧ s = .int .i64 k ∧ WSt w wr bw w.heap.size 58 [.int .i64 m.slot, .slice aa m.args.length acap, .int .i64 m.ret, .int .i64 m.locals, .int .i64 m.stack, .slice ca m.code.length ccap, .slice fa m.frames.length fcap] bs (encHead m ++ (m.code.take k).flatMap encIns) (10 * m.args.length + 60 + 30 * k)) (fun s _ => m.code.length - (intOf s).toNat)
  case atStart => exact ⟨0, Nat.zero_le _, rfl, by simpa using ⟨(unhide S7).wrote_at, (unhide S7).wr, (unhide S7).box, by rw [List.length_append]; omega⟩⟩
  case round =>
    obtain ⟨k, hk, rfl, hSt⟩ := hrel
    have ST := hide hSt
    clear hSt
    clear c0 c1 c2 c3 c4 c5 c6
    by_cases hlt : k < m.code.length
    · obtain rfl := hca (ne_nil_of_lt hlt)
      have hkf := Keeps.of_below ((unhide ST).wr.from h0 hw0)
      have c0 := hkf _ _ (unhide H0 k hlt)
      have c1 := hkf _ _ (unhide H1 k hlt)
      have c2 := hkf _ _ (unhide H2 k hlt)
      have hwi := hw.2.2.2.2.2.1 _ (List.getElem_mem hlt)
      have HAC := hide (show encHead m ++ (m.code.take k).flatMap encIns ++ encN m.code[k].op ++ encN m.code[k].a ++ encN m.code[k].b = encHead m ++ (m.code.take (k + 1)).flatMap encIns by
        rw [List.take_add_one, List.getElem?_eq_getElem hlt, List.flatMap_append]; simp [encIns])
      generalize m.code[k] = i at *
      have hltb := cell_lt c0
      have T0 := hide ((unhide ST).alloc (.cells #[.int .i64 i.op, .int .i64 i.a, .int .i64 i.b] 54))
      have I0 := hide (Blk.new wr #[.int .i64 i.op, .int .i64 i.a, .int .i64 i.b] 54)
      clear hkf ST
      go_wp2_with fail
      obtain ⟨wo, rfl⟩ : ∃ wo : World, wo = wr := ⟨_, rfl⟩
      generalize wo.alloc _ = Z at *
      clear c0 c1 c2
      refine Calls.mono (wr_number i.op _ bw _ hwi.1 (unhide T0).wrote_at (by have := (unhide T0).len; omega)) ?_
      rintro e z1 ⟨rfl, hW, hwr⟩
      have T1 := hide ((unhide T0).step (by decide) (by decide) hW hwr (encN_len _))
      have I1 := hide (hwr.boxes _ _ _ (by decide) (by decide) (unhide I0))
      obtain ⟨c0, c1, c2⟩ := blk3 (unhide I1)
      clear hW hwr T0 I0
      go_wp2_with fail
      clear c0 c1 c2
      refine Calls.mono (wr_number i.a _ bw _ hwi.2.1 (unhide T1).wrote_at (by have := (unhide T1).len; omega)) ?_
      rintro e z2 ⟨rfl, hW, hwr⟩
      have T2 := hide ((unhide T1).step (by decide) (by decide) hW hwr (encN_len _))
      have I2 := hide (hwr.boxes _ _ _ (by decide) (by decide) (unhide I1))
      obtain ⟨c0, c1, c2⟩ := blk3 (unhide I2)
      clear hW hwr T1 I1
      go_wp2_with fail
      clear c0 c1 c2
      refine Calls.mono (wr_number i.b _ bw _ hwi.2.2 (unhide T2).wrote_at (by have := (unhide T2).len; omega)) ?_
      rintro e z3 ⟨rfl, hW, hwr⟩
      have T3 := hide ((unhide T2).step (by decide) (by decide) hW hwr (encN_len _))
      clear hW hwr T2 I2
      rw [unhide HAC] at T3
      go_wp2_with fail
      exact ⟨⟨k + 1, by omega, by go_num, ⟨(unhide T3).wrote_at, (unhide T3).wr, (unhide T3).box, by have := (unhide T3).len; omega⟩⟩, by simp [intOf]; omega⟩
    · obtain rfl : k = m.code.length := by omega
      rw [List.take_length] at ST
      obtain ⟨c0, c1, c2, c3, c4, c5, c6⟩ := And.left (blk7 (unhide ST).box)
      go_wp2_with fail
      clear c0 c1 c2 c3 c4 c5 c6
      refine Calls.mono (wr_number (m.frames.length : Int) _ bw _ ⟨by omega, by omega⟩ (unhide ST).wrote_at (by have := (unhide ST).len; omega)) ?_
      rintro e w8 ⟨rfl, hW, hwr⟩
      have S8 := hide ((unhide ST).step (by decide) (by decide) hW hwr (encN_len _))
      obtain ⟨c0, c1, c2, c3, c4, c5, c6⟩ := And.left (blk7 (unhide S8).box)
      clear hW hwr ST
      go_wp2_with fail
      clear c0 c1 c2 c3 c4 c5 c6
      go_loopw [66] (fun s wr => ∃ k : Nat, k ≤ m.frames.length ∧ s = .int .i64 k ∧ WSt w wr bw w.heap.size 58 [.int .i64 m.slot, .slice aa m.args.length acap, .int .i64 m.ret, .int .i64 m.locals, .int .i64 m.stack, .slice ca m.code.length ccap, .slice fa m.frames.length fcap] bs (encHead m ++ m.code.flatMap encIns ++ encN (m.frames.length : Int) ++ (m.frames.take k).flatMap encFrame) (10 * m.args.length + 60 + 30 * m.code.length + 10 + 10 * ((m.frames.take k).map szFrame).sum)) (fun s _ => m.frames.length - (intOf s).toNat)
      case atStart => exact ⟨0, Nat.zero_le _, rfl, by simpa using unhide S8⟩
      case round =>
        obtain ⟨k, hk, rfl, hSt⟩ := hrel
        have ST := hide hSt
        clear hSt S8
        by_cases hlt : k < m.frames.length
        · obtain rfl := hfa (ne_nil_of_lt hlt)
          obtain ⟨vl, vs, d0, d1, d2, hl, hst⟩ := unhide HFR k hlt
          have hkf := Keeps.of_below ((unhide ST).wr.from h0 hw0)
          have c0 := hkf _ _ d0
          have c1 := hkf _ _ d1
          have c2 := hkf _ _ d2
          have hwk := hw.2.2.2.2.2.2 _ (List.getElem_mem hlt)
          have hfz : szFrame m.frames[k] ≤ 4194304 := Nat.le_trans (szFrame_le (List.getElem_mem hlt)) hs
          have HAC := hide (show encHead m ++ m.code.flatMap encIns ++ encN (m.frames.length : Int) ++ (m.frames.take k).flatMap encFrame ++ encFrame m.frames[k] = encHead m ++ m.code.flatMap encIns ++ encN (m.frames.length : Int) ++ (m.frames.take (k + 1)).flatMap encFrame by
            rw [List.take_add_one, List.getElem?_eq_getElem hlt, List.flatMap_append]; simp)
          have HSU := hide (show ((m.frames.take (k + 1)).map szFrame).sum = ((m.frames.take k).map szFrame).sum + szFrame m.frames[k] by
            rw [List.take_add_one, List.getElem?_eq_getElem hlt, List.map_append, List.sum_append]; simp)
          have hsle := sum_take_le szFrame (k + 1) m.frames
          rw [unhide HSU] at hsle
          have HFL := hide (encFrame_len m.frames[k])
          generalize m.frames[k] = f at *
          have HL := hide hl
          have HST := hide hst
          obtain ⟨la, _, _, lcap, rfl, _⟩ := hl
          obtain ⟨sa, _, _, scap, rfl, _⟩ := hst
          have hltb := cell_lt c0
          have T0 := hide ((unhide ST).alloc (.cells #[.int .i64 f.pc, .slice la f.locals.length lcap, .slice sa f.stack.length scap] 103))
          clear hkf ST d0 d1 d2
          go_wp2_with fail
          generalize wr.alloc _ = Z at *
          clear c0 c1 c2
          refine Calls.mono (wr_frame f _ _ w0 _ bw _ (unhide HL) (unhide HST) ((unhide T0).wr.from h0 hw0) hw0 hwk (unhide T0).wrote_at hfz (by have := (unhide T0).len; omega)) ?_
          rintro e z1 ⟨rfl, hW, hwr⟩
          have T1 := hide ((unhide T0).step (by decide) (by decide) hW hwr (unhide HFL))
          clear hW hwr T0
          rw [unhide HAC] at T1
          go_wp2_with fail
          exact ⟨⟨k + 1, by omega, by go_num, ⟨(unhide T1).wrote_at, (unhide T1).wr, (unhide T1).box, by have := (unhide T1).len; have := unhide HSU; omega⟩⟩, by simp [intOf]; omega⟩
        · go_wp2
          go_end0
          refine ⟨rfl, app_eq (unhide ST).wrote_at ?_, (unhide ST).wr⟩
          rw [List.take_of_length_le (by omega)]
          rfl
end Go.Proofs.Ytiiokkllmchohaa
