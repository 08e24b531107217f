/- The code's writer: its state, and the walk that writes a number. -/
import Derived.Laws.DeepNot64
import Derived.Defers
import Derived.Recover
import Derived.Test.YtiiokkllmchohaaGreatT01
import Derived.Test.YtiiokkllmchohaaGreatT05
import Derived.Test.YtiiokkllmchohaaGreatT06
import Derived.Test.YtiiokkllmchohaaGreatT07
/- WriteA -/
namespace Go.Proofs.YtiiokkllmchohaaGreat
open Go.RowKit
attribute [local go_sem ↓] Go.wp_at_zero Go.wp_at_succ

def byteV (b : UInt8) : Value := .int .u8 (b.toNat : Int)
def WrAt (w : World) (bw : Nat) (bs : List UInt8) : Prop := ∃ vb, Blk w bw 115 [vb] ∧ w.ownsRow (bw + 1) 5 1 vb bs.length (bs.map byteV)
structure Wrote (w w' : World) (bw : Nat) : Prop where
 below : Below bw w w'
 boxes : ∀ k t c, t ≠ 115 → t ≠ 5 → Blk w k t c → Blk w' k t c
theorem Wrote.refl (w : World) (bw : Nat) : Wrote w w bw := ⟨Below.refl _ _, fun _ _ _ _ _ h => h⟩
theorem Wrote.trans {a b c : World} {bw : Nat} (h : Wrote a b bw) (k : Wrote b c bw) : Wrote a c bw := ⟨h.below.trans k.below, fun i t cs h1 h2 hb => k.boxes i t cs h1 h2 (h.boxes i t cs h1 h2 hb)⟩
theorem Wrote.alloc {a b : World} {bw : Nat} (h : Wrote a b bw) (hb : bw ≤ b.heap.size) (o : Obj) : Wrote a (b.alloc o) bw := ⟨h.below.alloc hb o, fun i t cs h1 h2 hk => (h.boxes i t cs h1 h2 hk).alloc o⟩
theorem WrAt.alloc {w : World} {bw : Nat} {bs : List UInt8} (h : WrAt w bw bs) (o : Obj) : WrAt (w.alloc o) bw bs := by
 obtain ⟨vb, h1, h2⟩ := h
 exact ⟨vb, h1.alloc o, own_mods h2 ((Mods.refl (fun _ => False) w).alloc o) (fun _ _ f => f)⟩
theorem WrAt.lt {w : World} {bw : Nat} {bs : List UInt8} (h : WrAt w bw bs) : bw < w.heap.size := by
 obtain ⟨vb, h1, h2⟩ := h; exact h1.lt
theorem infoByte : (Tryz.prog.info? 5).map (fun i => (i.zero, i.size, i.bytes)) = some (some (.int .u8 0), 1, 1) := by kernel_rfl

theorem wr_push {w : World} {bw : Nat} {bs : List UInt8} {vb : Value} (hb : Blk w bw 115 [vb]) (hrow : w.ownsRow (bw + 1) 5 1 vb bs.length (bs.map byteV)) (x : UInt8) (xv : Int) (hxv : xv = (x.toNat : Int)) (hlen : bs.length + 1 ≤ 1073741824) :
  ∃ v' w', (Builtin.append_ #[32, 32] 32 #[vb, .slice (some ⟨w.heap.size, 0, none⟩) 1 1]).run Tryz.prog (w.alloc (.cells #[.int .u8 xv] 5)) = .ok v' w' ∧
   w'.cell? ⟨bw, 0, none⟩ = some vb ∧ w'.frozen? ⟨bw, 0, none⟩ = false ∧ (∃ a cap, v' = .slice a (bs.length + 1) cap) ∧
   WrAt (w'.setCell ⟨bw, 0, none⟩ v') bw (bs ++ [x]) ∧ Wrote w (w'.setCell ⟨bw, 0, none⟩ v') bw := by
 subst hxv
 obtain ⟨i0, hi0, hz0, hz1, hz2⟩ := info_parts infoByte
 have hlt := hb.lt
 obtain ⟨v', w', hr, hown, hm, hat⟩ := app_ex (P := Tryz.prog) (W := w) 32 32 5 i0 (.int .u8 0) 1 1 Tryz.underlying32 hi0 hz0 hz1 hz2 rfl (by decide) (bw + 1) vb bs.length (bs.map byteV) hrow #[byteV x] rfl (by simp [byteV, Value.oneCell']) w.heap.size rfl (by unfold maxLen; omega) (by omega) (by omega)
 have hne : ¬ (vb.ownBlock = some bw) := fun e => by have := (hrow.lt bw e).1; omega
 have hb' := hb.mods hm hne
 refine ⟨v', w', hr, hb'.cell 0, hb'.frozen 0, own_form hown, ⟨v', hb'.setCell 0 v', ?_⟩, ?_, ?_⟩
 ·have := own_mods (S := fun k => k = bw) hown ((Mods.refl (fun k => k = bw) w').setCell (p := ⟨bw, 0, none⟩) (fun _ => rfl) v') (fun g e f => by have := (hown.lt g e).1; omega)
  simpa using this
 ·have h2 : Mods (fun k => vb.ownBlock = some k ∨ k = bw) w w' := hm.mono (fun _ _ e => .inl e)
  exact (h2.setCell (p := ⟨bw, 0, none⟩) (fun _ => .inr rfl) v').below (by omega) (fun k hk e => by
   rcases e with e | e
   ·have := (hrow.lt k e).1; omega
   ·omega)
 ·intro k t c h1 h2 hk
  have hk' := hk.mods hm (fun e => by
   obtain ⟨cur, hc⟩ := own_blk hrow e
   exact h2 (hk.uniq hc))
  refine hk'.setCell_ne ?_ v'
  intro e
  have e' : k = bw := e
  subst e'
  exact h1 (hk'.uniq hb')

set_option maxRecDepth 20000 in
theorem u8_high (v : Nat) : bits BinOp.or IntKind.u8 ((v : Int) % 256) 128 = ((UInt8.ofNat (128 + v % 128)).toNat : Int) := by
 have h : ∀ x : Fin 256, (x.val ||| 128) = 128 + x.val % 128 := by decide
 have h1 := h ⟨v % 256, Nat.mod_lt _ (by omega)⟩
 have h2 : ((v : Int) % 256) = ((v % 256 : Nat) : Int) := by omega
 rw [h2]
 have h3 := u8_or_nat (v % 256) 128 (Nat.mod_lt _ (by omega)) (by omega)
 have h4 : ((128 : Nat) : Int) = 128 := rfl
 rw [h4] at h3
 rw [h3, h1, UInt8.toNat_ofNat']
 have : v % 256 % 128 = v % 128 := by omega
 simp only [this]
 omega
theorem u64_not (a : Nat) (ha : a < 18446744073709551616) : bits .xor .u64 IntKind.u64.max (a : Int) = 18446744073709551615 - (a : Int) := by
 show IntKind.u64.wrap ((BitVec.ofInt 64 18446744073709551615 ^^^ BitVec.ofInt 64 (a : Int)).toNat : Int) = _
 have h1 : BitVec.ofInt 64 18446744073709551615 = BitVec.allOnes 64 := by decide
 rw [h1, BitVec.allOnes_xor, BitVec.toNat_not, ofInt_u64 a (by omega)]
 simp [IntKind.wrap, IntKind.bits, IntKind.signed]
 omega
theorem fold_dbl {n : Int} (hn : 0 ≤ n) : n * 2 = (foldZ n : Int) := by
 unfold foldZ; rw [if_neg (by omega)]; omega
theorem fold_neg {n : Int} (h : I64 n) (hn : n < 0) : bits .xor .u64 IntKind.u64.max (IntKind.u64.wrap (IntKind.u64.wrap n * 2)) = (foldZ n : Int) := by
 obtain ⟨h1, h2⟩ := h
 have hst : (foldZ n : Int) = 2 * -(n + 1) + 1 := by unfold foldZ; rw [if_pos hn]; omega
 have e : IntKind.u64.wrap (IntKind.u64.wrap n * 2) = ((2 * n + 18446744073709551616).toNat : Int) := by
  rw [IntKind.wrap_u64, IntKind.wrap_u64]
  omega
 rw [e, u64_not _ (by omega), hst]
 omega

set_option maxHeartbeats 1000000 in
set_option maxRecDepth 100000 in
theorem wr_number (n : Int) (w : World) (bw : Nat) (bs : List UInt8) (hn : I64 n) (h : WrAt w bw bs) (hlen : bs.length + 10 ≤ 1073741824) :
  Calls Tryz.prog 70 #[.pointer (some ⟨bw, 0, none⟩), .int .i64 n] w fun e w' => e = .returned (.tuple #[]) ∧ WrAt w' bw (bs ++ encN n) ∧ Wrote w w' bw := by
 have hf := foldZ_lt hn
 have HI := hide hn
 have HH := hide h
 clear h
 obtain ⟨h1, h2⟩ := hn
 by_cases hneg : n < 0
 all_goals
  go_enter Tryz.func70, Tryz.ntmps70
  go_wp2_with fail
  go_loopw [4] (fun s4 wr => ∃ (v f : Nat) (acc : List UInt8), s4 = .int .u64 v ∧ v < 128 ^ (f + 1) ∧ v < 18446744073709551616 ∧ acc.length + f ≤ 9 ∧ acc ++ encU (f + 1) v = encN n ∧ WrAt wr bw (bs ++ acc) ∧ Wrote w wr bw) (fun s4 _ => (intOf s4).toNat)
  case atStart =>
   first
    | exact ⟨foldZ n, 9, [], by rw [fold_neg (unhide HI) hneg], by omega, hf, by simp, rfl, by rw [List.append_nil]; exact unhide HH, Wrote.refl _ _⟩
    | exact ⟨foldZ n, 9, [], by rw [fold_dbl hneg], by omega, hf, by simp, rfl, by rw [List.append_nil]; exact unhide HH, Wrote.refl _ _⟩
  case round =>
   obtain ⟨v, f, acc, rfl, hv, hv2, hal, he, hW, hwr⟩ := hrel
   have HE := hide he
   have HV := hide hv
   have HWR := hide hwr
   clear he hv hwr
   have hbl : (bs ++ acc).length + 1 ≤ 1073741824 := by rw [List.length_append]; omega
   have HL := hide (List.append_assoc bs acc)
   generalize bs ++ acc = bb at *
   obtain ⟨vb, hB, hrow⟩ := hW
   obtain ⟨va, vcap, rfl⟩ := own_form hrow
   have c0 : wr.cell? ⟨bw, 0, none⟩ = some (.slice va bb.length vcap) := hB.cell 0
   by_cases hlt : v < 128
   ·have hlt' : ¬ (128 : Int) ≤ (v : Int) := by omega
    obtain ⟨v', w', happ, d0, d1, ⟨ya, ycap, rfl⟩, hW', hwr'⟩ := wr_push hB hrow (UInt8.ofNat v) (v : Int) (by rw [UInt8.toNat_ofNat']; omega) hbl
    have HW' := hide hW'
    have HWR' := hide hwr'
    clear hW' hwr' hB hrow
    go_wp2_with (at_builtin; refine wpList_append_run rfl (.tmp 32) (.tmp 35) 32 rfl _ _ rfl rfl happ ?_)
    go_end0
    refine ⟨rfl, ?_, (unhide HWR).trans (unhide HWR')⟩
    have e := unhide HE
    rw [encU_lt hlt] at e
    rw [← e, ← unhide HL]
    exact unhide HW'
   ·have hlt' : (128 : Int) ≤ (v : Int) := by omega
    obtain ⟨v', w', happ, d0, d1, ⟨ya, ycap, rfl⟩, hW', hwr'⟩ := wr_push hB hrow (UInt8.ofNat (128 + v % 128)) (bits BinOp.or IntKind.u8 ((v : Int) % 256) 128) (u8_high v) hbl
    have HW' := hide hW'
    have HWR' := hide hwr'
    clear hW' hwr' hB hrow
    go_wp2_with (at_builtin; refine wpList_append_run rfl (.tmp 18) (.tmp 22) 32 rfl _ _ rfl rfl happ ?_)
    obtain ⟨f', rfl⟩ : ∃ f', f = f' + 1 := by
     cases f with
     | zero => have := unhide HV; simp at this; omega
     | succ f' => exact ⟨f', rfl⟩
    refine ⟨⟨v / 128, f', acc ++ [UInt8.ofNat (128 + v % 128)], by go_num, ?_, by omega, by simp; omega, ?_, ?_, (unhide HWR).trans (unhide HWR')⟩, by simp [intOf]; omega⟩
    ·have := unhide HV
     rw [Nat.pow_succ] at this
     omega
    ·rw [← unhide HE, encU_ge hlt, List.append_assoc]; rfl
    ·rw [← unhide HL]; exact unhide HW'
end Go.Proofs.YtiiokkllmchohaaGreat
/- The code's writer: types, frames, methods. -/
namespace Go.Proofs.YtiiokkllmchohaaGreat
open Go.RowKit
attribute [local go_sem ↓] Go.wp_at_zero Go.wp_at_succ

theorem blk3 {w : World} {b : Nat} {t : TypeId} {a0 a1 a2 : Value} (h : Blk w b t [a0, a1, a2]) : w.cell? ⟨b, 0, none⟩ = some a0 ∧ w.cell? ⟨b, 1, none⟩ = some a1 ∧ w.cell? ⟨b, 2, none⟩ = some a2 := ⟨h.cell 0, h.cell 1, h.cell 2⟩
theorem Wrote.from {w0 w w' : World} {bw : Nat} (h : Wrote w w' bw) (h0 : Below w0.heap.size w0 w) (hw : w0.heap.size ≤ bw) : Below w0.heap.size w0 w' := h0.trans (h.below.mono hw)
theorem app_eq {w : World} {bw : Nat} {a b : List UInt8} (h : WrAt w bw a) (e : a = b) : WrAt w bw b := e ▸ h

set_option maxHeartbeats 1000000 in
set_option maxRecDepth 100000 in
theorem wr_types (l : List Int) (v : Value) (w0 w : World) (bw : Nat) (bs : List UInt8) (hl : SlAt 1 (RInt w0) v l) (h0 : Below w0.heap.size w0 w) (hw0 : w0.heap.size ≤ bw) (hw : ∀ x ∈ l, I64 x) (h : WrAt w bw bs) (_hs : l.length ≤ 4194304) (hlen : bs.length + 10 * l.length ≤ 1073741824) :
  Calls Tryz.prog 133 #[.pointer (some ⟨bw, 0, none⟩), v] w fun e w' => e = .returned (.tuple #[]) ∧ WrAt w' bw (bs ++ encTs l) ∧ Wrote w w' bw := by
 obtain ⟨a, b, off, cap, rfl, hcap, ha, hr⟩ := ints_open hl
 have HR := hide hr
 have HH := hide h
 clear hr h
 go_enter Tryz.func133, Tryz.ntmps133
 go_wp2_with fail
 go_loopw [8] (fun s wr => ∃ k : Nat, k ≤ l.length ∧ s = .int .i64 k ∧ WrAt wr bw (bs ++ encTs (l.take k)) ∧ Wrote w wr bw) (fun s _ => l.length - (intOf s).toNat)
 case atStart => exact ⟨0, Nat.zero_le _, rfl, by simpa [encTs] using unhide HH, Wrote.refl _ _⟩
 case round =>
  obtain ⟨k, hk, rfl, hW, hwr⟩ := hrel
  have HW := hide hW
  have HWR := hide hwr
  clear hW hwr
  by_cases hlt : k < l.length
  ·obtain rfl := ha (ne_nil_of_lt hlt)
   have c0 := Keeps.of_below ((unhide HWR).from h0 hw0) _ _ (unhide HR k hlt)
   have hx := hw _ (List.getElem_mem hlt)
   have HS : Hid (bs ++ encTs (l.take k) ++ encN l[k] = bs ++ encTs (l.take (k + 1))) := by
    show _ = _
    unfold encTs
    rw [List.take_add_one, List.getElem?_eq_getElem hlt, List.flatMap_append, List.append_assoc]; simp
   have hl1 := encTs_len (l.take k)
   rw [List.length_take] at hl1
   have hbl : (bs ++ encTs (l.take k)).length + 10 ≤ 1073741824 := by rw [List.length_append]; omega
   generalize l[k] = x at *
   go_wp2_with fail
   refine Calls.mono (wr_number x _ bw _ hx (unhide HW) hbl) ?_
   rintro e w1 ⟨rfl, hW1, hwr1⟩
   have HW1 := hide hW1
   have HWR1 := hide hwr1
   clear hW1 hwr1
   go_wp2_with fail
   exact ⟨⟨k + 1, by omega, by go_num, app_eq (unhide HW1) (unhide HS), (unhide HWR).trans (unhide HWR1)⟩, by simp [intOf]; omega⟩
  ·go_wp2
   go_end0
   refine ⟨rfl, ?_, unhide HWR⟩
   have := unhide HW
   rwa [List.take_of_length_le (by omega)] at this

set_option maxHeartbeats 1000000 in
set_option maxRecDepth 100000 in
theorem wr_frame (f : LFrame) (vl vs : Value) (w0 w : World) (bw : Nat) (bs : List UInt8) (hl : SlAt 1 (RInt w0) vl f.locals) (hst : SlAt 1 (RInt w0) vs f.stack) (h0 : Below w0.heap.size w0 w) (hw0 : w0.heap.size ≤ bw) (hw : wfFrame f) (h : WrAt w bw bs) (hs : szFrame f ≤ 4194304) (hlen : bs.length + 10 * szFrame f ≤ 1073741824) :
  Calls Tryz.prog 190 #[.pointer (some ⟨bw, 0, none⟩), .agg #[.int .i64 f.pc, vl, vs]] w fun e w' => e = .returned (.tuple #[]) ∧ WrAt w' bw (bs ++ encFrame f) ∧ Wrote w w' bw := by
 unfold szFrame at hs hlen
 have HL := hide hl
 have HS := hide hst
 have hW := h.alloc (.cells #[.int .i64 f.pc, vl, vs] 42)
 have hwr := (Wrote.refl w bw).alloc (Nat.le_of_lt h.lt) (.cells #[.int .i64 f.pc, vl, vs] 42)
 have hB := Blk.new w #[.int .i64 f.pc, vl, vs] 42
 obtain ⟨la, _, _, lcap, rfl, _⟩ := hl
 obtain ⟨sa, _, _, scap, rfl, _⟩ := hst
 have n1 := encN_len f.pc
 have n2 := encTs_len f.locals
 have n3 := encN_len (f.stack.length : Int)
 go_enter Tryz.func190, Tryz.ntmps190
 go_wp2_with fail
 generalize w.alloc _ = W at *
 have HB := hide hB
 have HWR := hide hwr
 clear hB hwr h
 refine Calls.mono (wr_number f.pc _ bw _ hw.1 hW (by omega)) ?_
 rintro e w1 ⟨rfl, hW1, hwr1⟩
 have hB1 := hwr1.boxes _ _ _ (by decide) (by decide) (unhide HB)
 obtain ⟨c0, c1, c2⟩ := blk3 hB1
 have HWR1 := hide ((unhide HWR).trans hwr1)
 have HB1 := hide hB1
 clear HB HWR hB1 hwr1 hW
 go_wp2_with fail
 refine Calls.mono (wr_types f.locals _ w0 _ bw _ (unhide HL) ((unhide HWR1).from h0 hw0) hw0 hw.2.1 hW1 (by omega) (by rw [List.length_append]; omega)) ?_
 rintro e w2 ⟨rfl, hW2, hwr2⟩
 have hB2 := hwr2.boxes _ _ _ (by decide) (by decide) (unhide HB1)
 obtain ⟨d0, d1, d2⟩ := blk3 hB2
 have HWR2 := hide ((unhide HWR1).trans hwr2)
 have HB2 := hide hB2
 clear HB1 HWR1 hB2 hwr2 hW1 c0 c1 c2
 go_wp2_with fail
 refine Calls.mono (wr_number f.stack.length _ bw _ ⟨by omega, by omega⟩ hW2 (by simp only [List.length_append]; omega)) ?_
 rintro e w3 ⟨rfl, hW3, hwr3⟩
 have hB3 := hwr3.boxes _ _ _ (by decide) (by decide) (unhide HB2)
 obtain ⟨e0, e1, e2⟩ := blk3 hB3
 have HWR3 := hide ((unhide HWR2).trans hwr3)
 clear HB2 HWR2 hB3 hwr3 hW2 d0 d1 d2
 go_wp2_with fail
 refine Calls.mono (wr_types f.stack _ w0 _ bw _ (unhide HS) ((unhide HWR3).from h0 hw0) hw0 hw.2.2 hW3 (by omega) (by simp only [List.length_append]; omega)) ?_
 rintro e w4 ⟨rfl, hW4, hwr4⟩
 go_wp2_with fail
 go_end0
 exact ⟨rfl, app_eq hW4 (by unfold encFrame; simp only [List.append_assoc]), (unhide HWR3).trans hwr4⟩
end Go.Proofs.YtiiokkllmchohaaGreat
/- The code's writer: methods. -/
namespace Go.Proofs.YtiiokkllmchohaaGreat
open Go.RowKit
attribute [local go_sem ↓] Go.wp_at_zero Go.wp_at_succ

structure WSt (w wi : World) (bw B : Nat) (t : TypeId) (cs : List Value) (bs acc : List UInt8) (L : Nat) : Prop where
 wrote_at : WrAt wi bw (bs ++ acc)
 wr : Wrote w wi bw
 box : Blk wi B t cs
 len : (bs ++ acc).length ≤ bs.length + L
theorem WSt.step {w wi w' : World} {bw B : Nat} {t : TypeId} {cs : List Value} {bs acc e : List UInt8} {L n : Nat} (h : WSt w wi bw B t cs bs acc L) (h1 : t ≠ 115) (h2 : t ≠ 5) (hW : WrAt w' bw (bs ++ acc ++ e)) (hwr : Wrote wi w' bw) (he : e.length ≤ n) : WSt w w' bw B t cs bs (acc ++ e) (L + n) :=
 ⟨app_eq hW (List.append_assoc _ _ _), h.wr.trans hwr, hwr.boxes _ _ _ h1 h2 h.box, by rw [← List.append_assoc, List.length_append]; have := h.len; omega⟩
theorem WSt.alloc {w wi : World} {bw B : Nat} {t : TypeId} {cs : List Value} {bs acc : List UInt8} {L : Nat} (h : WSt w wi bw B t cs bs acc L) (o : Obj) : WSt w (wi.alloc o) bw B t cs bs acc L :=
 ⟨h.wrote_at.alloc o, h.wr.alloc (Nat.le_of_lt h.wrote_at.lt) o, h.box.alloc o, h.len⟩
theorem WSt.start {w : World} {bw : Nat} {bs : List UInt8} (h : WrAt w bw bs) (cs : Array Value) (t : TypeId) : WSt w (w.alloc (.cells cs t)) bw w.heap.size t cs.toList bs [] 0 :=
 ⟨by rw [List.append_nil]; exact h.alloc _, (Wrote.refl w bw).alloc (Nat.le_of_lt h.lt) _, Blk.new w cs t, by rw [List.append_nil]; omega⟩

set_option maxHeartbeats 2000000 in
set_option maxRecDepth 100000 in
theorem wr_method (m : LMeth) (va vcd vfr : Value) (w0 w : World) (bw : Nat) (bs : List UInt8) (hm : MVals w0 m va vcd vfr) (h0 : Below w0.heap.size w0 w) (hw0 : w0.heap.size ≤ bw) (hw : wfMeth m) (h : WrAt w bw bs) (hs : szMeth m ≤ 4194304) (hlen : bs.length + 10 * szMeth m ≤ 1073741824) :
  Calls Tryz.prog 134 #[.pointer (some ⟨bw, 0, none⟩), methV m va vcd vfr] w fun e w' => e = .returned (.tuple #[]) ∧ WrAt w' bw (bs ++ encMeth m) ∧ Wrote w w' bw := by
 have HMV := hide hm
 have HSZ := hide (show m.args.length + 4 * m.code.length + (m.frames.map szFrame).sum + 8 = szMeth m from rfl)
 have hal : m.args.length ≤ 4194304 := by have := unhide HSZ; omega
 have hcl : m.code.length ≤ 4194304 := by have := unhide HSZ; omega
 have hfl : m.frames.length ≤ 4194304 := Nat.le_trans (szFrames_le m) hs
 have hlen' : bs.length + 10 * m.args.length + 40 * m.code.length + 10 * (m.frames.map szFrame).sum + 80 ≤ 1073741824 := by have := unhide HSZ; omega
 clear HSZ
 obtain ⟨⟨aa, _, _, acap, rfl, _⟩, hc, hf⟩ := hm
 obtain ⟨ca, cb, coff, ccap, rfl, _, hca, hc0, hc1, hc2⟩ := code_open hc
 obtain ⟨fa, fb, foff, fcap, rfl, _, hfa, hfr⟩ := sl_open hf
 have H0 := hide hc0
 have H1 := hide hc1
 have H2 := hide hc2
 have HFR := hide hfr
 clear hc0 hc1 hc2 hc hfr hf
 unfold methV
 have S0 := hide (WSt.start h #[.int .i64 m.slot, .slice aa m.args.length acap, .int .i64 m.ret, .int .i64 m.locals, .int .i64 m.stack, .slice ca m.code.length ccap, .slice fa m.frames.length fcap] 63)
 go_enter Tryz.func134, Tryz.ntmps134
 go_wp2_with fail
 generalize w.alloc _ = W at *
 refine Calls.mono (wr_number m.slot _ bw _ hw.1 (unhide S0).wrote_at (by have := (unhide S0).len; omega)) ?_
 rintro e w1 ⟨rfl, hW, hwr⟩
 have S1 := hide ((unhide S0).step (by decide) (by decide) hW hwr (encN_len _))
 clear hW hwr S0
 obtain ⟨c0, c1, c2, c3, c4, c5, c6⟩ := And.left (blk7 (unhide S1).box)
 go_wp2_with fail
 clear c0 c1 c2 c3 c4 c5 c6
 refine Calls.mono (wr_number (m.args.length : Int) _ bw _ ⟨by omega, by omega⟩ (unhide S1).wrote_at (by have := (unhide S1).len; omega)) ?_
 rintro e w2 ⟨rfl, hW, hwr⟩
 have S2 := hide ((unhide S1).step (by decide) (by decide) hW hwr (encN_len _))
 clear hW hwr S1
 obtain ⟨c0, c1, c2, c3, c4, c5, c6⟩ := And.left (blk7 (unhide S2).box)
 go_wp2_with fail
 clear c0 c1 c2 c3 c4 c5 c6
 refine Calls.mono (wr_types m.args _ w0 _ bw _ (unhide HMV).1 ((unhide S2).wr.from h0 hw0) hw0 hw.2.1 (unhide S2).wrote_at (by omega) (by have := (unhide S2).len; omega)) ?_
 rintro e w3 ⟨rfl, hW, hwr⟩
 have S3 := hide ((unhide S2).step (by decide) (by decide) hW hwr (encTs_len _))
 clear hW hwr S2
 obtain ⟨c0, c1, c2, c3, c4, c5, c6⟩ := And.left (blk7 (unhide S3).box)
 go_wp2_with fail
 clear c0 c1 c2 c3 c4 c5 c6
 refine Calls.mono (wr_number m.ret _ bw _ hw.2.2.1 (unhide S3).wrote_at (by have := (unhide S3).len; omega)) ?_
 rintro e w4 ⟨rfl, hW, hwr⟩
 have S4 := hide ((unhide S3).step (by decide) (by decide) hW hwr (encN_len _))
 clear hW hwr S3
 obtain ⟨c0, c1, c2, c3, c4, c5, c6⟩ := And.left (blk7 (unhide S4).box)
 go_wp2_with fail
 clear c0 c1 c2 c3 c4 c5 c6
 refine Calls.mono (wr_number m.locals _ bw _ hw.2.2.2.1 (unhide S4).wrote_at (by have := (unhide S4).len; omega)) ?_
 rintro e w5 ⟨rfl, hW, hwr⟩
 have S5 := hide ((unhide S4).step (by decide) (by decide) hW hwr (encN_len _))
 clear hW hwr S4
 obtain ⟨c0, c1, c2, c3, c4, c5, c6⟩ := And.left (blk7 (unhide S5).box)
 go_wp2_with fail
 clear c0 c1 c2 c3 c4 c5 c6
 refine Calls.mono (wr_number m.stack _ bw _ hw.2.2.2.2.1 (unhide S5).wrote_at (by have := (unhide S5).len; omega)) ?_
 rintro e w6 ⟨rfl, hW, hwr⟩
 have S6 := hide ((unhide S5).step (by decide) (by decide) hW hwr (encN_len _))
 clear hW hwr S5
 obtain ⟨c0, c1, c2, c3, c4, c5, c6⟩ := And.left (blk7 (unhide S6).box)
 go_wp2_with fail
 clear c0 c1 c2 c3 c4 c5 c6
 refine Calls.mono (wr_number (m.code.length : Int) _ bw _ ⟨by omega, by omega⟩ (unhide S6).wrote_at (by have := (unhide S6).len; omega)) ?_
 rintro e w7 ⟨rfl, hW, hwr⟩
 have S7 := hide ((unhide S6).step (by decide) (by decide) hW hwr (encN_len _))
 clear hW hwr S6
 obtain ⟨c0, c1, c2, c3, c4, c5, c6⟩ := And.left (blk7 (unhide S7).box)
 go_wp2_with fail
 have HEAD := hide (show [] ++ encN m.slot ++ encN (m.args.length : Int) ++ encTs m.args ++ encN m.ret ++ encN m.locals ++ encN m.stack ++ encN (m.code.length : Int) = encHead m from rfl)
 have hhl := encHead_len m
 rw [unhide HEAD] at S7
 clear HEAD
 go_loopw [41] (fun s wr => ∃ k : Nat, k ≤ m.code.length ∧ s = .int .i64 k ∧ WSt w wr bw w.heap.size 63 [.int .i64 m.slot, .slice aa m.args.length acap, .int .i64 m.ret, .int .i64 m.locals, .int .i64 m.stack, .slice ca m.code.length ccap, .slice fa m.frames.length fcap] bs (encHead m ++ (m.code.take k).flatMap encIns) (10 * m.args.length + 60 + 30 * k)) (fun s _ => m.code.length - (intOf s).toNat)
 case atStart => exact ⟨0, Nat.zero_le _, rfl, by simpa using ⟨(unhide S7).wrote_at, (unhide S7).wr, (unhide S7).box, by rw [List.length_append]; omega⟩⟩
 case round =>
  obtain ⟨k, hk, rfl, hSt⟩ := hrel
  have ST := hide hSt
  clear hSt
  clear c0 c1 c2 c3 c4 c5 c6
  by_cases hlt : k < m.code.length
  ·obtain rfl := hca (ne_nil_of_lt hlt)
   have hkf := Keeps.of_below ((unhide ST).wr.from h0 hw0)
   have c0 := hkf _ _ (unhide H0 k hlt)
   have c1 := hkf _ _ (unhide H1 k hlt)
   have c2 := hkf _ _ (unhide H2 k hlt)
   have hwi := hw.2.2.2.2.2.1 _ (List.getElem_mem hlt)
   have HAC := hide (show encHead m ++ (m.code.take k).flatMap encIns ++ encN m.code[k].op ++ encN m.code[k].a ++ encN m.code[k].b = encHead m ++ (m.code.take (k + 1)).flatMap encIns by
    rw [List.take_add_one, List.getElem?_eq_getElem hlt, List.flatMap_append]; simp [encIns])
   generalize m.code[k] = i at *
   have hltb := cell_lt c0
   have T0 := hide ((unhide ST).alloc (.cells #[.int .i64 i.op, .int .i64 i.a, .int .i64 i.b] 60))
   have I0 := hide (Blk.new wr #[.int .i64 i.op, .int .i64 i.a, .int .i64 i.b] 60)
   clear hkf ST
   go_wp2_with fail
   obtain ⟨wo, rfl⟩ : ∃ wo : World, wo = wr := ⟨_, rfl⟩
   generalize wo.alloc _ = Z at *
   clear c0 c1 c2
   refine Calls.mono (wr_number i.op _ bw _ hwi.1 (unhide T0).wrote_at (by have := (unhide T0).len; omega)) ?_
   rintro e z1 ⟨rfl, hW, hwr⟩
   have T1 := hide ((unhide T0).step (by decide) (by decide) hW hwr (encN_len _))
   have I1 := hide (hwr.boxes _ _ _ (by decide) (by decide) (unhide I0))
   obtain ⟨c0, c1, c2⟩ := blk3 (unhide I1)
   clear hW hwr T0 I0
   go_wp2_with fail
   clear c0 c1 c2
   refine Calls.mono (wr_number i.a _ bw _ hwi.2.1 (unhide T1).wrote_at (by have := (unhide T1).len; omega)) ?_
   rintro e z2 ⟨rfl, hW, hwr⟩
   have T2 := hide ((unhide T1).step (by decide) (by decide) hW hwr (encN_len _))
   have I2 := hide (hwr.boxes _ _ _ (by decide) (by decide) (unhide I1))
   obtain ⟨c0, c1, c2⟩ := blk3 (unhide I2)
   clear hW hwr T1 I1
   go_wp2_with fail
   clear c0 c1 c2
   refine Calls.mono (wr_number i.b _ bw _ hwi.2.2 (unhide T2).wrote_at (by have := (unhide T2).len; omega)) ?_
   rintro e z3 ⟨rfl, hW, hwr⟩
   have T3 := hide ((unhide T2).step (by decide) (by decide) hW hwr (encN_len _))
   clear hW hwr T2 I2
   rw [unhide HAC] at T3
   go_wp2_with fail
   exact ⟨⟨k + 1, by omega, by go_num, ⟨(unhide T3).wrote_at, (unhide T3).wr, (unhide T3).box, by have := (unhide T3).len; omega⟩⟩, by simp [intOf]; omega⟩
  ·obtain rfl : k = m.code.length := by omega
   rw [List.take_length] at ST
   obtain ⟨c0, c1, c2, c3, c4, c5, c6⟩ := And.left (blk7 (unhide ST).box)
   go_wp2_with fail
   clear c0 c1 c2 c3 c4 c5 c6
   refine Calls.mono (wr_number (m.frames.length : Int) _ bw _ ⟨by omega, by omega⟩ (unhide ST).wrote_at (by have := (unhide ST).len; omega)) ?_
   rintro e w8 ⟨rfl, hW, hwr⟩
   have S8 := hide ((unhide ST).step (by decide) (by decide) hW hwr (encN_len _))
   obtain ⟨c0, c1, c2, c3, c4, c5, c6⟩ := And.left (blk7 (unhide S8).box)
   clear hW hwr ST
   go_wp2_with fail
   clear c0 c1 c2 c3 c4 c5 c6
   go_loopw [66] (fun s wr => ∃ k : Nat, k ≤ m.frames.length ∧ s = .int .i64 k ∧ WSt w wr bw w.heap.size 63 [.int .i64 m.slot, .slice aa m.args.length acap, .int .i64 m.ret, .int .i64 m.locals, .int .i64 m.stack, .slice ca m.code.length ccap, .slice fa m.frames.length fcap] bs (encHead m ++ m.code.flatMap encIns ++ encN (m.frames.length : Int) ++ (m.frames.take k).flatMap encFrame) (10 * m.args.length + 60 + 30 * m.code.length + 10 + 10 * ((m.frames.take k).map szFrame).sum)) (fun s _ => m.frames.length - (intOf s).toNat)
   case atStart => exact ⟨0, Nat.zero_le _, rfl, by simpa using unhide S8⟩
   case round =>
    obtain ⟨k, hk, rfl, hSt⟩ := hrel
    have ST := hide hSt
    clear hSt S8
    by_cases hlt : k < m.frames.length
    ·obtain rfl := hfa (ne_nil_of_lt hlt)
     obtain ⟨vl, vs, d0, d1, d2, hl, hst⟩ := unhide HFR k hlt
     have hkf := Keeps.of_below ((unhide ST).wr.from h0 hw0)
     have c0 := hkf _ _ d0
     have c1 := hkf _ _ d1
     have c2 := hkf _ _ d2
     have hwk := hw.2.2.2.2.2.2 _ (List.getElem_mem hlt)
     have hfz : szFrame m.frames[k] ≤ 4194304 := Nat.le_trans (szFrame_le (List.getElem_mem hlt)) hs
     have HAC := hide (show encHead m ++ m.code.flatMap encIns ++ encN (m.frames.length : Int) ++ (m.frames.take k).flatMap encFrame ++ encFrame m.frames[k] = encHead m ++ m.code.flatMap encIns ++ encN (m.frames.length : Int) ++ (m.frames.take (k + 1)).flatMap encFrame by
      rw [List.take_add_one, List.getElem?_eq_getElem hlt, List.flatMap_append]; simp)
     have HSU := hide (show ((m.frames.take (k + 1)).map szFrame).sum = ((m.frames.take k).map szFrame).sum + szFrame m.frames[k] by
      rw [List.take_add_one, List.getElem?_eq_getElem hlt, List.map_append, List.sum_append]; simp)
     have hsle := sum_take_le szFrame (k + 1) m.frames
     rw [unhide HSU] at hsle
     have HFL := hide (encFrame_len m.frames[k])
     generalize m.frames[k] = f at *
     have HL := hide hl
     have HST := hide hst
     obtain ⟨la, _, _, lcap, rfl, _⟩ := hl
     obtain ⟨sa, _, _, scap, rfl, _⟩ := hst
     have hltb := cell_lt c0
     have T0 := hide ((unhide ST).alloc (.cells #[.int .i64 f.pc, .slice la f.locals.length lcap, .slice sa f.stack.length scap] 42))
     clear hkf ST d0 d1 d2
     go_wp2_with fail
     generalize wr.alloc _ = Z at *
     clear c0 c1 c2
     refine Calls.mono (wr_frame f _ _ w0 _ bw _ (unhide HL) (unhide HST) ((unhide T0).wr.from h0 hw0) hw0 hwk (unhide T0).wrote_at hfz (by have := (unhide T0).len; omega)) ?_
     rintro e z1 ⟨rfl, hW, hwr⟩
     have T1 := hide ((unhide T0).step (by decide) (by decide) hW hwr (unhide HFL))
     clear hW hwr T0
     rw [unhide HAC] at T1
     go_wp2_with fail
     exact ⟨⟨k + 1, by omega, by go_num, ⟨(unhide T1).wrote_at, (unhide T1).wr, (unhide T1).box, by have := (unhide T1).len; have := unhide HSU; omega⟩⟩, by simp [intOf]; omega⟩
    ·go_wp2
     go_end0
     refine ⟨rfl, app_eq (unhide ST).wrote_at ?_, (unhide ST).wr⟩
     rw [List.take_of_length_le (by omega)]
     rfl
end Go.Proofs.YtiiokkllmchohaaGreat
/- The code's writer: classes, programs; what Encode answers. -/
namespace Go.Proofs.YtiiokkllmchohaaGreat
open Go.RowKit
attribute [local go_sem ↓] Go.wp_at_zero Go.wp_at_succ

theorem take_sum_succ {α : Type} (f : α → Nat) {l : List α} {k : Nat} (h : k < l.length) : ((l.take (k + 1)).map f).sum = ((l.take k).map f).sum + f l[k] := by
 rw [List.take_add_one, List.getElem?_eq_getElem h, List.map_append, List.sum_append]; simp
theorem take_flat_succ {α : Type} (f : α → List UInt8) {l : List α} {k : Nat} (h : k < l.length) : (l.take (k + 1)).flatMap f = (l.take k).flatMap f ++ f l[k] := by
 rw [List.take_add_one, List.getElem?_eq_getElem h, List.flatMap_append]; simp

set_option maxHeartbeats 2000000 in
set_option maxRecDepth 100000 in
theorem wr_class (x : LClass) (vf vm : Value) (w0 w : World) (bw : Nat) (bs : List UInt8) (hf : SlAt 1 (RInt w0) vf x.fields) (hm : SlAt 7 (RMeth w0) vm x.meths) (h0 : Below w0.heap.size w0 w) (hw0 : w0.heap.size ≤ bw) (hw : wfClass x) (h : WrAt w bw bs) (hs : szClass x ≤ 4194304) (hlen : bs.length + 10 * szClass x ≤ 1073741824) :
  Calls Tryz.prog 71 #[.pointer (some ⟨bw, 0, none⟩), .agg #[.int .i64 x.sup, vf, vm]] w fun e w' => e = .returned (.tuple #[]) ∧ WrAt w' bw (bs ++ encClass x) ∧ Wrote w w' bw := by
 have HF := hide hf
 have HSZ := hide (show x.fields.length + (x.meths.map szMeth).sum + 4 = szClass x from rfl)
 have hfl : x.fields.length ≤ 4194304 := Nat.le_trans (szFields_le x) hs
 have hms : x.meths.length ≤ 4194304 := Nat.le_trans (szMeths_le x) hs
 have hlen' : bs.length + 10 * x.fields.length + 10 * (x.meths.map szMeth).sum + 40 ≤ 1073741824 := by have := unhide HSZ; omega
 clear HSZ
 obtain ⟨fa, _, _, fcap, rfl, _⟩ := hf
 obtain ⟨ma, mb, moff, mcap, rfl, _, hma, hmr⟩ := sl_open hm
 have HMR := hide hmr
 clear hmr hm
 have S0 := hide (WSt.start h #[.int .i64 x.sup, .slice fa x.fields.length fcap, .slice ma x.meths.length mcap] 66)
 go_enter Tryz.func71, Tryz.ntmps71
 go_wp2_with fail
 generalize w.alloc _ = W at *
 refine Calls.mono (wr_number x.sup _ bw _ hw.1 (unhide S0).wrote_at (by have := (unhide S0).len; omega)) ?_
 rintro e w1 ⟨rfl, hW, hwr⟩
 have S1 := hide ((unhide S0).step (by decide) (by decide) hW hwr (encN_len _))
 clear hW hwr S0
 obtain ⟨c0, c1, c2⟩ := blk3 (unhide S1).box
 go_wp2_with fail
 clear c0 c1 c2
 refine Calls.mono (wr_number (x.fields.length : Int) _ bw _ (i64_nat hfl) (unhide S1).wrote_at (by have := (unhide S1).len; omega)) ?_
 rintro e w2 ⟨rfl, hW, hwr⟩
 have S2 := hide ((unhide S1).step (by decide) (by decide) hW hwr (encN_len _))
 clear hW hwr S1
 obtain ⟨c0, c1, c2⟩ := blk3 (unhide S2).box
 go_wp2_with fail
 clear c0 c1 c2
 refine Calls.mono (wr_types x.fields _ w0 _ bw _ (unhide HF) ((unhide S2).wr.from h0 hw0) hw0 hw.2.1 (unhide S2).wrote_at hfl (by have := (unhide S2).len; omega)) ?_
 rintro e w3 ⟨rfl, hW, hwr⟩
 have S3 := hide ((unhide S2).step (by decide) (by decide) hW hwr (encTs_len _))
 clear hW hwr S2
 obtain ⟨c0, c1, c2⟩ := blk3 (unhide S3).box
 go_wp2_with fail
 clear c0 c1 c2
 refine Calls.mono (wr_number (x.meths.length : Int) _ bw _ (i64_nat hms) (unhide S3).wrote_at (by have := (unhide S3).len; omega)) ?_
 rintro e w4 ⟨rfl, hW, hwr⟩
 have S4 := hide ((unhide S3).step (by decide) (by decide) hW hwr (encN_len _))
 clear hW hwr S3
 obtain ⟨c0, c1, c2⟩ := blk3 (unhide S4).box
 go_wp2_with fail
 clear c0 c1 c2
 have HEAD := hide (show [] ++ encN x.sup ++ encN (x.fields.length : Int) ++ encTs x.fields ++ encN (x.meths.length : Int) = encCH x from rfl)
 have hhl := encCH_len x
 rw [unhide HEAD] at S4
 clear HEAD
 go_loopw [27] (fun s wr => ∃ k : Nat, k ≤ x.meths.length ∧ s = .int .i64 k ∧ WSt w wr bw w.heap.size 66 [.int .i64 x.sup, .slice fa x.fields.length fcap, .slice ma x.meths.length mcap] bs (encCH x ++ (x.meths.take k).flatMap encMeth) (10 * x.fields.length + 30 + 10 * ((x.meths.take k).map szMeth).sum)) (fun s _ => x.meths.length - (intOf s).toNat)
 case atStart => exact ⟨0, Nat.zero_le _, rfl, by simpa using ⟨(unhide S4).wrote_at, (unhide S4).wr, (unhide S4).box, by rw [List.length_append]; omega⟩⟩
 case round =>
  obtain ⟨k, hk, rfl, hSt⟩ := hrel
  have ST := hide hSt
  clear hSt
  by_cases hlt : k < x.meths.length
  ·obtain rfl := hma (ne_nil_of_lt hlt)
   obtain ⟨va, vcd, vfr, hv, m0, m1, m2, m3, m4, m5, m6⟩ := unhide HMR k hlt
   have hkf := Keeps.of_below ((unhide ST).wr.from h0 hw0)
   replace m0 := hkf _ _ m0
   replace m1 := hkf _ _ m1
   replace m2 := hkf _ _ m2
   replace m3 := hkf _ _ m3
   replace m4 := hkf _ _ m4
   replace m5 := hkf _ _ m5
   replace m6 := hkf _ _ m6
   have hwm := hw.2.2 _ (List.getElem_mem hlt)
   have hml : szMeth x.meths[k] ≤ 4194304 := Nat.le_trans (szMeth_le (List.getElem_mem hlt)) hs
   have HAC := hide (take_flat_succ encMeth hlt)
   have HSU := hide (take_sum_succ szMeth hlt)
   have hsle := sum_take_le szMeth (k + 1) x.meths
   rw [unhide HSU] at hsle
   have HFL := hide (encMeth_len x.meths[k])
   generalize x.meths[k] = m at *
   have HV := hide hv
   obtain ⟨aa, _, _, acap, rfl, _⟩ := hv.1
   obtain ⟨ca, _, _, ccap, rfl, _⟩ := hv.2.1
   obtain ⟨ff, _, _, ffcap, rfl, _⟩ := hv.2.2
   have hltb := cell_lt m0
   have T0 := hide ((unhide ST).alloc (.cells #[.int .i64 m.slot, .slice aa m.args.length acap, .int .i64 m.ret, .int .i64 m.locals, .int .i64 m.stack, .slice ca m.code.length ccap, .slice ff m.frames.length ffcap] 63))
   clear hkf ST hv
   go_wp2_with fail
   generalize wr.alloc _ = Z at *
   clear m0 m1 m2 m3 m4 m5 m6
   refine Calls.mono (wr_method m _ _ _ w0 _ bw _ (unhide HV) ((unhide T0).wr.from h0 hw0) hw0 hwm (unhide T0).wrote_at hml (by have := (unhide T0).len; omega)) ?_
   rintro e z1 ⟨rfl, hW, hwr⟩
   have T1 := hide ((unhide T0).step (by decide) (by decide) hW hwr (unhide HFL))
   clear hW hwr T0
   go_wp2_with fail
   refine ⟨⟨k + 1, by omega, by go_num, ?_⟩, by simp [intOf]; omega⟩
   rw [unhide HAC, unhide HSU, ← List.append_assoc]
   exact ⟨(unhide T1).wrote_at, (unhide T1).wr, (unhide T1).box, by have := (unhide T1).len; omega⟩
  ·go_wp2
   go_end0
   refine ⟨rfl, app_eq (unhide ST).wrote_at ?_, (unhide ST).wr⟩
   rw [List.take_of_length_le (by omega)]
   rfl

theorem encN_ne (n : Int) : encN n ≠ [] := by
 unfold encN
 rw [encU]
 split <;> simp
theorem push_all : ∀ (bs : List UInt8) (r : ByteArray), (bs.map fun b => (b.toNat : Int)).foldl (fun r n => r.push (UInt8.ofNat n.toNat)) r = ⟨(r.data.toList ++ bs).toArray⟩
 | [], r => by simp
 | b :: l, r => by
  rw [List.map_cons, List.foldl_cons, push_all l]
  congr 1
  simp [ByteArray.push]
theorem conv_bytes {w : World} {base : Nat} {vb : Value} {bs : List UInt8} (h : w.ownsRow base 5 1 vb bs.length (bs.map byteV)) (hne : bs ≠ []) : (convert 32 9 vb).run Tryz.prog w = .ok (.string ⟨bs.toArray⟩) w := by
 rcases h.2 with ⟨rfl, h0⟩ | ⟨g, cap, cur, rfl, hb, hg, hnc, hcm, hcs, htk⟩
 ·exact absurd (List.eq_nil_of_length_eq_zero h0) hne
 ·rw [run_convert_bytes_string _ _ _ 5 _ _ _ Tryz.underlying32 Tryz.underlying5 Tryz.underlying9]
  have hl := run_loadCells_list (P := Tryz.prog) w ⟨g, 0, none⟩ (bs.map byteV) (fun j v hj => by
   rw [← htk, List.getElem?_take] at hj
   split at hj
   ·rw [show (⟨g, 0, none⟩ : Addr).add j = ⟨g, j, none⟩ by unfold Addr.add; split <;> simp_all]
    unfold World.cell?
    simp only [hg]
    simpa using hj
   ·cases hj)
  rw [List.length_map] at hl
  rw [run_bytesToString w _ _ _ (bs.map fun b => (b.toNat : Int)) (by rw [List.map_map]; exact hl), push_all]
  rfl

set_option maxHeartbeats 2000000 in
set_option maxRecDepth 100000 in
theorem code_write (p : List LClass) (vc : Value) (w : World) (hp : RProg w vc p) (hwf : wfProg p) (hz : szProg p ≤ 4194304) :
  Calls Tryz.prog 35 #[.agg #[vc]] w fun e w' => e = .returned (.string ⟨(encProg p).toArray⟩) ∧ Below w.heap.size w w' := by
 have hpl : p.length ≤ 4194304 := Nat.le_trans (szProg_len p) hz
 have HSZ := hide (show (p.map szClass).sum = szProg p from rfl)
 obtain ⟨pa, pb, poff, pcap, rfl, _, hpa, hpr⟩ := sl_open hp
 have HPR := hide hpr
 clear hp hpr
 go_enter Tryz.func35, Tryz.ntmps35
 go_wp2_with fail
 generalize hW : (w.alloc _).alloc _ = W
 have hbel : Below w.heap.size w W := by rw [← hW]; exact box2_below _ _ _
 have S0 : Hid (WSt W W (w.heap.size + 1) w.heap.size 24 [.slice pa p.length pcap] [] [] 0) := by
  rw [← hW]
  refine ⟨⟨.slice none 0 0, by simpa using Blk.new (w.alloc (.cells #[.slice pa p.length pcap] 24)) #[.slice none 0 0] 115, World.ownsRow_nil _ _ _ _⟩, Wrote.refl _ _, (Blk.new w #[.slice pa p.length pcap] 24).alloc _, by simp⟩
 clear hW
 have hle : w.heap.size ≤ w.heap.size + 1 := Nat.le_succ _
 refine Calls.mono (wr_number (p.length : Int) _ (w.heap.size + 1) _ (i64_nat hpl) (unhide S0).wrote_at (by simp)) ?_
 rintro e w1 ⟨rfl, hW, hwr⟩
 have S1 := hide ((unhide S0).step (by decide) (by decide) hW hwr (encN_len _))
 clear hW hwr S0
 have c0 : w1.cell? ⟨w.heap.size, 0, none⟩ = some (.slice pa p.length pcap) := (unhide S1).box.cell 0
 go_wp2_with fail
 clear c0
 go_loopw [13] (fun s wr => ∃ k : Nat, k ≤ p.length ∧ s = .int .i64 k ∧ WSt W wr (w.heap.size + 1) w.heap.size 24 [.slice pa p.length pcap] [] (encN (p.length : Int) ++ (p.take k).flatMap encClass) (10 + 10 * ((p.take k).map szClass).sum)) (fun s _ => p.length - (intOf s).toNat)
 case atStart => exact ⟨0, Nat.zero_le _, rfl, by simpa using unhide S1⟩
 case round =>
  obtain ⟨k, hk, rfl, hSt⟩ := hrel
  have ST := hide hSt
  clear hSt
  by_cases hlt : k < p.length
  ·obtain rfl := hpa (ne_nil_of_lt hlt)
   obtain ⟨vf, vm, c0, c1, c2, hf, hm⟩ := unhide HPR k hlt
   have hkf := Keeps.of_below ((unhide ST).wr.from hbel hle)
   replace c0 := hkf _ _ c0
   replace c1 := hkf _ _ c1
   replace c2 := hkf _ _ c2
   have hwx := hwf _ (List.getElem_mem hlt)
   have hxl : szClass p[k] ≤ 4194304 := Nat.le_trans (szClass_le (List.getElem_mem hlt)) hz
   have HAC := hide (take_flat_succ encClass hlt)
   have HSU := hide (take_sum_succ szClass hlt)
   have hsle := sum_take_le szClass (k + 1) p
   rw [unhide HSU, unhide HSZ] at hsle
   have HFL := hide (encClass_len p[k])
   generalize p[k] = x at *
   have HF := hide hf
   have HM := hide hm
   obtain ⟨fa, _, _, fcap, rfl, _⟩ := hf
   obtain ⟨ma, _, _, mcap, rfl, _⟩ := hm
   have hltb := cell_lt c0
   have T0 := hide ((unhide ST).alloc (.cells #[.int .i64 x.sup, .slice fa x.fields.length fcap, .slice ma x.meths.length mcap] 66))
   clear hkf ST
   go_wp2_with fail
   generalize wr.alloc _ = Z at *
   clear c0 c1 c2
   refine Calls.mono (wr_class x _ _ w _ (w.heap.size + 1) _ (unhide HF) (unhide HM) ((unhide T0).wr.from hbel hle) hle hwx (unhide T0).wrote_at hxl (by have := (unhide T0).len; simp only [List.nil_append, List.length_nil] at this ⊢; omega)) ?_
   rintro e z1 ⟨rfl, hW, hwr⟩
   have T1 := hide ((unhide T0).step (by decide) (by decide) hW hwr (unhide HFL))
   clear hW hwr T0
   go_wp2_with fail
   refine ⟨⟨k + 1, by omega, by go_num, ?_⟩, by simp [intOf]; omega⟩
   rw [unhide HAC, unhide HSU, ← List.append_assoc]
   exact ⟨(unhide T1).wrote_at, (unhide T1).wr, (unhide T1).box, by have := (unhide T1).len; omega⟩
  ·have hfin := (unhide ST).wr.from hbel hle
   obtain ⟨vb, hB, hrow⟩ := app_eq (unhide ST).wrote_at (show [] ++ (encN (p.length : Int) ++ (p.take k).flatMap encClass) = encProg p by rw [List.take_of_length_le (by omega)]; rfl)
   have hconv := conv_bytes hrow (fun e => by
    have : encN (p.length : Int) ≠ [] := encN_ne _
    exact this (List.append_eq_nil_iff.1 e).1)
   have c0 : wr.cell? ⟨w.heap.size + 1, 0, none⟩ = some vb := hB.cell 0
   obtain ⟨ba, bcap, rfl⟩ := own_form hrow
   clear ST hB hrow
   go_wp2_with fail
   go_ret
   exact ⟨rfl, hfin⟩

set_option maxHeartbeats 2000000 in
theorem code_encode (p : List LClass) (vc : Value) (w : World) (hp : RProg w vc p) (hwf : wfProg p) (hz : szProg p ≤ 4194304) :
  Calls Tryz.prog 14 #[.agg #[vc]] w fun e w' => e = .returned (.tuple #[.string ⟨(encodeI p).1.toArray⟩, .int .i64 (encodeI p).2]) ∧ Below w.heap.size w w' := by
 have HP := hide hp
 obtain ⟨pa, _, _, pcap, rfl, _⟩ := hp
 go_enter Tryz.func14, Tryz.ntmps14
 go_wp2_with fail
 generalize hW : w.alloc _ = W
 have hbel : Below w.heap.size w W := by rw [← hW]; exact box_below _ _
 have hbox : W.cell? ⟨w.heap.size, 0, none⟩ = some (.slice pa p.length pcap) := by rw [← hW]; exact box_cell _ _ _ 0
 clear hW
 refine Calls.mono (code_check p _ _ (prog_keep (Keeps.of_below hbel) (unhide HP)) hwf hz) ?_
 rintro e w1 ⟨he, hb1⟩
 have b1 := Keeps.of_below hb1 _ _ hbox
 have hf1 := hbel.trans (hb1.mono hbel.size)
 clear hbel hbox hb1
 by_cases hF : formI p = 0
 ·have HE : Hid (encodeI p = (encProg p, 0)) := by show _ = _; unfold encodeI; rw [if_pos hF]
  rw [hF] at he
  subst he
  clear hF
  go_wp2_with fail
  refine Calls.mono (code_write p _ _ (prog_keep (Keeps.of_below hf1) (unhide HP)) hwf hz) ?_
  rintro e w2 ⟨rfl, hb2⟩
  go_wp2_with fail
  go_ret2
  exact ⟨by rw [unhide HE]; rfl, hf1.trans (hb2.mono hf1.size)⟩
 ·have HE : Hid (encodeI p = ([], formI p)) := by show _ = _; unfold encodeI; rw [if_neg hF]
  have hF' : (formI p != 0) = true := by simpa using hF
  subst he
  generalize formI p = fi at *
  go_wp2_with fail
  go_ret2
  exact ⟨by rw [unhide HE]; rfl, hf1⟩
end Go.Proofs.YtiiokkllmchohaaGreat
/- The code's reader: giving up, bytes, numbers. -/
namespace Go.Proofs.YtiiokkllmchohaaGreat
open Go.RowKit
attribute [local go_sem ↓] Go.wp_at_zero Go.wp_at_succ

def refC (why : Int) : List PanicEntry := [{ v := .iface 119 (.agg #[.int .i64 why]), recovered := false }]

set_option maxHeartbeats 400000 in
theorem code_giveUp (why : Int) (w : World) : Calls Tryz.prog 140 #[.int .i64 why] w fun e w' => e = .panicked (refC why) ∧ w' = w := by
 go_enter Tryz.func140, Tryz.ntmps140
 go_wp2
 exact ⟨rfl, rfl, rfl⟩
end Go.Proofs.YtiiokkllmchohaaGreat
/- The code looks whether an instruction fits: what it takes and leaves. -/
namespace Go.Proofs.YtiiokkllmchohaaGreat
open Go.RowKit
attribute [local go_sem ↓] Go.wp_at_zero Go.wp_at_succ

theorem bnone {w w' : World} {S : Nat → Prop} (h : Below w.heap.size w w') : Mods S w w' := (Mods.of_below h).mono (fun i hi e => absurd e (by omega))
theorem aggSt : AggOk Tryz.prog 130 17 := ⟨by kernel_rfl, by kernel_rfl⟩
set_option maxHeartbeats 400000 in
theorem fit_giveUp (w : World) : Calls Tryz.prog 157 #[] w fun e w' => e = .panicked (refC 5) ∧ w' = w := by
 go_enter Tryz.func157, Tryz.ntmps157
 go_wp2_with (go_at_call 140; refine (code_giveUp _ _).mono ?_; rintro e w' ⟨rfl, rfl⟩)
 exact ⟨rfl, rfl, rfl⟩
theorem LkAt.state {w : World} {bl : Nat} {pre : List Value} {s : TSt} (h : LkAt w bl pre s) : ∃ cs, StC s cs ∧ cs.length = 17 ∧ Blk w bl 222 (pre ++ cs) ∧ ∀ j v, cs[j]? = some v → (pre ++ cs)[8 + j]? = some v := by
 obtain ⟨h0, cs, h1, h2⟩ := h
 exact ⟨cs, h1, h1.len, h2, fun j v e => by rw [get_pre h0]; exact e⟩
set_option maxHeartbeats 400000 in
theorem st_setlocal (s : TSt) (i : Nat) (t : Int) (w : World) (bl : Nat) (pre : List Value) (h : LkAt w bl pre s) (hi : i < 8) :
  Calls Tryz.prog 205 #[.pointer (some ⟨bl, 8, none⟩), .int .i64 (i : Int), .int .i64 t] w fun e w' => e = .returned (.tuple #[]) ∧ LkAt w' bl pre (setL s i t) ∧ Mods (fun k => k = bl) w w' := by
 obtain ⟨h0, cs, h1, h2⟩ := h
 have c0 : w.cell? ⟨bl, 8 + i, none⟩ = some (.int .i64 (s.loc.getD i 0)) := by rw [h2.cell, get_pre h0]; exact h1.getLoc hi
 have f0 := h2.frozen (8 + i)
 have Z := h2.setCell (8 + i) (.int .i64 t)
 rw [set_pre h0] at Z
 have HZ := hide Z
 have HZ1 := hide (h1.set i t hi)
 have i0 : (0 : Int) ≤ (i : Int) := by omega
 have i8 : (i : Int) < 8 := by omega
 clear Z h1 h2
 go_enter Tryz.func205, Tryz.ntmps205
 go_wp2_with fail
 go_end0
 exact ⟨rfl, ⟨h0, _, unhide HZ1, unhide HZ⟩, (Mods.refl (fun k => k = bl) w).setCell (p := ⟨bl, 8 + i, none⟩) (fun _ => rfl) _⟩

set_option maxHeartbeats 800000 in
set_option maxRecDepth 100000 in
theorem lk_take (s : TSt) (w : World) (bl : Nat) (pre : List Value) (h : LkAt w bl pre s) :
  Calls Tryz.prog 206 #[.pointer (some ⟨bl, 0, none⟩)] w fun e w' => (∀ x s', takeS s = some (x, s') → e = .returned (.int .i64 x) ∧ LkAt w' bl pre s') ∧ (takeS s = none → e = .panicked (refC 5)) ∧ Mods (fun k => k = bl) w w' := by
 obtain ⟨cs, hS, hl, hB, hg⟩ := h.state
 go_enter Tryz.func206, Tryz.ntmps206
 go_wp2_with (refine wpList_load_blk aggSt hB 8 cs hl hg (.tmp 5) rfl rfl rfl ?_)
 refine Calls.mono (st_height s cs w hS) ?_
 rintro e w1 ⟨rfl, hb1⟩
 have h1 := h.below hb1
 have m1 : Mods (fun k => k = bl) w w1 := bnone hb1
 cases hx : s.stk.getLast? with
 | none =>
  have hn : s.stk.length = 0 := by
   rw [List.getLast?_eq_none_iff] at hx
   rw [hx]; rfl
  have HN : Hid (takeS s = none) := by show _ = _; unfold takeS; rw [hx]; rfl
  rw [hn]
  clear hn hx
  go_wp2_with (go_at_call 157; refine (fit_giveUp _).mono ?_; rintro e w' ⟨rfl, rfl⟩)
  exact ⟨rfl, fun x s' e => (by rw [unhide HN] at e; cases e), fun _ => rfl, m1⟩
 | some x =>
  have hn : ¬ (s.stk.length : Int) = 0 := by
   intro e
   rw [List.eq_nil_of_length_eq_zero (by omega : s.stk.length = 0)] at hx; cases hx
  have hn' : ((s.stk.length : Int) == 0) = false := by simpa using hn
  have HN : Hid (takeS s = some (x, popL' s)) := by show _ = _; unfold takeS; rw [hx]; rfl
  have HX := hide hx
  clear hx hn
  go_wp2_with fail
  refine Calls.mono (st_pop s x w1 bl pre h1 (unhide HX)) ?_
  rintro e w2 ⟨rfl, h2, m2⟩
  go_wp2_with fail
  go_ret
  refine ⟨fun x' s' e => ?_, fun e => (by rw [unhide HN] at e; cases e), m1.trans m2 (fun _ _ e => e)⟩
  rw [unhide HN] at e
  simp only [Option.some.injEq, Prod.mk.injEq] at e
  obtain ⟨rfl, rfl⟩ := e
  exact ⟨rfl, h2⟩
set_option maxHeartbeats 400000 in
theorem fit_known (t : Int) (w : World) : Calls Tryz.prog 203 #[.int .i64 t] w fun e w' => (∀ x, knownS t = some x → e = .returned (.int .i64 x)) ∧ (knownS t = none → e = .panicked (refC 5)) ∧ w' = w := by
 by_cases ht : t = 2
 ·subst ht
  go_enter Tryz.func203, Tryz.ntmps203
  go_wp2_with (go_at_call 157; refine (fit_giveUp _).mono ?_; rintro e w' ⟨rfl, rfl⟩)
  exact ⟨rfl, fun x e => (by simp [knownS] at e), fun _ => rfl, rfl⟩
 ·have ht' : (t == 2) = false := by simpa using ht
  go_enter Tryz.func203, Tryz.ntmps203
  go_wp2_with fail
  go_ret
  refine ⟨fun x e => ?_, fun e => ?_, rfl⟩
  ·simp [knownS, ht] at e; subst e; rfl
  ·simp [knownS, ht] at e
end Go.Proofs.YtiiokkllmchohaaGreat
/- The code looks whether an instruction fits: what it wants, objects, room. -/
namespace Go.Proofs.YtiiokkllmchohaaGreat
open Go.RowKit
attribute [local go_sem ↓] Go.wp_at_zero Go.wp_at_succ

theorem Mods.undrw {S : Nat → Prop} {W w' : World} (h : Mods S W.drew w') : Mods S W w' := ⟨h.os, h.tape, h.output, h.size, h.block⟩
def TyS (n : Nat) (k : Int) (s : TSt) : Prop := (∀ x ∈ s.loc, tyOk n x) ∧ (∀ x ∈ s.stk, tyOk n x) ∧ (s.stk.length : Int) ≤ k
structure LkC (w0 w : World) (bl : Nat) (p : List LClass) (vc : Value) (m : LMeth) (pre : List Value) (s : TSt) : Prop where
 lk : LkAt w bl pre s
 pr : RProg w0 vc p
 b0 : Below w0.heap.size w0 w
 le : w0.heap.size ≤ bl
 p0 : pre[0]? = some vc
 p3 : pre[3]? = some (.int .i64 m.ret)
 p5 : pre[5]? = some (.int .i64 m.stack)
 ty : TyS p.length m.stack s
section
variable {w0 w w' : World} {bl : Nat} {p : List LClass} {vc : Value} {m : LMeth} {pre : List Value} {s s' : TSt}
theorem LkC.next (h : LkC w0 w bl p vc m pre s) (hl : LkAt w' bl pre s') (hm : Mods (fun k => k = bl) w w') (ht : TyS p.length m.stack s') : LkC w0 w' bl p vc m pre s' :=
 have hle := h.le
 ⟨hl, h.pr, h.b0.trans (hm.below h.b0.size (fun k hk e => by omega)), hle, h.p0, h.p3, h.p5, ht⟩
theorem LkC.below (h : LkC w0 w bl p vc m pre s) (hb : Below w.heap.size w w') : LkC w0 w' bl p vc m pre s := h.next (h.lk.below hb) (bnone hb) h.ty
theorem LkC.cell (h : LkC w0 w bl p vc m pre s) {i : Nat} {v : Value} (hi : i < 8) (hv : pre[i]? = some v) : w.cell? ⟨bl, i, none⟩ = some v := by
 obtain ⟨h0, cs, _, h2⟩ := h.lk
 rw [h2.cell, List.getElem?_append_left (by omega)]
 exact hv
theorem LkC.rp (h : LkC w0 w bl p vc m pre s) : RProg w vc p := prog_keep (Keeps.of_below h.b0) h.pr
end
theorem takeS_ty {n : Nat} {k : Int} {s s' : TSt} {x : Int} (h : takeS s = some (x, s')) (ht : TyS n k s) : tyOk n x ∧ TyS n k s' := by
 unfold takeS at h
 cases e : s.stk.getLast? with
 | none => rw [e] at h; cases h
 | some y =>
  rw [e] at h
  simp only [Option.map_some, Option.some.injEq, Prod.mk.injEq] at h
  obtain ⟨rfl, rfl⟩ := h
  exact ⟨ht.2.1 y (List.mem_of_getLast? e), ht.1, fun x hx => ht.2.1 x (List.dropLast_subset _ hx), by have := ht.2.2; simp only [List.length_dropLast]; omega⟩
theorem leaveS_ty {n : Nat} {m : LMeth} {t : Int} {s s' : TSt} (h : leaveS m t s = some s') (ht : TyS n m.stack s) (hx : tyOk n t) : TyS n m.stack s' := by
 unfold leaveS at h
 split at h
 ·cases h
 ·rename_i hne
  cases h
  refine ⟨ht.1, fun x hx' => ?_, ?_⟩
  ·rcases List.mem_append.1 hx' with g | g
   ·exact ht.2.1 x g
   ·rw [List.mem_singleton.1 g]; exact hx
  ·have := ht.2.2
   simp only [List.length_append, List.length_singleton]
   omega

set_option maxHeartbeats 1000000 in
set_option maxRecDepth 100000 in
theorem lk_want (t : Int) (p : List LClass) (vc : Value) (m : LMeth) (s : TSt) (w0 w : World) (bl : Nat) (pre : List Value) (h : LkC w0 w bl p vc m pre s) (hs : SupOk p p.length) (hz : p.length ≤ 4194304) (ht : tyOk p.length t) :
  Calls Tryz.prog 207 #[.pointer (some ⟨bl, 0, none⟩), .int .i64 t] w fun e w' => (∀ s', wantS p t s = some s' → e = .returned (.tuple #[]) ∧ LkC w0 w' bl p vc m pre s') ∧ (wantS p t s = none → e = .panicked (refC 5)) ∧ Mods (fun k => k = bl) w w' := by
 have c0 := h.cell (by omega) h.p0
 have H := hide h
 obtain ⟨va, _, _, vcap, rfl, _⟩ := h.pr
 clear h
 go_enter Tryz.func207, Tryz.ntmps207
 go_wp2_with fail
 refine wp_region_held_drew (S := (fun w' => w'.cell? ⟨bl, 0, none⟩ = some (.slice va p.length vcap))) (by kernel_rfl) ?_ (fun hHeld => ?_)
 ·exact c0
 refine take_x (some 4) 0 rfl rfl ?_
 refine take_x (some 5) 1 rfl rfl ?_
 refine take_x (some 6) 2 rfl rfl ?_
 refine take_x (some 7) 3 rfl rfl ?_
 refine take_x (some 8) 4 rfl rfl ?_
 refine take_x (some 10) 6 rfl rfl ?_
 refine wpAnyH_ready (rs := [5]) (by kernel_rfl) (by simp) ?_
 refine AllReadyH.cons rfl (fun K hK => ?_) AllReadyH.nil
 go_simp
 refine (lk_take s _ bl pre ((unhide H).below ((Below.refl _ _).drew)).lk).mono ?_
 rintro e w1 ⟨h1, h2, m1⟩
 have m1' : Mods (fun k => k = bl) w w1 := m1.undrw
 cases htk : takeS s with
 | none =>
  obtain rfl := h2 htk
  have HN : Hid (wantS p t s = none) := by show _ = _; unfold wantS; rw [htk]; rfl
  clear htk h1 h2
  go_wp2_with fail
  exact ⟨rfl, fun s' e => (by rw [unhide HN] at e; cases e), fun _ => rfl, m1'⟩
 | some y =>
  obtain ⟨x, s1⟩ := y
  obtain ⟨rfl, hl1⟩ := h1 x s1 htk
  have hty := takeS_ty htk (unhide H).ty
  have L1 := (unhide H).next hl1 m1' hty.2
  have HL1 := hide L1
  have hx := hty.1
  have d0 := L1.cell (by omega) L1.p0
  have HW : Hid (wantS p t s = if belowB p x t then some s1 else none) := by show _ = _; unfold wantS; rw [htk]; rfl
  have HM1 := hide m1'
  clear htk h1 h2 hl1 hty m1 m1' L1
  go_wp2_with fail
  refine hK.out _ _ d0 (fun hHeld => ?_)
  clear hK K
  try simp only [Act.put, List.setIfInBounds_toArray, List.set_cons_zero, List.set_cons_succ]
  refine wpAnyH_ready (rs := [7]) (by kernel_rfl) (by simp) ?_
  refine AllReadyH.cons rfl (fun K hK => ?_) AllReadyH.nil
  go_simp
  refine (code_kbelow p _ x t _ (unhide HL1).rp hs hz hx ht).mono ?_
  rintro e w2 ⟨rfl, hb2⟩
  have L2 := hide ((unhide HL1).below hb2)
  have HM2 := hide ((unhide HM1).trans (bnone (S := fun k => k = bl) hb2) (fun _ _ e => e))
  have d2 := (unhide L2).cell (by omega) (unhide L2).p0
  clear hb2
  go_wp2_with fail
  refine hK.out _ _ d2 (fun hHeld => ?_)
  clear hK K
  try simp only [Act.put, List.setIfInBounds_toArray, List.set_cons_zero, List.set_cons_succ]
  refine take_x (some 12) 8 rfl rfl ?_
  refine wpAnyH_done (by kernel_rfl) ?_ _
  cases hq : belowB p x t with
  | false =>
   have HN : Hid (wantS p t s = none) := by show _ = _; rw [unhide HW, hq]; rfl
   clear hq
   go_wp2_with (go_at_call 157; refine (fit_giveUp _).mono ?_; rintro e w' ⟨rfl, rfl⟩)
   exact ⟨rfl, fun s' e => (by rw [unhide HN] at e; cases e), fun _ => rfl, unhide HM2⟩
  | true =>
   have HN : Hid (wantS p t s = some s1) := by show _ = _; rw [unhide HW, hq]; rfl
   clear hq
   go_wp2_with fail
   go_end0
   refine ⟨fun s' e => ?_, fun e => (by rw [unhide HN] at e; cases e), unhide HM2⟩
   rw [unhide HN] at e
   simp only [Option.some.injEq] at e
   subst e
   exact ⟨rfl, unhide L2⟩
set_option maxHeartbeats 1000000 in
set_option maxRecDepth 100000 in
theorem lk_wantobj (p : List LClass) (vc : Value) (m : LMeth) (s : TSt) (w0 w : World) (bl : Nat) (pre : List Value) (h : LkC w0 w bl p vc m pre s) :
  Calls Tryz.prog 209 #[.pointer (some ⟨bl, 0, none⟩)] w fun e w' => (∀ s', wantO s = some s' → e = .returned (.tuple #[]) ∧ LkC w0 w' bl p vc m pre s') ∧ (wantO s = none → e = .panicked (refC 5)) ∧ Mods (fun k => k = bl) w w' := by
 go_enter Tryz.func209, Tryz.ntmps209
 go_wp2_with fail
 refine (lk_take s _ bl pre h.lk).mono ?_
 rintro e w1 ⟨h1, h2, m1⟩
 cases htk : takeS s with
 | none =>
  obtain rfl := h2 htk
  have HN : Hid (wantO s = none) := by show _ = _; unfold wantO; rw [htk]; rfl
  clear htk h1 h2
  go_wp2_with fail
  exact ⟨rfl, fun s' e => (by rw [unhide HN] at e; cases e), fun _ => rfl, m1⟩
 | some y =>
  obtain ⟨x, s1⟩ := y
  obtain ⟨rfl, hl1⟩ := h1 x s1 htk
  have hty := takeS_ty htk h.ty
  have HL1 := hide (h.next hl1 m1 hty.2)
  have HW : Hid (wantO s = if mayObj x then some s1 else none) := by show _ = _; unfold wantO; rw [htk]; rfl
  clear htk h1 h2 hl1 hty
  go_wp2_with fail
  refine (code_mayobj x _).mono ?_
  rintro e w2 ⟨rfl, rfl⟩
  cases hq : mayObj x with
  | false =>
   have HN : Hid (wantO s = none) := by show _ = _; rw [unhide HW, hq]; rfl
   clear hq
   go_wp2_with (go_at_call 157; refine (fit_giveUp _).mono ?_; rintro e w' ⟨rfl, rfl⟩)
   exact ⟨rfl, fun s' e => (by rw [unhide HN] at e; cases e), fun _ => rfl, m1⟩
  | true =>
   have HN : Hid (wantO s = some s1) := by show _ = _; rw [unhide HW, hq]; rfl
   clear hq
   go_wp2_with fail
   go_end0
   refine ⟨fun s' e => ?_, fun e => (by rw [unhide HN] at e; cases e), m1⟩
   rw [unhide HN] at e
   simp only [Option.some.injEq] at e
   subst e
   exact ⟨rfl, unhide HL1⟩
set_option maxHeartbeats 1000000 in
set_option maxRecDepth 100000 in
theorem lk_leave (t : Int) (p : List LClass) (vc : Value) (m : LMeth) (s : TSt) (w0 w : World) (bl : Nat) (pre : List Value) (h : LkC w0 w bl p vc m pre s) (ht : tyOk p.length t) (h8 : m.stack ≤ 8) :
  Calls Tryz.prog 202 #[.pointer (some ⟨bl, 0, none⟩), .int .i64 t] w fun e w' => (∀ s', leaveS m t s = some s' → e = .returned (.tuple #[]) ∧ LkC w0 w' bl p vc m pre s') ∧ (leaveS m t s = none → e = .panicked (refC 5)) ∧ Mods (fun k => k = bl) w w' := by
 obtain ⟨cs, hS, hl, hB, hg⟩ := h.lk.state
 have c5 := h.cell (by omega) h.p5
 go_enter Tryz.func202, Tryz.ntmps202
 go_wp2_with fail
 refine wp_region_held_drew (S := (fun w' => w'.cell? ⟨bl, 5, none⟩ = some (.int .i64 m.stack) ∧ Blk w' bl 222 (pre ++ cs))) (by kernel_rfl) ?_ (fun hHeld => ?_)
 ·exact (And.intro c5 hB)
 refine take_x (some 4) 0 rfl rfl ?_
 refine take_x (some 5) 1 rfl rfl ?_
 refine take_x (some 6) 2 rfl rfl ?_
 refine take_d (some 7) (i := 3) (v := .agg cs.toArray) rfl rfl (by kernel_rfl) (by kernel_rfl) (by kernel_rfl) (fun _ _ _ h => h) (Or.inl ⟨by rfl, fun w' hSw => exec_load_blk aggSt hSw.2 8 cs hl hg rfl rfl⟩) (by assumption) ?_
 try simp only [Act.put, List.setIfInBounds_toArray, List.set_cons_zero, List.set_cons_succ]
 refine take_x (some 9) 5 rfl rfl ?_
 refine take_x (some 10) 6 rfl rfl ?_
 refine take_x (some 11) 7 rfl rfl ?_
 refine take_x (some 12) 8 rfl rfl ?_
 refine take_x (some 13) 9 rfl rfl ?_
 refine wpAnyH_ready (rs := [4]) (by kernel_rfl) (by simp) ?_
 refine AllReadyH.cons rfl (fun K hK => ?_) AllReadyH.nil
 go_simp
 refine (st_height s cs _ hS).mono ?_
 rintro e w1 ⟨rfl, hb1⟩
 have hb1' : Below w.heap.size w w1 := ⟨hb1.os, hb1.tape, hb1.output, hb1.size, hb1.block⟩
 have L1 := hide (h.below hb1')
 have d5 := (unhide L1).cell (by omega) (unhide L1).p5
 have hB1 := hB.below hb1' hB.lt
 have m1 : Mods (fun k => k = bl) w w1 := bnone hb1'
 go_wp2_with fail
 refine hK.out _ _ (And.intro d5 hB1) (fun hHeld => ?_)
 clear hK K
 try simp only [Act.put, List.setIfInBounds_toArray, List.set_cons_zero, List.set_cons_succ]
 refine take_x (some 14) 10 rfl rfl ?_
 refine wpAnyH_done (by kernel_rfl) ?_ _
 by_cases hq : (s.stk.length : Int) = m.stack
 ·have HN : Hid (leaveS m t s = none) := by show _ = _; unfold leaveS; rw [if_pos hq]
  have hq' : ((s.stk.length : Int) == m.stack) = true := by simpa using hq
  clear hq
  go_wp2_with (go_at_call 157; refine (fit_giveUp _).mono ?_; rintro e w' ⟨rfl, rfl⟩)
  exact ⟨rfl, fun s' e => (by rw [unhide HN] at e; cases e), fun _ => rfl, m1⟩
 ·have HN : Hid (leaveS m t s = some (pushL s t)) := by show _ = _; unfold leaveS; rw [if_neg hq]; rfl
  have hq' : ((s.stk.length : Int) == m.stack) = false := by simpa using hq
  have hlt : s.stk.length < 8 := by have := h.ty.2.2; omega
  have HT := hide (leaveS_ty (unhide HN) h.ty ht)
  clear hq
  go_wp2_with fail
  refine (st_push s t w1 bl pre (unhide L1).lk hlt).mono ?_
  rintro e w2 ⟨rfl, hl2, m2⟩
  have L2 := hide ((unhide L1).next hl2 m2 (unhide HT))
  go_wp2_with fail
  go_end0
  refine ⟨fun s' e => ?_, fun e => (by rw [unhide HN] at e; cases e), m1.trans m2 (fun _ _ e => e)⟩
  rw [unhide HN] at e
  simp only [Option.some.injEq] at e
  subst e
  exact ⟨rfl, unhide L2⟩
end Go.Proofs.YtiiokkllmchohaaGreat
/- What lies in memory of its own: lists that the reader makes; counts, types. -/
namespace Go.Proofs.YtiiokkllmchohaaGreat
open Go.RowKit
attribute [local go_sem ↓] Go.wp_at_zero Go.wp_at_succ

abbrev OwnE (α : Type) := World → Nat → Nat → List Value → α → Prop
section
variable {α : Type} {sz : Nat} {R : OwnE α} {t : TypeId}
end
end Go.Proofs.YtiiokkllmchohaaGreat
/- The code's reader: lists, on the way; lists of types. -/
namespace Go.Proofs.YtiiokkllmchohaaGreat
open Go.RowKit
attribute [local go_sem ↓] Go.wp_at_zero Go.wp_at_succ

section
variable {α : Type} {sz : Nat} {R : OwnE α} {p : List UInt8 → Option (α × List UInt8)} {ty : TypeId} {n : Nat} {s : List UInt8} {br g : Nat} {w wr : World} {k : Nat} {t : List UInt8} {cs : List Value} {done : List α}
end

end Go.Proofs.YtiiokkllmchohaaGreat
/- The code's reader: instructions. -/
namespace Go.Proofs.YtiiokkllmchohaaGreat
open Go.RowKit
attribute [local go_sem ↓] Go.wp_at_zero Go.wp_at_succ

end Go.Proofs.YtiiokkllmchohaaGreat
/- The code's reader: frames. -/
namespace Go.Proofs.YtiiokkllmchohaaGreat
open Go.RowKit
attribute [local go_sem ↓] Go.wp_at_zero Go.wp_at_succ

end Go.Proofs.YtiiokkllmchohaaGreat
/- The code's reader: lists of frames. -/
namespace Go.Proofs.YtiiokkllmchohaaGreat
open Go.RowKit
attribute [local go_sem ↓] Go.wp_at_zero Go.wp_at_succ

end Go.Proofs.YtiiokkllmchohaaGreat
/- The code's reader: methods. -/
namespace Go.Proofs.YtiiokkllmchohaaGreat
open Go.RowKit
attribute [local go_sem ↓] Go.wp_at_zero Go.wp_at_succ

end Go.Proofs.YtiiokkllmchohaaGreat
/- The code's reader: lists of methods, classes. -/
namespace Go.Proofs.YtiiokkllmchohaaGreat
open Go.RowKit
attribute [local go_sem ↓] Go.wp_at_zero Go.wp_at_succ

end Go.Proofs.YtiiokkllmchohaaGreat
/- The code's reader: programs. -/
namespace Go.Proofs.YtiiokkllmchohaaGreat
open Go.RowKit
attribute [local go_sem ↓] Go.wp_at_zero Go.wp_at_succ

end Go.Proofs.YtiiokkllmchohaaGreat
/- The code's Decode: giving up is caught. -/
namespace Go.Proofs.YtiiokkllmchohaaGreat
open Go.RowKit

theorem catch_idle (p : Addr) (w : World) :
  CallsD Tryz.prog 72 #[.pointer (some p)] .returning w fun e u' w' => e = .returned (.tuple #[]) ∧ u' = .returning ∧ w' = w := by
 refine callsD_of_wpS Tryz.func72 rfl fun c₀ cs hu => ?_
 apply wpS_seq
 apply wpS_region
 simp [wpOpsS, go_sem, recoverD, hu, Tryz.ntmps72, Exit.thenS, Array.replicate]
 refine wpS_of_wp ?_
 go_wp2
 cases c₀
 simp_all [bodyPostS, results, Tryz.results72]
set_option maxHeartbeats 1000000 in
set_option maxRecDepth 100000 in
theorem catch_giving (p : Addr) (why x : Int) (w : World) (hc : w.cell? p = some (.int .i64 x)) (hz : w.frozen? p = false) :
  CallsD Tryz.prog 72 #[.pointer (some p)] (.panicking (refC why)) w fun e u' w' =>
   e = .returned (.tuple #[]) ∧ u' = .panicking [{ v := .iface 119 (.agg #[.int .i64 why]), recovered := true }] ∧ w' = (w.alloc (.cells #[.int .i64 why] 119)).setCell p (.int .i64 why) := by
 refine callsD_of_wpS Tryz.func72 rfl fun c₀ cs hu => ?_
 unfold refC at hu
 have hta : ∀ W : World, (Instr.typeAssert (.iface 119 (.agg #[.int .i64 why])) 20 119 true).run Tryz.prog W = .ok (.tuple #[.agg #[.int .i64 why], .bool true]) W := fun W => by kernel_rfl
 apply wpS_seq
 apply wpS_region
 simp [wpOpsS, go_sem, recoverD, hu, Tryz.ntmps72, Exit.thenS, Array.replicate]
 refine wpS_of_wp ?_
 have hc' : ∀ o, (w.alloc o).cell? p = some (.int .i64 x) := fun o => box_keeps w o _ _ hc
 have hz' : ∀ o, (w.alloc o).frozen? p = false := fun o => by rw [World.frozen?_alloc_old _ _ _ (Nat.ne_of_lt (cell_lt hc))]; exact hz
 go_wp2_with fail
 cases c₀
 simp_all [bodyPostS, results, Tryz.results72]

end Go.Proofs.YtiiokkllmchohaaGreat
/- What the code's Decode answers. -/
namespace Go.Proofs.YtiiokkllmchohaaGreat
open Go.RowKit
attribute [local go_sem ↓] Go.wp_at_zero Go.wp_at_succ

end Go.Proofs.YtiiokkllmchohaaGreat
