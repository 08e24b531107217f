/- The code's reader: giving up, bytes, numbers. -/
import Derived.Laws.DeepNot64
import Derived.Deep.DeepCutAuto
import Derived.Test.YtiiokkllmchohaaGreatT01
import Derived.Test.YtiiokkllmchohaaGreatT04
import Derived.Test.YtiiokkllmchohaaGreatT06
import Derived.Test.YtiiokkllmchohaaGreatT08
/- ParseB -/
namespace Go.Proofs.YtiiokkllmchohaaGreat
open Go.RowKit
attribute [local go_sem ↓] Go.wp_at_zero Go.wp_at_succ

def refC (why : Int) : List PanicEntry := [{ v := .iface 119 (.agg #[.int .i64 why]), recovered := false }]

set_option maxHeartbeats 400000 in
theorem code_giveUp (why : Int) (w : World) : Calls Tryz.prog 140 #[.int .i64 why] w fun e w' => e = .panicked (refC why) ∧ w' = w := by
  go_enter Tryz.func140, Tryz.ntmps140
  go_wp2
  exact ⟨rfl, rfl, rfl⟩
set_option maxHeartbeats 400000 in
theorem wire_giveUp (w : World) : Calls Tryz.prog 76 #[] w fun e w' => e = .panicked (refC 1) ∧ w' = w := by
  go_enter Tryz.func76, Tryz.ntmps76
  go_wp2_with (go_at_call 140; refine (code_giveUp _ _).mono ?_; rintro e w' ⟨rfl, rfl⟩)
  exact ⟨rfl, rfl, rfl⟩

def CRd (w : World) (br : Nat) (s : List UInt8) : Prop := Blk w br 122 [.string ⟨s.toArray⟩]

set_option maxHeartbeats 400000 in
theorem rd_next_nil (w : World) (br : Nat) (h : CRd w br []) : Calls Tryz.prog 191 #[.pointer (some ⟨br, 0, none⟩)] w fun e w' => e = .panicked (refC 1) ∧ w' = w := by
  have c0 : w.cell? ⟨br, 0, none⟩ = some (.string ⟨#[]⟩) := h.cell 0
  go_enter Tryz.func191, Tryz.ntmps191
  go_wp2_with (go_at_call 76; refine (wire_giveUp _).mono ?_; rintro e w' ⟨rfl, rfl⟩)
  exact ⟨rfl, rfl, rfl⟩
theorem ext1 (b : UInt8) (r : List UInt8) : (ByteArray.mk (b :: r).toArray).extract 1 (r.length + 1) = ⟨r.toArray⟩ := by
  apply ByteArray.ext
  simp [ByteArray.data_extract]
set_option maxHeartbeats 400000 in
theorem rd_next_cons (w : World) (br : Nat) (b : UInt8) (r : List UInt8) (h : CRd w br (b :: r)) : Calls Tryz.prog 191 #[.pointer (some ⟨br, 0, none⟩)] w fun e w' => e = .returned (.int .u8 b.toNat) ∧ CRd w' br r ∧ Mods (fun k => k = br) w w' := by
  have c0 : w.cell? ⟨br, 0, none⟩ = some (.string ⟨(b :: r).toArray⟩) := h.cell 0
  have f0 := h.frozen 0
  go_enter Tryz.func191, Tryz.ntmps191
  go_wp2_with fail
  go_ret
  refine ⟨rfl, ?_, (Mods.refl (fun k => k = br) w).setCell (p := ⟨br, 0, none⟩) (fun _ => rfl) _⟩
  have := Blk.setCell h 0 (.string ((ByteArray.mk (b :: r).toArray).extract 1 (r.length + 1)))
  rw [ext1] at this ⊢
  exact this

theorem u64_and1 (v : Nat) (h : v < 18446744073709551616) : bits .and .u64 (v : Int) 1 = ((v % 2 : Nat) : Int) := by
  have := u64_and_nat v 1 h (by omega)
  rw [show ((1 : Nat) : Int) = 1 from rfl] at this
  rw [this, Nat.and_one_is_mod]
set_option maxHeartbeats 400000 in
theorem rd_unfold (v : Nat) (w : World) (h : v < 18446744073709551616) : Calls Tryz.prog 192 #[.int .u64 v] w fun e w' => e = .returned (.int .i64 (unfoldZ v)) ∧ w' = w := by
  have h1 := u64_and1 v h
  have h2 : v / 2 < 9223372036854775808 := by omega
  by_cases hb : v % 2 = 1
  · have HU := hide (show unfoldZ v = -1 - ((v / 2 : Nat) : Int) by unfold unfoldZ; rw [if_pos hb]; omega)
    rw [hb] at h1
    have h3 := i64_not (v / 2) h2
    go_enter Tryz.func192, Tryz.ntmps192
    go_wp2_with fail
    go_ret
    exact ⟨ret_int (by rw [unhide HU, ← h3]; rfl), rfl⟩
  · have HU := hide (show unfoldZ v = ((v / 2 : Nat) : Int) by unfold unfoldZ; rw [if_neg hb])
    rw [show v % 2 = 0 by omega] at h1
    go_enter Tryz.func192, Tryz.ntmps192
    go_wp2_with fail
    go_ret
    exact ⟨ret_int (by rw [unhide HU]; rfl), rfl⟩

theorem u8_low (b : UInt8) : bits .and .u8 (b.toNat : Int) 127 = ((b.toNat % 128 : Nat) : Int) := by
  have := u8_and_nat b.toNat 127 b.toNat_lt (by omega)
  rw [show ((127 : Nat) : Int) = 127 from rfl] at this
  rw [this, show (127 : Nat) = 2 ^ 7 - 1 from rfl, Nat.and_two_pow_sub_one_eq_mod]
theorem or_shift {acc x sh : Nat} (h1 : acc < 2 ^ sh) (h2 : x * 2 ^ sh < 18446744073709551616) (h3 : sh ≤ 64) : bits .or .u64 (acc : Int) ((x * 2 ^ sh : Nat) : Int) = ((acc + x * 2 ^ sh : Nat) : Int) := by
  have h4 : 2 ^ sh ≤ 2 ^ 64 := Nat.pow_le_pow_right (by omega) h3
  rw [u64_or_nat acc (x * 2 ^ sh) (by omega) h2]
  have := Nat.two_pow_add_eq_or_of_lt h1 x
  rw [Nat.mul_comm x, Nat.or_comm, ← this, Nat.add_comm]
theorem shl_fact {acc sh : Nat} (b : UInt8) (h1 : acc < 2 ^ sh) (h2 : b.toNat % 128 * 2 ^ sh < 18446744073709551616) (h3 : sh ≤ 64) :
    bits .or .u64 (acc : Int) (IntKind.u64.wrap (IntKind.u64.wrap (bits .and .u8 (b.toNat : Int) 127) * 2 ^ sh)) = ((acc + b.toNat % 128 * 2 ^ sh : Nat) : Int) := by
  rw [u8_low, IntKind.wrap_u64 ((b.toNat % 128 : Nat) : Int), show ((b.toNat % 128 : Nat) : Int) % 18446744073709551616 = ((b.toNat % 128 : Nat) : Int) by omega]
  rw [show ((b.toNat % 128 : Nat) : Int) * 2 ^ sh = ((b.toNat % 128 * 2 ^ sh : Nat) : Int) by push_cast; rfl, IntKind.wrap_u64, show ((b.toNat % 128 * 2 ^ sh : Nat) : Int) % 18446744073709551616 = ((b.toNat % 128 * 2 ^ sh : Nat) : Int) from Int.emod_eq_of_lt (by omega) (by omega)]
  exact or_shift h1 h2 h3

set_option maxHeartbeats 1000000 in
set_option maxRecDepth 100000 in
theorem rd_number (s : List UInt8) (w : World) (br : Nat) (h : CRd w br s) : Calls Tryz.prog 135 #[.pointer (some ⟨br, 0, none⟩)] w fun e w' =>
    (∀ n r, pN s = some (n, r) → e = .returned (.int .i64 n) ∧ CRd w' br r) ∧ (pN s = none → e = .panicked (refC 1)) ∧ Mods (fun k => k = br) w w' := by
  have HH := hide h
  clear h
  go_enter Tryz.func135, Tryz.ntmps135
  go_wp2_with fail
  go_loopw [3, 4] (fun s3 s4 wr => ∃ (f acc sh : Nat) (t : List UInt8), f ≤ 9 ∧ sh = 7 * (9 - f) ∧ s4 = .int .i64 (sh : Int) ∧ s3 = .int .u64 acc ∧ acc < 2 ^ sh ∧ CRd wr br t ∧ Mods (fun k => k = br) w wr ∧ pU 10 s = (pU (f + 1) t).map (fun x => (acc + x.1 * 2 ^ sh, x.2))) (fun _ s4 _ => 64 - (intOf s4).toNat)
  case atStart => exact ⟨9, 0, 0, s, by omega, rfl, rfl, rfl, by simp, unhide HH, Mods.refl _ _, by simp⟩
  case round =>
    obtain ⟨f, acc, sh, t, hf, hsh, rfl, rfl, hacc, hR, hm, hp⟩ := hrel
    have HP := hide hp
    have HAC := hide hacc
    have HSH := hide hsh
    have hsh64 : sh ≤ 63 := by omega
    have h64 : 2 ^ sh ≤ 2 ^ 63 := Nat.pow_le_pow_right (by omega) hsh64
    clear hp hacc hsh
    cases t with
    | nil =>
      clear h64
      go_wp2_with (go_at_call 191; refine (rd_next_nil _ br hR).mono ?_; rintro e w' ⟨rfl, rfl⟩)
      refine ⟨rfl, ?_, ?_, hm⟩
      · intro n r e
        unfold pN at e
        rw [unhide HP] at e
        simp [pU] at e
      · intro _; rfl
    | cons b r =>
      have H64 := hide h64
      clear h64
      go_wp2_with fail
      refine Calls.mono (rd_next_cons _ br b r hR) ?_
      rintro e w1 ⟨rfl, hR1, hm1⟩
      have HR1 := hide hR1
      have HM1 := hide (hm.trans hm1 (fun _ _ e => e))
      clear hR1 hm1 hR hm
      have hb := b.toNat_lt
      by_cases hA : f = 0 ∧ 1 < b.toNat
      · have HN : Hid (pN s = none) := by show _ = _; unfold pN; rw [unhide HP, pU, if_pos hA]; rfl
        have k1 : ((sh : Int) == 63) = true := by have := unhide HSH; simp; omega
        have k2 : (1 : Int) < (b.toNat : Int) := by omega
        go_wp2_with (go_at_call 76; refine (wire_giveUp _).mono ?_; rintro e w' ⟨rfl, rfl⟩)
        refine ⟨rfl, ?_, fun _ => rfl, unhide HM1⟩
        intro n r e
        rw [unhide HN] at e; cases e
      · have hx : b.toNat % 128 * 2 ^ sh < 18446744073709551616 := by
          by_cases h0 : f = 0
          · have : b.toNat % 128 ≤ 1 := by omega
            have := Nat.mul_le_mul this (unhide H64)
            omega
          · have : 2 ^ sh ≤ 2 ^ 56 := Nat.pow_le_pow_right (by omega) (by have := unhide HSH; omega)
            have := Nat.mul_le_mul (show b.toNat % 128 ≤ 127 by omega) this
            omega
        have hor := shl_fact b (unhide HAC) hx (by omega)
        have hacc2 : acc + b.toNat % 128 * 2 ^ sh < 18446744073709551616 := by
          by_cases h0 : f = 0
          · have h1 : b.toNat % 128 ≤ 1 := by omega
            have h2 := Nat.mul_le_mul h1 (unhide H64)
            have := unhide HAC
            have := unhide H64
            omega
          · have h1 : 2 ^ sh ≤ 2 ^ 56 := Nat.pow_le_pow_right (by omega) (by have := unhide HSH; omega)
            have h2 := Nat.mul_le_mul (show b.toNat % 128 ≤ 127 by omega) h1
            have := unhide HAC
            omega
        have HX := hide hx
        have HA2 := hide hacc2
        clear hx hacc2
        have k1 : (((sh : Int) == 63) && decide ((1 : Int) < (b.toNat : Int))) = false := by
          have := unhide HSH
          cases h63 : ((sh : Int) == 63)
          · rfl
          · simp at h63 ⊢; omega
        by_cases hlt : b.toNat < 128
        · have k3 : (b.toNat : Int) < 128 := by omega
          by_cases hz : b.toNat = 0 ∧ f < 9
          · have HN : Hid (pN s = none) := by show _ = _; unfold pN; rw [unhide HP, pU, if_neg hA, if_pos hlt, if_pos hz]; rfl
            have k4 : ((b.toNat : Int) == 0) = true := by simp; omega
            have k5 : (0 : Int) < (sh : Int) := by have := unhide HSH; omega
            by_cases h63 : f = 0
            · have k6 : ((sh : Int) == 63) = true := by have := unhide HSH; simp; omega
              have k7 : ¬ (1 : Int) < (b.toNat : Int) := by omega
              clear k1 hz hA
              go_wp2_with (go_at_call 76; refine (wire_giveUp _).mono ?_; rintro e w' ⟨rfl, rfl⟩)
              refine ⟨rfl, ?_, fun _ => rfl, unhide HM1⟩
              intro n r e
              rw [unhide HN] at e; cases e
            · have k6 : ((sh : Int) == 63) = false := by have := unhide HSH; simp; omega
              clear k1 hz hA
              go_wp2_with (go_at_call 76; refine (wire_giveUp _).mono ?_; rintro e w' ⟨rfl, rfl⟩)
              refine ⟨rfl, ?_, fun _ => rfl, unhide HM1⟩
              intro n r e
              rw [unhide HN] at e; cases e
          · have HN : Hid (pN s = some (unfoldZ (acc + b.toNat % 128 * 2 ^ sh), r)) := by
              show _ = _; unfold pN; rw [unhide HP, pU, if_neg hA, if_pos hlt, if_neg hz, Nat.mod_eq_of_lt hlt]; rfl
            clear k1
            by_cases h63 : f = 0
            · have k6 : ((sh : Int) == 63) = true := by have := unhide HSH; simp; omega
              have k7 : ¬ (1 : Int) < (b.toNat : Int) := by omega
              have k4 : ((b.toNat : Int) == 0) = false := by simp; omega
              clear hz hA
              go_wp2_with fail
              refine Calls.mono (rd_unfold _ _ (unhide HA2)) ?_
              rintro e w2 ⟨rfl, rfl⟩
              go_wp2_with fail
              go_ret
              refine ⟨?_, ?_, unhide HM1⟩
              · intro n r' e
                rw [unhide HN] at e
                simp only [Option.some.injEq, Prod.mk.injEq] at e
                obtain ⟨rfl, rfl⟩ := e
                exact ⟨rfl, unhide HR1⟩
              · intro e
                rw [unhide HN] at e; cases e
            · have k6 : ((sh : Int) == 63) = false := by have := unhide HSH; simp; omega
              by_cases h0 : b.toNat = 0
              · have k4 : ((b.toNat : Int) == 0) = true := by simp; omega
                have k5 : ¬ (0 : Int) < (sh : Int) := by have := unhide HSH; omega
                clear hz hA
                have H0 := hide h0
                clear h0
                go_wp2_with fail
                refine Calls.mono (rd_unfold _ _ (unhide HA2)) ?_
                rintro e w2 ⟨rfl, rfl⟩
                go_wp2_with fail
                go_ret
                refine ⟨?_, ?_, unhide HM1⟩
                · intro n r' e
                  rw [unhide HN] at e
                  simp only [Option.some.injEq, Prod.mk.injEq] at e
                  obtain ⟨rfl, rfl⟩ := e
                  exact ⟨rfl, unhide HR1⟩
                · intro e
                  rw [unhide HN] at e; cases e
              · have k4 : ((b.toNat : Int) == 0) = false := by simp; omega
                clear hz hA
                go_wp2_with fail
                refine Calls.mono (rd_unfold _ _ (unhide HA2)) ?_
                rintro e w2 ⟨rfl, rfl⟩
                go_wp2_with fail
                go_ret
                refine ⟨?_, ?_, unhide HM1⟩
                · intro n r' e
                  rw [unhide HN] at e
                  simp only [Option.some.injEq, Prod.mk.injEq] at e
                  obtain ⟨rfl, rfl⟩ := e
                  exact ⟨rfl, unhide HR1⟩
                · intro e
                  rw [unhide HN] at e; cases e
        · have h0 : f ≠ 0 := by omega
          have k3 : ¬ (b.toNat : Int) < 128 := by omega
          have k6 : ((sh : Int) == 63) = false := by have := unhide HSH; simp; omega
          clear k1
          have HNX : Hid (pU 10 s = (pU f r).map (fun x => (acc + b.toNat % 128 * 2 ^ sh + x.1 * 2 ^ (sh + 7), x.2))) := by
            show _ = _
            rw [unhide HP, pU, if_neg hA, if_neg hlt, Option.map_map]
            congr 1
            funext x
            simp only [Function.comp, Prod.mk.injEq, and_true]
            have e1 : x.1 * 128 * 2 ^ sh = x.1 * 2 ^ (sh + 7) := by rw [Nat.pow_add, Nat.mul_assoc, Nat.mul_comm (2 ^ sh)]
            rw [(by omega : b.toNat - 128 = b.toNat % 128), Nat.add_mul, e1]
            omega
          have HB2 : Hid (acc + b.toNat % 128 * 2 ^ sh < 2 ^ (sh + 7)) := by
            show _ < _
            have h1 := unhide HAC
            have h2 : b.toNat % 128 + 1 ≤ 128 := by omega
            have h3 := Nat.mul_le_mul_right (2 ^ sh) h2
            rw [Nat.pow_add, Nat.mul_comm (2 ^ sh), show (2 : Nat) ^ 7 = 128 from rfl]
            rw [Nat.add_mul] at h3
            omega
          clear hA
          go_wp2_with fail
          obtain ⟨f', rfl⟩ : ∃ f', f = f' + 1 := ⟨f - 1, by omega⟩
          refine ⟨⟨f', acc + b.toNat % 128 * 2 ^ sh, sh + 7, r, by omega, by have := unhide HSH; omega, by go_num, rfl, unhide HB2, unhide HR1, unhide HM1, unhide HNX⟩, by simp [intOf]; omega⟩
end Go.Proofs.YtiiokkllmchohaaGreat
/- The code looks whether an instruction fits: what it takes and leaves. -/
namespace Go.Proofs.YtiiokkllmchohaaGreat
open Go.RowKit
attribute [local go_sem ↓] Go.wp_at_zero Go.wp_at_succ

theorem bnone {w w' : World} {S : Nat → Prop} (h : Below w.heap.size w w') : Mods S w w' := (Mods.of_below h).mono (fun i hi e => absurd e (by omega))
theorem aggSt : AggOk Tryz.prog 130 17 := ⟨by kernel_rfl, by kernel_rfl⟩
set_option maxHeartbeats 400000 in
theorem fit_giveUp (w : World) : Calls Tryz.prog 157 #[] w fun e w' => e = .panicked (refC 5) ∧ w' = w := by
  go_enter Tryz.func157, Tryz.ntmps157
  go_wp2_with (go_at_call 140; refine (code_giveUp _ _).mono ?_; rintro e w' ⟨rfl, rfl⟩)
  exact ⟨rfl, rfl, rfl⟩
theorem LkAt.state {w : World} {bl : Nat} {pre : List Value} {s : TSt} (h : LkAt w bl pre s) : ∃ cs, StC s cs ∧ cs.length = 17 ∧ Blk w bl 222 (pre ++ cs) ∧ ∀ j v, cs[j]? = some v → (pre ++ cs)[8 + j]? = some v := by
  obtain ⟨h0, cs, h1, h2⟩ := h
  exact ⟨cs, h1, h1.len, h2, fun j v e => by rw [get_pre h0]; exact e⟩
set_option maxHeartbeats 400000 in
theorem st_setlocal (s : TSt) (i : Nat) (t : Int) (w : World) (bl : Nat) (pre : List Value) (h : LkAt w bl pre s) (hi : i < 8) :
    Calls Tryz.prog 205 #[.pointer (some ⟨bl, 8, none⟩), .int .i64 (i : Int), .int .i64 t] w fun e w' => e = .returned (.tuple #[]) ∧ LkAt w' bl pre (setL s i t) ∧ Mods (fun k => k = bl) w w' := by
  obtain ⟨h0, cs, h1, h2⟩ := h
  have c0 : w.cell? ⟨bl, 8 + i, none⟩ = some (.int .i64 (s.loc.getD i 0)) := by rw [h2.cell, get_pre h0]; exact h1.getLoc hi
  have f0 := h2.frozen (8 + i)
  have Z := h2.setCell (8 + i) (.int .i64 t)
  rw [set_pre h0] at Z
  have HZ := hide Z
  have HZ1 := hide (h1.set i t hi)
  have i0 : (0 : Int) ≤ (i : Int) := by omega
  have i8 : (i : Int) < 8 := by omega
  clear Z h1 h2
  go_enter Tryz.func205, Tryz.ntmps205
  go_wp2_with fail
  go_end0
  exact ⟨rfl, ⟨h0, _, unhide HZ1, unhide HZ⟩, (Mods.refl (fun k => k = bl) w).setCell (p := ⟨bl, 8 + i, none⟩) (fun _ => rfl) _⟩

set_option maxHeartbeats 800000 in
set_option maxRecDepth 100000 in
theorem lk_take (s : TSt) (w : World) (bl : Nat) (pre : List Value) (h : LkAt w bl pre s) :
    Calls Tryz.prog 206 #[.pointer (some ⟨bl, 0, none⟩)] w fun e w' => (∀ x s', takeS s = some (x, s') → e = .returned (.int .i64 x) ∧ LkAt w' bl pre s') ∧ (takeS s = none → e = .panicked (refC 5)) ∧ Mods (fun k => k = bl) w w' := by
  obtain ⟨cs, hS, hl, hB, hg⟩ := h.state
  go_enter Tryz.func206, Tryz.ntmps206
  go_wp2_with (refine wpList_load_blk aggSt hB 8 cs hl hg (.tmp 5) rfl rfl rfl ?_)
  refine Calls.mono (st_height s cs w hS) ?_
  rintro e w1 ⟨rfl, hb1⟩
  have h1 := h.below hb1
  have m1 : Mods (fun k => k = bl) w w1 := bnone hb1
  cases hx : s.stk.getLast? with
  | none =>
    have hn : s.stk.length = 0 := by
      rw [List.getLast?_eq_none_iff] at hx
      rw [hx]; rfl
    have HN : Hid (takeS s = none) := by show _ = _; unfold takeS; rw [hx]; rfl
    rw [hn]
    clear hn hx
    go_wp2_with (go_at_call 157; refine (fit_giveUp _).mono ?_; rintro e w' ⟨rfl, rfl⟩)
    exact ⟨rfl, fun x s' e => (by rw [unhide HN] at e; cases e), fun _ => rfl, m1⟩
  | some x =>
    have hn : ¬ (s.stk.length : Int) = 0 := by
      intro e
      rw [List.eq_nil_of_length_eq_zero (by omega : s.stk.length = 0)] at hx; cases hx
    have hn' : ((s.stk.length : Int) == 0) = false := by simpa using hn
    have HN : Hid (takeS s = some (x, popL' s)) := by show _ = _; unfold takeS; rw [hx]; rfl
    have HX := hide hx
    clear hx hn
    go_wp2_with fail
    refine Calls.mono (st_pop s x w1 bl pre h1 (unhide HX)) ?_
    rintro e w2 ⟨rfl, h2, m2⟩
    go_wp2_with fail
    go_ret
    refine ⟨fun x' s' e => ?_, fun e => (by rw [unhide HN] at e; cases e), m1.trans m2 (fun _ _ e => e)⟩
    rw [unhide HN] at e
    simp only [Option.some.injEq, Prod.mk.injEq] at e
    obtain ⟨rfl, rfl⟩ := e
    exact ⟨rfl, h2⟩
set_option maxHeartbeats 400000 in
theorem fit_known (t : Int) (w : World) : Calls Tryz.prog 203 #[.int .i64 t] w fun e w' => (∀ x, knownS t = some x → e = .returned (.int .i64 x)) ∧ (knownS t = none → e = .panicked (refC 5)) ∧ w' = w := by
  by_cases ht : t = 2
  · subst ht
    go_enter Tryz.func203, Tryz.ntmps203
    go_wp2_with (go_at_call 157; refine (fit_giveUp _).mono ?_; rintro e w' ⟨rfl, rfl⟩)
    exact ⟨rfl, fun x e => (by simp [knownS] at e), fun _ => rfl, rfl⟩
  · have ht' : (t == 2) = false := by simpa using ht
    go_enter Tryz.func203, Tryz.ntmps203
    go_wp2_with fail
    go_ret
    refine ⟨fun x e => ?_, fun e => ?_, rfl⟩
    · simp [knownS, ht] at e; subst e; rfl
    · simp [knownS, ht] at e
end Go.Proofs.YtiiokkllmchohaaGreat
/- The code looks whether an instruction fits: what it wants, objects, room. -/
namespace Go.Proofs.YtiiokkllmchohaaGreat
open Go.RowKit
attribute [local go_sem ↓] Go.wp_at_zero Go.wp_at_succ

theorem Mods.undrw {S : Nat → Prop} {W w' : World} (h : Mods S W.drew w') : Mods S W w' := ⟨h.os, h.tape, h.output, h.size, h.block⟩
def TyS (n : Nat) (k : Int) (s : TSt) : Prop := (∀ x ∈ s.loc, tyOk n x) ∧ (∀ x ∈ s.stk, tyOk n x) ∧ (s.stk.length : Int) ≤ k
structure LkC (w0 w : World) (bl : Nat) (p : List LClass) (vc : Value) (m : LMeth) (pre : List Value) (s : TSt) : Prop where
  lk : LkAt w bl pre s
  pr : RProg w0 vc p
  b0 : Below w0.heap.size w0 w
  le : w0.heap.size ≤ bl
  p0 : pre[0]? = some vc
  p3 : pre[3]? = some (.int .i64 m.ret)
  p5 : pre[5]? = some (.int .i64 m.stack)
  ty : TyS p.length m.stack s
section
variable {w0 w w' : World} {bl : Nat} {p : List LClass} {vc : Value} {m : LMeth} {pre : List Value} {s s' : TSt}
theorem LkC.next (h : LkC w0 w bl p vc m pre s) (hl : LkAt w' bl pre s') (hm : Mods (fun k => k = bl) w w') (ht : TyS p.length m.stack s') : LkC w0 w' bl p vc m pre s' :=
  have hle := h.le
  ⟨hl, h.pr, h.b0.trans (hm.below h.b0.size (fun k hk e => by omega)), hle, h.p0, h.p3, h.p5, ht⟩
theorem LkC.below (h : LkC w0 w bl p vc m pre s) (hb : Below w.heap.size w w') : LkC w0 w' bl p vc m pre s := h.next (h.lk.below hb) (bnone hb) h.ty
theorem LkC.cell (h : LkC w0 w bl p vc m pre s) {i : Nat} {v : Value} (hi : i < 8) (hv : pre[i]? = some v) : w.cell? ⟨bl, i, none⟩ = some v := by
  obtain ⟨h0, cs, _, h2⟩ := h.lk
  rw [h2.cell, List.getElem?_append_left (by omega)]
  exact hv
theorem LkC.rp (h : LkC w0 w bl p vc m pre s) : RProg w vc p := prog_keep (Keeps.of_below h.b0) h.pr
end
theorem takeS_ty {n : Nat} {k : Int} {s s' : TSt} {x : Int} (h : takeS s = some (x, s')) (ht : TyS n k s) : tyOk n x ∧ TyS n k s' := by
  unfold takeS at h
  cases e : s.stk.getLast? with
  | none => rw [e] at h; cases h
  | some y =>
    rw [e] at h
    simp only [Option.map_some, Option.some.injEq, Prod.mk.injEq] at h
    obtain ⟨rfl, rfl⟩ := h
    exact ⟨ht.2.1 y (List.mem_of_getLast? e), ht.1, fun x hx => ht.2.1 x (List.dropLast_subset _ hx), by have := ht.2.2; simp only [List.length_dropLast]; omega⟩
theorem leaveS_ty {n : Nat} {m : LMeth} {t : Int} {s s' : TSt} (h : leaveS m t s = some s') (ht : TyS n m.stack s) (hx : tyOk n t) : TyS n m.stack s' := by
  unfold leaveS at h
  split at h
  · cases h
  · rename_i hne
    cases h
    refine ⟨ht.1, fun x hx' => ?_, ?_⟩
    · rcases List.mem_append.1 hx' with g | g
      · exact ht.2.1 x g
      · rw [List.mem_singleton.1 g]; exact hx
    · have := ht.2.2
      simp only [List.length_append, List.length_singleton]
      omega

set_option maxHeartbeats 1000000 in
set_option maxRecDepth 100000 in
theorem lk_want (t : Int) (p : List LClass) (vc : Value) (m : LMeth) (s : TSt) (w0 w : World) (bl : Nat) (pre : List Value) (h : LkC w0 w bl p vc m pre s) (hs : SupOk p p.length) (hz : p.length ≤ 4194304) (ht : tyOk p.length t) :
    Calls Tryz.prog 207 #[.pointer (some ⟨bl, 0, none⟩), .int .i64 t] w fun e w' => (∀ s', wantS p t s = some s' → e = .returned (.tuple #[]) ∧ LkC w0 w' bl p vc m pre s') ∧ (wantS p t s = none → e = .panicked (refC 5)) ∧ Mods (fun k => k = bl) w w' := by
  have c0 := h.cell (by omega) h.p0
  have H := hide h
  obtain ⟨va, _, _, vcap, rfl, _⟩ := h.pr
  clear h
  go_enter Tryz.func207, Tryz.ntmps207
  go_wp2_with fail
  refine wp_region_held_drew (S := (fun w' => w'.cell? ⟨bl, 0, none⟩ = some (.slice va p.length vcap))) (by kernel_rfl) ?_ (fun hHeld => ?_)
  · exact c0
  refine take_x (some 4) 0 rfl rfl ?_
  try simp only [Act.put, List.setIfInBounds_toArray, List.set_cons_zero, List.set_cons_succ]
  refine take_x (some 5) 1 rfl rfl ?_
  try simp only [Act.put, List.setIfInBounds_toArray, List.set_cons_zero, List.set_cons_succ]
  refine take_x (some 6) 2 rfl rfl ?_
  try simp only [Act.put, List.setIfInBounds_toArray, List.set_cons_zero, List.set_cons_succ]
  refine take_x (some 7) 3 rfl rfl ?_
  try simp only [Act.put, List.setIfInBounds_toArray, List.set_cons_zero, List.set_cons_succ]
  refine take_x (some 8) 4 rfl rfl ?_
  try simp only [Act.put, List.setIfInBounds_toArray, List.set_cons_zero, List.set_cons_succ]
  refine take_x (some 10) 6 rfl rfl ?_
  try simp only [Act.put, List.setIfInBounds_toArray, List.set_cons_zero, List.set_cons_succ]
  refine wpAnyH_ready (rs := [5]) (by kernel_rfl) (by simp) ?_
  refine AllReadyH.cons rfl (fun K hK => ?_) AllReadyH.nil
  go_simp
  refine (lk_take s _ bl pre ((unhide H).below ((Below.refl _ _).drew)).lk).mono ?_
  rintro e w1 ⟨h1, h2, m1⟩
  have m1' : Mods (fun k => k = bl) w w1 := m1.undrw
  cases htk : takeS s with
  | none =>
    obtain rfl := h2 htk
    have HN : Hid (wantS p t s = none) := by show _ = _; unfold wantS; rw [htk]; rfl
    clear htk h1 h2
    go_wp2_with fail
    exact ⟨rfl, fun s' e => (by rw [unhide HN] at e; cases e), fun _ => rfl, m1'⟩
  | some y =>
    obtain ⟨x, s1⟩ := y
    obtain ⟨rfl, hl1⟩ := h1 x s1 htk
    have hty := takeS_ty htk (unhide H).ty
    have L1 := (unhide H).next hl1 m1' hty.2
    have HL1 := hide L1
    have hx := hty.1
    have d0 := L1.cell (by omega) L1.p0
    have HW : Hid (wantS p t s = if belowB p x t then some s1 else none) := by show _ = _; unfold wantS; rw [htk]; rfl
    have HM1 := hide m1'
    clear htk h1 h2 hl1 hty m1 m1' L1
    go_wp2_with fail
    refine hK.out _ _ d0 (fun hHeld => ?_)
    clear hK K
    try simp only [Act.put, List.setIfInBounds_toArray, List.set_cons_zero, List.set_cons_succ]
    refine wpAnyH_ready (rs := [7]) (by kernel_rfl) (by simp) ?_
    refine AllReadyH.cons rfl (fun K hK => ?_) AllReadyH.nil
    go_simp
    refine (code_kbelow p _ x t _ (unhide HL1).rp hs hz hx ht).mono ?_
    rintro e w2 ⟨rfl, hb2⟩
    have L2 := hide ((unhide HL1).below hb2)
    have HM2 := hide ((unhide HM1).trans (bnone (S := fun k => k = bl) hb2) (fun _ _ e => e))
    have d2 := (unhide L2).cell (by omega) (unhide L2).p0
    clear hb2
    go_wp2_with fail
    refine hK.out _ _ d2 (fun hHeld => ?_)
    clear hK K
    try simp only [Act.put, List.setIfInBounds_toArray, List.set_cons_zero, List.set_cons_succ]
    refine take_x (some 12) 8 rfl rfl ?_
    try simp only [Act.put, List.setIfInBounds_toArray, List.set_cons_zero, List.set_cons_succ]
    refine wpAnyH_done (by kernel_rfl) ?_ _
    cases hq : belowB p x t with
    | false =>
      have HN : Hid (wantS p t s = none) := by show _ = _; rw [unhide HW, hq]; rfl
      clear hq
      go_wp2_with (go_at_call 157; refine (fit_giveUp _).mono ?_; rintro e w' ⟨rfl, rfl⟩)
      exact ⟨rfl, fun s' e => (by rw [unhide HN] at e; cases e), fun _ => rfl, unhide HM2⟩
    | true =>
      have HN : Hid (wantS p t s = some s1) := by show _ = _; rw [unhide HW, hq]; rfl
      clear hq
      go_wp2_with fail
      go_end0
      refine ⟨fun s' e => ?_, fun e => (by rw [unhide HN] at e; cases e), unhide HM2⟩
      rw [unhide HN] at e
      simp only [Option.some.injEq] at e
      subst e
      exact ⟨rfl, unhide L2⟩
set_option maxHeartbeats 1000000 in
set_option maxRecDepth 100000 in
theorem lk_wantobj (p : List LClass) (vc : Value) (m : LMeth) (s : TSt) (w0 w : World) (bl : Nat) (pre : List Value) (h : LkC w0 w bl p vc m pre s) :
    Calls Tryz.prog 209 #[.pointer (some ⟨bl, 0, none⟩)] w fun e w' => (∀ s', wantO s = some s' → e = .returned (.tuple #[]) ∧ LkC w0 w' bl p vc m pre s') ∧ (wantO s = none → e = .panicked (refC 5)) ∧ Mods (fun k => k = bl) w w' := by
  go_enter Tryz.func209, Tryz.ntmps209
  go_wp2_with fail
  refine (lk_take s _ bl pre h.lk).mono ?_
  rintro e w1 ⟨h1, h2, m1⟩
  cases htk : takeS s with
  | none =>
    obtain rfl := h2 htk
    have HN : Hid (wantO s = none) := by show _ = _; unfold wantO; rw [htk]; rfl
    clear htk h1 h2
    go_wp2_with fail
    exact ⟨rfl, fun s' e => (by rw [unhide HN] at e; cases e), fun _ => rfl, m1⟩
  | some y =>
    obtain ⟨x, s1⟩ := y
    obtain ⟨rfl, hl1⟩ := h1 x s1 htk
    have hty := takeS_ty htk h.ty
    have HL1 := hide (h.next hl1 m1 hty.2)
    have HW : Hid (wantO s = if mayObj x then some s1 else none) := by show _ = _; unfold wantO; rw [htk]; rfl
    clear htk h1 h2 hl1 hty
    go_wp2_with fail
    refine (code_mayobj x _).mono ?_
    rintro e w2 ⟨rfl, rfl⟩
    cases hq : mayObj x with
    | false =>
      have HN : Hid (wantO s = none) := by show _ = _; rw [unhide HW, hq]; rfl
      clear hq
      go_wp2_with (go_at_call 157; refine (fit_giveUp _).mono ?_; rintro e w' ⟨rfl, rfl⟩)
      exact ⟨rfl, fun s' e => (by rw [unhide HN] at e; cases e), fun _ => rfl, m1⟩
    | true =>
      have HN : Hid (wantO s = some s1) := by show _ = _; rw [unhide HW, hq]; rfl
      clear hq
      go_wp2_with fail
      go_end0
      refine ⟨fun s' e => ?_, fun e => (by rw [unhide HN] at e; cases e), m1⟩
      rw [unhide HN] at e
      simp only [Option.some.injEq] at e
      subst e
      exact ⟨rfl, unhide HL1⟩
set_option maxHeartbeats 1000000 in
set_option maxRecDepth 100000 in
theorem lk_leave (t : Int) (p : List LClass) (vc : Value) (m : LMeth) (s : TSt) (w0 w : World) (bl : Nat) (pre : List Value) (h : LkC w0 w bl p vc m pre s) (ht : tyOk p.length t) (h8 : m.stack ≤ 8) :
    Calls Tryz.prog 202 #[.pointer (some ⟨bl, 0, none⟩), .int .i64 t] w fun e w' => (∀ s', leaveS m t s = some s' → e = .returned (.tuple #[]) ∧ LkC w0 w' bl p vc m pre s') ∧ (leaveS m t s = none → e = .panicked (refC 5)) ∧ Mods (fun k => k = bl) w w' := by
  obtain ⟨cs, hS, hl, hB, hg⟩ := h.lk.state
  have c5 := h.cell (by omega) h.p5
  go_enter Tryz.func202, Tryz.ntmps202
  go_wp2_with fail
  refine wp_region_held_drew (S := (fun w' => w'.cell? ⟨bl, 5, none⟩ = some (.int .i64 m.stack) ∧ Blk w' bl 222 (pre ++ cs))) (by kernel_rfl) ?_ (fun hHeld => ?_)
  · exact (And.intro c5 hB)
  refine take_x (some 4) 0 rfl rfl ?_
  try simp only [Act.put, List.setIfInBounds_toArray, List.set_cons_zero, List.set_cons_succ]
  refine take_x (some 5) 1 rfl rfl ?_
  try simp only [Act.put, List.setIfInBounds_toArray, List.set_cons_zero, List.set_cons_succ]
  refine take_x (some 6) 2 rfl rfl ?_
  try simp only [Act.put, List.setIfInBounds_toArray, List.set_cons_zero, List.set_cons_succ]
  refine take_d (some 7) (i := 3) (v := .agg cs.toArray) rfl rfl (by kernel_rfl) (by kernel_rfl) (by kernel_rfl) (fun _ _ _ h => h) (Or.inl ⟨by rfl, fun w' hSw => exec_load_blk aggSt hSw.2 8 cs hl hg rfl rfl⟩) (by assumption) ?_
  try simp only [Act.put, List.setIfInBounds_toArray, List.set_cons_zero, List.set_cons_succ]
  refine take_x (some 9) 5 rfl rfl ?_
  try simp only [Act.put, List.setIfInBounds_toArray, List.set_cons_zero, List.set_cons_succ]
  refine take_x (some 10) 6 rfl rfl ?_
  try simp only [Act.put, List.setIfInBounds_toArray, List.set_cons_zero, List.set_cons_succ]
  refine take_x (some 11) 7 rfl rfl ?_
  try simp only [Act.put, List.setIfInBounds_toArray, List.set_cons_zero, List.set_cons_succ]
  refine take_x (some 12) 8 rfl rfl ?_
  try simp only [Act.put, List.setIfInBounds_toArray, List.set_cons_zero, List.set_cons_succ]
  refine take_x (some 13) 9 rfl rfl ?_
  try simp only [Act.put, List.setIfInBounds_toArray, List.set_cons_zero, List.set_cons_succ]
  refine wpAnyH_ready (rs := [4]) (by kernel_rfl) (by simp) ?_
  refine AllReadyH.cons rfl (fun K hK => ?_) AllReadyH.nil
  go_simp
  refine (st_height s cs _ hS).mono ?_
  rintro e w1 ⟨rfl, hb1⟩
  have hb1' : Below w.heap.size w w1 := ⟨hb1.os, hb1.tape, hb1.output, hb1.size, hb1.block⟩
  have L1 := hide (h.below hb1')
  have d5 := (unhide L1).cell (by omega) (unhide L1).p5
  have hB1 := hB.below hb1' hB.lt
  have m1 : Mods (fun k => k = bl) w w1 := bnone hb1'
  go_wp2_with fail
  refine hK.out _ _ (And.intro d5 hB1) (fun hHeld => ?_)
  clear hK K
  try simp only [Act.put, List.setIfInBounds_toArray, List.set_cons_zero, List.set_cons_succ]
  refine take_x (some 14) 10 rfl rfl ?_
  try simp only [Act.put, List.setIfInBounds_toArray, List.set_cons_zero, List.set_cons_succ]
  refine wpAnyH_done (by kernel_rfl) ?_ _
  by_cases hq : (s.stk.length : Int) = m.stack
  · have HN : Hid (leaveS m t s = none) := by show _ = _; unfold leaveS; rw [if_pos hq]
    have hq' : ((s.stk.length : Int) == m.stack) = true := by simpa using hq
    clear hq
    go_wp2_with (go_at_call 157; refine (fit_giveUp _).mono ?_; rintro e w' ⟨rfl, rfl⟩)
    exact ⟨rfl, fun s' e => (by rw [unhide HN] at e; cases e), fun _ => rfl, m1⟩
  · have HN : Hid (leaveS m t s = some (pushL s t)) := by show _ = _; unfold leaveS; rw [if_neg hq]; rfl
    have hq' : ((s.stk.length : Int) == m.stack) = false := by simpa using hq
    have hlt : s.stk.length < 8 := by have := h.ty.2.2; omega
    have HT := hide (leaveS_ty (unhide HN) h.ty ht)
    clear hq
    go_wp2_with fail
    refine (st_push s t w1 bl pre (unhide L1).lk hlt).mono ?_
    rintro e w2 ⟨rfl, hl2, m2⟩
    have L2 := hide ((unhide L1).next hl2 m2 (unhide HT))
    go_wp2_with fail
    go_end0
    refine ⟨fun s' e => ?_, fun e => (by rw [unhide HN] at e; cases e), m1.trans m2 (fun _ _ e => e)⟩
    rw [unhide HN] at e
    simp only [Option.some.injEq] at e
    subst e
    exact ⟨rfl, unhide L2⟩
end Go.Proofs.YtiiokkllmchohaaGreat
/- The code's Fields: new memory. -/
namespace Go.Proofs.YtiiokkllmchohaaGreat
open Go.RowKit
attribute [local go_sem ↓] Go.wp_at_zero Go.wp_at_succ

set_option maxHeartbeats 1000000 in
set_option maxRecDepth 100000 in
theorem code_fields (p : List LClass) (hs : SupOk p p.length) (hz : szProg p ≤ 4194304) : ∀ (n : Nat) (c : Int) (vc : Value) (w : World), RProg w vc p → -1 ≤ c → c < (p.length : Int) → (c + 1).toNat ≤ n →
    Calls Tryz.prog 167 #[.agg #[vc], .int .i64 c] w fun e w' => ∃ v', e = .returned v' ∧
      w'.ownsRow w.heap.size 43 1 v' (fieldsOf p c).length ((fieldsOf p c).map (Value.int .i64)) ∧ Below w.heap.size w w' := by
  intro n
  induction n with
  | zero =>
    intro c vc w hp h1 h2 h3
    obtain ⟨pa, _, _, pcap, rfl, _⟩ := hp
    have hc : c < 0 := by omega
    have HF := hide (fieldsOf_neg p hc)
    go_enter Tryz.func167, Tryz.ntmps167
    go_wp2_with fail
    go_ret
    refine ⟨_, rfl, ?_, box_below _ _⟩
    rw [unhide HF]
    exact World.ownsRow_nil _ _ _ _
  | succ n ih =>
    intro c vc w hp h1 h2 h3
    rcases Int.lt_or_le c 0 with hc | hc
    · obtain ⟨pa, _, _, pcap, rfl, _⟩ := hp
      have HF := hide (fieldsOf_neg p hc)
      clear ih
      go_enter Tryz.func167, Tryz.ntmps167
      go_wp2_with fail
      go_ret
      refine ⟨_, rfl, ?_, box_below _ _⟩
      rw [unhide HF]
      exact World.ownsRow_nil _ _ _ _
    · obtain ⟨k, rfl⟩ := Int.eq_ofNat_of_zero_le hc
      have IH := hide ih
      clear ih
      obtain ⟨i0, hi0, hz0, hz1, hz2⟩ := info_parts infoType
      have HP := hide hp
      obtain ⟨a, b, off, cap, rfl, hcap, ha, hr⟩ := sl_open hp
      have hi : k < p.length := by omega
      obtain rfl := ha (ne_nil_of_lt hi)
      have hX := List.getElem?_eq_getElem hi
      have hsup := supB_le (hs k _ hi hX)
      have hfz := fieldsOf_sz p hs hi
      have HF := hide (fieldsOf_step p hs hi hX)
      clear hX hp
      obtain ⟨vf, vm, c0, c1, c2, hf, hmm⟩ := hr k hi
      have hlen : p[k].fields.length ≤ 4194304 := by
        have := szFields_le p[k]; have := szClass_le (List.getElem_mem hi); omega
      have HFI := hide hf
      obtain ⟨fa, fcap, rfl, hnil, hsrc⟩ := ints_src hf
      clear hr hmm hnil hsrc hf
      generalize p[k] = x at *
      have hki : (k : Int) < (p.length : Int) := by omega
      have hkz : (0 : Int) ≤ (k : Int) := by omega
      go_enter Tryz.func167, Tryz.ntmps167
      go_wp2_with fail
      generalize hW : w.alloc _ = W
      have hbel : Below w.heap.size w W := by rw [← hW]; exact box_below _ _
      have hbox : W.cell? ⟨w.heap.size, 0, none⟩ = some (.slice (some ⟨b, off, none⟩) p.length cap) := by rw [← hW]; exact box_cell _ _ _ 0
      clear hW
      have d0 := Keeps.of_below hbel _ _ c0
      have d1 := Keeps.of_below hbel _ _ c1
      have HPW := hide (prog_keep (Keeps.of_below hbel) (unhide HP))
      have HFW := hide (ints_keep (Keeps.of_below hbel) (unhide HFI))
      clear c0 c1 c2
      refine wp_region_noPanic ?_
      refine wp_region_held_drew (S := (fun w' => w'.cell? ⟨w.heap.size, 0, none⟩ = some (.slice (some ⟨b, off, none⟩) p.length cap) ∧ w'.cell? ⟨b, off + k * 3, none⟩ = some (.int .i64 x.sup) ∧ w'.cell? ⟨b, off + k * 3 + 1, none⟩ = some (.slice fa x.fields.length fcap))) (by kernel_rfl) ?_ (fun hHeld => ?_)
      · exact (And.intro hbox (And.intro d0 d1))
      refine take_x (some 7) 0 rfl rfl ?_
      try simp only [Act.put, List.setIfInBounds_toArray, List.set_cons_zero, List.set_cons_succ]
      refine take_x (some 8) 1 rfl rfl ?_
      try simp only [Act.put, List.setIfInBounds_toArray, List.set_cons_zero, List.set_cons_succ]
      refine take_x (some 9) 2 rfl rfl ?_
      try simp only [Act.put, List.setIfInBounds_toArray, List.set_cons_zero, List.set_cons_succ]
      refine take_x (some 10) 3 rfl rfl ?_
      try simp only [Act.put, List.setIfInBounds_toArray, List.set_cons_zero, List.set_cons_succ]
      refine take_x (some 11) 4 rfl rfl ?_
      try simp only [Act.put, List.setIfInBounds_toArray, List.set_cons_zero, List.set_cons_succ]
      refine take_x (some 12) 5 rfl rfl ?_
      try simp only [Act.put, List.setIfInBounds_toArray, List.set_cons_zero, List.set_cons_succ]
      refine take_x (some 13) 6 rfl rfl ?_
      try simp only [Act.put, List.setIfInBounds_toArray, List.set_cons_zero, List.set_cons_succ]
      refine take_x (some 15) 8 rfl rfl ?_
      try simp only [Act.put, List.setIfInBounds_toArray, List.set_cons_zero, List.set_cons_succ]
      refine take_x (some 16) 9 rfl rfl ?_
      try simp only [Act.put, List.setIfInBounds_toArray, List.set_cons_zero, List.set_cons_succ]
      refine take_x (some 17) 10 rfl rfl ?_
      try simp only [Act.put, List.setIfInBounds_toArray, List.set_cons_zero, List.set_cons_succ]
      refine take_x (some 18) 11 rfl rfl ?_
      try simp only [Act.put, List.setIfInBounds_toArray, List.set_cons_zero, List.set_cons_succ]
      refine take_x (some 19) 12 rfl rfl ?_
      try simp only [Act.put, List.setIfInBounds_toArray, List.set_cons_zero, List.set_cons_succ]
      refine take_x (some 20) 13 rfl rfl ?_
      try simp only [Act.put, List.setIfInBounds_toArray, List.set_cons_zero, List.set_cons_succ]
      refine wpAnyH_ready (rs := [7]) (by kernel_rfl) (by simp) ?_
      refine AllReadyH.cons rfl (fun K hK => ?_) AllReadyH.nil
      go_simp
      refine ((unhide IH) x.sup _ _ (prog_keep (Keeps.of_below ((Below.refl _ _).drew)) (unhide HPW)) hsup.1 (by omega) (by omega)).mono ?_
      rintro e w1 ⟨v', rfl, hown, hb1⟩
      have hb1' : Below W.heap.size W w1 := ⟨hb1.os, hb1.tape, hb1.output, hb1.size, hb1.block⟩
      have k1 := Keeps.of_below hb1'
      go_wp2_with fail
      refine hK.out _ _ (And.intro (k1 _ _ hbox) (And.intro (k1 _ _ d0) (k1 _ _ d1))) (fun hHeld => ?_)
      clear hK K
      try simp only [Act.put, List.setIfInBounds_toArray, List.set_cons_zero, List.set_cons_succ]
      refine wpAnyH_ready (rs := [14]) (by kernel_rfl) (by simp) ?_
      refine AllReadyH.cons rfl (fun K hK => ?_) AllReadyH.nil
      obtain ⟨sa, scap, hsl, hnil, hsrc⟩ := ints_src (ints_keep k1 (unhide HFW))
      simp only [Value.slice.injEq, true_and] at hsl
      obtain ⟨rfl, rfl⟩ := hsl
      have hfl : (fieldsOf p x.sup).length + x.fields.length ≤ 4194304 := by
        have h := congrArg List.length (unhide HF)
        rw [List.length_append] at h
        omega
      refine wp_append_sl (.tmp 14) (.tmp 20) 40 rfl W.heap.size 43 i0 (.int .i64 0) 1 8 Tryz.underlying40 hi0 hz0 hz1 hz2 rfl (by decide) v' (fieldsOf p x.sup).length ((fieldsOf p x.sup).map (Value.int .i64)) rfl hown fa x.fields.length fcap (x.fields.map (Value.int .i64)) rfl (by simp) (fun e => ⟨by rw [(hnil e).1]; rfl, (hnil e).2⟩) hsrc (oneCell_ints _) (by unfold maxLen; omega) (by omega) hb1'.size ?_
      intro v2 w2 hown2 hg2 hat2
      obtain ⟨a2, cap2, rfl⟩ := own_form hown2
      have hb2 : Below W.heap.size W w2 := hb1'.grown hg2 hb1'.size (fun k e => by have := hown.lt k e; exact this.1)
      have k2 := Keeps.of_below hb2
      go_simp
      refine hK.out _ _ (And.intro (k2 _ _ hbox) (And.intro (k2 _ _ d0) (k2 _ _ d1))) (fun hHeld => ?_)
      clear hK K
      try simp only [Act.put, List.setIfInBounds_toArray, List.set_cons_zero, List.set_cons_succ]
      have HO := hide hown2
      clear hown2 hg2 hat2 hown hb1 hb1' k1 k2 hnil hsrc
      refine take_x (some 4) 15 rfl rfl ?_
      try simp only [Act.put, List.setIfInBounds_toArray, List.set_cons_zero, List.set_cons_succ]
      refine wpAnyH_done (by kernel_rfl) ?_ _
      refine NoPanic.normal ?_
      go_wp2_with fail
      go_ret
      refine ⟨_, rfl, ?_, hbel.trans (hb2.mono hbel.size)⟩
      have := own_base (unhide HO) hbel.size
      rw [unhide HF, List.length_append, List.map_append]
      exact this
end Go.Proofs.YtiiokkllmchohaaGreat
