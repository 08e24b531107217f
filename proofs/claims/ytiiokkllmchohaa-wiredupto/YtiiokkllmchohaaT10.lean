/- The walk of the document's answer that reads one number. -/
import Derived.Test.YtiiokkllmchohaaT02
import Derived.Test.YtiiokkllmchohaaT03
import Derived.Test.YtiiokkllmchohaaT09
/- ReadA -/
namespace Go.Proofs.Ytiiokkllmchohaa
open Go.RowKit
attribute [local go_sem ↓] Go.wp_at_zero Go.wp_at_succ

/-- A doubled number, back. -/
def unfoldZ (v : Nat) : Int := if v % 2 = 1 then -((v / 2 : Nat) : Int) - 1 else ((v / 2 : Nat) : Int)
/-- One number: its value, where it ends, was it wrong? -/
def rdU (s : List UInt8) : Nat → Nat → Nat → Nat → Int × Nat × Bool
  | 0, i, _, _ => (0, i, true)
  | f + 1, i, v, u => match s[i]? with
    | none => (0, i, true)
    | some c => if c.toNat < 128 then (unfoldZ ((v + u * (c.toNat % 128) % 18446744073709551616) % 18446744073709551616), i + 1, false) else rdU s f (i + 1) ((v + u * (c.toNat % 128) % 18446744073709551616) % 18446744073709551616) (u * 128 % 18446744073709551616)
def rdN (s : List UInt8) (i : Nat) (bad : Bool) : Int × Nat × Bool := if bad then (0, i, true) else rdU s 10 i 0 1
theorem Mods.set1 {w wr : World} {b : Nat} (hm : Mods (fun k => k = b) w wr) (i : Nat) (v : Value) : Mods (fun k => k = b) w (wr.setCell ⟨b, i, none⟩ v) := hm.setCell (fun _ => rfl) v
/-- The reader's row. -/
abbrev RdAt (w : World) (b : Nat) (s : List UInt8) (i : Nat) (bad : Bool) : Prop := Blk w b 94 [.string ⟨s.toArray⟩, .int .i64 (i : Int), .bool bad]

set_option maxHeartbeats 1000000 in
set_option maxRecDepth 100000 in
theorem ref_rd (s : List UInt8) (i : Nat) (bad : Bool) (b : Nat) (w : World) (h : RdAt w b s i bad) (hs : s.length ≤ 1073741824) (hi : i ≤ s.length) :
    Calls Try.prog 44 #[.pointer (some ⟨b, 0, none⟩)] w fun e w' => e = .returned (.int .i64 (rdN s i bad).1) ∧ RdAt w' b s (rdN s i bad).2.1 (rdN s i bad).2.2 ∧ Mods (fun k => k = b) w w' := by
  cases bad
  · have HR : Hid (rdN s i false = rdU s 10 i 0 1) := rfl
    generalize rdN s i false = r at *
    go_enter Try.func44, Try.ntmps44
    go_wp2_with fail
    go_loopw [3, 4, 5] (fun s3 s4 s5 wr => ∃ k v u j : Nat, k ≤ 10 ∧ s3 = .int .u64 v ∧ s4 = .int .u64 u ∧ s5 = .int .i64 k ∧ v < 18446744073709551616 ∧ u < 18446744073709551616 ∧ j ≤ s.length ∧ r = rdU s (10 - k) j v u ∧ RdAt wr b s j false ∧ Mods (fun k => k = b) w wr) (fun _ _ s5 _ => 10 - (intOf s5).toNat)
    case atStart => exact ⟨0, 0, 1, i, by omega, rfl, rfl, rfl, by omega, by omega, hi, unhide HR, h, Mods.refl _ _⟩
    case round =>
      obtain ⟨k, v, u, j, hk, rfl, rfl, rfl, hv, hu, hj, hr, hb, hm⟩ := hrel
      have HR := hide hr
      have d0 : wr.cell? ⟨b, 0, none⟩ = some (.string ⟨s.toArray⟩) := hb.cell 0
      have d1 : wr.cell? ⟨b, 1, none⟩ = some (.int .i64 j) := hb.cell 1
      have d2 : wr.cell? ⟨b, 2, none⟩ = some (.bool false) := hb.cell 2
      have f1 := hb.frozen 1
      have f2 := hb.frozen 2
      have HB := hide hb
      clear hr hb
      by_cases hk10 : k < 10
      · have hk' : (k : Int) < 10 := by omega
        by_cases hjl : j < s.length
        · have hjl' : ¬ (s.length : Int) ≤ (j : Int) := by omega
          have hjl2 : (j : Int) < (s.length : Int) := by omega
          go_wp2
          go_region_held3 (fun w' => w'.cell? ⟨b, 0, none⟩ = some (.string ⟨s.toArray⟩) ∧ w'.cell? ⟨b, 1, none⟩ = some (.int .i64 j))
            (first | (exact ⟨d0, d1⟩) | go_keep)
            (fail)
          go_wp2
          go_region_held3 (fun w' => w'.cell? ⟨b, 0, none⟩ = some (.string ⟨s.toArray⟩) ∧ w'.cell? ⟨b, 1, none⟩ = some (.int .i64 j))
            (first | (exact ⟨d0, d1⟩) | go_keep)
            (fail)
          have hc := List.getElem?_eq_getElem hjl
          have hcc : ({ data := s.toArray } : ByteArray)[j]'hjl = s[j] := rfl
          rw [hcc]
          have HC := hide hc
          clear hc hcc
          generalize s[j] = c at *
          have hc256 := c.toNat_lt
          obtain ⟨f, hf⟩ : ∃ f, 10 - k = f + 1 := ⟨9 - k, by omega⟩
          have hrr : r = if c.toNat < 128 then (unfoldZ ((v + u * (c.toNat % 128) % 18446744073709551616) % 18446744073709551616), j + 1, false) else rdU s f (j + 1) ((v + u * (c.toNat % 128) % 18446744073709551616) % 18446744073709551616) (u * 128 % 18446744073709551616) := by
            rw [unhide HR, hf, rdU, unhide HC]
          have e1 : IntKind.u64.wrap ((u : Int) * ((c.toNat : Int) % 128)) = ((u * (c.toNat % 128) % 18446744073709551616 : Nat) : Int) := by rw [IntKind.wrap_u64]; simp
          generalize u * (c.toNat % 128) % 18446744073709551616 = a at *
          have e2 : IntKind.u64.wrap ((v : Int) + (a : Int)) = (((v + a) % 18446744073709551616 : Nat) : Int) := by rw [IntKind.wrap_u64]; omega
          have hV : (v + a) % 18446744073709551616 < 18446744073709551616 := Nat.mod_lt _ (by omega)
          generalize (v + a) % 18446744073709551616 = V at *
          have e3 : IntKind.u64.wrap ((u : Int) * 128) = ((u * 128 % 18446744073709551616 : Nat) : Int) := by rw [IntKind.wrap_u64]; omega
          have hU : u * 128 % 18446744073709551616 < 18446744073709551616 := Nat.mod_lt _ (by omega)
          generalize u * 128 % 18446744073709551616 = U at *
          have hbj : ∀ x : Value, x = .int .i64 ((j + 1 : Nat) : Int) → RdAt ((wr.setCell ⟨b, 1, none⟩ x).drew.drew) b s (j + 1) false := fun x hx => by subst hx; exact (unhide HB).setCell 1 _
          have HBJ := hide hbj
          clear hbj
          have ht : (V : Int).tmod 2 = ((V % 2 : Nat) : Int) := by rw [Int.tmod_eq_emod_of_nonneg (by omega)]; simp
          by_cases hc1 : c.toNat < 128
          · rw [if_pos hc1] at hrr
            have HRR := hide hrr
            clear hrr
            have hc1' : (c.toNat : Int) < 128 := by omega
            by_cases hod : V % 2 = 1
            · have ho : ((V : Int).tmod 2 == 1) = true := by rw [ht, hod]; rfl
              clear ht
              have e4 : (V : Int).tdiv 2 = ((V / 2 : Nat) : Int) := by simp
              go_wp2
              go_ret
              have hr : r = (-((V / 2 : Nat) : Int) - 1, j + 1, false) := by rw [unhide HRR, unfoldZ, if_pos hod]
              subst hr
              refine ⟨?_, unhide HBJ _ (by simp), ((hm.set1 1 _).drew).drew⟩
              show Ending.returned (.int .i64 (-((V : Int) / 2) - 1)) = .returned (.int .i64 (-((V / 2 : Nat) : Int) - 1))
              simp
            · have ho : ((V : Int).tmod 2 == 1) = false := by rw [ht, (by omega : V % 2 = 0)]; rfl
              clear ht
              have e4 : (V : Int).tdiv 2 = ((V / 2 : Nat) : Int) := by simp
              go_wp2
              go_ret
              have hr : r = (((V / 2 : Nat) : Int), j + 1, false) := by rw [unhide HRR, unfoldZ, if_neg hod]
              subst hr
              refine ⟨?_, unhide HBJ _ (by simp), ((hm.set1 1 _).drew).drew⟩
              show Ending.returned (.int .i64 ((V : Int) / 2)) = .returned (.int .i64 ((V / 2 : Nat) : Int))
              simp
          · rw [if_neg hc1] at hrr
            have HRR := hide hrr
            clear hrr
            have hc1' : ¬ (c.toNat : Int) < 128 := by omega
            go_wp2
            refine ⟨⟨k + 1, V, U, j + 1, by omega, rfl, rfl, by go_num, hV, hU, by omega, ?_, unhide HBJ _ (by simp), ((hm.set1 1 _).drew).drew⟩, by simp [intOf]; omega⟩
            rw [unhide HRR, (by omega : 10 - (k + 1) = f)]
        · have hjl' : (s.length : Int) ≤ (j : Int) := by omega
          go_wp2
          go_region_held3 (fun w' => w'.cell? ⟨b, 0, none⟩ = some (.string ⟨s.toArray⟩) ∧ w'.cell? ⟨b, 1, none⟩ = some (.int .i64 j))
            (first | (exact ⟨d0, d1⟩) | go_keep)
            (fail)
          go_wp2
          go_ret
          obtain ⟨f, hf⟩ : ∃ f, 10 - k = f + 1 := ⟨9 - k, by omega⟩
          have hr : r = (0, j, true) := by rw [unhide HR, hf]; simp [rdU, List.getElem?_eq_none (by omega : s.length ≤ j)]
          subst hr
          exact ⟨rfl, (unhide HB).setCell 2 _, (hm.set1 2 _).drew⟩
      · have hk' : ¬ (k : Int) < 10 := by omega
        go_wp2
        go_ret
        have hr : r = (0, j, true) := by rw [unhide HR, (by omega : 10 - k = 0)]; rfl
        subst hr
        exact ⟨rfl, (unhide HB).setCell 2 _, hm.set1 2 _⟩
  · have d2 : w.cell? ⟨b, 2, none⟩ = some (.bool true) := h.cell 2
    have f2 := h.frozen 2
    have HB := hide h
    clear h
    go_enter Try.func44, Try.ntmps44
    go_wp2_with fail
    go_loopw [3, 4, 5] (fun s3 s4 s5 wr => s3 = .int .u64 0 ∧ s4 = .int .u64 1 ∧ s5 = .int .i64 0 ∧ wr = w) (fun _ _ _ _ => 0)
    case atStart => exact ⟨rfl, rfl, rfl, rfl⟩
    case round =>
      obtain ⟨rfl, rfl, rfl, rfl⟩ := hrel
      go_wp2
      go_ret
      exact ⟨rfl, (unhide HB).setCell 2 _, (Mods.refl _ _).set1 2 _⟩
end Go.Proofs.Ytiiokkllmchohaa
/- The walk of the document's answer that reads how many there are. -/
namespace Go.Proofs.Ytiiokkllmchohaa
open Go.RowKit
attribute [local go_sem ↓] Go.wp_at_zero Go.wp_at_succ

theorem rdU_le {s : List UInt8} : ∀ (f i v u : Nat), i ≤ s.length → (rdU s f i v u).2.1 ≤ s.length
  | 0, i, v, u, h => h
  | f + 1, i, v, u, h => by
    rw [rdU]
    rcases hx : s[i]? with _ | c
    · exact h
    · have hi := (List.getElem?_eq_some_iff.1 hx).1
      simp only
      split
      · exact hi
      · exact rdU_le f _ _ _ hi
theorem rdN_le {s : List UInt8} {i : Nat} (bad : Bool) (h : i ≤ s.length) : (rdN s i bad).2.1 ≤ s.length := by
  unfold rdN
  split
  · exact h
  · exact rdU_le _ _ _ _ h
theorem unfoldZ_i64 {v : Nat} (h : v < 18446744073709551616) : I64 (unfoldZ v) := by
  unfold unfoldZ I64
  split <;> omega
theorem rdU_i64 {s : List UInt8} : ∀ (f i v u : Nat), I64 (rdU s f i v u).1
  | 0, i, v, u => ⟨by simp [rdU], by simp [rdU]⟩
  | f + 1, i, v, u => by
    rw [rdU]
    rcases hx : s[i]? with _ | c
    · exact ⟨by simp, by simp⟩
    · simp only
      split
      · exact unfoldZ_i64 (Nat.mod_lt _ (by omega))
      · exact rdU_i64 f _ _ _
theorem rdN_i64 (s : List UInt8) (i : Nat) (bad : Bool) : I64 (rdN s i bad).1 := by
  unfold rdN
  split
  · exact ⟨by simp, by simp⟩
  · exact rdU_i64 _ _ _ _
/-- How many: no more than 40. -/
def rdM (s : List UInt8) (i : Nat) (bad : Bool) : Int × Nat × Bool := if (rdN s i bad).1 < 0 ∨ 40 < (rdN s i bad).1 then (0, (rdN s i bad).2.1, true) else rdN s i bad
theorem rdM_le {s : List UInt8} {i : Nat} (bad : Bool) (h : i ≤ s.length) : (rdM s i bad).2.1 ≤ s.length := by
  unfold rdM
  split
  · exact rdN_le bad h
  · exact rdN_le bad h
theorem rdM_40 (s : List UInt8) (i : Nat) (bad : Bool) : 0 ≤ (rdM s i bad).1 ∧ (rdM s i bad).1 ≤ 40 := by
  unfold rdM
  split
  · exact ⟨by simp, by simp⟩
  · omega

set_option maxHeartbeats 1000000 in
set_option maxRecDepth 100000 in
theorem ref_many (s : List UInt8) (i : Nat) (bad : Bool) (b : Nat) (w : World) (h : RdAt w b s i bad) (hs : s.length ≤ 1073741824) (hi : i ≤ s.length) :
    Calls Try.prog 43 #[.pointer (some ⟨b, 0, none⟩)] w fun e w' => e = .returned (.int .i64 (rdM s i bad).1) ∧ RdAt w' b s (rdM s i bad).2.1 (rdM s i bad).2.2 ∧ Mods (fun k => k = b) w w' := by
  go_enter Try.func43, Try.ntmps43
  go_wp2_with fail
  refine (ref_rd s i bad b w h hs hi).mono ?_
  rintro e w1 ⟨rfl, hb, hm⟩
  have f2 := hb.frozen 2
  have d2 : w1.cell? ⟨b, 2, none⟩ = some (.bool (rdN s i bad).2.2) := hb.cell 2
  have HB := hide hb
  have HR : Hid (rdM s i bad = if (rdN s i bad).1 < 0 ∨ 40 < (rdN s i bad).1 then (0, (rdN s i bad).2.1, true) else rdN s i bad) := rfl
  clear hb h
  generalize rdN s i bad = r at *
  obtain ⟨n, j, q⟩ := r
  simp only at *
  by_cases h0 : n < 0
  · have HQ : Hid (rdM s i bad = (0, j, true)) := by show _ = _; rw [unhide HR, if_pos (.inl h0)]
    go_wp2
    go_ret
    rw [unhide HQ]
    exact ⟨rfl, (unhide HB).setCell 2 _, hm.set1 2 _⟩
  by_cases h4 : 40 < n
  · have HQ : Hid (rdM s i bad = (0, j, true)) := by show _ = _; rw [unhide HR, if_pos (.inr h4)]
    go_wp2
    go_ret
    rw [unhide HQ]
    exact ⟨rfl, (unhide HB).setCell 2 _, hm.set1 2 _⟩
  · have HQ : Hid (rdM s i bad = (n, j, q)) := by show _ = _; rw [unhide HR, if_neg (by omega)]
    go_wp2
    go_ret
    rw [unhide HQ]
    exact ⟨rfl, unhide HB, hm⟩
end Go.Proofs.Ytiiokkllmchohaa
/- The walk of the document's answer that reads types. -/
namespace Go.Proofs.Ytiiokkllmchohaa
open Go.RowKit
attribute [local go_sem ↓] Go.wp_at_zero Go.wp_at_succ

/-- So many numbers. -/
def rdTs (s : List UInt8) : Nat → Nat → Bool → List Int × Nat × Bool
  | 0, i, bad => ([], i, bad)
  | n + 1, i, bad => if bad then ([], i, true) else ((rdN s i false).1 :: (rdTs s n (rdN s i false).2.1 (rdN s i false).2.2).1, (rdTs s n (rdN s i false).2.1 (rdN s i false).2.2).2)
theorem rdTs_bad (s : List UInt8) (n i : Nat) : rdTs s n i true = ([], i, true) := by cases n <;> rfl
theorem rdTs_succ (s : List UInt8) (n i : Nat) : rdTs s (n + 1) i false = ((rdN s i false).1 :: (rdTs s n (rdN s i false).2.1 (rdN s i false).2.2).1, (rdTs s n (rdN s i false).2.1 (rdN s i false).2.2).2) := rfl
theorem rdTs_le {s : List UInt8} : ∀ (n i : Nat) (bad : Bool), i ≤ s.length → (rdTs s n i bad).2.1 ≤ s.length
  | 0, i, bad, h => h
  | n + 1, i, true, h => h
  | n + 1, i, false, h => by rw [rdTs_succ]; exact rdTs_le n _ _ (rdN_le false h)
theorem rdTs_len {s : List UInt8} : ∀ (n i : Nat) (bad : Bool), (rdTs s n i bad).1.length ≤ n
  | 0, i, bad => Nat.le_refl _
  | n + 1, i, true => Nat.zero_le _
  | n + 1, i, false => by rw [rdTs_succ]; have := rdTs_len (s := s) n (rdN s i false).2.1 (rdN s i false).2.2; simp; omega
theorem rdTs_i64 {s : List UInt8} : ∀ (n i : Nat) (bad : Bool), ∀ x ∈ (rdTs s n i bad).1, I64 x
  | 0, i, bad => fun x h => by cases h
  | n + 1, i, true => fun x h => by cases h
  | n + 1, i, false => by
    rw [rdTs_succ]
    intro x h
    rcases List.mem_cons.1 h with rfl | h
    · exact rdN_i64 _ _ _
    · exact rdTs_i64 n _ _ x h

set_option maxHeartbeats 1000000 in
set_option maxRecDepth 100000 in
theorem ref_rdtypes (s : List UInt8) (n i : Nat) (bad : Bool) (b : Nat) (w : World) (h : RdAt w b s i bad) (hs : s.length ≤ 1073741824) (hi : i ≤ s.length) (hn : n ≤ 40) :
    Calls Try.prog 45 #[.pointer (some ⟨b, 0, none⟩), .int .i64 n] w fun e w' => ∃ v, e = .returned v ∧ w'.ownsRow w.heap.size 52 1 v (rdTs s n i bad).1.length ((rdTs s n i bad).1.map (Value.int .i64)) ∧ RdAt w' b s (rdTs s n i bad).2.1 (rdTs s n i bad).2.2 ∧ Mods (fun k => k = b) w w' := by
  obtain ⟨i0, hi0, hz0, hz1, hz2⟩ := info_parts infoType
  have hbl := h.lt
  generalize hR : rdTs s n i bad = R
  have HR := hide hR
  clear hR
  go_enter Try.func45, Try.ntmps45
  go_wp2_with fail
  go_loopw [5, 6] (fun s5 s6 wr => ∃ (k j : Nat) (l : List Int) (q : Bool), k ≤ n ∧ s6 = .int .i64 k ∧ l.length = k ∧ wr.ownsRow w.heap.size 52 1 s5 l.length (l.map (Value.int .i64)) ∧ RdAt wr b s j q ∧ j ≤ s.length ∧ Mods (fun k => k = b) w wr ∧ R = (l ++ (rdTs s (n - k) j q).1, (rdTs s (n - k) j q).2)) (fun _ s6 _ => n - (intOf s6).toNat)
  case atStart => exact ⟨0, i, [], bad, Nat.zero_le _, rfl, rfl, World.ownsRow_nil _ _ _ _, h, hi, Mods.refl _ _, (unhide HR).symm⟩
  case round =>
    obtain ⟨k, j, l, q, hk, rfl, hlk, hrow, hb, hj, hm, hr⟩ := hrel
    obtain ⟨a, cap, hv⟩ := own_form hrow
    subst hv
    have HQ := hide hr
    have HLK := hide hlk
    have HROW := hide hrow
    have d2 : wr.cell? ⟨b, 2, none⟩ = some (.bool q) := hb.cell 2
    have HB := hide hb
    clear hr hlk hrow hb h
    by_cases hkn : k < n
    · have hkn' : (k : Int) < (n : Int) := by omega
      cases q
      · go_wp2_with fail
        refine (ref_rd s j false b wr (unhide HB) hs hj).mono ?_
        rintro e w1 ⟨rfl, hb1, hm1⟩
        have hrow1 := own_mods (unhide HROW) hm1 (fun g e f => by have := (unhide HROW).lt g e; omega)
        have hm2 : Mods (fun k => k = b) w w1 := hm.trans hm1 (fun _ _ e => e)
        have hl64 : l.length + 1 ≤ maxLen := by rw [unhide HLK]; unfold maxLen; omega
        obtain ⟨v', w4, happ, hown4, hm4, hat4⟩ := app_ex (P := Try.prog) (W := w1) 31 31 52 i0 (.int .i64 0) 1 8 Try.underlying31 hi0 hz0 hz1 hz2 rfl (by decide) w.heap.size (.slice a l.length cap) l.length (l.map (Value.int .i64)) hrow1 #[.int .i64 (rdN s j false).1] rfl (by simp [Value.oneCell']) w1.heap.size rfl hl64 (by rw [unhide HLK]; omega) hm2.size
        obtain ⟨f, hf⟩ : ∃ f, n - k = f + 1 := ⟨n - k - 1, by omega⟩
        have hrr : R = (l ++ [(rdN s j false).1] ++ (rdTs s f (rdN s j false).2.1 (rdN s j false).2.2).1, (rdTs s f (rdN s j false).2.1 (rdN s j false).2.2).2) := by
          rw [unhide HQ, hf, rdTs_succ]; simp
        have HRR := hide hrr
        have HJ := hide (rdN_le false hj)
        have HOWN := hide hown4
        have hbb : b ≠ w.heap.size := by omega
        have HB4 := hide (hb1.mods hm4 (fun e => by have := (unhide HROW).lt _ e; omega))
        have HM4 := hide (hm2.trans hm4 (fun g hg e => by have := (unhide HROW).lt _ e; omega))
        clear hrr hown4 hm4 hat4 hb1 hm1 hrow1 hm2
        generalize rdN s j false = r at *
        go_wp2_with (at_builtin; refine wpList_append_run rfl (.tmp 22) (.tmp 24) 31 rfl _ _ rfl rfl happ ?_)
        refine ⟨⟨k + 1, r.2.1, l ++ [r.1], r.2.2, by omega, by go_num, by simp [unhide HLK], ?_, unhide HB4, unhide HJ, unhide HM4, ?_⟩, by simp [intOf]; omega⟩
        · have := unhide HOWN
          simpa using this
        · rw [unhide HRR, (by omega : n - (k + 1) = f)]
      · go_wp2
        go_ret
        have hr : R = (l, j, true) := by rw [unhide HQ, rdTs_bad]; simp
        subst hr
        exact ⟨_, rfl, unhide HROW, unhide HB, hm⟩
    · have hkn' : ¬ (k : Int) < (n : Int) := by omega
      go_wp2
      go_ret
      have hr : R = (l, j, q) := by rw [unhide HQ, (by omega : n - k = 0)]; simp [rdTs]
      subst hr
      exact ⟨_, rfl, unhide HROW, unhide HB, hm⟩
end Go.Proofs.Ytiiokkllmchohaa
/- What was written is read back: numbers and lists of numbers. -/
namespace Go.Proofs.Ytiiokkllmchohaa
open Go.RowKit

theorem unfold_fold (n : Int) : unfoldZ (foldZ n) = n := by
  unfold unfoldZ foldZ
  split <;> split <;> omega
theorem drop_cons_get {s r : List UInt8} {i : Nat} {c : UInt8} (h : s.drop i = c :: r) : s[i]? = some c ∧ s.drop (i + 1) = r := by
  constructor
  · rw [← List.head?_drop, h]; rfl
  · rw [← List.tail_drop, h]; rfl
theorem rdU_enc {s rest : List UInt8} : ∀ (f V i v u : Nat), V < 128 ^ f → s.drop i = encU f V ++ rest → v + u * V < 18446744073709551616 → 0 < f → rdU s f i v u = (unfoldZ (v + u * V), i + (encU f V).length, false)
  | 0, _, _, _, _, _, _, _, h => absurd h (by omega)
  | f + 1, V, i, v, u, hV, hd, hb, _ => by
    by_cases hlt : V < 128
    · rw [encU_lt hlt] at hd ⊢
      obtain ⟨hg, _⟩ := drop_cons_get hd
      have hc : (UInt8.ofNat V).toNat = V := by simp [UInt8.toNat_ofNat']; omega
      have huv : u * V % 18446744073709551616 = u * V := Nat.mod_eq_of_lt (by omega)
      rw [rdU, hg]
      simp only [hc, if_pos hlt, Nat.mod_eq_of_lt hlt, huv, Nat.mod_eq_of_lt hb]
      rfl
    · rw [encU_ge hlt] at hd ⊢
      obtain ⟨hg, hd'⟩ := drop_cons_get (show s.drop i = UInt8.ofNat (128 + V % 128) :: (encU f (V / 128) ++ rest) from hd)
      have hc : (UInt8.ofNat (128 + V % 128)).toNat = 128 + V % 128 := by simp [UInt8.toNat_ofNat']; omega
      have hu1 : u * 128 ≤ u * V := Nat.mul_le_mul_left u (by omega)
      have hu2 : u * (V % 128) ≤ u * V := Nat.mul_le_mul_left u (Nat.mod_le _ _)
      have hsum : v + u * (V % 128) + u * 128 * (V / 128) = v + u * V := by
        rw [Nat.mul_assoc, Nat.add_assoc, ← Nat.mul_add]
        congr 2
        omega
      have hf : 0 < f := by
        cases f with
        | zero => simp at hV; omega
        | succ f => omega
      have ih := rdU_enc (s := s) (rest := rest) f (V / 128) (i + 1) (v + u * (V % 128)) (u * 128) (by rw [Nat.pow_succ] at hV; omega) hd' (by omega) hf
      have e1 : (128 + V % 128) % 128 = V % 128 := by omega
      have e2 : ¬ 128 + V % 128 < 128 := by omega
      rw [rdU, hg]
      simp only [hc, e1, if_neg e2, Nat.mod_eq_of_lt (by omega : u * (V % 128) < 18446744073709551616), Nat.mod_eq_of_lt (by omega : v + u * (V % 128) < 18446744073709551616), Nat.mod_eq_of_lt (by omega : u * 128 < 18446744073709551616)]
      rw [ih, hsum, List.length_cons]
      congr 2
      omega
theorem rdN_enc {s rest : List UInt8} {n : Int} {i : Nat} (hn : I64 n) (hd : s.drop i = encN n ++ rest) : rdN s i false = (n, i + (encN n).length, false) := by
  have hf := foldZ_lt hn
  have := rdU_enc (s := s) (rest := rest) 10 (foldZ n) i 0 1 (by omega) hd (by omega) (by omega)
  rw [Nat.zero_add, Nat.one_mul, unfold_fold] at this
  exact this
theorem drop_app {s a b : List UInt8} {i : Nat} (h : s.drop i = a ++ b) : s.drop (i + a.length) = b := by
  rw [← List.drop_drop, h, List.drop_left]
theorem rdTs_enc {s : List UInt8} : ∀ (l : List Int) (rest : List UInt8) (i : Nat), (∀ x ∈ l, I64 x) → s.drop i = encTs l ++ rest → rdTs s l.length i false = (l, i + (encTs l).length, false)
  | [], rest, i, _, _ => by simp [rdTs, encTs]
  | x :: r, rest, i, hx, hd => by
    have e : encTs (x :: r) = encN x ++ encTs r := by unfold encTs; rw [List.flatMap_cons]
    rw [e, List.append_assoc] at hd
    have h1 := rdN_enc (hx x (List.mem_cons_self ..)) hd
    have h2 := rdTs_enc r rest (i + (encN x).length) (fun y hy => hx y (List.mem_cons_of_mem _ hy)) (drop_app hd)
    rw [List.length_cons, rdTs_succ, h1]
    simp only [h2, e, List.length_append]
    congr 2
    omega
theorem rdM_enc {s rest : List UInt8} {n i : Nat} (hn : n ≤ 40) (hd : s.drop i = encN (n : Int) ++ rest) : rdM s i false = ((n : Int), i + (encN (n : Int)).length, false) := by
  have h1 := rdN_enc (i64_nat (by omega)) hd
  unfold rdM
  rw [h1, if_neg (by simp; omega)]
end Go.Proofs.Ytiiokkllmchohaa
/- Walk of the document's answer: a method's head. -/
namespace Go.Proofs.Ytiiokkllmchohaa
open Go.RowKit
attribute [local go_sem ↓] Go.wp_at_zero Go.wp_at_succ

set_option maxHeartbeats 4000000 in
set_option maxRecDepth 100000 in
theorem ref_head_no (p : List LClass) (vc : Value) (c k : Nat) (x : LClass) (m : LMeth) (w : World) (hp : RProg w vc p) (hX : p[c]? = some x) (hM : x.meths[k]? = some m) (hwf : wfProg p) (hz : szProg p ≤ 4194304) (hb : bareB p.length m = false) :
    Calls Try.prog 41 #[.agg #[vc], .int .i64 c, .int .i64 k] w fun e w' => e = .returned (.bool (headB p x k m)) ∧ Below w.heap.size w w' := by
  obtain ⟨hi, hxe⟩ := List.getElem?_eq_some_iff.1 hX
  obtain ⟨hk, hme⟩ := List.getElem?_eq_some_iff.1 hM
  have hxm : x ∈ p := hxe ▸ List.getElem_mem hi
  have hmm : m ∈ x.meths := hme ▸ List.getElem_mem hk
  have hwx := hwf x hxm
  have hwm := hwx.2.2 m hmm
  have hpl : p.length ≤ 4194304 := Nat.le_trans (szProg_len p) hz
  have hxl : szClass x ≤ 4194304 := Nat.le_trans (szClass_le hxm) hz
  have hml : szMeth m ≤ 4194304 := Nat.le_trans (szMeth_le hmm) hxl
  have hms : x.meths.length ≤ 4194304 := Nat.le_trans (szMeths_le x) hxl
  have hal : m.args.length ≤ 4194304 := by unfold szMeth at hml; omega
  obtain ⟨a, b, off, cap, rfl, hcap, ha, hr⟩ := sl_open hp
  obtain rfl := ha (ne_nil_of_lt hi)
  obtain ⟨vf, vm, c0, c1, c2, hf, hmt⟩ := hr c hi
  rw [hxe] at c0 hf hmt
  obtain ⟨ma, mb, moff, mcap, rfl, hmcap, hma, hmr⟩ := sl_open hmt
  obtain rfl := hma (ne_nil_of_lt hk)
  obtain ⟨va, vcd, vfr, hmv, m0, m1, m2, m3, m4, m5, m6⟩ := hmr k hk
  rw [hme] at m0 m2 m3 m4 hmv
  obtain ⟨ha0, hc0, hf0⟩ := hmv
  have HA0 := hide ha0
  obtain ⟨aa, ab, aoff, acap, rfl, _, _, _⟩ := sl_open ha0
  obtain ⟨ca, cb, coff, ccap, rfl, _, _, _⟩ := sl_open hc0
  obtain ⟨fa, fb, foff, fcap, rfl, _, _, _⟩ := sl_open hf0
  clear ha0 hc0 hf0
  have hlt := cell_lt c0
  have hlt' := cell_lt m0
  have HXE := hide hxe
  have HME := hide hme
  have HX := hide hX
  have HM := hide hM
  have HMR := hide hmr
  clear hr hf hxe hme hX hM hmr
  go_enter Try.func41, Try.ntmps41
  go_wp2_with fail
  generalize hW : (w.alloc _).alloc _ = W
  have hbel : Below w.heap.size w W := by rw [← hW]; exact box2_below _ _ _
  have hbox : W.cell? ⟨w.heap.size, 0, none⟩ = some (.slice (some ⟨b, off, none⟩) p.length cap) := by rw [← hW]; exact box2_fst _ _ _ _ 0
  have l0 : W.cell? ⟨w.heap.size + 1, 0, none⟩ = some (.int .i64 m.slot) := by rw [← hW]; exact box2_snd _ _ _ _ 0
  have l1 : W.cell? ⟨w.heap.size + 1, 1, none⟩ = some (.slice aa m.args.length acap) := by rw [← hW]; exact box2_snd _ _ _ _ 1
  have l2 : W.cell? ⟨w.heap.size + 1, 2, none⟩ = some (.int .i64 m.ret) := by rw [← hW]; exact box2_snd _ _ _ _ 2
  have l3 : W.cell? ⟨w.heap.size + 1, 3, none⟩ = some (.int .i64 m.locals) := by rw [← hW]; exact box2_snd _ _ _ _ 3
  have l4 : W.cell? ⟨w.heap.size + 1, 4, none⟩ = some (.int .i64 m.stack) := by rw [← hW]; exact box2_snd _ _ _ _ 4
  clear hW
  have hkp := Keeps.of_below hbel
  have KP := hide hkp
  have d0 := hkp _ _ c0
  have d2 := hkp _ _ c2
  clear hkp c0 c1 c2 m0 m1 m2 m3 m4 m5 m6
  refine (ref_alldeclared _ _ _ _ (ints_keep (unhide KP) (unhide HA0)) hwm.2.1 hal).mono ?_
  rintro e w1 ⟨rfl, rfl⟩
  go_wp2_with fail
  refine (ref_declared _ _ _ hwm.2.2.1).mono ?_
  rintro e w2 ⟨rfl, rfl⟩
  by_cases g1 : m.slot < 0
  · go_wp2_with fail
    go_ret
    exact ⟨ret_bool (head_no (fun h => by omega)).symm, hbel⟩
  by_cases g2 : 5 < m.slot
  · go_wp2_with fail
    go_ret
    exact ⟨ret_bool (head_no (fun h => by omega)).symm, hbel⟩
  by_cases g3 : 3 < m.args.length
  · go_wp2_with fail
    go_ret
    exact ⟨ret_bool (head_no (fun h => by omega)).symm, hbel⟩
  cases hA : m.args.all (declB p.length)
  · go_wp2_with fail
    go_ret
    exact ⟨ret_bool (head_no (fun h => by rw [hA] at h; exact Bool.false_ne_true h.2.2.2.1)).symm, hbel⟩
  cases hR : declB p.length m.ret
  · go_wp2_with fail
    go_ret
    exact ⟨ret_bool (head_no (fun h => by rw [hR] at h; exact Bool.false_ne_true h.2.2.2.2.1)).symm, hbel⟩
  by_cases g4 : m.locals < 1 + m.args.length
  · go_wp2_with fail
    go_ret
    exact ⟨ret_bool (head_no (fun h => by omega)).symm, hbel⟩
  by_cases g5 : 8 < m.locals
  · go_wp2_with fail
    go_ret
    exact ⟨ret_bool (head_no (fun h => by omega)).symm, hbel⟩
  by_cases g6 : m.stack < 0
  · go_wp2_with fail
    go_ret
    exact ⟨ret_bool (head_no (fun h => by omega)).symm, hbel⟩
  by_cases g7 : 8 < m.stack
  · go_wp2_with fail
    go_ret
    exact ⟨ret_bool (head_no (fun h => by omega)).symm, hbel⟩
  exact absurd (bareB_iff.2 ⟨by omega, by omega, by omega, hA, hR, by omega, by omega, by omega, by omega⟩) (by rw [hb]; exact Bool.false_ne_true)
end Go.Proofs.Ytiiokkllmchohaa
/- Walk of the document's answer: a method's head, the good case. -/
namespace Go.Proofs.Ytiiokkllmchohaa
open Go.RowKit
attribute [local go_sem ↓] Go.wp_at_zero Go.wp_at_succ

set_option maxHeartbeats 4000000 in
set_option maxRecDepth 100000 in
theorem ref_head_yes (p : List LClass) (vc : Value) (c k : Nat) (x : LClass) (m : LMeth) (w : World) (hp : RProg w vc p) (hs : SupOk p (c + 1)) (hX : p[c]? = some x) (hM : x.meths[k]? = some m) (hwf : wfProg p) (hz : szProg p ≤ 4194304) (hb : bareB p.length m = true) :
    Calls Try.prog 41 #[.agg #[vc], .int .i64 c, .int .i64 k] w fun e w' => e = .returned (.bool (headB p x k m)) ∧ Below w.heap.size w w' := by
  obtain ⟨g1, g2, g3, hA, hR, g4, g5, g6, g7⟩ := bareB_iff.1 hb
  have HB := hide hb
  clear hb
  obtain ⟨hi, hxe⟩ := List.getElem?_eq_some_iff.1 hX
  obtain ⟨hk, hme⟩ := List.getElem?_eq_some_iff.1 hM
  have hxm : x ∈ p := hxe ▸ List.getElem_mem hi
  have hmm : m ∈ x.meths := hme ▸ List.getElem_mem hk
  have hwx := hwf x hxm
  have hwm := hwx.2.2 m hmm
  have hpl : p.length ≤ 4194304 := Nat.le_trans (szProg_len p) hz
  have hxl : szClass x ≤ 4194304 := Nat.le_trans (szClass_le hxm) hz
  have hml : szMeth m ≤ 4194304 := Nat.le_trans (szMeth_le hmm) hxl
  have hms : x.meths.length ≤ 4194304 := Nat.le_trans (szMeths_le x) hxl
  have hal : m.args.length ≤ 4194304 := by unfold szMeth at hml; omega
  obtain ⟨a, b, off, cap, rfl, hcap, ha, hr⟩ := sl_open hp
  obtain rfl := ha (ne_nil_of_lt hi)
  obtain ⟨vf, vm, c0, c1, c2, hf, hmt⟩ := hr c hi
  rw [hxe] at c0 hf hmt
  obtain ⟨ma, mb, moff, mcap, rfl, hmcap, hma, hmr⟩ := sl_open hmt
  obtain rfl := hma (ne_nil_of_lt hk)
  obtain ⟨va, vcd, vfr, hmv, m0, m1, m2, m3, m4, m5, m6⟩ := hmr k hk
  rw [hme] at m0 m2 m3 m4 hmv
  obtain ⟨ha0, hc0, hf0⟩ := hmv
  have HA0 := hide ha0
  obtain ⟨aa, ab, aoff, acap, rfl, _, _, _⟩ := sl_open ha0
  obtain ⟨ca, cb, coff, ccap, rfl, _, _, _⟩ := sl_open hc0
  obtain ⟨fa, fb, foff, fcap, rfl, _, _, _⟩ := sl_open hf0
  clear ha0 hc0 hf0
  have hlt := cell_lt c0
  have hlt' := cell_lt m0
  have HXE := hide hxe
  have HME := hide hme
  have HX := hide hX
  have HM := hide hM
  have HMR := hide hmr
  clear hr hf hxe hme hX hM hmr
  go_enter Try.func41, Try.ntmps41
  go_wp2_with fail
  generalize hW : (w.alloc _).alloc _ = W
  have hbel : Below w.heap.size w W := by rw [← hW]; exact box2_below _ _ _
  have hbox : W.cell? ⟨w.heap.size, 0, none⟩ = some (.slice (some ⟨b, off, none⟩) p.length cap) := by rw [← hW]; exact box2_fst _ _ _ _ 0
  have l0 : W.cell? ⟨w.heap.size + 1, 0, none⟩ = some (.int .i64 m.slot) := by rw [← hW]; exact box2_snd _ _ _ _ 0
  have l1 : W.cell? ⟨w.heap.size + 1, 1, none⟩ = some (.slice aa m.args.length acap) := by rw [← hW]; exact box2_snd _ _ _ _ 1
  have l2 : W.cell? ⟨w.heap.size + 1, 2, none⟩ = some (.int .i64 m.ret) := by rw [← hW]; exact box2_snd _ _ _ _ 2
  have l3 : W.cell? ⟨w.heap.size + 1, 3, none⟩ = some (.int .i64 m.locals) := by rw [← hW]; exact box2_snd _ _ _ _ 3
  have l4 : W.cell? ⟨w.heap.size + 1, 4, none⟩ = some (.int .i64 m.stack) := by rw [← hW]; exact box2_snd _ _ _ _ 4
  clear hW
  have hkp := Keeps.of_below hbel
  have KP := hide hkp
  have d0 := hkp _ _ c0
  have d2 := hkp _ _ c2
  clear hkp c0 c1 c2 m0 m1 m2 m3 m4 m5 m6
  refine (ref_alldeclared _ _ _ _ (ints_keep (unhide KP) (unhide HA0)) hwm.2.1 hal).mono ?_
  rintro e w1 ⟨rfl, rfl⟩
  go_wp2_with fail
  refine (ref_declared _ _ _ hwm.2.2.1).mono ?_
  rintro e w2 ⟨rfl, rfl⟩
  have hslot : ∀ (j : Nat) (hj : j < x.meths.length), w2.cell? ⟨mb, moff + j * 7, none⟩ = some (.int .i64 x.meths[j].slot) := fun j hj => by
    obtain ⟨_, _, _, _, h, _⟩ := unhide HMR j hj; exact unhide KP _ _ h
  go_wp2_with fail
  go_loopw [11] (fun s wr => ∃ i : Nat, i ≤ k ∧ s = .int .i64 i ∧ (∀ (j : Nat) (hj : j < x.meths.length), j < i → x.meths[j].slot ≠ m.slot) ∧ ∃ nq, wr = w2.drewN nq) (fun s _ => k - (intOf s).toNat)
  case atStart => exact ⟨0, Nat.zero_le _, rfl, fun j _ h => absurd h (Nat.not_lt_zero j), 0, rfl⟩
  case round =>
    obtain ⟨i, hik, rfl, hno, nq, rfl⟩ := hrel
    have HNO := hide hno
    clear hno
    by_cases hlt : i < k
    · have hin : i < x.meths.length := by omega
      have hci : (c : Int) < (p.length : Int) := by omega
      have hii : (i : Int) < (x.meths.length : Int) := by omega
      go_wp2
      go_quiet (fail)
      go_wp2
      · go_ret
        have hx : x.meths[i].slot = m.slot := by simpa using ‹(x.meths[i].slot == m.slot) = true›
        exact ⟨ret_bool (head_dup hin hlt hx).symm, below_drewN (below_drewN hbel _) _⟩
      · have hx : x.meths[i].slot ≠ m.slot := by simpa using ‹(x.meths[i].slot == m.slot) = false›
        exact ⟨⟨i + 1, by omega, by go_num, fun j hj h => by
          rcases Nat.lt_or_ge j i with g | g
          · exact unhide HNO j hj g
          · obtain rfl : j = i := by omega
            exact hx, _, rfl⟩, by simp [intOf]; omega⟩
    · have HE := hide (head_eq (p := p) (k := k) (unhide HB) fun j hj h => unhide HNO j hj (by omega))
      have hbN : Below w.heap.size w (w2.drewN nq) := below_drewN hbel _
      by_cases hc0 : c = 0
      · have hc0' : ((c : Int) == 0) = true := by subst hc0; rfl
        have hsup := supB_zero (hc0 ▸ hs c x (by omega) (unhide HX))
        have HC := hide hc0
        clear hc0
        go_wp2
        go_ret
        refine ⟨ret_bool ?_, hbN⟩
        rw [unhide HE]
        unfold overB
        rw [methOf_neg p _ (by omega)]
      · have hc0' : ((c : Int) == 0) = false := by simpa using hc0
        have hci : (c : Int) < (p.length : Int) := by omega
        have hcz : (0 : Int) ≤ (c : Int) := by omega
        have hsup := supB_pos (by omega) (hs c x (by omega) (unhide HX))
        have hpW := prog_keep (Keeps.of_below hbN) hp
        have HPW := hide hpW
        clear hpW
        have e0 : (w2.drewN nq).cell? ⟨w.heap.size, 0, none⟩ = some (.slice (some ⟨b, off, none⟩) p.length cap) := by simpa using hbox
        go_wp2
        go_region_held3 (fun w' => w'.cell? ⟨w.heap.size, 0, none⟩ = some (.slice (some ⟨b, off, none⟩) p.length cap) ∧ w'.cell? ⟨b, off + c * 3, none⟩ = some (.int .i64 x.sup) ∧ w'.cell? ⟨w.heap.size + 1, 0, none⟩ = some (.int .i64 m.slot))
          (first | go_keep | (exact ⟨Keeps.of_below hb1 _ _ (by simpa using hbox), Keeps.of_below hb1 _ _ (by simpa using d0), Keeps.of_below hb1 _ _ (by simpa using l0)⟩))
          (first | ((go_at_call 66; refine (ref_method p _ (c + 1) _ _ _ (prog_keep (Keeps.of_below ((Below.refl _ _).drew)) (unhide HPW)) hs (by omega) (by omega) (by omega) hz).mono ?_); rintro e w3 ⟨rfl, hb1⟩))
        have hW3 : Below w.heap.size w w3 := hbN.drew.trans (hb1.mono (by simpa using hbN.size))
        have k0 : w3.cell? ⟨w.heap.size, 0, none⟩ = some (.slice (some ⟨b, off, none⟩) p.length cap) := Keeps.of_below hb1 _ _ (by simpa using hbox)
        have k1 : w3.cell? ⟨w.heap.size + 1, 1, none⟩ = some (.slice aa m.args.length acap) := Keeps.of_below hb1 _ _ (by simpa using l1)
        have k2 : w3.cell? ⟨w.heap.size + 1, 2, none⟩ = some (.int .i64 m.ret) := Keeps.of_below hb1 _ _ (by simpa using l2)
        have hkp := Keeps.of_below hW3
        clear hb1 hbN e0 hbel hbox l0 l1 l2 l3 l4 d0 d2 hslot
        cases hmo : methOf p x.sup m.slot with
        | none =>
          have hover : overB p x m = true := by unfold overB; rw [hmo]
          have hm1 : (methC p x.sup m.slot).1 = -1 := by unfold methC; rw [hmo]
          have hm2 : (methC p x.sup m.slot).2 = -1 := by unfold methC; rw [hmo]
          have HO := hide hover
          rw [hm1, hm2]
          clear hm1 hm2 hmo hover
          go_wp2
          go_ret
          exact ⟨ret_bool (by rw [unhide HE, unhide HO]), hW3⟩
        | some ij =>
          obtain ⟨i2, j2⟩ := ij
          obtain ⟨d, hd⟩ := Int.eq_ofNat_of_zero_le hsup.1
          obtain ⟨y, o, hy, ho, hid, _⟩ := methOf_some p hs m.slot d (by omega) (by rw [← hd]; exact hmo)
          have hover : overB p x m = (o.args == m.args && o.ret == m.ret) := by unfold overB methAt; rw [hmo]; simp only [hy, Option.bind_some, ho]
          have hm1 : (methC p x.sup m.slot).1 = i2 := by unfold methC; rw [hmo]
          have hm2 : (methC p x.sup m.slot).2 = j2 := by unfold methC; rw [hmo]
          have HO := hide hover
          rw [hm1, hm2]
          obtain ⟨hi2, hye⟩ := List.getElem?_eq_some_iff.1 hy
          obtain ⟨hj2, hoe⟩ := List.getElem?_eq_some_iff.1 ho
          have hyl : szClass y ≤ 4194304 := Nat.le_trans (szClass_le (hye ▸ List.getElem_mem hi2)) hz
          have hol : szMeth o ≤ 4194304 := Nat.le_trans (szMeth_le (hoe ▸ List.getElem_mem hj2)) hyl
          have hoal : o.args.length ≤ 4194304 := by unfold szMeth at hol; omega
          have hys : y.meths.length ≤ 4194304 := Nat.le_trans (szMeths_le y) hyl
          obtain ⟨_, b', off', _, he1, _, ha1, hr1⟩ := sl_open hp
          have he2 := ha1 (ne_nil_of_lt hi2)
          injection he1 with he3 he4 he5
          rw [he2] at he3
          injection he3 with he6
          injection he6 with he7 he8
          subst he7 he8
          obtain ⟨vf2, vm2, q0, q1, q2, qf, qm⟩ := (hr1 i2 hi2).keep hkp
          rw [hye] at qf qm
          obtain ⟨ma2, mb2, moff2, mcap2, rfl, hmcap2, hma2, hmr2⟩ := sl_open qm
          obtain rfl := hma2 (ne_nil_of_lt hj2)
          obtain ⟨va2, vcd2, vfr2, ⟨ra, rc, rf⟩, n0, n1, n2, n3, n4, n5, n6⟩ := hmr2 j2 hj2
          rw [hoe] at n0 n2 n3 n4 ra rc rf
          have RA := hide ra
          obtain ⟨aa2, ab2, aoff2, acap2, rfl, _, _, _⟩ := sl_open ra
          obtain ⟨ca2, cb2, coff2, ccap2, rfl, _, _, _⟩ := sl_open rc
          obtain ⟨fa2, fb2, foff2, fcap2, rfl, _, _, _⟩ := sl_open rf
          have hlt2 := cell_lt q2
          have hlt3 := cell_lt n0
          have hsz3 := hW3.size
          have hlt4 := cell_lt k1
          clear hm1 hm2 hmo hover hr1 qf hmr2 ra rc rf hye hoe hy ho hd hkp
          go_wp2_with fail
          generalize hW4 : w3.alloc _ = w4
          have hb4 : Below w3.heap.size w3 w4 := by rw [← hW4]; exact box_below _ _
          have t2 : w4.cell? ⟨w3.heap.size, 2, none⟩ = some (.int .i64 o.ret) := by rw [← hW4]; exact box_cell _ _ _ 2
          clear hW4
          have t3 := Keeps.of_below hb4 _ _ k2
          refine (ref_sametypes _ _ _ _ _ (ints_keep (Keeps.of_below hb4) (unhide RA)) (ints_keep (Keeps.of_below (hW3.trans (hb4.mono hsz3))) (unhide HA0)) hoal hal).mono ?_
          rintro e w5 ⟨rfl, n5, rfl⟩
          have hfin : Below w.heap.size w (w4.drewN n5) := below_drewN (hW3.trans (hb4.mono hsz3)) _
          cases hsa : (o.args == m.args)
          · go_wp2
            go_ret
            exact ⟨ret_bool (by rw [unhide HE, unhide HO, hsa]; rfl), hfin⟩
          · go_wp2
            go_ret
            exact ⟨ret_bool (by rw [unhide HE, unhide HO, hsa]; simp), hfin⟩

theorem ref_head (p : List LClass) (vc : Value) (c k : Nat) (x : LClass) (m : LMeth) (w : World) (hp : RProg w vc p) (hs : SupOk p (c + 1)) (hX : p[c]? = some x) (hM : x.meths[k]? = some m) (hwf : wfProg p) (hz : szProg p ≤ 4194304) :
    Calls Try.prog 41 #[.agg #[vc], .int .i64 c, .int .i64 k] w fun e w' => e = .returned (.bool (headB p x k m)) ∧ Below w.heap.size w w' := by
  cases hb : bareB p.length m
  · exact ref_head_no p vc c k x m w hp hX hM hwf hz hb
  · exact ref_head_yes p vc c k x m w hp hs hX hM hwf hz hb
end Go.Proofs.Ytiiokkllmchohaa
