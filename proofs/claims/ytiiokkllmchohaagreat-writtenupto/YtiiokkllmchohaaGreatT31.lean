/- What is proved: the law Written (what was written is read again, and is written the same; a byte that is another, or more, or less, is refused, or is another program's) answers true, and what it was handed reads as it did. Condition: the arguments hold together at most 1048576 values and letters. -/
import Derived.Test.YtiiokkllmchohaaGreatRows
import Derived.ProofKit
import Derived.OpenShut
import Derived.JoinedCond
import Derived.ChangeArms
import Derived.Carry
import Derived.ChangeMaps5
import Derived.Test.YtiiokkllmchohaaGreatT01
import Derived.Test.YtiiokkllmchohaaGreatT02
import Derived.Test.YtiiokkllmchohaaGreatT08
import Derived.Test.YtiiokkllmchohaaGreatT30
/- WrtA -/
namespace Go.Proofs.YtiiokkllmchohaaGreat
open Go.RowKit Go.Shelf
attribute [local go_sem ↓] Go.wp_at_zero Go.wp_at_succ
attribute [local go_sem] frz_drew

theorem sum_bound {α : Type} (f : α → Nat) (B : Nat) : ∀ l : List α, (∀ x ∈ l, f x ≤ B) → (l.map f).sum ≤ l.length * B
  | [], _ => by simp
  | x :: l, h => by
    have h1 := sum_bound f B l (fun y hy => h y (List.mem_cons_of_mem _ hy))
    have h2 := h x List.mem_cons_self
    rw [List.map_cons, List.sum_cons, List.length_cons, Nat.succ_mul]
    omega
theorem form_sz {p : List LClass} (h : formI p = 0) : szProg p ≤ 1048576 := by
  obtain ⟨h1, h2⟩ := form_short h
  have hf : ∀ x ∈ p, szClass x ≤ 142764 := fun x hx => by
    obtain ⟨a1, a2, a3⟩ := h2 x hx
    have hm : ∀ m ∈ x.meths, szMeth m ≤ 3568 := fun m hm => by
      obtain ⟨b1, b2, b3, b4, b5⟩ := a3 m hm
      have hfr : ∀ f ∈ m.frames, szFrame f ≤ 84 := fun f hf => by
        obtain ⟨c1, c2⟩ := b5 f hf
        unfold szFrame
        omega
      have := sum_bound szFrame 84 m.frames hfr
      have : m.frames.length * 84 ≤ 40 * 84 := Nat.mul_le_mul_right _ b4
      unfold szMeth
      omega
    have := sum_bound szMeth 3568 x.meths hm
    have : x.meths.length * 3568 ≤ 40 * 3568 := Nat.mul_le_mul_right _ a2
    unfold szClass
    omega
  have := sum_bound szClass 142764 p hf
  have : p.length * 142764 ≤ 6 * 142764 := Nat.mul_le_mul_right _ h1
  unfold szProg
  omega
theorem encProg_lenW (p : List LClass) : (encProg p).length ≤ 10 + 10 * szProg p := by
  have h : ∀ l : List LClass, (l.flatMap encClass).length ≤ 10 * (l.map szClass).sum := fun l => by
    induction l with
    | nil => simp
    | cons x r ih =>
      rw [List.flatMap_cons, List.length_append, List.map_cons, List.sum_cons]
      have := encClass_len x
      omega
  unfold encProg szProg
  rw [List.length_append]
  have := encN_len (p.length : Int)
  have := h p
  omega

set_option maxHeartbeats 400000 in
theorem keep_pick (c : Int) (n : Nat) (w : World) (hc : -9223372036854775808 ≤ c ∧ c ≤ 9223372036854775807) (hn : 0 < n) (hn2 : n ≤ 1073741824) :
    Calls Tryz.prog 17 #[.int .i64 c, .int .i64 (n : Int)] w fun e w' => ∃ k : Nat, k < n ∧ e = .returned (.int .i64 (k : Int)) ∧ w' = w := by
  have hn0 : (n : Int) ≠ 0 := by omega
  go_enter Tryz.func17, Tryz.ntmps17
  by_cases h0 : c < 0
  · go_wp2_with fail
    have e1 : -(c + 1).tmod (n : Int) = (-(c + 1)) % (n : Int) := by rw [← Int.neg_tmod]; exact Int.tmod_eq_emod_of_nonneg (by omega)
    rw [e1]
    have a1 := Int.emod_nonneg (-(c + 1)) hn0
    have a2 := Int.emod_lt_of_pos (-(c + 1)) (show (0 : Int) < n by omega)
    go_ret
    exact ⟨(-(c + 1) % (n : Int)).toNat, by omega, by rw [Int.toNat_of_nonneg a1]; rfl, rfl⟩
  · go_wp2_with fail
    have a1 := Int.emod_nonneg c hn0
    have a2 := Int.emod_lt_of_pos c (show (0 : Int) < n by omega)
    go_ret
    exact ⟨(c % (n : Int)).toNat, by omega, by rw [Int.toNat_of_nonneg a1]; rfl, rfl⟩
end Go.Proofs.YtiiokkllmchohaaGreat
/- The law Written answers true: its walk. -/
namespace Go.Proofs.YtiiokkllmchohaaGreat
open Go.RowKit Go.Shelf
attribute [local go_sem ↓] Go.wp_at_zero Go.wp_at_succ
attribute [local go_sem] frz_drew

theorem bytes_cell (w : World) (C : Array Value) (e : TypeId) (fr : Nat × Nat) (j : Nat) : (w.alloc (.cells C e fr)).cell? ⟨w.heap.size, j, none⟩ = C[j]? := by
  have h : (w.alloc (.cells C e fr)).heap[w.heap.size]? = some (.cells C e fr) := by
    show (w.heap.push (Obj.cells C e fr))[w.heap.size]? = _
    simp
  unfold World.cell?
  simp only [h]
  simp
theorem bytes_froz (w : World) (C : Array Value) (e : TypeId) (a b : Nat) (j : Nat) (hj : j < a) : (w.alloc (.cells C e (a, b))).frozen? ⟨w.heap.size, j, none⟩ = false := by
  have h : (w.alloc (.cells C e (a, b))).heap[w.heap.size]? = some (.cells C e (a, b)) := by
    show (w.heap.push (Obj.cells C e (a, b)))[w.heap.size]? = _
    simp
  unfold World.frozen?
  simp only [h]
  simp
  omega
theorem bytesRow_at (t : List UInt8) (n j : Nat) (hj : j < t.length) : (bytesRow ⟨t.toArray⟩ n)[j]? = some (.int .u8 (t[j].toNat : Int)) := by
  unfold bytesRow
  rw [Array.getElem?_append_left (by simpa using hj)]
  simp [hj]
theorem bytesRow_sz (t : List UInt8) (n : Nat) : t.length ≤ (bytesRow ⟨t.toArray⟩ n).size := by
  unfold bytesRow
  simp
set_option maxHeartbeats 1000000 in
set_option maxRecDepth 100000 in
theorem keep_written (p : List LClass) (vp : Value) (c : Int) (y : Nat) (s : List UInt8) (w : World) (hp : RProg w vp p) (hwf : wfProg p) (hz : szProg p ≤ 1048576) (hc : -9223372036854775808 ≤ c ∧ c ≤ 9223372036854775807) (_hy : y < 256) (hs : s.length ≤ 1048576) :
    Calls Tryz.prog 3 #[.agg #[vp], .int .i64 c, .int .u8 (y : Int), .string ⟨s.toArray⟩] w fun e w' => e = .returned (.bool true) ∧ Below w.heap.size w w' := by
  have HP := hide hp
  obtain ⟨pa, _, _, pcap, rfl, _⟩ := hp
  have hbel := box_below w (.cells #[.slice pa p.length pcap] 24)
  have B0 := Blk.new w #[.slice pa p.length pcap] 24
  go_enter Tryz.func3, Tryz.ntmps3
  go_wp2_with fail
  generalize w.alloc _ = W at *
  refine (keep_awake W).mono ?_
  rintro e w1 ⟨rfl, hb1⟩
  have hbw1 := hbel.trans (hb1.mono hbel.size)
  have C1 := B0.below hb1 (by have := B0.lt; omega)
  have q1 : w1.cell? ⟨w.heap.size, 0, none⟩ = some (.slice pa p.length pcap) := C1.cell 0
  clear hb1 hbel B0
  go_wp2_with fail
  refine (code_encode p _ w1 (prog_keep (Keeps.of_below hbw1) (unhide HP)) hwf (by omega)).mono ?_
  rintro e w2 ⟨rfl, hb2⟩
  have hbw2 := hbw1.trans (hb2.mono hbw1.size)
  have C2 := C1.below hb2 (by have := C1.lt; omega)
  have q2 : w2.cell? ⟨w.heap.size, 0, none⟩ = some (.slice pa p.length pcap) := C2.cell 0
  clear hb2 hbw1 C1 q1
  go_wp2_with fail
  refine (code_form p _ w2 (prog_keep (Keeps.of_below hbw2) (unhide HP)) hwf (by omega)).mono ?_
  rintro e w3 ⟨rfl, hb3⟩
  have hbw3 := hbw2.trans (hb3.mono hbw2.size)
  have C3 := C2.below hb3 (by have := C2.lt; omega)
  have q3 : w3.cell? ⟨w.heap.size, 0, none⟩ = some (.slice pa p.length pcap) := C3.cell 0
  clear hb3 hbw2 C2 q2
  by_cases hF : formI p = 0
  · have hE : encodeI p = (encProg p, 0) := by unfold encodeI; rw [if_pos hF]
    rw [hE, hF]
    have hD : codeDec (encProg p) = some p := codeDec_iff.2 ⟨hwf, hF, rfl⟩
    have hl := encProg_lenW p
    have hpos : 0 < (encProg p).length := by
      rcases Nat.eq_zero_or_pos (encProg p).length with h | h
      · have h1 := rdP_form hwf hF
        rw [List.eq_nil_of_length_eq_zero h] at h1
        have h2 : (rdP []).2.2 = true := by kernel_rfl
        rw [h1] at h2
        cases h2
      · exact h
    go_wp2_with fail
    refine (code_decode _ w3).mono ?_
    rintro e w4 ⟨h41, _, hb4⟩
    obtain ⟨qa, rfl, hO⟩ := h41 p hD
    have hbw4 := hbw3.trans (hb4.mono hbw3.size)
    have C4 := C3.below hb4 (by have := C3.lt; omega)
    have hR4 := own_cs hO
    clear hb4 hbw3 C3 q3 h41 hO
    have q4 : w4.cell? ⟨w.heap.size, 0, none⟩ = some (.slice pa p.length pcap) := C4.cell 0
    have hl4 := C4.lt
    go_wp2_with fail
    have B5 := Blk.new w4 #[.slice qa p.length p.length] 24
    have C5 := C4.alloc (.cells #[.slice qa p.length p.length] 24)
    have hb5 := box_below w4 (.cells #[.slice qa p.length p.length] 24)
    generalize w4.alloc _ = W5 at *
    have hbw5 := hbw4.trans (hb5.mono hbw4.size)
    refine (code_encode p _ W5 (prog_keep (Keeps.of_below hb5) hR4) hwf (by omega)).mono ?_
    rintro e w6 ⟨rfl, hb6⟩
    rw [hE]
    have hbw6 := hbw5.trans (hb6.mono hbw5.size)
    have C6 := C5.below hb6 C5.lt
    have B6 := B5.below hb6 B5.lt
    have q6 : w6.cell? ⟨w.heap.size, 0, none⟩ = some (.slice pa p.length pcap) := C6.cell 0
    have q7 : w6.cell? ⟨w4.heap.size, 0, none⟩ = some (.slice qa p.length p.length) := B6.cell 0
    generalize w4.heap.size = h4 at *
    generalize encProg p = t at *
    clear hb6 hbw5 C5 B5 hb5 hR4 hbw4 C4 q4 hl4 hE hD
    go_wp2_with fail
    rw [run_bytes_of_string _ _ _ 5 _ Tryz.underlying9 Tryz.underlying32 Tryz.underlying5]
    generalize hcap : grownCap w6 (ByteArray.mk t.toArray).size 0 5 = cap
    have hbc : ∀ j (hj : j < t.length), (w6.drew.alloc (.cells (bytesRow ⟨t.toArray⟩ cap) 5 ((bytesRow ⟨t.toArray⟩ cap).size, (bytesRow ⟨t.toArray⟩ cap).size + 1))).cell? ⟨w6.heap.size, j, none⟩ = some (.int .u8 (t[j].toNat : Int)) := fun j hj => (bytes_cell w6.drew _ _ _ j).trans (bytesRow_at t cap j hj)
    have hbf : ∀ j, j < t.length → (w6.drew.alloc (.cells (bytesRow ⟨t.toArray⟩ cap) 5 ((bytesRow ⟨t.toArray⟩ cap).size, (bytesRow ⟨t.toArray⟩ cap).size + 1))).frozen? ⟨w6.heap.size, j, none⟩ = false := fun j hj => bytes_froz w6.drew _ _ _ _ j (Nat.lt_of_lt_of_le hj (bytesRow_sz t cap))
    have hb7 : Below w6.heap.size w6 (w6.drew.alloc (.cells (bytesRow ⟨t.toArray⟩ cap) 5 ((bytesRow ⟨t.toArray⟩ cap).size, (bytesRow ⟨t.toArray⟩ cap).size + 1))) := Below.alloc (Below.refl w6.heap.size w6).drew (Nat.le_refl _) _
    generalize w6.drew.alloc _ = W7 at *
    have hbw7 := hbw6.trans (hb7.mono hbw6.size)
    have hh6 := hbw6.size
    have HBC := hide hbc
    have HBF := hide hbf
    clear hbc hbf hb7 hcap hbw6 C6 B6 q6 q7
    have htl : t.length ≤ 1073741824 := by omega
    rw [show (ByteArray.mk t.toArray).size = t.length by simp [ByteArray.size]]
    go_wp2_with fail
    refine (keep_pick c t.length W7 hc hpos htl).mono ?_
    rintro e W8 ⟨k, hk, rfl, rfl⟩
    have r0 := (unhide HBC) k hk
    have f0 := (unhide HBF) k hk
    have k0 : (0 : Int) ≤ (k : Int) := by omega
    have k1 : (k : Int) < (t.length : Int) := by omega
    go_wp2_with fail
    generalize bits BinOp.xor IntKind.u8 _ _ = x
    have hx : ∀ i, i < t.length → (W8.setCell ⟨w6.heap.size, k, none⟩ (.int .u8 x)).cell? ⟨w6.heap.size, 0 + i, none⟩ = some (.int .u8 (((t.map (fun b => (b.toNat : Int))).set k x).getD i 0)) := fun i hi => by
      rw [Nat.zero_add]
      by_cases e : k = i
      · subst e
        rw [World.cell?_setCell_same (h := r0)]
        simp [hk]
      · rw [World.cell?_setCell_other (h := by intro h; apply e; simp at h), (unhide HBC) i hi]
        simp [e, hi]
    have hb9 : Below w.heap.size w (W8.setCell ⟨w6.heap.size, k, none⟩ (.int .u8 x)) := hbw7.setCell hh6 _
    have hxl : ((t.map (fun b => (b.toNat : Int))).set k x).length = t.length := by simp
    generalize (t.map (fun b => (b.toNat : Int))).set k x = xs at *
    generalize W8.setCell _ _ = W9 at *
    generalize w6.heap.size = h6 at *
    clear r0 f0 HBC HBF hbw7 W8
    refine wp_region_noPanic ?_
    refine wp_region_held_drew (S := (fun w' => ∀ i, i < t.length → w'.cell? ⟨h6, 0 + i, none⟩ = some (.int .u8 (xs.getD i 0)))) (by kernel_rfl) ?_ (fun hHeld => ?_)
    · exact hx
    refine take_x (some 94) 0 rfl rfl ?_
    try simp only [Act.put, List.setIfInBounds_toArray, List.set_cons_zero, List.set_cons_succ]
    refine take_d (some 95) (i := 1) (v := .string (strOfNums xs)) rfl rfl (by kernel_rfl) (by kernel_rfl) (by kernel_rfl) (fun _ _ _ h => h) (Or.inl ⟨by rfl, fun w' hSw => by (try dsimp only at hSw); go_simp; rw [run_convert_bytes_arg w' 32 5 Tryz.underlying32 Tryz.underlying5 h6 0 t.length cap xs hxl hSw 9 Tryz.underlying9]; rfl⟩) (by assumption) ?_
    try simp only [Act.put, List.setIfInBounds_toArray, List.set_cons_zero, List.set_cons_succ]
    refine take_x (some 96) 2 rfl rfl ?_
    try simp only [Act.put, List.setIfInBounds_toArray, List.set_cons_zero, List.set_cons_succ]
    refine take_x (some 97) 3 rfl rfl ?_
    try simp only [Act.put, List.setIfInBounds_toArray, List.set_cons_zero, List.set_cons_succ]
    refine take_d (some 98) (i := 4) (v := .string ((ByteArray.mk t.toArray).extract 0 k)) rfl rfl (by kernel_rfl) (by kernel_rfl) (by kernel_rfl) (fun _ _ _ h => h) (Or.inl ⟨by rfl, fun w' hSw => by (try dsimp only at hSw); go_simp; exact fun h => absurd h (by omega)⟩) (by assumption) ?_
    try simp only [Act.put, List.setIfInBounds_toArray, List.set_cons_zero, List.set_cons_succ]
    refine take_x (some 99) 5 rfl rfl ?_
    try simp only [Act.put, List.setIfInBounds_toArray, List.set_cons_zero, List.set_cons_succ]
    refine take_x (some 100) 6 rfl rfl ?_
    try simp only [Act.put, List.setIfInBounds_toArray, List.set_cons_zero, List.set_cons_succ]
    refine take_d (some 101) (i := 7) (v := .string (ByteArray.mk t.toArray ++ ByteArray.mk s.toArray)) rfl rfl (by kernel_rfl) (by kernel_rfl) (by kernel_rfl) (fun _ _ _ h => h) (Or.inl ⟨by rfl, fun w' hSw => by (try dsimp only at hSw); go_simp; omega⟩) (by assumption) ?_
    try simp only [Act.put, List.setIfInBounds_toArray, List.set_cons_zero, List.set_cons_succ]
    refine wpAnyH_ready (rs := [8]) (by kernel_rfl) (by simp) ?_
    refine AllReadyH.cons rfl (fun K hK => ?_) AllReadyH.nil
    go_simp
    have hlt := cell_lt (hx 0 hpos)
    refine hK.out _ _ (fun i hi => (World.cell?_alloc_lt W9 _ _ (show h6 < _ from hlt)).trans (hx i hi)) (fun hHeld => ?_)
    clear hK K
    try simp only [Act.put, List.setIfInBounds_toArray, List.set_cons_zero, List.set_cons_succ]
    refine take_x (some 19) 9 rfl rfl ?_
    try simp only [Act.put, List.setIfInBounds_toArray, List.set_cons_zero, List.set_cons_succ]
    refine wpAnyH_done (by kernel_rfl) ?_ _
    refine NoPanic.normal ?_
    have B10 := Blk.new W9 #[.string (strOfNums xs), .string ((ByteArray.mk t.toArray).extract 0 k), .string (ByteArray.mk t.toArray ++ ByteArray.mk s.toArray)] 9
    have hb10 := hb9.alloc hb9.size (.cells #[.string (strOfNums xs), .string ((ByteArray.mk t.toArray).extract 0 k), .string (ByteArray.mk t.toArray ++ ByteArray.mk s.toArray)] 9)
    generalize strOfNums xs = u0 at *
    generalize (ByteArray.mk t.toArray).extract 0 k = u1 at *
    generalize ByteArray.mk t.toArray ++ ByteArray.mk s.toArray = u2 at *
    generalize W9.alloc _ = W10 at *
    have hh9 := hb9.size
    generalize W9.heap.size = h9 at *
    clear hHeld hx hxl hb9 hlt
    go_wp2_with fail
    obtain ⟨l0, rfl⟩ : ∃ l : List UInt8, u0 = ⟨l.toArray⟩ := ⟨u0.data.toList, by simp⟩
    obtain ⟨l1, rfl⟩ : ∃ l : List UInt8, u1 = ⟨l.toArray⟩ := ⟨u1.data.toList, by simp⟩
    obtain ⟨l2, rfl⟩ : ∃ l : List UInt8, u2 = ⟨l.toArray⟩ := ⟨u2.data.toList, by simp⟩
    clear k0 k1 hl hpos htl
    go_loopw [20] (fun i wr => ∃ (n : Nat), n ≤ 3 ∧ i = .int .i64 n ∧ Below w.heap.size w wr ∧ Blk wr h9 9 [.string ⟨l0.toArray⟩, .string ⟨l1.toArray⟩, .string ⟨l2.toArray⟩]) (fun i _ => 3 - (intOf i).toNat)
    case atStart => exact ⟨0, by decide, rfl, hb10.drew, B10⟩
    case round =>
      obtain ⟨n, hn, rfl, hbr, Br⟩ := hrel
      by_cases hlt : n < 3
      · obtain ⟨l, hl⟩ : ∃ l : List UInt8, [Value.string ⟨l0.toArray⟩, .string ⟨l1.toArray⟩, .string ⟨l2.toArray⟩][n]? = some (.string ⟨l.toArray⟩) := by
          match n, hlt with
          | 0, _ => exact ⟨l0, rfl⟩
          | 1, _ => exact ⟨l1, rfl⟩
          | 2, _ => exact ⟨l2, rfl⟩
        have r0 := (Br.cell n).trans hl
        have n0 : (0 : Int) ≤ (n : Int) := by omega
        have n1 : (n : Int) < 3 := by omega
        go_wp2_with fail
        refine (code_decode l wr).mono ?_
        rintro e v1 ⟨h1, h2, hb1⟩
        have hbv1 := hbr.trans (hb1.mono hbr.size)
        have B1 := Br.below hb1 Br.lt
        have hlv := B1.lt
        cases hD : codeDec l with
        | some q =>
          obtain ⟨ra, rfl, hO⟩ := h1 q hD
          obtain ⟨hwq, hFq, hEq⟩ := codeDec_iff.1 hD
          have hRq := own_cs hO
          have hszq := form_sz hFq
          have B2 := B1.alloc (.cells #[.slice ra q.length q.length] 24)
          have P2 := Blk.new v1 #[.slice ra q.length q.length] 24
          have hb2 := box_below v1 (.cells #[.slice ra q.length q.length] 24)
          have hbv2 := hbv1.trans (hb2.mono hbv1.size)
          clear h1 h2 hO hb1 hbr Br r0
          go_wp2_with fail
          generalize v1.alloc _ = V2 at *
          refine (code_encode q _ V2 (prog_keep (Keeps.of_below hb2) hRq) hwq (by omega)).mono ?_
          rintro e v3 ⟨rfl, hb3⟩
          rw [show encodeI q = (l, 0) by unfold encodeI; rw [if_pos hFq, hEq]]
          have hbv3 := hbv2.trans (hb3.mono hbv2.size)
          have B3 := B2.below hb3 B2.lt
          have r3 := (B3.cell n).trans hl
          clear hb3 hbv2 B2 P2 hb2 hRq hEq
          go_wp2_with fail
          exact ⟨⟨n + 1, by omega, by go_num, hbv3, B3⟩, by simp [intOf]; omega⟩
        | none =>
          obtain rfl := h2 hD
          have B2 := B1.alloc (.cells #[.slice none 0 0] 24)
          have P2 := Blk.new v1 #[.slice none 0 0] 24
          have hb2 := box_below v1 (.cells #[.slice none 0 0] 24)
          have hbv2 := hbv1.trans (hb2.mono hbv1.size)
          clear h1 h2 hb1 hbr Br r0
          go_wp2_with fail
          generalize v1.alloc _ = V2 at *
          refine (code_encode [] _ V2 ⟨none, 0, 0, 0, rfl, Nat.le_refl _, ⟨fun e => absurd rfl e, .inl ⟨rfl, rfl⟩⟩, fun j x hj => by simp at hj⟩ (fun x hx => by simp at hx) (by decide)).mono ?_
          rintro e v3 ⟨rfl, hb3⟩
          have hbv3 := hbv2.trans (hb3.mono hbv2.size)
          have B3 := B2.below hb3 B2.lt
          have P3 := P2.below hb3 P2.lt
          have r3 := (B3.cell n).trans hl
          have z3 : v3.cell? ⟨v1.heap.size, 0, none⟩ = some (.slice none 0 0) := P3.cell 0
          generalize encodeI [] = ee at *
          clear hb3 hbv2 B2 P2 hb2
          go_wp2_with fail
          exact ⟨⟨n + 1, by omega, by go_num, hbv3, B3⟩, by simp [intOf]; omega⟩
      · obtain rfl : n = 3 := by omega
        go_wp2_with fail
        go_ret
        exact ⟨rfl, hbr⟩
  · have hE : encodeI p = ([], formI p) := by unfold encodeI; rw [if_neg hF]
    rw [hE]
    go_wp2_with fail
    go_ret
    exact ⟨rfl, hbw3⟩
end Go.Proofs.YtiiokkllmchohaaGreat
/- The arguments of a law, read as data, as plain programs. -/
namespace Go.Proofs.YtiiokkllmchohaaGreat
open Go.RowKit

theorem cell_spot {w : World} {a : Addr} {v : Value} (h : w.cell? a = some v) : a = ⟨a.block, a.off, none⟩ := by
  obtain ⟨b, off, sp⟩ := a
  unfold World.cell? at h
  cases sp with
  | none => rfl
  | some k =>
    simp only at h
    split at h
    · simp at h
    · cases h
theorem bulk_one {H : Type} (d : DataW H) : 1 ≤ Rows.uptoBulk d := by
  cases d with
  | lit l => cases l <;> simp [Rows.uptoBulk]
  | nil => simp [Rows.uptoBulk]
  | ptr d => simp [Rows.uptoBulk]
  | slice elems spare => simp [Rows.uptoBulk]
  | agg parts => simp [Rows.uptoBulk]
  | iface t d => simp [Rows.uptoBulk]
  | map entries => simp [Rows.uptoBulk]
  | held h => simp [Rows.uptoBulk]
theorem cells_get {w : World} {b off n : Nat} {cs : List Value} (h : w.cells? 0 ⟨b, off, none⟩ n = some cs) : cs.length = n ∧ ∀ i, i < n → w.cell? ⟨b, off + i, none⟩ = cs[i]? := by
  obtain ⟨_, h1, h2⟩ := World.cells?_some h
  refine ⟨h1, fun i hi => ?_⟩
  rw [← addr_add]
  exact h2 i hi

theorem list1 {α : Type} {l : List α} (h : l.length = 1) : ∃ a, l = [a] := by
  match l, h with
  | [a], _ => exact ⟨a, rfl⟩
theorem list3 {α : Type} {l : List α} (h : l.length = 3) : ∃ a b c, l = [a, b, c] := by
  match l, h with
  | [a, b, c], _ => exact ⟨a, b, c, rfl⟩
theorem list7 {α : Type} {l : List α} (h : l.length = 7) : ∃ a b c d e f g, l = [a, b, c, d, e, f, g] := by
  match l, h with
  | [a, b, c, d, e, f, g], _ => exact ⟨a, b, c, d, e, f, g, rfl⟩
theorem sum_const {α : Type} (k : Nat) : ∀ l : List α, (l.map fun _ => k).sum = k * l.length
  | [] => by simp
  | _ :: r => by rw [List.map_cons, List.sum_cons, sum_const k r, List.length_cons, Nat.mul_succ]; omega

section
variable {H : Type} {enc : TypeId × Value → H} {w : World}
abbrev TR (enc : TypeId × Value → H) (w : World) (fuel : Nat) (t : TypeId) (cs : List Value) (y : DataW H × List MemPlace) : Prop := DataW.trod enc Tryz.prog w 0 (fun _ => true) true fuel t cs = some y
theorem build_list {α : Type} {sz b : Nat} (R : α → Nat → Nat → Prop) (Wf : α → Prop) (S : α → Nat) : ∀ (es : List (DataW H × List MemPlace)) (off : Nat),
    (∀ i y, es[i]? = some y → ∃ x, R x b (off + i * sz) ∧ Wf x ∧ S x ≤ Rows.uptoBulk y.1) → ∃ l : List α, l.length = es.length ∧ (∀ j x, l[j]? = some x → R x b (off + j * sz)) ∧ (∀ x ∈ l, Wf x) ∧ (l.map S).sum ≤ Rows.uptoBulkAll (es.map (·.1))
  | [], off, _ => ⟨[], rfl, fun j x h => (by simp at h), fun x h => (by cases h), by simp [Rows.uptoBulkAll]⟩
  | y :: r, off, h => by
    obtain ⟨x, h1, h2, h3⟩ := h 0 y rfl
    obtain ⟨l, l1, l2, l3, l4⟩ := build_list R Wf S r (off + sz) (fun i z hz => by
      have := h (i + 1) z (by simpa using hz)
      rwa [Nat.succ_mul, show off + (i * sz + sz) = off + sz + i * sz by omega] at this)
    refine ⟨x :: l, by simp [l1], fun j z hz => ?_, fun z hz => ?_, ?_⟩
    · cases j with
      | zero => simp at hz; subst hz; exact h1
      | succ j =>
        have := l2 j z (by simpa using hz)
        rwa [Nat.succ_mul, show off + (j * sz + sz) = off + sz + j * sz by omega]
    · rcases List.mem_cons.1 hz with rfl | hz
      · exact h2
      · exact l3 z hz
    · simp only [List.map_cons, List.sum_cons, Rows.uptoBulkAll]
      omega
theorem open_list {α : Type} {t e : TypeId} {sz : Nat} (R : α → Nat → Nat → Prop) (Wf : α → Prop) (S : α → Nat) (ht : Tryz.prog.underlying t = some (.slice e)) (hc : Tryz.prog.cellsOf e = sz) (hpos : 0 < sz)
    (hel : ∀ n b off cs y, w.cells? 0 ⟨b, off, none⟩ sz = some cs → TR enc w n e cs y → ∃ x, R x b off ∧ Wf x ∧ S x ≤ Rows.uptoBulk y.1) {fuel : Nat} {v : Value} {y : DataW H × List MemPlace} (h : TR enc w fuel t [v] y) :
    ∃ l : List α, SlAt sz R v l ∧ (∀ x ∈ l, Wf x) ∧ (l.map S).sum + 1 ≤ Rows.uptoBulk y.1 := by
  rcases DataW.trod_slice ht h with ⟨h1, rfl⟩ | ⟨a, len, cap, elems, rest, n, _, h1, rfl, _, hlc, _, hlen, hget, _⟩
  · obtain rfl : v = .slice none 0 0 := by simpa using h1
    exact ⟨[], ⟨none, 0, 0, 0, rfl, Nat.le_refl _, ⟨fun e => absurd rfl e, .inl ⟨rfl, rfl⟩⟩, fun j x hj => by simp at hj⟩, fun x hx => (by cases hx), by simp [Rows.uptoBulk]⟩
  · obtain rfl : v = .slice (some a) len cap := by simpa using h1
    rw [hc] at hget
    rcases Nat.eq_zero_or_pos len with h0 | h0
    · subst h0
      refine ⟨[], ⟨some a, 0, 0, cap, rfl, Nat.zero_le _, ⟨fun e => absurd rfl e, .inr (.inr ⟨rfl, fun e => by cases e⟩)⟩, fun j x hj => by simp at hj⟩, fun x hx => (by cases hx), by simp only [List.map_nil, List.sum_nil]; exact bulk_one _⟩
    · have ha : a = ⟨a.block, a.off, none⟩ := by
        have := hget 0 h0
        rw [Nat.zero_mul] at this
        cases hcs : w.cells? 0 (a.add 0) sz with
        | none =>
          rw [hcs, List.getElem?_eq_getElem (by omega)] at this
          cases this
        | some cs =>
          obtain ⟨_, e1, e2⟩ := World.cells?_some hcs
          have e3 := e2 0 hpos
          rw [show (a.add 0).add 0 = a by simp [Addr.add]] at e3
          exact cell_spot (e3.trans (List.getElem?_eq_getElem (by omega)))
      obtain ⟨b, off, sp⟩ := a
      simp only [Addr.mk.injEq, true_and] at ha
      subst ha
      obtain ⟨l, l1, l2, l3, l4⟩ := build_list (b := b) (sz := sz) R Wf S elems off (fun i z hz => by
        have hi : i < len := by have := (List.getElem?_eq_some_iff.1 hz).1; omega
        have hg := hget i hi
        rw [hz, addr_add] at hg
        cases hcs : w.cells? 0 ⟨b, off + i * sz, none⟩ sz with
        | none => rw [hcs] at hg; cases hg
        | some cs =>
          rw [hcs] at hg
          exact hel n b (off + i * sz) cs z hcs hg)
      have hll : l.length = len := by omega
      refine ⟨l, ⟨some ⟨b, off, none⟩, b, off, cap, by rw [hll], by omega, ⟨fun _ => rfl, .inr (.inl rfl)⟩, l2⟩, l3, ?_⟩
      simp only [Rows.uptoBulk]
      omega
theorem cells_t : Tryz.prog.cellsOf 3 = 1 ∧ Tryz.prog.cellsOf 43 = 1 ∧ Tryz.prog.cellsOf 40 = 1 ∧ Tryz.prog.cellsOf 61 = 1 ∧ Tryz.prog.cellsOf 36 = 1 ∧ Tryz.prog.cellsOf 64 = 1 ∧ Tryz.prog.cellsOf 22 = 1 :=
  ⟨by kernel_rfl, by kernel_rfl, by kernel_rfl, by kernel_rfl, by kernel_rfl, by kernel_rfl, by kernel_rfl⟩
theorem cells_s : Tryz.prog.cellsOf 60 = 3 ∧ Tryz.prog.cellsOf 42 = 3 ∧ Tryz.prog.cellsOf 63 = 7 ∧ Tryz.prog.cellsOf 66 = 3 ∧ Tryz.prog.cellsOf 24 = 1 :=
  ⟨by kernel_rfl, by kernel_rfl, by kernel_rfl, by kernel_rfl, by kernel_rfl⟩
theorem wf_i64 {n : Int} (h : (Lit.int .i64 n).wf = true) : I64 n := by
  have : -9223372036854775808 ≤ n ∧ n ≤ 9223372036854775807 := by simpa [Lit.wf, IntKind.min, IntKind.max, IntKind.signed, IntKind.bits] using h
  exact this
theorem open_num {t : TypeId} (ht : Tryz.prog.underlying t = some (.int .i64)) {fuel : Nat} {c : Value} {y : DataW H × List MemPlace} (h : TR enc w fuel t [c] y) : ∃ n, c = .int .i64 n ∧ I64 n ∧ Rows.uptoBulk y.1 = 1 := by
  obtain ⟨n, h1, rfl, h3⟩ := DataW.trod_int ht h
  exact ⟨n, by simpa using h1, wf_i64 h3, by simp [Rows.uptoBulk]⟩
theorem open_nums {fuel : Nat} {v : Value} {y : DataW H × List MemPlace} (h : TR enc w fuel 40 [v] y) : ∃ l, SlAt 1 (RInt w) v l ∧ (∀ x ∈ l, I64 x) ∧ l.length + 1 ≤ Rows.uptoBulk y.1 := by
  obtain ⟨l, h1, h2, h3⟩ := open_list (enc := enc) (w := w) (RInt w) I64 (fun _ => 1) Tryz.underlying40 cells_t.2.1 (by decide) (fun n b off cs y hc hy => by
    obtain ⟨c1, c2⟩ := cells_get hc
    obtain ⟨x, e1, e2, e3⟩ := DataW.trod_int Tryz.underlying43 hy
    subst e1
    refine ⟨x, ?_, wf_i64 e3, by rw [e2]; simp [Rows.uptoBulk]⟩
    have := c2 0 (by omega)
    simpa [GInt] using this) h
  exact ⟨l, h1, h2, by rw [sum_const] at h3; omega⟩
set_option maxRecDepth 100000 in
theorem open_ins {n b off : Nat} {cs : List Value} {y : DataW H × List MemPlace} (hc : w.cells? 0 ⟨b, off, none⟩ 3 = some cs) (h : TR enc w n 60 cs y) : ∃ x, RIns w x b off ∧ wfIns x ∧ 4 ≤ Rows.uptoBulk y.1 := by
  obtain ⟨c1, c2⟩ := cells_get hc
  obtain ⟨xs, m, _, rfl, _, hl, hx⟩ := DataW.trod_struct Tryz.underlying60 h
  obtain ⟨a0, a1, a2, rfl⟩ := list3 c1
  obtain ⟨y0, y1, y2, rfl⟩ := list3 hl
  have f0 := hx 0 _ rfl
  have f1 := hx 1 _ rfl
  have f2 := hx 2 _ rfl
  simp only [List.getElem?_cons_zero, List.getElem?_cons_succ] at f0 f1 f2
  obtain ⟨n0, rfl, w0, b0⟩ := open_num Tryz.underlying3 f0
  obtain ⟨n1, rfl, w1, b1⟩ := open_num Tryz.underlying3 f1
  obtain ⟨n2, rfl, w2, b2⟩ := open_num Tryz.underlying3 f2
  exact ⟨⟨n0, n1, n2⟩, ⟨c2 0 (by omega), c2 1 (by omega), c2 2 (by omega)⟩, ⟨w0, w1, w2⟩, by simp only [List.map_cons, List.map_nil, Rows.uptoBulk, Rows.uptoBulkAll]; omega⟩
theorem open_code {fuel : Nat} {v : Value} {y : DataW H × List MemPlace} (h : TR enc w fuel 61 [v] y) : ∃ l, SlAt 3 (RIns w) v l ∧ (∀ x ∈ l, wfIns x) ∧ 4 * l.length + 1 ≤ Rows.uptoBulk y.1 := by
  obtain ⟨l, h1, h2, h3⟩ := open_list (enc := enc) (w := w) (RIns w) wfIns (fun _ => 4) Tryz.underlying61 cells_s.1 (by decide) (fun n b off cs y hc hy => open_ins hc hy) h
  refine ⟨l, h1, h2, ?_⟩
  rw [sum_const] at h3
  omega
set_option maxRecDepth 100000 in
theorem open_frame {n b off : Nat} {cs : List Value} {y : DataW H × List MemPlace} (hc : w.cells? 0 ⟨b, off, none⟩ 3 = some cs) (h : TR enc w n 42 cs y) : ∃ x, RFrame w x b off ∧ wfFrame x ∧ szFrame x ≤ Rows.uptoBulk y.1 := by
  obtain ⟨c1, c2⟩ := cells_get hc
  obtain ⟨xs, m, _, rfl, _, hl, hx⟩ := DataW.trod_struct Tryz.underlying42 h
  obtain ⟨a0, a1, a2, rfl⟩ := list3 c1
  obtain ⟨y0, y1, y2, rfl⟩ := list3 hl
  have f0 := hx 0 _ rfl
  have f1 := hx 1 _ rfl
  have f2 := hx 2 _ rfl
  simp only [List.getElem?_cons_zero, List.getElem?_cons_succ] at f0 f1 f2
  obtain ⟨n0, rfl, w0, b0⟩ := open_num Tryz.underlying3 f0
  obtain ⟨l1, s1, w1, b1⟩ := open_nums f1
  obtain ⟨l2, s2, w2, b2⟩ := open_nums f2
  refine ⟨⟨n0, l1, l2⟩, ⟨a1, a2, c2 0 (by omega), c2 1 (by omega), c2 2 (by omega), s1, s2⟩, ⟨w0, w1, w2⟩, ?_⟩
  unfold szFrame
  simp only [List.map_cons, List.map_nil, Rows.uptoBulk, Rows.uptoBulkAll]
  omega
theorem open_frames {fuel : Nat} {v : Value} {y : DataW H × List MemPlace} (h : TR enc w fuel 36 [v] y) : ∃ l, SlAt 3 (RFrame w) v l ∧ (∀ x ∈ l, wfFrame x) ∧ (l.map szFrame).sum + 1 ≤ Rows.uptoBulk y.1 :=
  open_list (enc := enc) (w := w) (RFrame w) wfFrame szFrame Tryz.underlying36 cells_s.2.1 (by decide) (fun n b off cs y hc hy => open_frame hc hy) h
set_option maxRecDepth 100000 in
theorem open_meth {n b off : Nat} {cs : List Value} {y : DataW H × List MemPlace} (hc : w.cells? 0 ⟨b, off, none⟩ 7 = some cs) (h : TR enc w n 63 cs y) : ∃ x, RMeth w x b off ∧ wfMeth x ∧ szMeth x ≤ Rows.uptoBulk y.1 := by
  obtain ⟨c1, c2⟩ := cells_get hc
  obtain ⟨xs, m, _, rfl, _, hl, hx⟩ := DataW.trod_struct Tryz.underlying63 h
  obtain ⟨a0, a1, a2, a3, a4, a5, a6, rfl⟩ := list7 c1
  obtain ⟨y0, y1, y2, y3, y4, y5, y6, rfl⟩ := list7 hl
  have f0 := hx 0 _ rfl
  have f1 := hx 1 _ rfl
  have f2 := hx 2 _ rfl
  have f3 := hx 3 _ rfl
  have f4 := hx 4 _ rfl
  have f5 := hx 5 _ rfl
  have f6 := hx 6 _ rfl
  simp only [List.getElem?_cons_zero, List.getElem?_cons_succ] at f0 f1 f2 f3 f4 f5 f6
  obtain ⟨n0, rfl, w0, b0⟩ := open_num Tryz.underlying3 f0
  obtain ⟨l1, s1, w1, b1⟩ := open_nums f1
  obtain ⟨n2, rfl, w2, b2⟩ := open_num Tryz.underlying43 f2
  obtain ⟨n3, rfl, w3, b3⟩ := open_num Tryz.underlying3 f3
  obtain ⟨n4, rfl, w4, b4⟩ := open_num Tryz.underlying3 f4
  obtain ⟨l5, s5, w5, b5⟩ := open_code f5
  obtain ⟨l6, s6, w6, b6⟩ := open_frames f6
  refine ⟨⟨n0, l1, n2, n3, n4, l5, l6⟩, ⟨a1, a5, a6, ⟨s1, s5, s6⟩, c2 0 (by omega), c2 1 (by omega), c2 2 (by omega), c2 3 (by omega), c2 4 (by omega), c2 5 (by omega), c2 6 (by omega)⟩, ⟨w0, w1, w2, w3, w4, w5, w6⟩, ?_⟩
  unfold szMeth
  simp only [List.map_cons, List.map_nil, Rows.uptoBulk, Rows.uptoBulkAll]
  omega
theorem open_meths {fuel : Nat} {v : Value} {y : DataW H × List MemPlace} (h : TR enc w fuel 64 [v] y) : ∃ l, SlAt 7 (RMeth w) v l ∧ (∀ x ∈ l, wfMeth x) ∧ (l.map szMeth).sum + 1 ≤ Rows.uptoBulk y.1 :=
  open_list (enc := enc) (w := w) (RMeth w) wfMeth szMeth Tryz.underlying64 cells_s.2.2.1 (by decide) (fun n b off cs y hc hy => open_meth hc hy) h
set_option maxRecDepth 100000 in
theorem open_class {n b off : Nat} {cs : List Value} {y : DataW H × List MemPlace} (hc : w.cells? 0 ⟨b, off, none⟩ 3 = some cs) (h : TR enc w n 66 cs y) : ∃ x, RClass w x b off ∧ wfClass x ∧ szClass x ≤ Rows.uptoBulk y.1 := by
  obtain ⟨c1, c2⟩ := cells_get hc
  obtain ⟨xs, m, _, rfl, _, hl, hx⟩ := DataW.trod_struct Tryz.underlying66 h
  obtain ⟨a0, a1, a2, rfl⟩ := list3 c1
  obtain ⟨y0, y1, y2, rfl⟩ := list3 hl
  have f0 := hx 0 _ rfl
  have f1 := hx 1 _ rfl
  have f2 := hx 2 _ rfl
  simp only [List.getElem?_cons_zero, List.getElem?_cons_succ] at f0 f1 f2
  obtain ⟨n0, rfl, w0, b0⟩ := open_num Tryz.underlying3 f0
  obtain ⟨l1, s1, w1, b1⟩ := open_nums f1
  obtain ⟨l2, s2, w2, b2⟩ := open_meths f2
  refine ⟨⟨n0, l1, l2⟩, ⟨a1, a2, c2 0 (by omega), c2 1 (by omega), c2 2 (by omega), s1, s2⟩, ⟨w0, w1, w2⟩, ?_⟩
  unfold szClass
  simp only [List.map_cons, List.map_nil, Rows.uptoBulk, Rows.uptoBulkAll]
  omega
set_option maxRecDepth 100000 in
theorem open_prog {v : Value} {d : DataW H} {ps : List MemPlace} {base : Nat} (hv : Value.okWide Tryz.prog w .any base 24 v) (h : DataW.Trod enc Tryz.prog w 0 (fun _ => true) true 24 v d ps) :
    ∃ vp p, v = .agg #[vp] ∧ RProg w vp p ∧ wfProg p ∧ szProg p + 2 ≤ Rows.uptoBulk d := by
  unfold Value.okWide at hv
  rw [Tryz.underlying24] at hv
  obtain ⟨cs, rfl, hsz, _⟩ := hv
  rw [cells_s.2.2.2.2] at hsz
  obtain ⟨fuel, h⟩ := h
  obtain ⟨xs, m, _, hy, _, hl, hx⟩ := DataW.trod_struct Tryz.underlying24 h
  obtain ⟨vp, rfl⟩ : ∃ vp, cs = #[vp] := by
    match cs, hsz with
    | ⟨[a]⟩, _ => exact ⟨a, rfl⟩
  obtain ⟨y0, rfl⟩ := list1 hl
  have f0 := hx 0 _ rfl
  simp only [List.getElem?_cons_zero] at f0
  obtain ⟨l, s1, w1, b1⟩ := open_list (enc := enc) (w := w) (RClass w) wfClass szClass Tryz.underlying22 cells_s.2.2.2.1 (by decide) (fun n b off cs y hc hy => open_class hc hy) f0
  refine ⟨vp, l, rfl, s1, w1, ?_⟩
  have e := congrArg Prod.fst hy
  simp only at e
  rw [e]
  unfold szProg
  simp only [List.map_cons, List.map_nil, Rows.uptoBulk, Rows.uptoBulkAll]
  omega
end
end Go.Proofs.YtiiokkllmchohaaGreat
/- RowX -/
namespace Go.Proofs.YtiiokkllmchohaaGreat
open Go.ChangeShapes Go.WideShapes Go.ChangeAt Go.RowKit

theorem written_knob : ownKnob Tryz.prog.godebug = none := by kernel_rfl
theorem written_laid : laidOutB Tryz.prog = true := by kernel_rfl
theorem bulk_four {H : Type} {d0 d1 d2 d3 : DataW H} (hk : Rows.uptoSmall H ([d0, d1, d2, d3] ++ []) = true) : Rows.uptoBulk d0 + Rows.uptoBulk d1 + Rows.uptoBulk d2 + Rows.uptoBulk d3 ≤ 1048576 := by
  have h := of_decide_eq_true hk
  simp only [List.append_nil, Rows.uptoBulkAll] at h
  omega

set_option maxRecDepth 100000 in
theorem written_contract (H : Type) (enc : TypeId × Value → H) (W : World) (base : Nat) (args : Array Value) (ds gs : List (DataW H)) (before : List MemPlace)
    (hval : ∀ (j : Nat) t v, Tryz.f3.params[j]? = some t → args[j]? = some v → Value.okWide Tryz.prog W .any base t v)
    (hW : DataW.Whole enc Tryz.prog Tryz.f3.params.toList Rows.writtenSpec.vars false W args.toList ds gs before) (hk : Rows.uptoSmall H (ds ++ gs) = true) :
    Calls Tryz.prog 3 args W fun e W' => ∃ v, e = .returned v ∧ Rows.writtenSpec.post enc Tryz.prog Tryz.f3 false true false false W args v W' := by
  have hW' := hW
  obtain ⟨p, q, hA0, hV, rfl, hfz, hnd⟩ := hW
  have hA : DataW.TrodAll enc Tryz.prog W 0 (fun _ => true) true Tryz.f3.params.toList args.toList ds p := hA0
  rw [Tryz.params3] at hA hval
  obtain ⟨v0, v1, v2, v3, d0, d1, d2, d3, p0, p1, p2, p3, rfl, rfl, rfl, h0, h1, h2, h3⟩ := trodAll_four hA
  obtain ⟨rfl, rfl⟩ := trodVars_none hV
  have hbulk := bulk_four hk
  obtain ⟨vp, lp, rfl, r0, f0, z0⟩ := open_prog (hval 0 24 _ rfl rfl) h0
  obtain ⟨n1, rfl, rfl, _, hf1⟩ := open_int Tryz.underlying3 (hval 1 3 v1 rfl rfl) h1
  obtain ⟨n2, rfl, rfl, _, hf2⟩ := open_int Tryz.underlying5 (hval 2 5 v2 rfl rfl) h2
  obtain ⟨s, rfl, hz⟩ : ∃ s : List UInt8, v3 = .string ⟨s.toArray⟩ ∧ s.length + 1 ≤ Rows.uptoBulk d3 := by
    obtain ⟨s, rfl, rfl, _, _⟩ := Go.ChangeMaps.open_string Tryz.underlying9 (hval 3 9 v3 rfl rfl) h3
    exact ⟨s.data.toList, by simp, by simp [Rows.uptoBulk]⟩
  clear hA0
  have i1 : I64 n1 := wf_i64 hf1
  obtain ⟨y, rfl, hy⟩ : ∃ y : Nat, n2 = (y : Int) ∧ y < 256 := by
    have h : 0 ≤ n2 ∧ n2 ≤ 255 := by simpa [Lit.wf, IntKind.min, IntKind.max, IntKind.signed, IntKind.bits] using hf2
    exact ⟨n2.toNat, by omega, by omega⟩
  refine (keep_written lp vp n1 y s W r0 f0 (by omega) i1 hy (by omega)).mono fun e W' ⟨he, hB⟩ => ?_
  subst he
  have e1 : Rows.writtenSpec.fn H ([d0, .lit (.int .i64 n1), .lit (.int .u8 (y : Int)), d3] ++ []) = { results := [.lit (.bool true)], args := [d0, .lit (.int .i64 n1), .lit (.int .u8 (y : Int)), d3] } := rfl
  refine ⟨_, rfl, _, _, _, [], p0 ++ (p1 ++ (p2 ++ p3)), [], hW', ?_, ?_, ?_, hB.frame _, fun h => by cases h⟩
  · rw [e1]
    exact trodAll_mk1 (shut_bool Tryz.underlying4 _)
  · rw [e1]
    exact trodAll_mk4 (Below.trod written_laid (by kernel_rfl) (of_decide_eq_true (by kernel_rfl)) h0 hB (fun x hx => hW'.lt x (by simp [hx]))) (Below.trod written_laid (by kernel_rfl) (of_decide_eq_true (by kernel_rfl)) h1 hB (fun x hx => hW'.lt x (by simp [hx]))) (Below.trod written_laid (by kernel_rfl) (of_decide_eq_true (by kernel_rfl)) h2 hB (fun x hx => hW'.lt x (by simp [hx]))) (Below.trod written_laid (by kernel_rfl) (of_decide_eq_true (by kernel_rfl)) h3 hB (fun x hx => hW'.lt x (by simp [hx])))
  · rw [e1]
    rfl

set_option maxRecDepth 100000 in
theorem written_lifted (os : Os) (started : os.Started) (H : Type) (enc : TypeId × Value → H) (F : Stop.Interp) :
    ReturnsInHanded {} Tryz.checked os 3 .any ((Rows.OpenSpec.upto Rows.writtenSpec).pre6 enc Tryz.prog Tryz.f3 Rows.writtenUptoRow.domain false) (((Rows.OpenSpec.upto Rows.writtenSpec).at F).post enc Tryz.prog Tryz.f3 false true false false) := by
  refine returnsInHanded_of_cond (C := Tryz.checked) (s := Rows.OpenSpec.upto Rows.writtenSpec) (k := Rows.uptoSmall) rfl written_knob started (by kernel_rfl) Tryz.func3
    (OpenSpec.witness (enc := enc) (C := Tryz.checked) (s := Rows.OpenSpec.upto Rows.writtenSpec) (k := Rows.uptoSmall) rfl false ⟨#[], #[.agg #[.slice none 0 0], .int .i64 0, .int .u8 0, .string .empty], []⟩ 8 (by kernel_rfl) (by kernel_rfl) (by kernel_rfl)
      (x := ([.agg [.nil], .lit (.int .i64 0), .lit (.int .u8 0), .lit (.string [])], [], [])) (by kernel_rfl) rfl (by kernel_rfl)) ?_
  intro W base args ds gs before hval hW _ hk _
  exact written_contract H enc W base args ds gs before hval hW hk

theorem written_over : Rows.writtenUptoRow.holds Tryz.pinned (Rows.OpenSpec.upto Rows.writtenSpec) :=
  OpenClaim.holds_of_cond 3 Tryz.f3 rfl rfl rfl rfl rfl rfl rfl ⟨rfl, rfl, rfl, rfl, rfl⟩ rfl rfl rfl rfl rfl (by kernel_rfl) Tryz.func3 (by kernel_rfl)
    (of_decide_eq_true (by kernel_rfl)) (by unfold Func.isWrapper; first | (rw [if_pos (by decide +kernel)]; kernel_rfl) | (rw [if_neg (by decide +kernel)]; exact ⟨rfl, rfl⟩))
    (fun os started H enc _ F => written_lifted os started H enc F)
theorem written_holds : Rows.WrittenUptoSaid := written_over
end Go.Proofs.YtiiokkllmchohaaGreat
