/- What is proved: the law Fueled (with less fuel a run is the beginning of the one with more) answers true, and what it was handed reads as it did. Condition: the arguments hold together at most 1048576 values and letters. -/
import Derived.Test.YtiiokkllmchohaaGreatT36
import Derived.Test.YtiiokkllmchohaaGreatT37
/- KepC -/
namespace Go.Proofs.YtiiokkllmchohaaGreat
open Go.RowKit Go.Shelf
attribute [local go_sem ↓] Go.wp_at_zero Go.wp_at_succ
attribute [local go_sem] frz_drew

theorem runF_less {p : List LClass} {c slot : Int} {args : List Int} {fuel : Int} {n : Nat} (hF : formI p = 0) (hz : szProg p ≤ 4194304) (hT : takesB p c slot args.length = true) (h5 : fuel ≤ 5000) (hn : (n : Int) ≤ fuel) :
    ((runF p c slot args n).2 ≠ 6 → runF p c slot args fuel = runF p c slot args n) ∧ ((runF p c slot args n).2 = 6 → ((runF p c slot args n).1.steps : Int) = n ∧ (n : Int) ≤ ((runF p c slot args fuel).1.steps : Int) ∧ (runF p c slot args n).1.out <+: (runF p c slot args fuel).1.out) := by
  obtain ⟨_, hR⟩ := runF_is (fuel := fuel) hF hz hT (by omega) h5
  obtain ⟨I, hR'⟩ := runF_is (fuel := (n : Int)) hF hz hT (by omega) (by omega)
  exact run_less hF hz h5 hn _ _ _ _ _ I hR hR'
set_option maxHeartbeats 20000000 in
set_option maxRecDepth 100000 in
theorem keep_fueled (p : List LClass) (vp : Value) (c slot : Int) (args : List Int) (va : Value) (fuel less : Int) (w : World) (hp : RProg w vp p) (hwf : wfProg p) (hz : szProg p ≤ 4194304) (hva : SlAt 1 (RInt w) va args) (hal4 : args.length ≤ 4194304) (hl : -9223372036854775808 ≤ less ∧ less ≤ 9223372036854775807) :
    Calls Tryz.prog 11 #[.agg #[vp], .int .i64 c, .int .i64 slot, va, .int .i64 fuel, .int .i64 less] w fun e w' => e = .returned (.bool true) ∧ Below w.heap.size w w' := by
  have HP := hide hp
  have HVA := hide hva
  obtain ⟨pa, _, _, pcap, rfl, _⟩ := hp
  obtain ⟨aa, _, _, acap, rfl, _⟩ := hva
  have hbel := box_below w (.cells #[.slice pa p.length pcap] 24)
  have B0 := Blk.new w #[.slice pa p.length pcap] 24
  go_enter Tryz.func11, Tryz.ntmps11
  go_wp2_with fail
  generalize w.alloc _ = W at *
  refine (keep_awake W).mono ?_
  rintro e w3 ⟨rfl, hb1⟩
  have hbw3 := hbel.trans (hb1.mono hbel.size)
  have C3 := B0.below hb1 (by have := B0.lt; omega)
  have q3 : w3.cell? ⟨w.heap.size, 0, none⟩ = some (.slice pa p.length pcap) := C3.cell 0
  clear hb1 hbel B0
  go_wp2_with fail
  refine (code_runO p _ c slot args _ fuel true w3 (prog_keep (Keeps.of_below hbw3) (unhide HP)) hwf hz (ints_keep (Keeps.of_below hbw3) (unhide HVA)) hal4).mono ?_
  rintro e w4 ⟨K, V, S, oa, ocap, out, rfl, hsl, hv, hb4⟩
  have hbw4 := hbw3.trans (hb4.mono hbw3.size)
  have C4 := C3.below hb4 (by have := C3.lt; omega)
  have HSL := hide hsl
  have hone := one4 K V S oa out.length ocap
  clear hb4 hbw3 C3 q3 hsl
  by_cases hE : runE p c slot args.length fuel true = 0
  · have hF : formI p = 0 := by
      apply Classical.byContradiction
      intro h
      unfold runE at hE
      rw [if_neg h] at hE
      exact h hE
    have hT : takesB p c slot args.length = true ∧ 0 ≤ fuel ∧ fuel ≤ 5000 := by
      apply Classical.byContradiction
      intro h
      unfold runE at hE
      rw [if_pos hF, if_neg h] at hE
      cases hE
    obtain ⟨rfl, rfl, rfl, rfl⟩ := hv hE
    rw [hE]
    have HF := hide (And.intro hF hT)
    obtain ⟨_, f0, f5⟩ := hT
    obtain ⟨N, hN⟩ := Int.eq_ofNat_of_zero_le f0
    subst hN
    clear hv hE hF
    have hkd := runF_kind (unhide HF).1 hz (unhide HF).2.1 (unhide HF).2.2.1 (unhide HF).2.2.2
    have hol := runF_out (unhide HF).1 hz (unhide HF).2.1 (unhide HF).2.2.1 (unhide HF).2.2.2
    go_wp2_with (refine wpList_store_blk aggOut (Blk.new w4 #[.int .i64 0, .int .i64 0, .slice none 0 0, .int .i64 0] 69) 0 [.int .i64 (runF p c slot args (N : Int)).2, .int .i64 (outV p c slot (runF p c slot args (N : Int))), .slice oa (runF p c slot args (N : Int)).1.out.length ocap, .int .i64 ((runF p c slot args (N : Int)).1.steps : Int)] rfl (by simp) hone (.tmp 14) (.tmp 28) rfl rfl rfl rfl ?_; intro w5 hB5 hM5 hs5; rw [putAt_all (by rfl)] at hB5; have q5 : w5.cell? ⟨w.heap.size, 0, none⟩ = some (.slice pa p.length pcap) := ((C4.alloc _).mods hM5 (by have := C4.lt; omega)).cell 0)
    have hb5 := (box_below w4 _).trans (hM5.below (by simp) (fun k hk e => by omega))
    have C5 := C4.below hb5 C4.lt
    have hbw5 := hbw4.trans (hb5.mono hbw4.size)
    have HSL5 := hide (ints_keep (Keeps.of_below hb5) (unhide HSL))
    clear hbw4 HSL hM5 hs5 hb5 C4 hone
    refine (keep_pick less (N + 1) w5 hl (by omega) (by omega)).mono ?_
    rintro e w5' ⟨n, hn, rfl, rfl⟩
    go_wp2_with fail
    refine (code_runO p _ c slot args _ (n : Int) true w5' (prog_keep (Keeps.of_below hbw5) (unhide HP)) hwf hz (ints_keep (Keeps.of_below hbw5) (unhide HVA)) hal4).mono ?_
    rintro e w6 ⟨K', V', S', oa', ocap', out', rfl, hsl', hv', hb6⟩
    have hE' : runE p c slot args.length (n : Int) true = 0 := by unfold runE; rw [if_pos (unhide HF).1, if_pos ⟨(unhide HF).2.1, by omega, by omega⟩, if_pos (.inl rfl)]
    obtain ⟨rfl, rfl, rfl, rfl⟩ := hv' hE'
    rw [hE']
    have hbw6 := hbw5.trans (hb6.mono hbw5.size)
    have hB6 := hB5.below hb6 hB5.lt
    have HSL6 := hide (And.intro (ints_keep (Keeps.of_below hb6) (unhide HSL5)) hsl')
    have hless := runF_less (n := n) (unhide HF).1 hz (unhide HF).2.1 f5 (by omega)
    generalize w4.heap.size = h4 at *
    clear hb6 hbw5 C5 q5 hsl' hv' HSL5 hB5 HF hE'
    generalize hV : outV p c slot (runF p c slot args (N : Int)) = V at *
    generalize hV' : outV p c slot (runF p c slot args (n : Int)) = V' at *
    obtain ⟨⟨⟨frs, objs, told, out, stp⟩, K⟩, hR⟩ : ∃ R, R = runF p c slot args (N : Int) := ⟨_, rfl⟩
    obtain ⟨⟨⟨frs', objs', told', out', stp'⟩, K'⟩, hR'⟩ : ∃ R, R = runF p c slot args (n : Int) := ⟨_, rfl⟩
    rw [← hR, ← hR'] at hless
    rw [← hR] at hkd hol hB6 HSL6
    rw [← hR'] at HSL6 ⊢
    obtain ⟨⟨k1, k8⟩, hst, hk6⟩ := hkd
    dsimp only at hst hk6 k1 k8 hol hB6 HSL6 hless ⊢
    have hone' := one4 K' V' (stp' : Int) oa' out'.length ocap'
    have hlt6 := hB6.lt
    have hgt : ¬ (N : Int) < (stp : Int) := by omega
    by_cases hK : K' = 6
    · subst hK
      obtain ⟨l1, l2, l3⟩ := hless.2 rfl
      have l4 : ¬ (stp : Int) < (n : Int) := by omega
      have l5 := l3.length_le
      have l6 : ¬ (out.length : Int) < (out'.length : Int) := by omega
      have HPRE := hide (show ∀ j (h : j < out'.length), out'[j] = out[j]'(by omega) from fun j h => l3.getElem h)
      have HSS := hide (And.intro hst hk6)
      rw [l1] at hone' ⊢
      clear hR hR' hV hV' hless hk6 hst k1 k8 l1 l2 l3
      by_cases hS : (stp : Int) = (N : Int)
      · have hS' : ((stp : Int) == (N : Int)) = true := by simpa using hS
        go_wp2_with (refine wpList_store_blk aggOut (Blk.new w6 #[.int .i64 0, .int .i64 0, .slice none 0 0, .int .i64 0] 69) 0 [.int .i64 6, .int .i64 V', .slice oa' out'.length ocap', .int .i64 (n : Int)] rfl (by simp) hone' (.tmp 17) (.tmp 48) rfl rfl rfl rfl ?_; intro w7 hB7 hM7 hs7; rw [putAt_all (by rfl)] at hB7; have hB8 := (hB6.alloc (.cells #[.int .i64 0, .int .i64 0, .slice none 0 0, .int .i64 0] 69)).mods hM7 (by omega); have a0 : w7.cell? ⟨h4, 0, none⟩ = some (.int .i64 K) := hB8.cell 0; have a2 : w7.cell? ⟨h4, 2, none⟩ = some (.slice oa out.length ocap) := hB8.cell 2; have a3 : w7.cell? ⟨h4, 3, none⟩ = some (.int .i64 (stp : Int)) := hB8.cell 3; have b0 : w7.cell? ⟨w6.heap.size, 0, none⟩ = some (.int .i64 6) := hB7.cell 0; have b2 : w7.cell? ⟨w6.heap.size, 2, none⟩ = some (.slice oa' out'.length ocap') := hB7.cell 2; have b3 : w7.cell? ⟨w6.heap.size, 3, none⟩ = some (.int .i64 (n : Int)) := hB7.cell 3)
        have hb7 := (box_below w6 _).trans (hM7.below (by simp) (fun k hk e => by omega))
        have hbw7 := hbw6.trans (hb7.mono hbw6.size)
        obtain ⟨xa, xb, xoff, xcap, hxe, _, hxa, hxr⟩ := ints_open (ints_keep (Keeps.of_below hb7) (unhide HSL6).1)
        obtain ⟨ya, yb, yoff, ycap, hye, _, hya, hyr⟩ := ints_open (ints_keep (Keeps.of_below hb7) (unhide HSL6).2)
        simp only [Value.slice.injEq, true_and] at hxe hye
        obtain ⟨rfl, rfl⟩ := hxe
        obtain ⟨rfl, rfl⟩ := hye
        have HX := hide hxr
        have HY := hide hyr
        clear hxr hyr a0 a3 b0 b3 hB7 hB8 hM7 hs7 hb7
        go_loopw [19] (fun i wr => ∃ j : Nat, j ≤ out'.length ∧ i = .int .i64 j ∧ Below w7.heap.size w7 wr) (fun i _ => out'.length - (intOf i).toNat)
        case atStart => exact ⟨0, Nat.zero_le _, rfl, Below.refl _ _⟩
        case round =>
          obtain ⟨j, hj, rfl, hbr⟩ := hrel
          have hfin := hbw7.trans (hbr.mono hbw7.size)
          have x2 := Keeps.of_below hbr _ _ a2
          have y2 := Keeps.of_below hbr _ _ b2
          by_cases hlt : j < out'.length
          · have hlt2 : j < out.length := by omega
            obtain rfl := hxa (ne_nil_of_lt hlt2)
            obtain rfl := hya (ne_nil_of_lt hlt)
            have r0 := Keeps.of_below hbr _ _ (unhide HX j hlt2)
            have r1 := Keeps.of_below hbr _ _ (unhide HY j hlt)
            rw [unhide HPRE j hlt] at r1
            have j0 : (0 : Int) ≤ (j : Int) := by omega
            have j1 : (j : Int) < (out.length : Int) := by omega
            have j2 : (j : Int) < (out'.length : Int) := by omega
            generalize out[j] = t at *
            go_wp2_with fail
            go_region_held3 (fun w' => w'.cell? ⟨h4, 2, none⟩ = some (.slice (some ⟨xb, xoff, none⟩) out.length ocap) ∧ w'.cell? ⟨w6.heap.size, 2, none⟩ = some (.slice (some ⟨yb, yoff, none⟩) out'.length ocap') ∧ w'.cell? ⟨xb, xoff + j, none⟩ = some (.int .i64 t) ∧ w'.cell? ⟨yb, yoff + j, none⟩ = some (.int .i64 t))
              (first | (exact ⟨x2, y2, r0, r1⟩) | go_keep)
              (fail)
            go_wp2_with fail
            refine ⟨⟨j + 1, by omega, by go_num, hbr.drew⟩, by simp [intOf]; omega⟩
          · obtain rfl : j = out'.length := by omega
            go_wp2
            go_ret
            exact ⟨rfl, hfin⟩
      · have hS' : ((stp : Int) == (N : Int)) = false := by simpa using hS
        have hK6 : (K == 6) = false := by
          simp only [beq_eq_false_iff_ne, ne_eq]
          exact fun e => hS ((unhide HSS).2 e)
        go_wp2_with (refine wpList_store_blk aggOut (Blk.new w6 #[.int .i64 0, .int .i64 0, .slice none 0 0, .int .i64 0] 69) 0 [.int .i64 6, .int .i64 V', .slice oa' out'.length ocap', .int .i64 (n : Int)] rfl (by simp) hone' (.tmp 17) (.tmp 48) rfl rfl rfl rfl ?_; intro w7 hB7 hM7 hs7; rw [putAt_all (by rfl)] at hB7; have hB8 := (hB6.alloc (.cells #[.int .i64 0, .int .i64 0, .slice none 0 0, .int .i64 0] 69)).mods hM7 (by omega); have a0 : w7.cell? ⟨h4, 0, none⟩ = some (.int .i64 K) := hB8.cell 0; have a2 : w7.cell? ⟨h4, 2, none⟩ = some (.slice oa out.length ocap) := hB8.cell 2; have a3 : w7.cell? ⟨h4, 3, none⟩ = some (.int .i64 (stp : Int)) := hB8.cell 3; have b0 : w7.cell? ⟨w6.heap.size, 0, none⟩ = some (.int .i64 6) := hB7.cell 0; have b2 : w7.cell? ⟨w6.heap.size, 2, none⟩ = some (.slice oa' out'.length ocap') := hB7.cell 2; have b3 : w7.cell? ⟨w6.heap.size, 3, none⟩ = some (.int .i64 (n : Int)) := hB7.cell 3)
        have hb7 := (box_below w6 _).trans (hM7.below (by simp) (fun k hk e => by omega))
        have hbw7 := hbw6.trans (hb7.mono hbw6.size)
        obtain ⟨xa, xb, xoff, xcap, hxe, _, hxa, hxr⟩ := ints_open (ints_keep (Keeps.of_below hb7) (unhide HSL6).1)
        obtain ⟨ya, yb, yoff, ycap, hye, _, hya, hyr⟩ := ints_open (ints_keep (Keeps.of_below hb7) (unhide HSL6).2)
        simp only [Value.slice.injEq, true_and] at hxe hye
        obtain ⟨rfl, rfl⟩ := hxe
        obtain ⟨rfl, rfl⟩ := hye
        have HX := hide hxr
        have HY := hide hyr
        clear hxr hyr a0 a3 b0 b3 hB7 hB8 hM7 hs7 hb7
        go_loopw [19] (fun i wr => ∃ j : Nat, j ≤ out'.length ∧ i = .int .i64 j ∧ Below w7.heap.size w7 wr) (fun i _ => out'.length - (intOf i).toNat)
        case atStart => exact ⟨0, Nat.zero_le _, rfl, Below.refl _ _⟩
        case round =>
          obtain ⟨j, hj, rfl, hbr⟩ := hrel
          have hfin := hbw7.trans (hbr.mono hbw7.size)
          have x2 := Keeps.of_below hbr _ _ a2
          have y2 := Keeps.of_below hbr _ _ b2
          by_cases hlt : j < out'.length
          · have hlt2 : j < out.length := by omega
            obtain rfl := hxa (ne_nil_of_lt hlt2)
            obtain rfl := hya (ne_nil_of_lt hlt)
            have r0 := Keeps.of_below hbr _ _ (unhide HX j hlt2)
            have r1 := Keeps.of_below hbr _ _ (unhide HY j hlt)
            rw [unhide HPRE j hlt] at r1
            have j0 : (0 : Int) ≤ (j : Int) := by omega
            have j1 : (j : Int) < (out.length : Int) := by omega
            have j2 : (j : Int) < (out'.length : Int) := by omega
            generalize out[j] = t at *
            go_wp2_with fail
            go_region_held3 (fun w' => w'.cell? ⟨h4, 2, none⟩ = some (.slice (some ⟨xb, xoff, none⟩) out.length ocap) ∧ w'.cell? ⟨w6.heap.size, 2, none⟩ = some (.slice (some ⟨yb, yoff, none⟩) out'.length ocap') ∧ w'.cell? ⟨xb, xoff + j, none⟩ = some (.int .i64 t) ∧ w'.cell? ⟨yb, yoff + j, none⟩ = some (.int .i64 t))
              (first | (exact ⟨x2, y2, r0, r1⟩) | go_keep)
              (fail)
            go_wp2_with fail
            refine ⟨⟨j + 1, by omega, by go_num, hbr.drew⟩, by simp [intOf]; omega⟩
          · obtain rfl : j = out'.length := by omega
            go_wp2
            go_ret
            exact ⟨rfl, hfin⟩
    · have hAB := hless.1 hK
      simp only [Prod.mk.injEq, MaSt.mk.injEq] at hAB
      obtain ⟨⟨rfl, rfl, rfl, rfl, rfl⟩, rfl⟩ := hAB
      have hVV : V = V' := by rw [← hV, ← hV', ← hR, ← hR']
      subst hVV
      have hK' : (K != 6) = true := by simpa using hK
      have hK6 : (K == 6) = false := by simpa using hK
      clear hR hR' hV hV' hless hk6 k1 k8
      by_cases hS : (stp : Int) = (N : Int)
      · obtain rfl : stp = N := by omega
        clear hS
        go_wp2_with (refine wpList_store_blk aggOut (Blk.new w6 #[.int .i64 0, .int .i64 0, .slice none 0 0, .int .i64 0] 69) 0 [.int .i64 K, .int .i64 V, .slice oa' out.length ocap', .int .i64 (stp : Int)] rfl (by simp) hone' (.tmp 17) (.tmp 48) rfl rfl rfl rfl ?_; intro w7 hB7 hM7 hs7; rw [putAt_all (by rfl)] at hB7; have hB8 := (hB6.alloc (.cells #[.int .i64 0, .int .i64 0, .slice none 0 0, .int .i64 0] 69)).mods hM7 (by omega); have a0 : w7.cell? ⟨h4, 0, none⟩ = some (.int .i64 K) := hB8.cell 0; have a1 : w7.cell? ⟨h4, 1, none⟩ = some (.int .i64 V) := hB8.cell 1; have a2 : w7.cell? ⟨h4, 2, none⟩ = some (.slice oa out.length ocap) := hB8.cell 2; have a3 : w7.cell? ⟨h4, 3, none⟩ = some (.int .i64 (stp : Int)) := hB8.cell 3; have b0 : w7.cell? ⟨w6.heap.size, 0, none⟩ = some (.int .i64 K) := hB7.cell 0; have b1 : w7.cell? ⟨w6.heap.size, 1, none⟩ = some (.int .i64 V) := hB7.cell 1; have b2 : w7.cell? ⟨w6.heap.size, 2, none⟩ = some (.slice oa' out.length ocap') := hB7.cell 2; have b3 : w7.cell? ⟨w6.heap.size, 3, none⟩ = some (.int .i64 (stp : Int)) := hB7.cell 3)
        have hb7 := (box_below w6 _).trans (hM7.below (by simp) (fun k hk e => by omega))
        refine (keep_same K V (stp : Int) _ _ out w7 (ints_keep (Keeps.of_below hb7) (unhide HSL6).1) (ints_keep (Keeps.of_below hb7) (unhide HSL6).2) (by omega)).mono ?_
        rintro e w8 ⟨rfl, hb8⟩
        clear a0 a1 a2 a3 b0 b1 b2 b3 hB7 hB8 hM7 hs7
        have hbw7 := hbw6.trans (hb7.mono hbw6.size)
        go_wp2_with fail
        go_ret
        exact ⟨rfl, hbw7.trans (hb8.mono hbw7.size)⟩
      · have hS' : ((stp : Int) == (N : Int)) = false := by simpa using hS
        go_wp2_with (refine wpList_store_blk aggOut (Blk.new w6 #[.int .i64 0, .int .i64 0, .slice none 0 0, .int .i64 0] 69) 0 [.int .i64 K, .int .i64 V, .slice oa' out.length ocap', .int .i64 (stp : Int)] rfl (by simp) hone' (.tmp 17) (.tmp 48) rfl rfl rfl rfl ?_; intro w7 hB7 hM7 hs7; rw [putAt_all (by rfl)] at hB7; have hB8 := (hB6.alloc (.cells #[.int .i64 0, .int .i64 0, .slice none 0 0, .int .i64 0] 69)).mods hM7 (by omega); have a0 : w7.cell? ⟨h4, 0, none⟩ = some (.int .i64 K) := hB8.cell 0; have a1 : w7.cell? ⟨h4, 1, none⟩ = some (.int .i64 V) := hB8.cell 1; have a2 : w7.cell? ⟨h4, 2, none⟩ = some (.slice oa out.length ocap) := hB8.cell 2; have a3 : w7.cell? ⟨h4, 3, none⟩ = some (.int .i64 (stp : Int)) := hB8.cell 3; have b0 : w7.cell? ⟨w6.heap.size, 0, none⟩ = some (.int .i64 K) := hB7.cell 0; have b1 : w7.cell? ⟨w6.heap.size, 1, none⟩ = some (.int .i64 V) := hB7.cell 1; have b2 : w7.cell? ⟨w6.heap.size, 2, none⟩ = some (.slice oa' out.length ocap') := hB7.cell 2; have b3 : w7.cell? ⟨w6.heap.size, 3, none⟩ = some (.int .i64 (stp : Int)) := hB7.cell 3)
        have hb7 := (box_below w6 _).trans (hM7.below (by simp) (fun k hk e => by omega))
        refine (keep_same K V (stp : Int) _ _ out w7 (ints_keep (Keeps.of_below hb7) (unhide HSL6).1) (ints_keep (Keeps.of_below hb7) (unhide HSL6).2) (by omega)).mono ?_
        rintro e w8 ⟨rfl, hb8⟩
        clear a0 a1 a2 a3 b0 b1 b2 b3 hB7 hB8 hM7 hs7
        have hbw7 := hbw6.trans (hb7.mono hbw6.size)
        go_wp2_with fail
        go_ret
        exact ⟨rfl, hbw7.trans (hb8.mono hbw7.size)⟩
  · have hE' : (runE p c slot args.length fuel true != 0) = true := by simpa using hE
    clear hv hE
    generalize runE p c slot args.length fuel true = er at *
    go_wp2_with (refine wpList_store_blk aggOut (Blk.new w4 #[.int .i64 0, .int .i64 0, .slice none 0 0, .int .i64 0] 69) 0 [.int .i64 K, .int .i64 V, .slice oa out.length ocap, .int .i64 S] rfl (by simp) hone (.tmp 14) (.tmp 28) rfl rfl rfl rfl ?_; intro w5 hB5 hM5 hs5)
    have hb5 := (box_below w4 _).trans (hM5.below (by simp) (fun k hk e => by omega))
    go_ret
    exact ⟨rfl, hbw4.trans (hb5.mono hbw4.size)⟩
end Go.Proofs.YtiiokkllmchohaaGreat
/- RowF -/
namespace Go.Proofs.YtiiokkllmchohaaGreat
open Go.ChangeShapes Go.WideShapes Go.ChangeAt Go.RowKit

set_option maxRecDepth 100000 in
theorem fueled_contract (H : Type) (enc : TypeId × Value → H) (W : World) (base : Nat) (args : Array Value) (ds gs : List (DataW H)) (before : List MemPlace)
    (hval : ∀ (j : Nat) t v, Tryz.f11.params[j]? = some t → args[j]? = some v → Value.okWide Tryz.prog W .any base t v)
    (hW : DataW.Whole enc Tryz.prog Tryz.f11.params.toList Rows.fueledSpec.vars false W args.toList ds gs before) (hk : Rows.uptoSmall H (ds ++ gs) = true) :
    Calls Tryz.prog 11 args W fun e W' => ∃ v, e = .returned v ∧ Rows.fueledSpec.post enc Tryz.prog Tryz.f11 false true false false W args v W' := by
  have hW' := hW
  obtain ⟨p, q, hA0, hV, rfl, hfz, hnd⟩ := hW
  have hA : DataW.TrodAll enc Tryz.prog W 0 (fun _ => true) true Tryz.f11.params.toList args.toList ds p := hA0
  rw [Tryz.params11] at hA hval
  obtain ⟨v0, v1, v2, v3, v4, v5, d0, d1, d2, d3, d4, d5, p0, p1, p2, p3, p4, p5, rfl, rfl, rfl, h0, h1, h2, h3, h4, h5⟩ := trodAll_six hA
  obtain ⟨rfl, rfl⟩ := trodVars_none hV
  have hbulk := bulk_six hk
  obtain ⟨vp, lp, rfl, r0, f0, z0⟩ := open_prog (hval 0 24 _ rfl rfl) h0
  obtain ⟨n1, rfl, rfl, _, hf1⟩ := open_int Tryz.underlying3 (hval 1 3 v1 rfl rfl) h1
  obtain ⟨n2, rfl, rfl, _, hf2⟩ := open_int Tryz.underlying3 (hval 2 3 v2 rfl rfl) h2
  obtain ⟨l, hl, hl64, hlz⟩ := open_intsV (hval 3 51 _ rfl rfl) h3
  obtain ⟨n4, rfl, rfl, _, hf4⟩ := open_int Tryz.underlying3 (hval 4 3 v4 rfl rfl) h4
  obtain ⟨n5, rfl, rfl, _, hf5⟩ := open_int Tryz.underlying3 (hval 5 3 v5 rfl rfl) h5
  clear hA0
  refine (keep_fueled lp vp n1 n2 l v3 n4 n5 W r0 f0 (by omega) hl (by omega) (wf_i64 hf5)).mono fun e W' ⟨he, hB⟩ => ?_
  subst he
  have e1 : Rows.fueledSpec.fn H ([d0, .lit (.int .i64 n1), .lit (.int .i64 n2), d3, .lit (.int .i64 n4), .lit (.int .i64 n5)] ++ []) = { results := [.lit (.bool true)], args := [d0, .lit (.int .i64 n1), .lit (.int .i64 n2), d3, .lit (.int .i64 n4), .lit (.int .i64 n5)] } := rfl
  refine ⟨_, rfl, _, _, _, [], p0 ++ (p1 ++ (p2 ++ (p3 ++ (p4 ++ p5)))), [], hW', ?_, ?_, ?_, hB.frame _, fun h => by cases h⟩
  · rw [e1]
    exact trodAll_mk1 (shut_bool Tryz.underlying4 _)
  · rw [e1]
    exact trodAll_more (Below.trod keep_laid (by kernel_rfl) (of_decide_eq_true (by kernel_rfl)) h0 hB (fun x hx => hW'.lt x (by simp [hx]))) (trodAll_more (Below.trod keep_laid (by kernel_rfl) (of_decide_eq_true (by kernel_rfl)) h1 hB (fun x hx => hW'.lt x (by simp [hx]))) (trodAll_mk4 (Below.trod keep_laid (by kernel_rfl) (of_decide_eq_true (by kernel_rfl)) h2 hB (fun x hx => hW'.lt x (by simp [hx]))) (Below.trod keep_laid (by kernel_rfl) (of_decide_eq_true (by kernel_rfl)) h3 hB (fun x hx => hW'.lt x (by simp [hx]))) (Below.trod keep_laid (by kernel_rfl) (of_decide_eq_true (by kernel_rfl)) h4 hB (fun x hx => hW'.lt x (by simp [hx]))) (Below.trod keep_laid (by kernel_rfl) (of_decide_eq_true (by kernel_rfl)) h5 hB (fun x hx => hW'.lt x (by simp [hx])))))
  · rw [e1]
    rfl

set_option maxRecDepth 100000 in
theorem fueled_lifted (os : Os) (started : os.Started) (H : Type) (enc : TypeId × Value → H) (F : Stop.Interp) :
    ReturnsInHanded {} Tryz.checked os 11 .any ((Rows.OpenSpec.upto Rows.fueledSpec).pre6 enc Tryz.prog Tryz.f11 Rows.fueledUptoRow.domain false) (((Rows.OpenSpec.upto Rows.fueledSpec).at F).post enc Tryz.prog Tryz.f11 false true false false) := by
  refine returnsInHanded_of_cond (C := Tryz.checked) (s := Rows.OpenSpec.upto Rows.fueledSpec) (k := Rows.uptoSmall) rfl keep_knob started (by kernel_rfl) Tryz.func11
    (OpenSpec.witness (enc := enc) (C := Tryz.checked) (s := Rows.OpenSpec.upto Rows.fueledSpec) (k := Rows.uptoSmall) rfl false ⟨#[], #[.agg #[.slice none 0 0], .int .i64 0, .int .i64 0, .slice none 0 0, .int .i64 0, .int .i64 0], []⟩ 8 (by kernel_rfl) (by kernel_rfl) (by kernel_rfl)
      (x := ([.agg [.nil], .lit (.int .i64 0), .lit (.int .i64 0), .nil, .lit (.int .i64 0), .lit (.int .i64 0)], [], [])) (by kernel_rfl) rfl (by kernel_rfl)) ?_
  intro W base args ds gs before hval hW _ hk _
  exact fueled_contract H enc W base args ds gs before hval hW hk

theorem fueled_over : Rows.fueledUptoRow.holds Tryz.pinned (Rows.OpenSpec.upto Rows.fueledSpec) :=
  OpenClaim.holds_of_cond 11 Tryz.f11 rfl rfl rfl rfl rfl rfl rfl ⟨rfl, rfl, rfl, rfl, rfl⟩ rfl rfl rfl rfl rfl (by kernel_rfl) Tryz.func11 (by kernel_rfl)
    (of_decide_eq_true (by kernel_rfl)) (by unfold Func.isWrapper; first | (rw [if_pos (by decide +kernel)]; kernel_rfl) | (rw [if_neg (by decide +kernel)]; exact ⟨rfl, rfl⟩))
    (fun os started H enc _ F => fueled_lifted os started H enc F)
theorem fueled_holds : Rows.FueledUptoSaid := fueled_over
end Go.Proofs.YtiiokkllmchohaaGreat
