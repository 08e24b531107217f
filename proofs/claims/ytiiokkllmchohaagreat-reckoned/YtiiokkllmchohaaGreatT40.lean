/- What is proved: the law Reckoned (sums are those of 64 bits; division goes towards 0, by 0 the run ends with Zero; it is one step an instruction) answers true, and what it was handed reads as it did. Without condition. -/
import Derived.Test.YtiiokkllmchohaaGreatT38
import Derived.Test.YtiiokkllmchohaaGreatT39
/- RckB -/
namespace Go.Proofs.YtiiokkllmchohaaGreat
open Go.RowKit Go.Shelf
attribute [local go_sem ↓] Go.wp_at_zero Go.wp_at_succ
attribute [local go_sem] frz_drew

theorem results_blk3 {P : Program} {fn : Func} {t u u' : Tmp} {ty t' : TypeId} {n g : Nat} {w : World} {vs : List Value} {tmps : Array Value} (h : fn.results = #[.cell t ty, .tmp u, .tmp u']) (hA : AggOk P ty n) (hB : Blk w g t' vs) (hl : vs.length = n) (hx : tmps.getD t undef = .pointer (some ⟨g, 0, none⟩)) :
    (results fn tmps).run P w = .ok (.tuple #[.agg vs.toArray, tmps.getD u undef, tmps.getD u' undef]) w := by
  have := run_load_blk hA hB 0 vs hl (fun j v e => by simpa using e)
  have hx' : tmps[t]?.getD undef = .pointer (some ⟨g, 0, none⟩) := by rw [← hx]; simp
  simp [results, h, hx', asAddr, this]
def SumR (raw : List Int) (w w' : World) (e : Ending) : Prop := ∃ a cap, e = .returned (.tuple #[.agg #[.int .i64 0, .slice none 0 0, .int .i64 0, .int .i64 1, .int .i64 2, .slice a (2 + 2 * (raw.take 12).length) cap, .slice none 0 0], .int .i64 ((raw.take 12).foldl sumS (1, true)).1, .bool ((raw.take 12).foldl sumS (1, true)).2]) ∧ SlAt 3 (RIns w') (.slice a (2 + 2 * (raw.take 12).length) cap) (sumM (raw.take 12)).code ∧ Below w.heap.size w w'
theorem own_newk (W : World) (e : TypeId) (sz : Nat) (cs : List Value) (k : Nat) (hk : k ≤ 4194304) (hl : cs.length = k * sz) : (W.alloc (.cells cs.toArray e)).ownsRow W.heap.size e sz (.slice (some ⟨W.heap.size, 0, none⟩) k k) k cs := by
  refine ⟨by omega, .inr ⟨W.heap.size, k, cs.toArray, rfl, Nat.le_refl _, World.alloc_heap_new W _, Nat.le_refl _, by unfold maxLen; omega, by simpa using hl, by rw [← hl]; simp⟩⟩
theorem sum_start (w : World) : SumA w (((w.alloc (.cells #[.int .i64 0, .slice none 0 0, .int .i64 0, .int .i64 0, .int .i64 0, .slice none 0 0, .slice none 0 0] 63)).alloc (.cells #[.int .i64 0, .int .i64 1, .int .i64 0] 60)).alloc (.cells #[.int .i64 0, .slice none 0 0, .int .i64 0, .int .i64 1, .int .i64 2, .slice (some ⟨w.heap.size + 1, 0, none⟩) 1 1, .slice none 0 0] 63)) w.heap.size (w.heap.size + 1 + 1) (.slice (some ⟨w.heap.size + 1, 0, none⟩) 1 1) [] := by
  have B2 := ((Blk.new w #[.int .i64 0, .slice none 0 0, .int .i64 0, .int .i64 0, .int .i64 0, .slice none 0 0, .slice none 0 0] 63).alloc (.cells #[.int .i64 0, .int .i64 1, .int .i64 0] 60)).alloc (.cells #[.int .i64 0, .slice none 0 0, .int .i64 0, .int .i64 1, .int .i64 2, .slice (some ⟨w.heap.size + 1, 0, none⟩) 1 1, .slice none 0 0] 63)
  have B5 := Blk.new ((w.alloc (.cells #[.int .i64 0, .slice none 0 0, .int .i64 0, .int .i64 0, .int .i64 0, .slice none 0 0, .slice none 0 0] 63)).alloc (.cells #[.int .i64 0, .int .i64 1, .int .i64 0] 60)) #[.int .i64 0, .slice none 0 0, .int .i64 0, .int .i64 1, .int .i64 2, .slice (some ⟨w.heap.size + 1, 0, none⟩) 1 1, .slice none 0 0] 63
  have O := own_newk (w.alloc (.cells #[.int .i64 0, .slice none 0 0, .int .i64 0, .int .i64 0, .int .i64 0, .slice none 0 0, .slice none 0 0] 63)) 60 3 [.int .i64 0, .int .i64 1, .int .i64 0] 1 (by decide) rfl
  rw [World.size_alloc, World.size_alloc] at B5
  rw [World.size_alloc] at O
  refine ⟨?_, B2, B5, own_base (own_mods O ((Mods.refl (fun _ => False) _).alloc _) (fun _ _ f => f)) (by omega), Nat.le_refl _, by omega⟩
  repeat' (first | exact Below.refl _ _ | (refine Below.alloc ?_ (by simp; try omega) _))
section
variable {k : Bool} {u o n : Int}
def sumB (u : Int) (k : Bool) (o n : Int) : Int × Bool := if k = false then (u, k) else if o = 3 then (wrap64 (u + n), true) else if o = 4 then (wrap64 (u - n), true) else if o = 5 then (wrap64 (u * n), true) else if n = 0 then (u, false) else (wrap64 (Int.tdiv u n), true)
theorem ne_of_beq (h : (n == 0) = false) : ¬ n = 0 := by simpa using h
theorem sum_b0 (h : (!k) = true) : sumB u k o n = (u, k) := by
  cases k
  · rfl
  · cases h
theorem sum_b3 (h : (!k) = false) (h3 : (o == 3) = true) : sumB u k o n = (wrap64 (u + n), k) := by
  obtain rfl : o = 3 := by simpa using h3
  cases k
  · cases h
  · rfl
theorem sum_b4 (h : (!k) = false) (h4 : (o == 4) = true) : sumB u k o n = (wrap64 (u - n), k) := by
  obtain rfl : o = 4 := by simpa using h4
  cases k
  · cases h
  · rfl
theorem sum_b5 (h : (!k) = false) (h5 : (o == 5) = true) : sumB u k o n = (wrap64 (u * n), k) := by
  obtain rfl : o = 5 := by simpa using h5
  cases k
  · cases h
  · rfl
theorem sumB_6 (h : (!k) = false) (h3 : (o == 3) = false) (h4 : (o == 4) = false) (h5 : (o == 5) = false) : sumB u k o n = if n = 0 then (u, false) else (wrap64 (Int.tdiv u n), true) := by
  have h3 : ¬ o = 3 := by simpa using h3
  have h4 : ¬ o = 4 := by simpa using h4
  have h5 : ¬ o = 5 := by simpa using h5
  cases k
  · cases h
  · unfold sumB
    rw [if_neg (by simp), if_neg h3, if_neg h4, if_neg h5]
theorem sum_bz (h : (!k) = false) (h3 : (o == 3) = false) (h4 : (o == 4) = false) (h5 : (o == 5) = false) (h0 : (n == 0) = true) : sumB u k o n = (u, false) := by
  rw [sumB_6 h h3 h4 h5, if_pos (by simpa using h0)]
theorem sum_bm (h : (!k) = false) (h3 : (o == 3) = false) (h4 : (o == 4) = false) (h5 : (o == 5) = false) (hm : (n == -1) = true) : sumB u k o n = (wrap64 (-u), k) := by
  obtain rfl : n = -1 := by simpa using hm
  rw [sumB_6 h h3 h4 h5, if_neg (by decide), Int.tdiv_neg, Int.tdiv_one]
  cases k
  · cases h
  · rfl
theorem sum_bd (h : (!k) = false) (h3 : (o == 3) = false) (h4 : (o == 4) = false) (h5 : (o == 5) = false) (h0 : (n == 0) = false) : sumB u k o n = (wrap64 (Int.tdiv u n), k) := by
  rw [sumB_6 h h3 h4 h5, if_neg (by simpa using h0)]
  cases k
  · cases h
  · rfl
end
set_option maxHeartbeats 4000000 in
set_option maxRecDepth 100000 in
theorem keep_sum (raw : List Int) (vr : Value) (w : World) (hr : SlAt 1 (RInt w) vr raw) (h64 : ∀ x ∈ raw, I64 x) (hlen : (raw.length : Int) ≤ 9223372036854775807) :
    Calls Tryz.prog 30 #[vr] w fun e w' => SumR raw w w' e := by
  obtain ⟨ra, rb, roff, rcap, rfl, _, hra, hrr⟩ := ints_open hr
  have HR := hide hrr
  have H64 := hide h64
  clear hr hrr h64
  go_enter Tryz.func30, Tryz.ntmps30
  go_wp2_with fail
  have S0 := sum_start w
  generalize hb5 : w.heap.size + 1 + 1 = b5 at *
  generalize ((w.alloc _).alloc _).alloc _ = w3 at *
  go_loopw [6, 7, 8] (fun s6 s7 s8 wr => ∃ (i : Nat) (u : Int) (k : Bool) (vv : Value), i ≤ raw.length ∧ i ≤ 12 ∧ s8 = .int .i64 i ∧ s6 = .int .i64 u ∧ s7 = .bool k ∧ (raw.take i).foldl sumS (1, true) = (u, k) ∧ SumA w wr w.heap.size b5 vv (raw.take i)) (fun _ _ s8 _ => 12 - (intOf s8).toNat)
  case atStart => exact ⟨0, 1, true, _, Nat.zero_le _, by omega, rfl, rfl, rfl, rfl, S0⟩
  case round =>
    clear S0
    obtain ⟨i, u, k, vv, hi, hi12, rfl, rfl, rfl, hfo, hS⟩ := hrel
    by_cases hlt : i < raw.length
    · by_cases hlt2 : i < 12
      · obtain rfl := hra (ne_nil_of_lt hlt)
        have r0 := Keeps.of_below hS.bel _ _ (unhide HR i hlt)
        have hx64 := unhide H64 _ (List.getElem_mem hlt)
        have htl : (raw.take i).length = i := by rw [List.length_take]; omega
        have htk : raw.take (i + 1) = raw.take i ++ [raw[i]] := by rw [List.take_add_one, List.getElem?_eq_getElem hlt]; rfl
        have HFO := hide (And.intro hfo htk)
        have HS := hide hS
        have i0 : (0 : Int) ≤ (i : Int) := by omega
        have i1 : (i : Int) < (raw.length : Int) := by omega
        have i2 : (i : Int) < 12 := by omega
        clear hfo htk hS
        generalize raw[i] = x at *
        go_wp2_with fail
        refine (keep_pickI x _ wr hx64 (by decide) (by decide)).mono ?_
        rintro e w' ⟨rfl, rfl⟩
        have hq := pickI_in x (n := 1099511627776) (by decide)
        have hn : (if x < 0 then -(pickI x 1099511627776 / 4) else pickI x 1099511627776 / 4) = numOf x := rfl
        have hnb := numOf_in x
        have hp := pickI_in x (n := 4) (by decide)
        have hoe : opOf x = 3 + pickI x 4 := rfl
        have q5 : w'.cell? ⟨b5, 5, none⟩ = some vv := (unhide HS).r5.cell 5
        obtain ⟨a', n', cap', w5, happ, c5, f5, S5⟩ := (unhide HS).app (by omega) x
        rw [← (unhide HFO).2] at S5
        have hfo' : (raw.take (i + 1)).foldl sumS (1, true) = sumS (u, k) x := by rw [(unhide HFO).2, List.foldl_append, (unhide HFO).1]; rfl
        have HF2 := hide (And.intro hfo' S5)
        clear hfo' S5
        have hsum : sumS (u, k) x = sumB u k (opOf x) (numOf x) := rfl
        rw [hoe] at hsum happ
        have HSU := hide hsum
        by_cases hx0 : x < 0
        · rw [if_pos hx0] at hn
          go_wp2_with fail
          try rw [hn]
          refine (keep_pickI x 4 w' hx64 (by decide) (by decide)).mono ?_
          rintro e w9 ⟨rfl, rfl⟩
          clear hn hsum r0
          generalize numOf x = n at *
          go_wp2_with (at_builtin; refine wpList_append_run rfl (.tmp 44) (.tmp 49) 61 rfl _ _ rfl rfl happ ?_)
          all_goals first
            | exact absurd (by assumption : n = 0) (ne_of_beq (by assumption))
            | (refine ⟨⟨i + 1, _, _, _, by omega, by omega, by go_num, rfl, rfl, ?_, (unhide HF2).2⟩, by simp [intOf]; omega⟩
               rw [(unhide HF2).1, unhide HSU]
               first
                 | exact sum_b0 (by assumption)
                 | exact sum_b3 (by assumption) (by assumption)
                 | exact sum_b4 (by assumption) (by assumption)
                 | exact sum_b5 (by assumption) (by assumption)
                 | exact sum_bz (by assumption) (by assumption) (by assumption) (by assumption) (by assumption)
                 | exact sum_bm (by assumption) (by assumption) (by assumption) (by assumption) (by assumption)
                 | exact sum_bd (by assumption) (by assumption) (by assumption) (by assumption) (by assumption))
        · rw [if_neg hx0] at hn
          go_wp2_with fail
          try rw [hn]
          refine (keep_pickI x 4 w' hx64 (by decide) (by decide)).mono ?_
          rintro e w9 ⟨rfl, rfl⟩
          clear hn hsum r0
          generalize numOf x = n at *
          go_wp2_with (at_builtin; refine wpList_append_run rfl (.tmp 44) (.tmp 49) 61 rfl _ _ rfl rfl happ ?_)
          all_goals first
            | exact absurd (by assumption : n = 0) (ne_of_beq (by assumption))
            | (refine ⟨⟨i + 1, _, _, _, by omega, by omega, by go_num, rfl, rfl, ?_, (unhide HF2).2⟩, by simp [intOf]; omega⟩
               rw [(unhide HF2).1, unhide HSU]
               first
                 | exact sum_b0 (by assumption)
                 | exact sum_b3 (by assumption) (by assumption)
                 | exact sum_b4 (by assumption) (by assumption)
                 | exact sum_b5 (by assumption) (by assumption)
                 | exact sum_bz (by assumption) (by assumption) (by assumption) (by assumption) (by assumption)
                 | exact sum_bm (by assumption) (by assumption) (by assumption) (by assumption) (by assumption)
                 | exact sum_bd (by assumption) (by assumption) (by assumption) (by assumption) (by assumption))
      · obtain rfl : i = 12 := by omega
        have hll : ¬ ((12 : Nat) : Int) < 12 := by omega
        have hlt' : ((12 : Nat) : Int) < (raw.length : Int) := by omega
        have q5 : wr.cell? ⟨b5, 5, none⟩ = some vv := hS.r5.cell 5
        obtain ⟨a', cap', w5, happ, c5, f5, hbF, b2F, b5F, ownF⟩ := hS.fin (by rw [List.length_take]; omega)
        generalize hnn : 2 + 2 * (raw.take 12).length = nn at *
        have g0 : (w5.setCell ⟨b5, 5, none⟩ (.slice a' nn cap')).cell? ⟨b5, 0, none⟩ = some (.int .i64 0) := b5F.cell 0
        have g1 : (w5.setCell ⟨b5, 5, none⟩ (.slice a' nn cap')).cell? ⟨b5, 1, none⟩ = some (.slice none 0 0) := b5F.cell 1
        have g2 : (w5.setCell ⟨b5, 5, none⟩ (.slice a' nn cap')).cell? ⟨b5, 2, none⟩ = some (.int .i64 0) := b5F.cell 2
        have g3 : (w5.setCell ⟨b5, 5, none⟩ (.slice a' nn cap')).cell? ⟨b5, 3, none⟩ = some (.int .i64 1) := b5F.cell 3
        have g4 : (w5.setCell ⟨b5, 5, none⟩ (.slice a' nn cap')).cell? ⟨b5, 4, none⟩ = some (.int .i64 2) := b5F.cell 4
        have g5 : (w5.setCell ⟨b5, 5, none⟩ (.slice a' nn cap')).cell? ⟨b5, 5, none⟩ = some (.slice a' nn cap') := b5F.cell 5
        have g6 : (w5.setCell ⟨b5, 5, none⟩ (.slice a' nn cap')).cell? ⟨b5, 6, none⟩ = some (.slice none 0 0) := b5F.cell 6
        have hone : ∀ v ∈ [Value.int .i64 0, .slice none 0 0, .int .i64 0, .int .i64 1, .int .i64 2, .slice a' nn cap', .slice none 0 0], v.oneCell' = true := fun v hv => by
          simp only [List.mem_cons, List.not_mem_nil, or_false] at hv
          rcases hv with rfl | rfl | rfl | rfl | rfl | rfl | rfl <;> rfl
        have HO := hide (And.intro hbF (And.intro hnn (And.intro ownF hfo)))
        clear hfo hS hbF ownF hnn b5F
        go_wp2_with (first
          | (at_builtin; refine wpList_append_run rfl (.tmp 85) (.tmp 87) 61 rfl _ _ rfl rfl happ ?_)
          | (refine wpList_store_blk aggMeth b2F 0 _ rfl (by simp) hone (.tmp 2) (.tmp 90) rfl rfl rfl rfl ?_; intro w7 hB7 hM7 hs7; rw [putAt_all (by rfl)] at hB7))
        refine bodyPost_ret (results_blk3 rfl aggMeth hB7 rfl rfl) rfl ?_
        obtain ⟨hbF, hnn, ownF, hfo⟩ := unhide HO
        have hB7w := hbF.trans (hM7.below hbF.size (fun k hk e => by omega))
        refine ⟨a', cap', by rw [hnn, hfo]; rfl, ?_, hB7w⟩
        rw [hnn]
        refine own_codeR (by rw [← hnn]; show _ = (_ :: (pairs _ ++ [_])).length; rw [List.length_cons, List.length_append, pairs_len]; simp only [List.length_singleton]; omega) (own_mods ownF hM7 (fun g hg e => ?_))
        subst e
        obtain ⟨cur, hc⟩ := own_blk ownF hg
        exact absurd (hc.uniq b2F) (by decide)
    · have hll : ¬ (i : Int) < (raw.length : Int) := by omega
      have htt : raw.take i = raw.take 12 := by rw [List.take_of_length_le (by omega), List.take_of_length_le (by omega)]
      rw [htt] at hfo hS
      have q5 : wr.cell? ⟨b5, 5, none⟩ = some vv := hS.r5.cell 5
      obtain ⟨a', cap', w5, happ, c5, f5, hbF, b2F, b5F, ownF⟩ := hS.fin (by rw [List.length_take]; omega)
      generalize hnn : 2 + 2 * (raw.take 12).length = nn at *
      have g0 : (w5.setCell ⟨b5, 5, none⟩ (.slice a' nn cap')).cell? ⟨b5, 0, none⟩ = some (.int .i64 0) := b5F.cell 0
      have g1 : (w5.setCell ⟨b5, 5, none⟩ (.slice a' nn cap')).cell? ⟨b5, 1, none⟩ = some (.slice none 0 0) := b5F.cell 1
      have g2 : (w5.setCell ⟨b5, 5, none⟩ (.slice a' nn cap')).cell? ⟨b5, 2, none⟩ = some (.int .i64 0) := b5F.cell 2
      have g3 : (w5.setCell ⟨b5, 5, none⟩ (.slice a' nn cap')).cell? ⟨b5, 3, none⟩ = some (.int .i64 1) := b5F.cell 3
      have g4 : (w5.setCell ⟨b5, 5, none⟩ (.slice a' nn cap')).cell? ⟨b5, 4, none⟩ = some (.int .i64 2) := b5F.cell 4
      have g5 : (w5.setCell ⟨b5, 5, none⟩ (.slice a' nn cap')).cell? ⟨b5, 5, none⟩ = some (.slice a' nn cap') := b5F.cell 5
      have g6 : (w5.setCell ⟨b5, 5, none⟩ (.slice a' nn cap')).cell? ⟨b5, 6, none⟩ = some (.slice none 0 0) := b5F.cell 6
      have hone : ∀ v ∈ [Value.int .i64 0, .slice none 0 0, .int .i64 0, .int .i64 1, .int .i64 2, .slice a' nn cap', .slice none 0 0], v.oneCell' = true := fun v hv => by
        simp only [List.mem_cons, List.not_mem_nil, or_false] at hv
        rcases hv with rfl | rfl | rfl | rfl | rfl | rfl | rfl <;> rfl
      have HO := hide (And.intro hbF (And.intro hnn (And.intro ownF hfo)))
      clear hfo hS hbF ownF hnn b5F
      go_wp2_with (first
        | (at_builtin; refine wpList_append_run rfl (.tmp 85) (.tmp 87) 61 rfl _ _ rfl rfl happ ?_)
        | (refine wpList_store_blk aggMeth b2F 0 _ rfl (by simp) hone (.tmp 2) (.tmp 90) rfl rfl rfl rfl ?_; intro w7 hB7 hM7 hs7; rw [putAt_all (by rfl)] at hB7))
      refine bodyPost_ret (results_blk3 rfl aggMeth hB7 rfl rfl) rfl ?_
      obtain ⟨hbF, hnn, ownF, hfo⟩ := unhide HO
      have hB7w := hbF.trans (hM7.below hbF.size (fun k hk e => by omega))
      refine ⟨a', cap', by rw [hnn, hfo]; rfl, ?_, hB7w⟩
      rw [hnn]
      refine own_codeR (by rw [← hnn]; show _ = (_ :: (pairs _ ++ [_])).length; rw [List.length_cons, List.length_append, pairs_len]; simp only [List.length_singleton]; omega) (own_mods ownF hM7 (fun g hg e => ?_))
      subst e
      obtain ⟨cur, hc⟩ := own_blk ownF hg
      exact absurd (hc.uniq b2F) (by decide)
end Go.Proofs.YtiiokkllmchohaaGreat
/- The law Reckoned, walked. -/
namespace Go.Proofs.YtiiokkllmchohaaGreat
open Go.RowKit Go.Shelf
attribute [local go_sem ↓] Go.wp_at_zero Go.wp_at_succ
attribute [local go_sem] frz_drew

theorem nil_sl {α : Type} (sz : Nat) (R : α → Nat → Nat → Prop) : SlAt sz R (.slice none 0 0) [] := ⟨none, 0, 0, 0, rfl, Nat.le_refl _, ⟨fun e => absurd rfl e, .inl ⟨rfl, rfl⟩⟩, fun j x hj => by simp at hj⟩
theorem sum_prog {W : World} {bm bc n cap : Nat} {a : Option Addr} {l : List Int} (hm : Blk W bm 63 [.int .i64 0, .slice none 0 0, .int .i64 0, .int .i64 1, .int .i64 2, .slice a n cap, .slice none 0 0]) (hc : Blk W bc 66 [.int .i64 (-1), .slice none 0 0, .slice (some ⟨bm, 0, none⟩) 1 1])
    (hs : SlAt 3 (RIns W) (.slice a n cap) (sumM l).code) : RProg W (.slice (some ⟨bc, 0, none⟩) 1 1) (sumP l) := by
  refine ⟨some ⟨bc, 0, none⟩, bc, 0, 1, rfl, Nat.le_refl 1, ⟨fun _ => rfl, .inr (.inl rfl)⟩, fun j x hj => ?_⟩
  match j, hj with
  | 0, hj =>
    simp [sumP] at hj
    subst hj
    refine ⟨_, _, hc.cell 0, hc.cell 1, hc.cell 2, nil_sl 1 _, some ⟨bm, 0, none⟩, bm, 0, 1, rfl, Nat.le_refl 1, ⟨fun _ => rfl, .inr (.inl rfl)⟩, fun j x hj => ?_⟩
    match j, hj with
    | 0, hj =>
      simp at hj
      subst hj
      exact ⟨_, _, _, ⟨nil_sl 1 _, hs, nil_sl 3 _⟩, hm.cell 0, hm.cell 1, hm.cell 2, hm.cell 3, hm.cell 4, hm.cell 5, hm.cell 6⟩
    | n + 1, hj => simp at hj
  | n + 1, hj => simp [sumP] at hj
theorem sumP_runE (l : List Int) (hl : l.length ≤ 12) : runE (sumP l) 0 0 0 100 false = 0 := by
  have h1 : takesB (sumP l) 0 0 0 = true := rfl
  have h2 : passAllB (sumP l) = true := passAllB_iff.2 fun c k m h => sumP_pass l h
  unfold runE
  rw [if_pos (sumP_form l hl), if_pos ⟨h1, by decide, by decide⟩, if_pos (.inr h2)]
theorem sumP_runF (l : List Int) (hl : l.length ≤ 12) : (runF (sumP l) 0 0 [] 100).1.out = [] ∧ ((l.foldl sumS (1, true)).2 = true → (runF (sumP l) 0 0 [] 100).2 = 1 ∧ outV (sumP l) 0 0 (runF (sumP l) 0 0 [] 100) = (l.foldl sumS (1, true)).1 ∧ ((runF (sumP l) 0 0 [] 100).1.steps : Int) = ((2 + 2 * l.length : Nat) : Int)) ∧
      ((l.foldl sumS (1, true)).2 = false → (runF (sumP l) 0 0 [] 100).2 = 3 ∧ ((runF (sumP l) 0 0 [] 100).1.steps : Int) < ((2 + 2 * l.length : Nat) : Int)) := by
  obtain ⟨R, h1, h2, h3, h4⟩ := sumP_run l hl
  have h5 := (runF_is (args := []) (sumP_form l hl) (sumP_sz l hl) (show takesB (sumP l) 0 0 [].length = true from rfl) (show (0 : Int) ≤ 100 by decide) (by decide)).2
  have h6 := run_same _ _ _ _ _ h5 h1
  rw [h6]
  refine ⟨h2, fun e => ?_, fun e => ?_⟩
  · obtain ⟨g1, g2, g3⟩ := h3 e
    refine ⟨g1, ?_, by omega⟩
    unfold outV
    rw [if_pos g1, g2]
    rfl
  · obtain ⟨g1, g2⟩ := h4 e
    exact ⟨g1, by omega⟩
set_option maxHeartbeats 4000000 in
set_option maxRecDepth 100000 in
theorem keep_reckoned (raw : List Int) (vr : Value) (w : World) (hr : SlAt 1 (RInt w) vr raw) (h64 : ∀ x ∈ raw, I64 x) (hlen : (raw.length : Int) ≤ 9223372036854775807) :
    Calls Tryz.prog 9 #[vr] w fun e w' => e = .returned (.bool true) ∧ Below w.heap.size w w' := by
  have HR := hide hr
  have H64 := hide h64
  obtain ⟨ra, _, _, rcap, rfl, _⟩ := hr
  clear h64
  go_enter Tryz.func9, Tryz.ntmps9
  go_wp2_with fail
  refine (keep_awake w).mono ?_
  rintro e w1 ⟨rfl, hb1⟩
  go_wp2_with fail
  refine (keep_sum raw _ w1 (ints_keep (Keeps.of_below hb1) (unhide HR)) (unhide H64) hlen).mono ?_
  rintro e w2 ⟨a, cap, rfl, hsl, hb2⟩
  have hbw2 := hb1.trans (hb2.mono hb1.size)
  obtain ⟨l, hl⟩ : ∃ l, l = raw.take 12 := ⟨_, rfl⟩
  rw [← hl] at hsl ⊢
  have hl12 : l.length ≤ 12 := by rw [hl, List.length_take]; omega
  have hE := sumP_runE l hl12
  have hF := sumP_runF l hl12
  have hwf := sumP_wf l
  have hsz := sumP_sz l hl12
  generalize hn : 2 + 2 * l.length = n at *
  obtain ⟨⟨v, ok⟩, hv⟩ : ∃ v, v = l.foldl sumS (1, true) := ⟨_, rfl⟩
  rw [← hv] at hF ⊢
  dsimp only at hF ⊢
  have hone : ∀ v ∈ [Value.int .i64 0, .slice none 0 0, .int .i64 0, .int .i64 1, .int .i64 2, .slice a n cap, .slice none 0 0], v.oneCell' = true := fun v hv => by
    simp only [List.mem_cons, List.not_mem_nil, or_false] at hv
    rcases hv with rfl | rfl | rfl | rfl | rfl | rfl | rfl <;> rfl
  have HSL := hide hsl
  have HH := hide (And.intro hE (And.intro hF (And.intro hwf hsz)))
  clear hsl hE hF hwf hsz hv hl hb1 hb2 hn
  go_wp2_with fail
  have hbel : Below w2.heap.size w2 ((((w2.alloc (.cells #[.int .i64 0, .slice none 0 0, .int .i64 0, .int .i64 1, .int .i64 2, .slice a n cap, .slice none 0 0] 63)).alloc (.cells #[.int .i64 0, .slice none 0 0, .int .i64 0, .int .i64 1, .int .i64 2, .slice a n cap, .slice none 0 0] 63)).alloc (.cells #[.int .i64 (-1), .slice none 0 0, .slice (some ⟨w2.heap.size + 1, 0, none⟩) 1 1] 66)).alloc (.cells #[.slice (some ⟨w2.heap.size + 1 + 1, 0, none⟩) 1 1] 24)) := by
    repeat' (first | exact Below.refl _ _ | (refine Below.alloc ?_ (by simp; try omega) _))
  have B0 : Blk ((((w2.alloc (.cells #[.int .i64 0, .slice none 0 0, .int .i64 0, .int .i64 1, .int .i64 2, .slice a n cap, .slice none 0 0] 63)).alloc (.cells #[.int .i64 0, .slice none 0 0, .int .i64 0, .int .i64 1, .int .i64 2, .slice a n cap, .slice none 0 0] 63)).alloc (.cells #[.int .i64 (-1), .slice none 0 0, .slice (some ⟨w2.heap.size + 1, 0, none⟩) 1 1] 66)).alloc (.cells #[.slice (some ⟨w2.heap.size + 1 + 1, 0, none⟩) 1 1] 24)) w2.heap.size 63 [.int .i64 0, .slice none 0 0, .int .i64 0, .int .i64 1, .int .i64 2, .slice a n cap, .slice none 0 0] := (((Blk.new w2 _ _).alloc _).alloc _).alloc _
  have B1 : Blk ((((w2.alloc (.cells #[.int .i64 0, .slice none 0 0, .int .i64 0, .int .i64 1, .int .i64 2, .slice a n cap, .slice none 0 0] 63)).alloc (.cells #[.int .i64 0, .slice none 0 0, .int .i64 0, .int .i64 1, .int .i64 2, .slice a n cap, .slice none 0 0] 63)).alloc (.cells #[.int .i64 (-1), .slice none 0 0, .slice (some ⟨w2.heap.size + 1, 0, none⟩) 1 1] 66)).alloc (.cells #[.slice (some ⟨w2.heap.size + 1 + 1, 0, none⟩) 1 1] 24)) (w2.heap.size + 1) 63 [.int .i64 0, .slice none 0 0, .int .i64 0, .int .i64 1, .int .i64 2, .slice a n cap, .slice none 0 0] := ((blk_new_here (by simp)).alloc _).alloc _
  have B2 : Blk ((((w2.alloc (.cells #[.int .i64 0, .slice none 0 0, .int .i64 0, .int .i64 1, .int .i64 2, .slice a n cap, .slice none 0 0] 63)).alloc (.cells #[.int .i64 0, .slice none 0 0, .int .i64 0, .int .i64 1, .int .i64 2, .slice a n cap, .slice none 0 0] 63)).alloc (.cells #[.int .i64 (-1), .slice none 0 0, .slice (some ⟨w2.heap.size + 1, 0, none⟩) 1 1] 66)).alloc (.cells #[.slice (some ⟨w2.heap.size + 1 + 1, 0, none⟩) 1 1] 24)) (w2.heap.size + 1 + 1) 66 [.int .i64 (-1), .slice none 0 0, .slice (some ⟨w2.heap.size + 1, 0, none⟩) 1 1] := (blk_new_here (by simp)).alloc _
  generalize (((w2.alloc _).alloc _).alloc _).alloc _ = W at *
  have hbW := hbw2.trans (hbel.mono hbw2.size)
  have hRP := sum_prog B1 B2 (code_keep (Keeps.of_below hbel) (unhide HSL))
  refine (code_runO (sumP l) _ 0 0 [] _ 100 false W hRP (unhide HH).2.2.1 (unhide HH).2.2.2 (nil_sl 1 _) (by decide)).mono ?_
  rintro e w3 ⟨K, V, S, oa, ocap, out, rfl, hso, hv, hb3⟩
  have hbw3 := hbW.trans (hb3.mono hbW.size)
  obtain ⟨hE, hF, _, _⟩ := unhide HH
  rw [show ([] : List Int).length = 0 from rfl, hE] at hv ⊢
  obtain ⟨rfl, rfl, rfl, rfl⟩ := hv rfl
  rw [hF.1] at hso ⊢
  have D0 := B0.below hb3 B0.lt
  have hlt3 := D0.lt
  clear hRP B1 B2 hso hE HSL hbel hb3 B0 HH
  generalize w2.heap.size = h2 at *
  cases ok with
  | true =>
    obtain ⟨k1, k2, k3⟩ := hF.2.1 rfl
    rw [k1, k2, k3]
    clear hF k1 k2 k3
    go_wp2_with (refine wpList_store_blk aggOut (Blk.new w3 #[.int .i64 0, .int .i64 0, .slice none 0 0, .int .i64 0] 69) 0 [.int .i64 1, .int .i64 v, .slice oa ([] : List Int).length ocap, .int .i64 (n : Int)] rfl (by simp) (one4 1 v (n : Int) oa ([] : List Int).length ocap) (.tmp 8) (.tmp 25) rfl rfl rfl rfl ?_; intro w4 hB4 hM4 hs4; rw [putAt_all (by rfl)] at hB4; have a0 : w4.cell? ⟨w3.heap.size, 0, none⟩ = some (.int .i64 1) := hB4.cell 0; have a1 : w4.cell? ⟨w3.heap.size, 1, none⟩ = some (.int .i64 v) := hB4.cell 1; have a2 : w4.cell? ⟨w3.heap.size, 2, none⟩ = some (.slice oa 0 ocap) := hB4.cell 2; have a3 : w4.cell? ⟨w3.heap.size, 3, none⟩ = some (.int .i64 (n : Int)) := hB4.cell 3; have m5 : w4.cell? ⟨h2, 5, none⟩ = some (.slice a n cap) := ((D0.alloc _).mods hM4 (by omega)).cell 5)
    have hb4 := (box_below w3 _).trans (hM4.below (by simp) (fun k hk e => by omega))
    go_ret
    exact ⟨rfl, hbw3.trans (hb4.mono hbw3.size)⟩
  | false =>
    obtain ⟨k1, k2⟩ := hF.2.2 rfl
    rw [k1]
    generalize outV (sumP l) 0 0 (runF (sumP l) 0 0 [] 100) = V at *
    generalize ((runF (sumP l) 0 0 [] 100).1.steps : Int) = S at *
    clear hF k1
    go_wp2_with (refine wpList_store_blk aggOut (Blk.new w3 #[.int .i64 0, .int .i64 0, .slice none 0 0, .int .i64 0] 69) 0 [.int .i64 3, .int .i64 V, .slice oa ([] : List Int).length ocap, .int .i64 S] rfl (by simp) (one4 3 V S oa ([] : List Int).length ocap) (.tmp 8) (.tmp 25) rfl rfl rfl rfl ?_; intro w4 hB4 hM4 hs4; rw [putAt_all (by rfl)] at hB4; have a0 : w4.cell? ⟨w3.heap.size, 0, none⟩ = some (.int .i64 3) := hB4.cell 0; have a3 : w4.cell? ⟨w3.heap.size, 3, none⟩ = some (.int .i64 S) := hB4.cell 3; have m5 : w4.cell? ⟨h2, 5, none⟩ = some (.slice a n cap) := ((D0.alloc _).mods hM4 (by omega)).cell 5)
    have hb4 := (box_below w3 _).trans (hM4.below (by simp) (fun k hk e => by omega))
    go_ret
    exact ⟨rfl, hbw3.trans (hb4.mono hbw3.size)⟩
end Go.Proofs.YtiiokkllmchohaaGreat
/- RowR -/
namespace Go.Proofs.YtiiokkllmchohaaGreat
open Go.ChangeShapes Go.WideShapes Go.ChangeAt Go.RowKit

set_option maxRecDepth 100000 in
theorem okw_len {w : World} {base n cap : Nat} {a : Option Addr} (hv : Value.okWide Tryz.prog w .any base 51 (.slice a n cap)) : (n : Int) ≤ 9223372036854775807 := by
  unfold Value.okWide at hv
  rw [Tryz.underlying51] at hv
  unfold Cell.okWide at hv
  rw [Tryz.underlying51] at hv
  simp only [Cell.ok, Tryz.underlying51] at hv
  cases a with
  | none =>
    cases n with
    | zero => decide
    | succ n => exact hv.elim
  | some ad =>
    have h1 : n ≤ cap := hv.1
    have h2 : (cap : Int) ≤ 9223372036854775807 := hv.2.1
    omega
set_option maxRecDepth 100000 in
theorem reckoned_lifted (os : Os) (started : os.Started) (H : Type) (enc : TypeId × Value → H) :
    ReturnsInHanded {} Tryz.checked os 9 .any (Rows.reckonedSpec.pre6 enc Tryz.prog Tryz.f9 Rows.reckonedRow.domain false) (Rows.reckonedSpec.post enc Tryz.prog Tryz.f9 false true false false) := by
  refine returnsInHanded_of_change (C := Tryz.checked) keep_knob started (by kernel_rfl) Tryz.func9
    (ChangeSpec.witness6 (enc := enc) (C := Tryz.checked) false ⟨#[], #[.slice none 0 0], []⟩ 8 (by kernel_rfl) (by kernel_rfl) (by kernel_rfl) (by kernel_rfl)) ?_
  intro W base args ds gs before hval0 hW hcnd _
  have hval : ∀ (j : Nat) t v, Tryz.f9.params[j]? = some t → args[j]? = some v → Value.okWide Tryz.prog W .any base t v := hval0
  have hW' := hW
  obtain ⟨p, q, hA0, hV, rfl, hfz, hnd⟩ := hW
  have hA : DataW.TrodAll enc Tryz.prog W 0 (fun _ => true) true Tryz.f9.params.toList args.toList ds p := hA0
  rw [Tryz.params9] at hA hval
  obtain ⟨v0, d0, rfl, rfl, h0⟩ := trodAll_one hA
  obtain ⟨rfl, rfl⟩ := trodVars_none hV
  obtain ⟨l, hl, hl64, _⟩ := open_intsV (v := v0) (hval 0 51 v0 rfl rfl) h0
  have hlen : (l.length : Int) ≤ 9223372036854775807 := by
    obtain ⟨a, _, _, cap, e, _⟩ := hl
    have := hval 0 51 v0 rfl rfl
    rw [e] at this
    exact okw_len this
  clear hA0
  refine (keep_reckoned l v0 W hl hl64 hlen).mono fun e W' ⟨he, hB⟩ => ?_
  subst he
  have e1 : Rows.reckonedSpec.fn H ([d0] ++ []) = { results := [.lit (.bool true)], args := [d0] } := rfl
  refine ⟨_, rfl, _, _, _, [], p, [], hW', ?_, ?_, ?_, hB.frame _, fun h => by cases h⟩
  · rw [e1]
    exact trodAll_mk1 (shut_bool Tryz.underlying4 _)
  · rw [e1]
    exact trodAll_mk1 (Below.trod keep_laid (by kernel_rfl) (of_decide_eq_true (by kernel_rfl)) h0 hB (fun x hx => hW'.lt x (by simp [hx])))
  · rw [e1]
    rfl
theorem reckoned_over : Rows.reckonedRow.holds Tryz.pinned (OpenSpec.ofChange Rows.reckonedSpec) :=
  OpenClaim.holds_of_wide 9 Tryz.f9 rfl rfl rfl rfl rfl rfl rfl ⟨rfl, rfl, rfl, rfl, rfl⟩ rfl rfl rfl rfl rfl (by kernel_rfl) Tryz.func9 (by kernel_rfl)
    (of_decide_eq_true (by kernel_rfl)) (by unfold Func.isWrapper; first | (rw [if_pos (by decide +kernel)]; kernel_rfl) | (rw [if_neg (by decide +kernel)]; exact ⟨rfl, rfl⟩))
    (fun os started H enc _ => reckoned_lifted os started H enc)
theorem reckoned_holds : Rows.ReckonedSaid := reckoned_over
end Go.Proofs.YtiiokkllmchohaaGreat
