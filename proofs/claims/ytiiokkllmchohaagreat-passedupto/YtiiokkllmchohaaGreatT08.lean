/- Walk of the law's back: what was lent is looked at, and written over. -/
import Derived.Test.YtiiokkllmchohaaGreatT05
import Derived.Test.YtiiokkllmchohaaGreatT06
import Derived.Test.YtiiokkllmchohaaGreatT07
namespace Go.Proofs.YtiiokkllmchohaaGreat
open Go.RowKit
set_option maxHeartbeats 4000000 in
set_option maxRecDepth 100000 in
theorem law_backE (w : World) (B E bh : Nat) (cs : List Value) (vt vi vf vm vc : Value) (ts is fs ms ks : List (Nat × Nat)) (p : List LClass) (vl vp : Value) (H : HS w B bh cs vt vi vf ts is fs) (hM : InM w B vm ms) (hC : InC w B vc ks) (c3 : cs[3]? = some vm) (c4 : cs[4]? = some vc) (c5 : cs[5]? = some (.slice none 0 0))
  (hl : RProg w vl p) (hp : RProg w vp p) (hz : szProg p ≤ 1048576) (hts : ts.length ≤ 16777216) (his : is.length ≤ 16777216) (hfs : fs.length ≤ 16777216) (hms : ms.length ≤ 16777216) (hks : ks.length ≤ 16777216) (ets : ∀ e ∈ ts, e.1 < E) (eis : ∀ e ∈ is, e.1 < E) (efs : ∀ e ∈ fs, e.1 < E) (ems : ∀ e ∈ ms, e.1 < E) (eks : ∀ e ∈ ks, e.1 < E) :
  Calls Tryz.prog 43 #[.pointer (some ⟨bh, 0, none⟩), .agg #[vl], .agg #[vp], .slice none 0 0, .slice none 0 0] w fun e w' => e = .returned (.bool true) ∧
   HBlk w' bh ((((((cs.set 0 (.slice none 0 0)).set 1 (.slice none 0 0)).set 2 (.slice none 0 0)).set 3 (.slice none 0 0)).set 4 (.slice none 0 0)).set 5 (.slice none 0 0)) ∧ Mods (fun k => k = bh ∨ (B ≤ k ∧ k < E)) w w' := by
 have hltB := H.lt
 have hle := H.le
 obtain ⟨tta, ttcap, hvt⟩ := own_form H.t.row
 obtain ⟨iia, iicap, hvi⟩ := own_form H.i.row
 subst hvt hvi
 obtain ⟨pla, _, _, plcap, hvl, _⟩ := sl_open hl
 obtain ⟨ppa, _, _, ppcap, hvp, _⟩ := sl_open hp
 subst hvl hvp
 have HL := hide hl
 have HP := hide hp
 have HH := hide H
 have HM := hide hM
 have HC := hide hC
 clear hl hp H hM hC
 go_enter Tryz.func43, Tryz.ntmps43
 go_wp2_with fail
 generalize hW : (w.alloc _).alloc _ = W
 have hmW : Mods (fun _ => False) w W := by rw [← hW]; exact ((Mods.refl _ w).alloc _).alloc _
 have hbW : Below w.heap.size w W := by rw [← hW]; exact box2_below _ _ _
 clear hW
 refine (same_program p _ _ W (prog_keep (Keeps.of_below hbW) (unhide HL)) (prog_keep (Keeps.of_below hbW) (unhide HP)) (Nat.le_trans hz (by decide))).mono ?_
 rintro e W1 ⟨rfl, hb1⟩
 have hm1 : Mods (fun _ => False) w W1 := hmW.trans (S := fun _ => False) (T := fun k => W.heap.size ≤ k) (Mods.of_below hb1) (fun k hk h => by have := hmW.size; omega)
 have H1 := hide ((unhide HH).stay hm1 (fun _ _ _ _ f => f.elim))
 have HM1 := hide ((unhide HM).mods hm1 (fun _ _ _ f => f) (fun _ _ _ f => f))
 have HC1 := hide ((unhide HC).mods hm1 (fun _ _ _ f => f) (fun _ _ _ f => f))
 have HMW := hide hm1
 have HT := hide (unhide H1).t
 have k0 : W1.cell? ⟨bh, 0, none⟩ = some (.slice tta ts.length ttcap) := by rw [(unhide H1).hands.1.cell]; exact (unhide H1).c0
 have k1 : W1.cell? ⟨bh, 1, none⟩ = some (.slice iia is.length iicap) := by rw [(unhide H1).hands.1.cell]; exact (unhide H1).c1
 clear hb1 hm1 hmW hbW
 go_wp2_with fail
 go_loopw [11, 12] (fun q s wr => s = .int .i64 0 ∧ q = .bool true ∧ wr = W1) (fun _ _ _ => 0)
 case atStart => exact ⟨rfl, rfl, rfl⟩
 case round =>
  obtain ⟨rfl, rfl, rfl⟩ := hrel
  go_wp2_with fail
  obtain ⟨wr0, rfl⟩ : ∃ wr0 : World, wr0 = wr := ⟨_, rfl⟩
  go_loopw [11, 13] (fun s3 s4 wr => ∃ i : Nat, i ≤ ts.length ∧ s4 = .int .i64 i ∧ s3 = .bool true ∧ Mods (Ents ts i) wr0 wr) (fun _ s4 _ => ts.length - (intOf s4).toNat)
  case atStart => exact ⟨0, Nat.zero_le _, rfl, rfl, Mods.refl _ _⟩
  case round =>
   obtain ⟨i, hi, rfl, rfl, hmo⟩ := hrel
   have hbne : ∀ i, ¬ Ents ts i bh := fun i h => by
    obtain ⟨e, he, hk⟩ := h.mem
    have := ((unhide HT).ent e he).1; have := ets e he
    omega
   have q2 := hmo.cell k0 (hbne i)
   by_cases hlt : i < ts.length
   ·obtain ⟨g, cap, hv, hg, ⟨cg, hgb⟩, hrow⟩ := (unhide HT).at hlt
    obtain ⟨b, m, ce, hei, hb, hm, hbe, hce, hdr⟩ := (unhide HT).ent' hlt
    injection hv with hv1 _ hv2
    subst hv1 hv2
    have hgne : ¬ Ents ts i g := fun h => by
     obtain ⟨e, he, hk⟩ := h.mem
     obtain ⟨_, _, _, c, h4, _⟩ := (unhide HT).ent e he
     rw [hk] at h4
     exact absurd (h4.uniq hgb) (by decide)
    have hbnot : ¬ Ents ts i b := by
     have := Ents.not_at (unhide HT).nodup hlt
     rwa [hei] at this
    have q3 := hmo.cell hrow hgne
    rw [hei] at q3
    unfold slOf at q3
    simp only at q3
    have hbw := hbe.mods hmo hbnot
    have l0 : wr.cell? ⟨b, m, none⟩ = some (.int .i64 (-77000000)) := by rw [hbw.cell]; have := drop_get (j := 0) hdr; simpa using this
    have HEI := hide hei
    have HBW := hide hbw
    have HCE := hide hce
    have HMO := hide hmo
    have hbl := hbw.lt
    clear hei hbw hmo hrow hgb hbe hdr hce
    obtain ⟨wo, rfl⟩ : ∃ wo : World, wo = wr := ⟨_, rfl⟩
    go_wp2_with fail
    go_loopw [15] (fun s wi => ∃ k : Nat, k ≤ m + 1 ∧ s = .int .i64 k ∧ (∃ c, Blk wi b 43 c ∧ c.length = (m + 1) * 1) ∧ Mods (fun k => k = b) wo wi) (fun s _ => m + 1 - (intOf s).toNat)
    case atStart => exact ⟨0, Nat.zero_le _, rfl, ⟨_, unhide HBW, unhide HCE⟩, Mods.refl _ _⟩
    case round =>
     obtain ⟨k, hk, rfl, ⟨cc, hcc, hcl⟩, hmi⟩ := hrel
     have HCC := hide hcc
     have HMI := hide hmi
     have HCL := hide hcl
     by_cases hk2 : k < m + 1
     ·obtain ⟨u0, y0⟩ := blk_cell hcc (i := k) (by omega)
      have yf := hcc.frozen
      clear hcc hmi l0 q2 q3 hcl
      go_wp2_with fail
      exact ⟨⟨k + 1, by omega, by go_num, ⟨_, (unhide HCC).setCell k _, by rw [List.length_set]; exact unhide HCL⟩, (unhide HMI).trans ((Mods.refl (fun i => i = b) _).setCell (p := ⟨b, k, none⟩) (fun _ => rfl) _) (fun _ _ e => e)⟩, by simp [intOf]; omega⟩
     ·go_wp2_with fail
      have hlast := Ents.last hlt
      rw [unhide HEI] at hlast
      exact ⟨⟨i + 1, by omega, by go_num, rfl, ((unhide HMO).mono (fun _ _ e => e.succ)).trans (unhide HMI) (fun _ _ e => e ▸ hlast)⟩, by simp [intOf]; omega⟩
   ·obtain rfl : i = ts.length := by omega
    have HMO := hide hmo
    go_wp2_with fail
    clear q2
    have hnot : ∀ {k t c}, Blk wr0 k t c → t ≠ 43 → ¬ Ents ts ts.length k := fun hb ht h => by
     obtain ⟨e, he, hk⟩ := h.mem
     obtain ⟨_, _, _, c, h4, _⟩ := (unhide HT).ent e he
     rw [hk] at h4
     exact ht (hb.uniq h4)
    have HI2 := hide ((unhide H1).i.mods hmo (fun k c hb => hnot hb (by decide)) (fun k c hb => hnot hb (by decide)))
    have HF2 := hide ((unhide H1).f.mods hmo (fun k c hb => hnot hb (by decide)) (fun k c hb => hnot hb (by decide)))
    have HM2 := hide ((unhide HM1).mods hmo (fun k c hb => hnot hb (by decide)) (fun k c hb => hnot hb (by decide)))
    have HC2 := hide ((unhide HC1).mods hmo (fun k c hb => hnot hb (by decide)) (fun k c hb => hnot hb (by decide)))
    have HB2 := hide ((unhide H1).hands.1.mods hmo (hbne _))
    have k1b := hmo.cell k1 (hbne _)
    have HMA : Hid (Mods (fun k => B ≤ k ∧ k < E) w wr) := ((unhide HMW).mono (fun _ _ f => f.elim)).trans hmo (fun k _ h => by
     obtain ⟨e, he, hk⟩ := h.mem
     have := ((unhide HT).ent e he).1; have := ets e he
     omega)
    clear hmo hnot HMO hbne k0 k1
    obtain ⟨W2, rfl⟩ : ∃ W2 : World, W2 = wr := ⟨_, rfl⟩
    go_loopw [11, 16] (fun s3 s4 wr => ∃ i : Nat, i ≤ is.length ∧ s4 = .int .i64 i ∧ s3 = .bool true ∧ Mods (Ents is i) W2 wr) (fun _ s4 _ => is.length - (intOf s4).toNat)
    case atStart => exact ⟨0, Nat.zero_le _, rfl, rfl, Mods.refl _ _⟩
    case round =>
     obtain ⟨i, hi, rfl, rfl, hmo⟩ := hrel
     have hbne : ∀ i, ¬ Ents is i bh := fun i h => by
      obtain ⟨e, he, hk⟩ := h.mem
      have := ((unhide HI2).ent e he).1; have := eis e he
      omega
     have q2 := hmo.cell k1b (hbne i)
     by_cases hlt : i < is.length
     ·obtain ⟨g, cap, hv, hg, ⟨cg, hgb⟩, hrow⟩ := (unhide HI2).at hlt
      obtain ⟨b, m, ce, hei, hb, hm, hbe, hce, hdr⟩ := (unhide HI2).ent' hlt
      injection hv with hv1 _ hv2
      subst hv1 hv2
      have hgne : ¬ Ents is i g := fun h => by
       obtain ⟨e, he, hk⟩ := h.mem
       obtain ⟨_, _, _, c, h4, _⟩ := (unhide HI2).ent e he
       rw [hk] at h4
       exact absurd (h4.uniq hgb) (by decide)
      have hbnot : ¬ Ents is i b := by
       have := Ents.not_at (unhide HI2).nodup hlt
       rwa [hei] at this
      have q3 := hmo.cell hrow hgne
      rw [hei] at q3
      unfold slOf at q3
      simp only at q3
      have hbw := hbe.mods hmo hbnot
      have l0 : wr.cell? ⟨b, m * 3, none⟩ = some (.int .i64 (-77000000)) := by rw [hbw.cell]; exact (drop_get (j := 0) hdr)
      have l1 : wr.cell? ⟨b, m * 3 + 1, none⟩ = some (.int .i64 0) := by rw [hbw.cell]; exact (drop_get (j := 1) hdr)
      have l2 : wr.cell? ⟨b, m * 3 + 2, none⟩ = some (.int .i64 0) := by rw [hbw.cell]; exact (drop_get (j := 2) hdr)
      have HEI := hide hei
      have HBW := hide hbw
      have HCE := hide hce
      have HMO := hide hmo
      have hbl := hbw.lt
      clear hei hbw hmo hrow hgb hbe hdr hce
      obtain ⟨wo, rfl⟩ : ∃ wo : World, wo = wr := ⟨_, rfl⟩
      go_wp2_with fail
      go_loopw [18] (fun s wi => ∃ k : Nat, k ≤ m + 1 ∧ s = .int .i64 k ∧ (∃ c, Blk wi b 60 c ∧ c.length = (m + 1) * 3) ∧ Mods (fun k => k = b) wo wi) (fun s _ => m + 1 - (intOf s).toNat)
      case atStart => exact ⟨0, Nat.zero_le _, rfl, ⟨_, unhide HBW, unhide HCE⟩, Mods.refl _ _⟩
      case round =>
       obtain ⟨k, hk, rfl, ⟨cc, hcc, hcl⟩, hmi⟩ := hrel
       have HCC := hide hcc
       have HMI := hide hmi
       have HCL := hide hcl
       by_cases hk2 : k < m + 1
       ·obtain ⟨u0, y0⟩ := blk_cell hcc (i := k * 3) (by omega)
        obtain ⟨u1, y1⟩ := blk_cell hcc (i := k * 3 + 1) (by omega)
        obtain ⟨u2, y2⟩ := blk_cell hcc (i := k * 3 + 2) (by omega)
        have yf := hcc.frozen
        clear hcc hmi l0 l1 l2 q2 q3 hcl
        go_wp2_with fail
        exact ⟨⟨k + 1, by omega, by go_num, ⟨_, setCells3_blk (unhide HCC) _ _ _, by rw [set3_len]; exact unhide HCL⟩, (unhide HMI).trans (setCells3_mods _ _ _ _ _ _) (fun _ _ e => e)⟩, by simp [intOf]; omega⟩
       ·go_wp2_with fail
        have hlast := Ents.last hlt
        rw [unhide HEI] at hlast
        exact ⟨⟨i + 1, by omega, by go_num, rfl, ((unhide HMO).mono (fun _ _ e => e.succ)).trans (unhide HMI) (fun _ _ e => e ▸ hlast)⟩, by simp [intOf]; omega⟩
     ·obtain rfl : i = is.length := by omega
      have HMO := hide hmo
      go_wp2_with fail
      clear q2
      have hnot : ∀ {k t c}, Blk W2 k t c → t ≠ 60 → ¬ Ents is is.length k := fun hb ht h => by
       obtain ⟨e, he, hk⟩ := h.mem
       obtain ⟨_, _, _, c, h4, _⟩ := (unhide HI2).ent e he
       rw [hk] at h4
       exact ht (hb.uniq h4)
      have HF3 := hide ((unhide HF2).mods hmo (fun k c hb => hnot hb (by decide)) (fun k c hb => hnot hb (by decide)))
      have HM3 := hide ((unhide HM2).mods hmo (fun k c hb => hnot hb (by decide)) (fun k c hb => hnot hb (by decide)))
      have HC3 := hide ((unhide HC2).mods hmo (fun k c hb => hnot hb (by decide)) (fun k c hb => hnot hb (by decide)))
      have HB3 := hide ((unhide HB2).mods hmo (hbne _))
      have HMB : Hid (Mods (fun k => B ≤ k ∧ k < E) w wr) := (unhide HMA).trans hmo (fun k _ h => by
       obtain ⟨e, he, hk⟩ := h.mem
       have := ((unhide HI2).ent e he).1; have := eis e he
       omega)
      have k5 : wr.cell? ⟨bh, 5, none⟩ = some (.slice none 0 0) := by rw [(unhide HB3).cell]; exact c5
      clear hmo hnot HMO hbne k1b
      obtain ⟨W3, rfl⟩ : ∃ W3 : World, W3 = wr := ⟨_, rfl⟩
      go_loopw [11, 19] (fun q s wr => s = .int .i64 0 ∧ q = .bool true ∧ wr = W3) (fun _ _ _ => 0)
      case atStart => exact ⟨rfl, rfl, rfl⟩
      case round =>
       obtain ⟨rfl, rfl, rfl⟩ := hrel
       go_wp2_with fail
       refine (law_outerE wr B E bh cs vf vm vc fs ms ks ⟨unhide HB3, (unhide HH).hands.2⟩ hltB (unhide HH).c2 c3 c4 (unhide HF3) (unhide HM3) (unhide HC3) hfs hms hks efs ems eks).mono ?_
       rintro e w4 ⟨rfl, hm4⟩
       have hb4 := (unhide HB3).mods hm4 (by omega)
       have hl19 := (unhide HH).hands.2
       obtain ⟨u0, y0⟩ := blk_cell hb4 (i := 0) (by omega)
       obtain ⟨u1, y1⟩ := blk_cell hb4 (i := 1) (by omega)
       obtain ⟨u2, y2⟩ := blk_cell hb4 (i := 2) (by omega)
       obtain ⟨u3, y3⟩ := blk_cell hb4 (i := 3) (by omega)
       obtain ⟨u4, y4⟩ := blk_cell hb4 (i := 4) (by omega)
       obtain ⟨u5, y5⟩ := blk_cell hb4 (i := 5) (by omega)
       have yf := hb4.frozen
       have HB4 := hide hb4
       have HM4 := hide (((unhide HMB).trans hm4 (fun _ _ e => e)).mono (T := fun k => k = bh ∨ (B ≤ k ∧ k < E)) (fun _ _ e => .inr e))
       clear hb4 hm4 k5
       go_wp2_with fail
       go_ret
       exact ⟨rfl, ⟨((((((unhide HB4).setCell 0 _).setCell 1 _).setCell 2 _).setCell 3 _).setCell 4 _).setCell 5 _, by simp only [List.length_set]; exact hl19⟩, ((((((unhide HM4).setCell (p := ⟨bh, 0, none⟩) (fun _ => .inl rfl) _).setCell (p := ⟨bh, 1, none⟩) (fun _ => .inl rfl) _).setCell (p := ⟨bh, 2, none⟩) (fun _ => .inl rfl) _).setCell (p := ⟨bh, 3, none⟩) (fun _ => .inl rfl) _).setCell (p := ⟨bh, 4, none⟩) (fun _ => .inl rfl) _).setCell (p := ⟨bh, 5, none⟩) (fun _ => .inl rfl) _⟩
theorem InL.under {w : World} {B : Nat} {eo ei : TypeId} {sz : Nat} {lastv : List Value} {v : Value} {es : List (Nat × Nat)} (h : InL w B eo ei sz lastv v es) : ∀ e ∈ es, e.1 < w.heap.size := fun e he => by
 obtain ⟨_, _, _, cs, hb, _⟩ := h.ent e he
 exact hb.lt
theorem law_back (w : World) (B bh : Nat) (cs : List Value) (vt vi vf vm vc : Value) (ts is fs ms ks : List (Nat × Nat)) (p : List LClass) (vl vp : Value) (H : HS w B bh cs vt vi vf ts is fs) (hM : InM w B vm ms) (hC : InC w B vc ks) (c3 : cs[3]? = some vm) (c4 : cs[4]? = some vc) (c5 : cs[5]? = some (.slice none 0 0))
  (hl : RProg w vl p) (hp : RProg w vp p) (hz : szProg p ≤ 1048576) (hts : ts.length ≤ 16777216) (his : is.length ≤ 16777216) (hfs : fs.length ≤ 16777216) (hms : ms.length ≤ 16777216) (hks : ks.length ≤ 16777216) :
  Calls Tryz.prog 43 #[.pointer (some ⟨bh, 0, none⟩), .agg #[vl], .agg #[vp], .slice none 0 0, .slice none 0 0] w fun e w' => e = .returned (.bool true) ∧
   HBlk w' bh ((((((cs.set 0 (.slice none 0 0)).set 1 (.slice none 0 0)).set 2 (.slice none 0 0)).set 3 (.slice none 0 0)).set 4 (.slice none 0 0)).set 5 (.slice none 0 0)) ∧ Mods (fun k => k = bh ∨ B ≤ k) w w' := by
 refine (law_backE w B w.heap.size bh cs vt vi vf vm vc ts is fs ms ks p vl vp H hM hC c3 c4 c5 hl hp hz hts his hfs hms hks H.t.under H.i.under H.f.under hM.under hC.under).mono ?_
 rintro e w' ⟨h1, h2, h3⟩
 exact ⟨h1, h2, h3.mono fun k _ x => by
  rcases x with x | x
  ·exact .inl x
  ·exact .inr x.1⟩
end Go.Proofs.YtiiokkllmchohaaGreat
namespace Go.Proofs.YtiiokkllmchohaaGreat
open Go.RowKit
attribute [local go_sem ↓] Go.wp_at_zero Go.wp_at_succ
set_option maxHeartbeats 400000 in
theorem law_num (e : Int) (w : World) : Calls Tryz.prog 48 #[.int .i64 e] w fun x w' => x = .returned (.int .i64 e) ∧ w' = w := by
 go_enter Tryz.func48, Tryz.ntmps48
 go_wp2
 go_ret
 exact ⟨rfl, rfl⟩

theorem blk_new_at {W : World} {cs : Array Value} {t : TypeId} {b : Nat} (h : b = W.heap.size) : Blk (W.alloc (.cells cs t)) b t cs.toList := h ▸ Blk.new W cs t
end Go.Proofs.YtiiokkllmchohaaGreat
