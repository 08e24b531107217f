/- The document's step, walked. -/
import Derived.Test.YtiiokkllmchohaaGreatT30
import Derived.Test.YtiiokkllmchohaaGreatT33
namespace Go.Proofs.YtiiokkllmchohaaGreat
open Go.RowKit Go.Shelf
attribute [local go_sem ↓] Go.wp_at_zero Go.wp_at_succ
attribute [local go_sem] frz_drew
set_option maxHeartbeats 2000000 in
set_option maxRecDepth 100000 in
theorem rs_step1 (p : List LClass) (vc : Value) (m : LMeth) (va vco vf : Value) (xa xb : Int) (s : TSt) (ib : Bool) (vl vs : Value) (w : World) (hp : RProg w vc p) (hv : GVals w.cell? m va vco vf) (hs : SupOk p p.length) (hz : szProg p ≤ 4194304) (J : InsOk p m 1 xa xb) (hS : StG w.cell? s vl vs) (tS : TIn p s) (hl8 : s.loc.length ≤ 8) (hk8 : s.stk.length ≤ 8) (hloc : xa < (s.loc.length : Int))
  (hty : ∀ t ∈ (rWants p m ⟨1, xa, xb⟩).1, t = -1 ∨ t = -2 ∨ tyOk p.length t) (hng : ∀ t ∈ (rWants p m ⟨1, xa, xb⟩).2, t < 0 → (-1 - t).toNat < (rWants p m ⟨1, xa, xb⟩).1.length) (hlt4 : (rWants p m ⟨1, xa, xb⟩).1.length ≤ 100) (hll4 : (rWants p m ⟨1, xa, xb⟩).2.length ≤ 2) :
  Calls Tryz.prog 96 #[.agg #[vc], methV m va vco vf, .agg #[.int .i64 1, .int .i64 xa, .int .i64 xb], .agg #[.bool ib, vl, vs]] w fun e w' => StepR p m ⟨1, xa, xb⟩ s w w' e := by
 have HP := hide hp
 have HV := hide hv
 have HSS := hide hS
 have HWT := hide (rs_wants p vc m va vco vf ⟨1, xa, xb⟩)
 unfold methV at HWT ⊢
 obtain ⟨pa, _, _, pcap, rfl, _⟩ := hp
 obtain ⟨aa, _, _, acap, rfl, _⟩ := hv.1
 obtain ⟨ca, _, _, ccap, rfl, _⟩ := hv.2.1
 obtain ⟨fa, _, _, fcap, rfl, _⟩ := hv.2.2
 obtain ⟨la, lb, lo, lcap, rfl, _, hla, hlr⟩ := ints_open hS.1
 obtain ⟨sa, sb, so, scap, rfl, hsc, hsa, hsr⟩ := ints_open hS.2
 have HLR := hide hlr
 have HSR := hide hsr
 clear hlr hsr
 have hpl : p.length ≤ 4194304 := Nat.le_trans (szProg_len p) hz
 have I0 := StpB.new w p m s 1 xa xb (.slice pa p.length pcap) (.slice aa m.args.length acap) (.slice ca m.code.length ccap) (.slice fa m.frames.length fcap) (.slice la s.loc.length lcap) (.slice sa s.stk.length scap) ib
 go_enter Tryz.func96, Tryz.ntmps96
 go_wp2_with fail
 generalize ((((w.alloc _).alloc _).alloc _).alloc _).alloc _ = W at *
 refine (unhide HWT W (prog_keep (Keeps.of_below I0.bel) (unhide HP)) (GVals.keep (Keeps.of_below I0.bel) (unhide HV)) hs hz J (fun h => absurd h (by decide))).mono ?_
 rintro e U ⟨vt, vlv, rfl, ht, hl, hb1⟩
 have IU := I0.below hb1
 have hWU := hb1.size
 have hW5 := I0.b4.lt
 obtain ⟨hx0, _⟩ := J.loc (.inl rfl)
 have hx1 := hloc
 obtain ⟨xn, rfl⟩ := Int.eq_ofNat_of_zero_le hx0
 have hxn : xn < s.loc.length := by omega
 obtain rfl := hla (ne_nil_of_lt hxn)
 have y1 := Keeps.of_below IU.bel _ _ (unhide HLR xn hxn)
 have htt := tS.1 _ (List.getElem_mem hxn)
 have hgd : s.loc.getD xn 0 = s.loc[xn] := by rw [List.getD_eq_getElem?_getD, List.getElem?_eq_getElem hxn]; rfl
 have HK := hide (fun h => rStep_K (p := p) (m := m) (op := 1) (xa := (xn : Int)) (xb := xb) (s := s) h)
 rw [if_pos rfl, Int.toNat_natCast, hgd] at HK
 have HQN := hide (show s.loc[xn] = 2 → rStep p m ⟨1, (xn : Int), xb⟩ s = none from fun h => by unfold rStep; rw [if_pos ⟨rfl, by rw [Int.toNat_natCast, hgd]; exact h⟩])
 generalize s.loc[xn] = t1 at *
 have o0 : U.cell? ⟨w.heap.size + 1 + 1, 0, none⟩ = some (.int .i64 1) := IU.b2.cell 0
 have o1 : U.cell? ⟨w.heap.size + 1 + 1, 1, none⟩ = some (.int .i64 (xn : Int)) := IU.b2.cell 1
 have o2 : U.cell? ⟨w.heap.size + 1 + 1 + 1, 1, none⟩ = some (.slice (some ⟨lb, lo, none⟩) s.loc.length lcap) := IU.b3.cell 1
 have i0 : (0 : Int) ≤ (xn : Int) := by omega
 have hlnil1 := hl
 have hvlv : ∃ a n c, vlv = .slice a n c := by obtain ⟨a, _, _, c, rfl, _⟩ := hl; exact ⟨a, _, c, rfl⟩
 obtain ⟨va0, vn0, vc0, rfl⟩ := hvlv
 have hvt : ∃ a n c, vt = .slice a n c := by obtain ⟨a, _, _, c, rfl, _⟩ := ht; exact ⟨a, _, c, rfl⟩
 by_cases h2 : t1 = 2
 ·subst h2
  obtain ⟨vta, vtn, vtc, rfl⟩ := hvt
  have HNO := hide (unhide HQN rfl)
  have QB := IU
  clear ht hl
  go_wp2_with (refine wpList_store_blk aggRS QB.b4 0 [.bool false, .slice none 0 0, .slice none 0 0] rfl (by simp) zeros3 (.tmp 8) (.tmp 35) rfl rfl rfl rfl ?_; intro w6 hB6 hM6 hs6; rw [putAt_all (by rfl)] at hB6)
  refine bodyPost_ret (results_blk2 rfl aggRS hB6 rfl rfl) rfl ?_
  exact ⟨fun s' e => (by rw [unhide HNO] at e; cases e), fun _ => ⟨_, _, _, _, _, _, _, rfl⟩, QB.bel.trans (hM6.below QB.bel.size (fun k hk e => by omega))⟩
 have h2' : (t1 == 2) = false := by simpa using h2
 have HR := hide (unhide HK (fun h => h2 h.2))
 clear HK
 have hbU := box_below U (.cells #[.int .i64 t1] 43)
 have IU2 := IU.below hbU
 have ht2 := ints_keep (sel_mods (S' := fun k => W.heap.size ≤ k) (Mods.of_below hbU) fun k hk hS => ⟨fun e => by omega, hS⟩) ht
 have hl2 : SlAt 1 (GInt (sel (fun k => W.heap.size ≤ k) (U.alloc (.cells #[.int .i64 t1] 43)))) (.slice (some ⟨U.heap.size, 0, none⟩) 1 1) [t1] := blk_ints (l := [t1]) (Blk.new U #[.int .i64 t1] 43) (by omega) 1 rfl
 have hng2 : ∀ t ∈ [t1], t < 0 → (-1 - t).toNat < (rWants p m ⟨1, (xn : Int), xb⟩).1.length := fun t h1 h2 => by
  simp only [List.mem_singleton] at h1
  subst h1
  have := htt.1
  omega
 clear hng hl ht IU hll4 hlnil1 hvt
 have hng := hng2
 have IU := IU2
 have ht := ht2
 have hl := hl2
 have hll4 : [t1].length ≤ 2 := by simp
 clear hng2 IU2 ht2 hl2
 generalize (rWants p m ⟨1, (xn : Int), xb⟩).1 = tk at *
 have u0 : (U.alloc (.cells #[.int .i64 t1] 43)).cell? ⟨w.heap.size + 1 + 1 + 1, 2, none⟩ = some (.slice sa s.stk.length scap) := IU.b3.cell 2
 obtain ⟨ta, tb, tof, tcap, rfl, _, hta, htr⟩ := ints_open (ints_keep sel_world ht)
 have HTR := hide htr
 clear htr
 by_cases hlen : s.stk.length < tk.length
 ·have HNO : Hid (rStep p m ⟨1, (xn : Int), xb⟩ s = none) := by show _ = _; rw [unhide HR]; unfold stepK; rw [if_pos hlen]
  have hn0 : ((s.stk.length : Int) - (tk.length : Int)) < 0 := by omega
  have QB := IU
  go_wp2_with (refine wpList_store_blk aggRS QB.b4 0 [.bool false, .slice none 0 0, .slice none 0 0] rfl (by simp) zeros3 (.tmp 8) (.tmp 51) rfl rfl rfl rfl ?_; intro w6 hB6 hM6 hs6; rw [putAt_all (by rfl)] at hB6)
  refine bodyPost_ret (results_blk2 rfl aggRS hB6 rfl rfl) rfl ?_
  exact ⟨fun s' e => (by rw [unhide HNO] at e; cases e), fun _ => ⟨_, _, _, _, _, _, _, rfl⟩, QB.bel.trans (hM6.below QB.bel.size (fun k hk e => by omega))⟩
 obtain ⟨n, hn⟩ : ∃ n : Nat, s.stk.length = n + tk.length := ⟨s.stk.length - tk.length, by omega⟩
 have hn0 : ¬ ((s.stk.length : Int) - (tk.length : Int)) < 0 := by omega
 have hnn : ((s.stk.length : Int) - (tk.length : Int)) = (n : Int) := by omega
 have hdl : (s.stk.drop n).length = tk.length := by rw [List.length_drop]; omega
 have HN := hide (show s.stk.length - tk.length = n by omega)
 rw [hnn] at hn0
 have HHN := hide (And.intro hn hdl)
 clear hn hdl
 go_wp2_with fail
 go_loopw [13] (fun i wr => ∃ k : Nat, k ≤ tk.length ∧ i = .int .i64 k ∧ ((((s.stk.drop n).take k).zip (tk.take k)).all fun x => rFits p x.1 x.2) = true ∧ Below (U.alloc (.cells #[.int .i64 t1] 43)).heap.size (U.alloc (.cells #[.int .i64 t1] 43)) wr) (fun i _ => tk.length - (intOf i).toNat)
 case atStart => exact ⟨0, Nat.zero_le _, rfl, rfl, Below.refl _ _⟩
 case round =>
  obtain ⟨k, hk, rfl, hall, hbr⟩ := hrel
  have IV := IU.below hbr
  by_cases hlt : k < tk.length
  ·have hnk : n + k < s.stk.length := by have := (unhide HHN).1; omega
   obtain rfl := hsa (ne_nil_of_lt hnk)
   obtain rfl := hta (ne_nil_of_lt hlt)
   have x0 := Keeps.of_below IV.bel _ _ (unhide HSR (n + k) hnk)
   have y0 := Keeps.of_below hbr _ _ (unhide HTR k hlt)
   have hx := tS.2 _ (List.getElem_mem hnk)
   have hy := hty _ (List.getElem_mem hlt)
   have hlt2 : k < (s.stk.drop n).length := by rw [(unhide HHN).2]; exact hlt
   have hSn := fit_snoc (p := p) hlt2 hlt
   have hNo := zip_no (fun x => rFits p x.1 x.2) hlt2 hlt
   rw [List.getElem_drop] at hSn hNo
   have HSn := hide hSn
   have HNo := hide hNo
   generalize s.stk[n + k] = a at *
   generalize tk[k] = t at *
   clear hSn hNo
   have hwr : IntKind.i64.wrap ((n : Int) + (k : Int)) = (n : Int) + (k : Int) := by rw [IntKind.wrap_i64]; omega
   have htn : ((n : Int) + (k : Int)).toNat = n + k := by omega
   have k0 : (0 : Int) ≤ (k : Int) := by omega
   have k1 : (k : Int) < (tk.length : Int) := by omega
   have k2 : (0 : Int) ≤ (n : Int) + (k : Int) := by omega
   have k3 : (n : Int) + (k : Int) < (s.stk.length : Int) := by omega
   go_wp2_with fail
   have HO := hide (fun Y (hY : Below wr.heap.size wr Y) => And.intro ((IV.below hY).b0.cell 0) (And.intro ((IV.below hY).b3.cell 2) (And.intro (Keeps.of_below hY _ _ x0) (Keeps.of_below hY _ _ y0))))
   refine wp_region_noPanic ?_
   refine wp_region_held_drew (S := (fun w' => w'.cell? ⟨w.heap.size, 0, none⟩ = some (.slice pa p.length pcap) ∧ w'.cell? ⟨w.heap.size + 1 + 1 + 1, 2, none⟩ = some (.slice (some ⟨sb, so, none⟩) s.stk.length scap) ∧ w'.cell? ⟨sb, so + (n + k), none⟩ = some (.int .i64 a) ∧ w'.cell? ⟨tb, tof + k, none⟩ = some (.int .i64 t))) (by kernel_rfl) ?_ (fun hHeld => ?_)
   ·exact (unhide HO) _ drew_below
   refine take_x (some 58) 0 rfl rfl ?_
   refine take_x (some 59) 1 rfl rfl ?_
   refine take_x (some 60) 2 rfl rfl ?_
   refine take_x (some 61) 3 rfl rfl ?_
   refine take_x (some 62) 4 rfl rfl ?_
   refine take_x (some 63) 5 rfl rfl ?_
   refine take_x (some 64) 6 rfl rfl ?_
   refine take_x (some 65) 7 rfl rfl ?_
   refine take_x (some 66) 8 rfl rfl ?_
   refine take_x (some 67) 9 rfl rfl ?_
   refine take_x (some 68) 10 rfl rfl ?_
   refine take_x (some 69) 11 rfl rfl ?_
   refine wpAnyH_ready (rs := [12]) (by kernel_rfl) (by simp) ?_
   refine AllReadyH.cons rfl (fun K hK => ?_) AllReadyH.nil
   go_simp
   refine (rs_fits p _ a t wr.drew (prog_keep (Keeps.of_below drew_below) (prog_keep (Keeps.of_below IV.bel) (unhide HP))) hs hpl hx hy).mono ?_
   rintro e w1 ⟨rfl, hb1'⟩
   have hb1 : Below wr.heap.size wr w1 := ⟨hb1'.os, hb1'.tape, hb1'.output, hb1'.size, hb1'.block⟩
   have hr1 := hbr.trans (hb1.mono hbr.size)
   have I1 := IV.below hb1
   have HQ0 := hide hall
   clear hb1' hall
   cases hq : rFits p a t with
   | false =>
    have HNO : Hid (rStep p m ⟨1, (xn : Int), xb⟩ s = none) := by
     show _ = _
     rw [unhide HR]
     unfold stepK
     rw [if_neg hlen, unhide HN, unhide HNo hq]
     rfl
    have QB := I1
    clear hq
    go_wp2_with fail
    refine hK.out _ _ ((unhide HO) _ hb1) (fun hHeld => ?_)
    clear hK K
    try simp only [Act.put, List.setIfInBounds_toArray, List.set_cons_zero, List.set_cons_succ]
    refine take_x (some 14) 13 rfl rfl ?_
    refine wpAnyH_done (by kernel_rfl) ?_ _
    refine NoPanic.normal ?_
    go_wp2_with (refine wpList_store_blk aggRS QB.b4 0 [.bool false, .slice none 0 0, .slice none 0 0] rfl (by simp) zeros3 (.tmp 8) (.tmp 73) rfl rfl rfl rfl ?_; intro w6 hB6 hM6 hs6; rw [putAt_all (by rfl)] at hB6)
    refine bodyPost_ret (results_blk2 rfl aggRS hB6 rfl rfl) rfl ?_
    exact ⟨fun s' e => (by rw [unhide HNO] at e; cases e), fun _ => ⟨_, _, _, _, _, _, _, rfl⟩, QB.bel.trans (hM6.below QB.bel.size (fun k hk e => by omega))⟩
   | true =>
    have HQ : Hid (((((s.stk.drop n).take (k + 1)).zip (tk.take (k + 1))).all fun x => rFits p x.1 x.2) = true) := by
     show _ = _
     rw [unhide HSn, unhide HQ0, hq]
     rfl
    clear hq
    go_wp2_with fail
    refine hK.out _ _ ((unhide HO) _ hb1) (fun hHeld => ?_)
    clear hK K
    try simp only [Act.put, List.setIfInBounds_toArray, List.set_cons_zero, List.set_cons_succ]
    refine take_x (some 14) 13 rfl rfl ?_
    refine wpAnyH_done (by kernel_rfl) ?_ _
    refine NoPanic.normal ?_
    go_wp2_with fail
    exact ⟨⟨k + 1, by omega, by go_num, unhide HQ, hr1⟩, by simp [intOf]; omega⟩
  ·obtain rfl : k = tk.length := by omega
   have hfit : (((s.stk.drop n).zip tk).all fun x => rFits p x.1 x.2) = true := by
    rw [List.take_length, List.take_of_length_le (by rw [(unhide HHN).2]; exact Nat.le_refl _)] at hall
    exact hall
   have HR2 : Hid (rStep p m ⟨1, (xn : Int), xb⟩ s = if (((s.stk.take n ++ [t1].map (rLeft (s.stk.drop n))).length : Nat) : Int) ≤ m.stack then some ⟨if 1 = 2 then s.loc.set (xn : Int).toNat (s.stk.getD n 0) else s.loc, s.stk.take n ++ [t1].map (rLeft (s.stk.drop n))⟩ else none) := by
    show _ = _
    rw [unhide HR]
    unfold stepK
    rw [if_neg hlen, unhide HN, hfit]
    rfl
   have ke : ¬ (tk.length : Int) < (tk.length : Int) := by omega
   clear hall hfit
   have hi0 := IV.bel
   have hwr5 := IV.b4.lt
   have J0 := StpI.start (V := wr) (B := wr.heap.size + 1) hi0
   have hbx := box_below wr (.cells #[.bool true, .slice none 0 0, .slice none 0 0] 149)
   obtain ⟨la', lcap', hle, hlnil, hlsrc⟩ := ints_src (unhide HSS).1
   cases hle
   obtain ⟨a1, n1, cap1, w1, happ1, c1, f1, hbw1, J1⟩ := J0.locals (by omega) (by simp) (by omega) (by omega) s.loc (by omega) (some ⟨lb, lo, none⟩) s.loc.length lcap rfl (fun e => ⟨by rw [(hlnil e).1]; rfl, (hlnil e).2⟩) (fun ad e j u h => Keeps.of_below hbx _ _ (Keeps.of_below hi0 _ _ (hlsrc ad e j u h)))
   have hS1 : Mods (fun j => j = wr.heap.size) w1 (w1.setCell ⟨wr.heap.size, 1, none⟩ (.slice a1 n1 cap1)) := (Mods.refl (fun j => j = wr.heap.size) w1).setCell (p := ⟨wr.heap.size, 1, none⟩) (fun _ => rfl) _
   have hb1z : Below wr.heap.size wr (w1.setCell ⟨wr.heap.size, 1, none⟩ (.slice a1 n1 cap1)) := (hbx.trans (hbw1.mono hbx.size)).trans (hS1.below (Nat.le_trans hbx.size hbw1.size) (fun k hk e => by omega))
   have K1 := IV.below hb1z
   have bx2 : (wr.alloc (.cells #[.bool true, .slice none 0 0, .slice none 0 0] 149)).cell? ⟨w.heap.size + 1 + 1 + 1, 1, none⟩ = some (.slice (some ⟨lb, lo, none⟩) s.loc.length lcap) := (IV.below hbx).b3.cell 1
   have hs1 := Nat.le_trans hbx.size (Nat.le_trans hbw1.size hS1.size)
   have hs1' := Nat.le_trans hbw1.size hS1.size
   rw [World.size_alloc] at hs1'
   have HJ1 := hide (And.intro J1 K1)
   have cop : (w1.setCell ⟨wr.heap.size, 1, none⟩ (.slice a1 n1 cap1)).cell? ⟨w.heap.size + 1 + 1, 0, none⟩ = some (.int .i64 1) := K1.b2.cell 0
   clear J0 J1 hbw1 hS1 K1 hlnil hlsrc
   go_wp2_with (at_builtin; refine wpList_append_run rfl (.tmp 76) (.tmp 78) 40 rfl _ _ rfl rfl happ1 ?_)
   generalize w1.setCell _ _ = W1 at *
   clear happ1 c1 f1 bx2 cop
   obtain ⟨W2, loc', hW2, hloc', HJ2⟩ : ∃ W2 loc', W2 = W1 ∧ loc' = s.loc ∧ Hid (StpI w W2 (wr.heap.size + 1) wr.heap.size (.slice a1 n1 cap1) loc' (.slice none 0 0) [] ∧ StpB w W2 p m s 1 (xn : Int) xb (.slice pa p.length pcap) (.slice aa m.args.length acap) (.slice ca m.code.length ccap) (.slice fa m.frames.length fcap) (.slice (some ⟨lb, lo, none⟩) s.loc.length lcap) (.slice sa s.stk.length scap) ib) := ⟨W1, s.loc, rfl, rfl, HJ1⟩
   rw [← hW2] at hb1z hs1' ⊢
   clear HJ1 hW2
   have z2 : W2.cell? ⟨w.heap.size + 1 + 1 + 1, 2, none⟩ = some (.slice sa s.stk.length scap) := (unhide HJ2).2.b3.cell 2
   have z3 : W2.cell? ⟨wr.heap.size, 2, none⟩ = some (.slice none 0 0) := (unhide HJ2).1.box.cell 2
   obtain ⟨sa', scap', hse, hsnil, hssrc⟩ := ints_src (unhide HSS).2
   cases hse
   have hnle : n ≤ s.stk.length := by have := (unhide HHN).1; omega
   have n0 : (0 : Int) ≤ (n : Int) := by omega
   have n1' : (n : Int) ≤ (s.stk.length : Int) := by omega
   have n2' : (n : Int) ≤ (scap : Int) := by omega
   refine wp_region_noPanic ?_
   refine wp_region_held_drew (S := (fun w' => w'.cell? ⟨w.heap.size + 1 + 1 + 1, 2, none⟩ = some (.slice sa s.stk.length scap))) (by kernel_rfl) ?_ (fun hHeld => ?_)
   ·exact z2
   refine take_x (some 94) 0 rfl rfl ?_
   refine take_x (some 96) 2 rfl rfl ?_
   refine take_x (some 97) 3 rfl rfl ?_
   refine take_x (some 98) 4 rfl rfl ?_
   refine take_d (some 99) (i := 5) (v := .slice sa n scap) rfl rfl (by kernel_rfl) (by kernel_rfl) (by kernel_rfl) (fun _ _ _ h => h) (Or.inl ⟨by rfl, fun w' hSw => by (try dsimp only at hSw); go_simp⟩) (by assumption) ?_
   try simp only [Act.put, List.setIfInBounds_toArray, List.set_cons_zero, List.set_cons_succ]
   have J2d := (unhide HJ2).1.below drew_below
   have K2d := (unhide HJ2).2.below drew_below
   have hsz2 : W2.drew.heap.size = W2.heap.size := rfl
   obtain ⟨a3, n3, cap3, w3, happ3, c3, f3, hM3, J3⟩ := J2d.more (by omega) (by omega) (by omega) (by omega) (by simp) (s.stk.take n) (by rw [List.length_take]; omega) sa n scap (by rw [List.length_take]; omega) (fun e => ⟨by have := (hsnil e).1; rw [this] at hnle; simpa using hnle, (hsnil e).2⟩) (fun ad e j u h => Keeps.of_below K2d.bel _ _ (hssrc ad e j u (by
    rw [List.map_take, List.getElem?_take] at h
    split at h
    ·exact h
    ·cases h)))
   have hS3 : Mods (fun j => j = wr.heap.size) w3 (w3.setCell ⟨wr.heap.size, 2, none⟩ (.slice a3 n3 cap3)) := (Mods.refl (fun j => j = wr.heap.size) w3).setCell (p := ⟨wr.heap.size, 2, none⟩) (fun _ => rfl) _
   have hM3' : Below wr.heap.size W2 w3 := (drew_below.mono (by omega)).trans (hM3.below (by omega) (fun k hk e => by cases e))
   have hb3z : Below wr.heap.size wr (w3.setCell ⟨wr.heap.size, 2, none⟩ (.slice a3 n3 cap3)) := hb1z.trans (hM3'.trans (hS3.below (by have := hM3.size; omega) (fun k hk e => by omega)))
   have K3 := IV.below hb3z
   have z4 : w3.cell? ⟨w.heap.size + 1 + 1 + 1, 2, none⟩ = some (.slice sa s.stk.length scap) := (IV.below (hb1z.trans hM3')).b3.cell 2
   have z5 : (w3.setCell ⟨wr.heap.size, 2, none⟩ (.slice a3 n3 cap3)).cell? ⟨w.heap.size + 1 + 1 + 1, 2, none⟩ = some (.slice sa s.stk.length scap) := K3.b3.cell 2
   have hs3' : wr.heap.size + 1 ≤ (w3.setCell ⟨wr.heap.size, 2, none⟩ (.slice a3 n3 cap3)).heap.size := by have := hM3.size; have := hS3.size; omega
   have HJ3 := hide (And.intro J3 K3)
   clear J2d K2d J3 K3 hM3 hM3' hS3 hsnil hssrc
   refine wpAnyH_ready (rs := [1]) (by kernel_rfl) (by simp) ?_
   refine AllReadyH.cons rfl (fun K hK => ?_) AllReadyH.nil
   go_simp
   refine hK.out _ _ z2 (fun hHeld => ?_)
   clear hK K
   try simp only [Act.put, List.setIfInBounds_toArray, List.set_cons_zero, List.set_cons_succ]
   refine wpAnyH_ready (rs := [6]) (by kernel_rfl) (by simp) ?_
   refine AllReadyH.cons rfl (fun K hK => ?_) AllReadyH.nil
   refine wp_append_run (.tmp 95) (.tmp 99) 40 rfl _ _ rfl rfl happ3 ?_
   go_simp
   refine hK.out _ _ z4 (fun hHeld => ?_)
   clear hK K
   try simp only [Act.put, List.setIfInBounds_toArray, List.set_cons_zero, List.set_cons_succ]
   refine take_x (some 101) 7 rfl rfl ?_
   refine wpAnyH_ready (rs := [8]) (by kernel_rfl) (by simp) ?_
   refine AllReadyH.cons rfl (fun K hK => ?_) AllReadyH.nil
   go_simp
   refine hK.out _ _ z5 (fun hHeld => ?_)
   clear hK K
   try simp only [Act.put, List.setIfInBounds_toArray, List.set_cons_zero, List.set_cons_succ]
   refine wpAnyH_done (by kernel_rfl) ?_ _
   refine NoPanic.normal ?_
   generalize w3.setCell _ _ = W3 at *
   clear happ3 c3 f3 z2 z3 z4 z5 HJ2 hb1z
   rw [List.nil_append] at HJ3
   obtain ⟨va', vb, vo, vcap, hv1, _, hva, hvr⟩ := ints_open (ints_keep sel_world hl)
   cases hv1
   have HVR := hide hvr
   clear hvr
   have hbr0 := hbr
   have hkw := IV
   go_wp2_with fail
   obtain ⟨w9, rfl⟩ : ∃ w9 : World, w9 = wr := ⟨_, rfl⟩
   go_loopw [16] (fun i V => ∃ (k : Nat) (vs' : Value), k ≤ [t1].length ∧ i = .int .i64 k ∧ StpI w V (w9.heap.size + 1) w9.heap.size (.slice a1 n1 cap1) loc' vs' (s.stk.take n ++ ([t1].take k).map (rLeft (s.stk.drop n))) ∧ StpB w V p m s 1 (xn : Int) xb (.slice pa p.length pcap) (.slice aa m.args.length acap) (.slice ca m.code.length ccap) (.slice fa m.frames.length fcap) (.slice (some ⟨lb, lo, none⟩) s.loc.length lcap) (.slice sa s.stk.length scap) ib ∧ Below w9.heap.size w9 V ∧ w9.heap.size + 1 ≤ V.heap.size) (fun i _ => [t1].length - (intOf i).toNat)
   case atStart => exact ⟨0, _, Nat.zero_le _, rfl, by simpa using (unhide HJ3).1, (unhide HJ3).2, hb3z, hs3'⟩
   case round =>
    obtain ⟨k, vs', hk, rfl, JJ, KK, hbV, hsV⟩ := hrel
    obtain ⟨sva, svcap, rfl⟩ := own_form JJ.rs
    obtain ⟨sl, hsl⟩ : ∃ sl, sl = (s.stk.take n ++ ([t1].take k).map (rLeft (s.stk.drop n))).length := ⟨_, rfl⟩
    rw [← hsl] at JJ
    have HSL := hide hsl
    clear hsl
    have z6 : wr.cell? ⟨w9.heap.size, 2, none⟩ = some _ := JJ.box.cell 2
    have z7 : wr.cell? ⟨w.heap.size + 1 + 1 + 1, 2, none⟩ = some (.slice sa s.stk.length scap) := KK.b3.cell 2
    by_cases hlt : k < [t1].length
    ·cases hva (ne_nil_of_lt hlt)
     have y0 := Keeps.of_below (hbr0.trans (hbV.mono hbr0.size)) _ _ (unhide HVR k hlt)
     rw [Nat.zero_add] at y0
     have hlk := List.getElem?_eq_getElem hlt
     have hneg := hng _ (List.getElem_mem hlt)
     generalize [t1][k] = t at *
     have k0 : (0 : Int) ≤ (k : Int) := by omega
     have k1 : (k : Int) < 1 := by have h : k < 1 := hlt; omega
     by_cases ht0 : t < 0
     ·obtain ⟨j, hj⟩ : ∃ j : Nat, t = -1 - (j : Int) := ⟨(-1 - t).toNat, by omega⟩
      have hjt : j < tk.length := by have := hneg ht0; omega
      have hnj : n + j < s.stk.length := by have := (unhide HHN).1; omega
      obtain rfl := hsa (ne_nil_of_lt hnj)
      have x0 := Keeps.of_below KK.bel _ _ (unhide HSR (n + j) hnj)
      have hrl : rLeft (s.stk.drop n) t = s.stk[n + j] := by
       unfold rLeft
       rw [if_pos ht0, show (-1 - t).toNat = j by omega, List.getD_eq_getElem?_getD, List.getElem?_drop, List.getElem?_eq_getElem hnj]
       rfl
      generalize s.stk[n + j] = a at *
      have q1 : (n : Int) - 1 - t = (n : Int) + (j : Int) := by omega
      have q2 : ((n : Int) + (j : Int)).toNat = n + j := by omega
      have q3 : (0 : Int) ≤ (n : Int) + (j : Int) := by omega
      have q4 : (n : Int) + (j : Int) < (s.stk.length : Int) := by omega
      have q5 : -200 ≤ t := by omega
      have HJT := hide hj
      clear hj
      obtain ⟨a5, n5, cap5, w5, happ5, c5, f5, hM5, J5⟩ := JJ.one (by omega) (by omega) (by omega) (by omega) (by rw [List.length_append, List.length_take, List.length_map, List.length_take]; omega) a
      have hS5 : Mods (fun j => j = w9.heap.size) w5 (w5.setCell ⟨w9.heap.size, 2, none⟩ (.slice a5 n5 cap5)) := (Mods.refl (fun j => j = w9.heap.size) w5).setCell (p := ⟨w9.heap.size, 2, none⟩) (fun _ => rfl) _
      have hb5z : Below w9.heap.size w9 (w5.setCell ⟨w9.heap.size, 2, none⟩ (.slice a5 n5 cap5)) := hbV.trans ((hM5.below hbV.size (fun k hk e => by have := (JJ.rs.lt k e).1; omega)).trans (hS5.below (Nat.le_trans hbV.size hM5.size) (fun k hk e => by omega)))
      have hs5 : w9.heap.size + 1 ≤ (w5.setCell ⟨w9.heap.size, 2, none⟩ (.slice a5 n5 cap5)).heap.size := by have := hM5.size; have := hS5.size; omega
      have HE := hide (And.intro J5 (And.intro (IV.below hb5z) (And.intro hb5z hs5)))
      have HLE := hide (show s.stk.take n ++ ([t1].take (k + 1)).map (rLeft (s.stk.drop n)) = s.stk.take n ++ ([t1].take k).map (rLeft (s.stk.drop n)) ++ [a] by rw [List.take_add_one, hlk, List.map_append, List.append_assoc]; simp only [Option.toList_some, List.map_cons, List.map_nil]; rw [hrl])
      clear J5 hM5 hS5 hb5z
      go_wp2_with (at_builtin; refine wpList_append_run rfl (.tmp 123) (.tmp 125) 40 rfl _ _ rfl rfl happ5 ?_)
      refine ⟨⟨k + 1, .slice a5 n5 cap5, by omega, by go_num, ?_, (unhide HE).2.1, (unhide HE).2.2.1, (unhide HE).2.2.2⟩, by simp [intOf]; omega⟩
      rw [unhide HLE]
      exact (unhide HE).1
     ·have hrl : rLeft (s.stk.drop n) t = t := by unfold rLeft; rw [if_neg ht0]
      obtain ⟨a5, n5, cap5, w5, happ5, c5, f5, hM5, J5⟩ := JJ.one (by omega) (by omega) (by omega) (by omega) (by rw [List.length_append, List.length_take, List.length_map, List.length_take]; omega) t
      have hS5 : Mods (fun j => j = w9.heap.size) w5 (w5.setCell ⟨w9.heap.size, 2, none⟩ (.slice a5 n5 cap5)) := (Mods.refl (fun j => j = w9.heap.size) w5).setCell (p := ⟨w9.heap.size, 2, none⟩) (fun _ => rfl) _
      have hb5z : Below w9.heap.size w9 (w5.setCell ⟨w9.heap.size, 2, none⟩ (.slice a5 n5 cap5)) := hbV.trans ((hM5.below hbV.size (fun k hk e => by have := (JJ.rs.lt k e).1; omega)).trans (hS5.below (Nat.le_trans hbV.size hM5.size) (fun k hk e => by omega)))
      have hs5 : w9.heap.size + 1 ≤ (w5.setCell ⟨w9.heap.size, 2, none⟩ (.slice a5 n5 cap5)).heap.size := by have := hM5.size; have := hS5.size; omega
      have HE := hide (And.intro J5 (And.intro (IV.below hb5z) (And.intro hb5z hs5)))
      have HLE := hide (show s.stk.take n ++ ([t1].take (k + 1)).map (rLeft (s.stk.drop n)) = s.stk.take n ++ ([t1].take k).map (rLeft (s.stk.drop n)) ++ [t] by rw [List.take_add_one, hlk, List.map_append, List.append_assoc]; simp only [Option.toList_some, List.map_cons, List.map_nil]; rw [hrl])
      clear J5 hM5 hS5 hb5z
      go_wp2_with (at_builtin; refine wpList_append_run rfl (.tmp 123) (.tmp 125) 40 rfl _ _ rfl rfl happ5 ?_)
      refine ⟨⟨k + 1, .slice a5 n5 cap5, by omega, by go_num, ?_, (unhide HE).2.1, (unhide HE).2.2.1, (unhide HE).2.2.2⟩, by simp [intOf]; omega⟩
      rw [unhide HLE]
      exact (unhide HE).1
    ·obtain rfl : k = [t1].length := by omega
     have ke2 : ¬ ([t1].length : Int) < 1 := by simp
     rw [List.take_length] at JJ HSL
     have hbW := KK.bel
     go_wp2_with fail
     have g0 : wr.cell? ⟨w9.heap.size, 0, none⟩ = some (.bool true) := JJ.box.cell 0
     have g1 : wr.cell? ⟨w9.heap.size, 1, none⟩ = some (.slice a1 n1 cap1) := JJ.box.cell 1
     have g3 : wr.cell? ⟨w.heap.size + 1, 4, none⟩ = some (.int .i64 m.stack) := KK.b1.cell 4
     have HJJ := hide (And.intro JJ KK)
     have b4 := KK.b4
     have hl5 := IV.b4.lt
     have HO9 := hide (fun Y (hY : Mods (fun k => k = w.heap.size + 1 + 1 + 1 + 1) wr Y) => And.intro ((JJ.box.mods hY (by omega)).cell 0) (And.intro ((JJ.box.mods hY (by omega)).cell 1) (And.intro ((JJ.box.mods hY (by omega)).cell 2) ((KK.b1.mods hY (by omega)).cell 4))))
     clear JJ KK
     refine wp_region_noPanic ?_
     refine wp_region_held_drew (S := (fun w' => w'.cell? ⟨w9.heap.size, 0, none⟩ = some (.bool true) ∧ w'.cell? ⟨w9.heap.size, 1, none⟩ = some (.slice a1 n1 cap1) ∧ w'.cell? ⟨w9.heap.size, 2, none⟩ = some (.slice sva sl svcap) ∧ w'.cell? ⟨w.heap.size + 1, 4, none⟩ = some (.int .i64 m.stack))) (by kernel_rfl) ?_ (fun hHeld => ?_)
     ·exact ⟨g0, g1, z6, g3⟩
     refine take_x (some 128) 0 rfl rfl ?_
     refine take_x (some 129) 1 rfl rfl ?_
     refine take_x (some 130) 2 rfl rfl ?_
     refine take_x (some 131) 3 rfl rfl ?_
     refine take_x (some 132) 4 rfl rfl ?_
     refine take_x (some 133) 5 rfl rfl ?_
     refine take_x (some 134) 6 rfl rfl ?_
     refine wpAnyH_ready (rs := [7]) (by kernel_rfl) (by simp) ?_
     refine AllReadyH.cons rfl (fun K hK => ?_) AllReadyH.nil
     refine wp_store_blk aggRS b4.drew 0 [.bool true, .slice a1 n1 cap1, .slice sva sl svcap] rfl (by simp) (fun u hu => by simp only [List.mem_cons, List.not_mem_nil, or_false] at hu; rcases hu with rfl | rfl | rfl <;> rfl) (.tmp 8) (.tmp 128) rfl rfl rfl ?_
     intro w6 hB6 hM6 hs6
     rw [putAt_all (by rfl)] at hB6
     have hM6' : Mods (fun k => k = w.heap.size + 1 + 1 + 1 + 1) wr w6 := ⟨hM6.os, hM6.tape, hM6.output, hM6.size, hM6.block⟩
     refine hK.out _ _ ((unhide HO9) _ hM6') (fun hHeld => ?_)
     clear hK K
     try simp only [Act.put]
     refine take_x (some 9) 8 rfl rfl ?_
     refine wpAnyH_done (by kernel_rfl) ?_ _
     refine NoPanic.normal ?_
     go_wp2_with fail
     refine bodyPost_ret (results_blk2 rfl aggRS hB6 rfl rfl) rfl ?_
     have hrd := (unhide HJJ).1.read
     have hfb := hbW.trans (hM6'.below hbW.size (fun k hk e => by omega))
     by_cases hfit2 : (sl : Int) ≤ m.stack
     ·have hR3 : rStep p m ⟨1, (xn : Int), xb⟩ s = some ⟨loc', s.stk.take n ++ [t1].map (rLeft (s.stk.drop n))⟩ := by
       rw [unhide HR2, if_pos (by rw [← unhide HSL]; exact hfit2), hloc', if_neg (by omega)]
      refine ⟨fun s' e => ?_, fun e => (by rw [hR3] at e; cases e), hfb⟩
      rw [hR3] at e
      cases e
      refine ⟨_, _, (by show Ending.returned (.tuple #[_, .bool (decide _)]) = _; rw [decide_eq_true hfit2]), StG.keep (sel_mods hM6' fun k _ hk => ⟨fun e => by omega, by omega⟩) hrd⟩
     ·have hR3 : rStep p m ⟨1, (xn : Int), xb⟩ s = none := by
       rw [unhide HR2, if_neg (by rw [← unhide HSL]; exact hfit2)]
      refine ⟨fun s' e => (by rw [hR3] at e; cases e), fun _ => ⟨_, _, _, _, _, _, _, (by show Ending.returned (.tuple #[_, .bool (decide _)]) = _; rw [decide_eq_false hfit2])⟩, hfb⟩
set_option maxHeartbeats 2000000 in
set_option maxRecDepth 100000 in
theorem rs_step2 (p : List LClass) (vc : Value) (m : LMeth) (va vco vf : Value) (xa xb : Int) (s : TSt) (ib : Bool) (vl vs : Value) (w : World) (hp : RProg w vc p) (hv : GVals w.cell? m va vco vf) (hs : SupOk p p.length) (hz : szProg p ≤ 4194304) (J : InsOk p m 2 xa xb) (hS : StG w.cell? s vl vs) (tS : TIn p s) (hl8 : s.loc.length ≤ 8) (hk8 : s.stk.length ≤ 8) (hloc : xa < (s.loc.length : Int))
  (hty : ∀ t ∈ (rWants p m ⟨2, xa, xb⟩).1, t = -1 ∨ t = -2 ∨ tyOk p.length t) (hng : ∀ t ∈ (rWants p m ⟨2, xa, xb⟩).2, t < 0 → (-1 - t).toNat < (rWants p m ⟨2, xa, xb⟩).1.length) (hlt4 : (rWants p m ⟨2, xa, xb⟩).1.length ≤ 100) (hll4 : (rWants p m ⟨2, xa, xb⟩).2.length ≤ 2) :
  Calls Tryz.prog 96 #[.agg #[vc], methV m va vco vf, .agg #[.int .i64 2, .int .i64 xa, .int .i64 xb], .agg #[.bool ib, vl, vs]] w fun e w' => StepR p m ⟨2, xa, xb⟩ s w w' e := by
 have HP := hide hp
 have HV := hide hv
 have HSS := hide hS
 have HWT := hide (rs_wants p vc m va vco vf ⟨2, xa, xb⟩)
 unfold methV at HWT ⊢
 obtain ⟨pa, _, _, pcap, rfl, _⟩ := hp
 obtain ⟨aa, _, _, acap, rfl, _⟩ := hv.1
 obtain ⟨ca, _, _, ccap, rfl, _⟩ := hv.2.1
 obtain ⟨fa, _, _, fcap, rfl, _⟩ := hv.2.2
 obtain ⟨la, lb, lo, lcap, rfl, _, hla, hlr⟩ := ints_open hS.1
 obtain ⟨sa, sb, so, scap, rfl, hsc, hsa, hsr⟩ := ints_open hS.2
 have HLR := hide hlr
 have HSR := hide hsr
 clear hlr hsr
 have hpl : p.length ≤ 4194304 := Nat.le_trans (szProg_len p) hz
 have I0 := StpB.new w p m s 2 xa xb (.slice pa p.length pcap) (.slice aa m.args.length acap) (.slice ca m.code.length ccap) (.slice fa m.frames.length fcap) (.slice la s.loc.length lcap) (.slice sa s.stk.length scap) ib
 go_enter Tryz.func96, Tryz.ntmps96
 go_wp2_with fail
 generalize ((((w.alloc _).alloc _).alloc _).alloc _).alloc _ = W at *
 refine (unhide HWT W (prog_keep (Keeps.of_below I0.bel) (unhide HP)) (GVals.keep (Keeps.of_below I0.bel) (unhide HV)) hs hz J (fun h => absurd h (by decide))).mono ?_
 rintro e U ⟨vt, vlv, rfl, ht, hl, hb1⟩
 have IU := I0.below hb1
 have hWU := hb1.size
 have hW5 := I0.b4.lt
 have HR := hide (rStep_K (p := p) (m := m) (op := 2) (xa := xa) (xb := xb) (s := s) (fun h => by omega))
 rw [if_neg (by omega)] at HR
 have hxa0 := (J.loc (.inr rfl)).1
 have hxa1 := hloc
 have HTK := hide (show (rWants p m ⟨2, xa, xb⟩).1.length = 1 from rfl)
 generalize (rWants p m ⟨2, xa, xb⟩).1 = tk at *
 generalize (rWants p m ⟨2, xa, xb⟩).2 = lv at *
 have o0 : U.cell? ⟨w.heap.size + 1 + 1, 0, none⟩ = some (.int .i64 2) := IU.b2.cell 0
 have u0 : U.cell? ⟨w.heap.size + 1 + 1 + 1, 2, none⟩ = some (.slice sa s.stk.length scap) := IU.b3.cell 2
 obtain ⟨ta, tb, tof, tcap, rfl, _, hta, htr⟩ := ints_open (ints_keep sel_world ht)
 have HTR := hide htr
 clear htr
 by_cases hlen : s.stk.length < tk.length
 ·have HNO : Hid (rStep p m ⟨2, xa, xb⟩ s = none) := by show _ = _; rw [unhide HR]; unfold stepK; rw [if_pos hlen]
  have hn0 : ((s.stk.length : Int) - (tk.length : Int)) < 0 := by omega
  have QB := IU
  go_wp2_with (refine wpList_store_blk aggRS QB.b4 0 [.bool false, .slice none 0 0, .slice none 0 0] rfl (by simp) zeros3 (.tmp 8) (.tmp 51) rfl rfl rfl rfl ?_; intro w6 hB6 hM6 hs6; rw [putAt_all (by rfl)] at hB6)
  refine bodyPost_ret (results_blk2 rfl aggRS hB6 rfl rfl) rfl ?_
  exact ⟨fun s' e => (by rw [unhide HNO] at e; cases e), fun _ => ⟨_, _, _, _, _, _, _, rfl⟩, QB.bel.trans (hM6.below QB.bel.size (fun k hk e => by omega))⟩
 obtain ⟨n, hn⟩ : ∃ n : Nat, s.stk.length = n + tk.length := ⟨s.stk.length - tk.length, by omega⟩
 have hn0 : ¬ ((s.stk.length : Int) - (tk.length : Int)) < 0 := by omega
 have hnn : ((s.stk.length : Int) - (tk.length : Int)) = (n : Int) := by omega
 have hdl : (s.stk.drop n).length = tk.length := by rw [List.length_drop]; omega
 have HN := hide (show s.stk.length - tk.length = n by omega)
 rw [hnn] at hn0
 have HHN := hide (And.intro hn hdl)
 clear hn hdl
 go_wp2_with fail
 go_loopw [13] (fun i wr => ∃ k : Nat, k ≤ tk.length ∧ i = .int .i64 k ∧ ((((s.stk.drop n).take k).zip (tk.take k)).all fun x => rFits p x.1 x.2) = true ∧ Below U.heap.size U wr) (fun i _ => tk.length - (intOf i).toNat)
 case atStart => exact ⟨0, Nat.zero_le _, rfl, rfl, Below.refl _ _⟩
 case round =>
  obtain ⟨k, hk, rfl, hall, hbr⟩ := hrel
  have IV := IU.below hbr
  by_cases hlt : k < tk.length
  ·have hnk : n + k < s.stk.length := by have := (unhide HHN).1; omega
   obtain rfl := hsa (ne_nil_of_lt hnk)
   obtain rfl := hta (ne_nil_of_lt hlt)
   have x0 := Keeps.of_below IV.bel _ _ (unhide HSR (n + k) hnk)
   have y0 := Keeps.of_below hbr _ _ (unhide HTR k hlt)
   have hx := tS.2 _ (List.getElem_mem hnk)
   have hy := hty _ (List.getElem_mem hlt)
   have hlt2 : k < (s.stk.drop n).length := by rw [(unhide HHN).2]; exact hlt
   have hSn := fit_snoc (p := p) hlt2 hlt
   have hNo := zip_no (fun x => rFits p x.1 x.2) hlt2 hlt
   rw [List.getElem_drop] at hSn hNo
   have HSn := hide hSn
   have HNo := hide hNo
   generalize s.stk[n + k] = a at *
   generalize tk[k] = t at *
   clear hSn hNo
   have hwr : IntKind.i64.wrap ((n : Int) + (k : Int)) = (n : Int) + (k : Int) := by rw [IntKind.wrap_i64]; omega
   have htn : ((n : Int) + (k : Int)).toNat = n + k := by omega
   have k0 : (0 : Int) ≤ (k : Int) := by omega
   have k1 : (k : Int) < (tk.length : Int) := by omega
   have k2 : (0 : Int) ≤ (n : Int) + (k : Int) := by omega
   have k3 : (n : Int) + (k : Int) < (s.stk.length : Int) := by omega
   go_wp2_with fail
   have HO := hide (fun Y (hY : Below wr.heap.size wr Y) => And.intro ((IV.below hY).b0.cell 0) (And.intro ((IV.below hY).b3.cell 2) (And.intro (Keeps.of_below hY _ _ x0) (Keeps.of_below hY _ _ y0))))
   refine wp_region_noPanic ?_
   refine wp_region_held_drew (S := (fun w' => w'.cell? ⟨w.heap.size, 0, none⟩ = some (.slice pa p.length pcap) ∧ w'.cell? ⟨w.heap.size + 1 + 1 + 1, 2, none⟩ = some (.slice (some ⟨sb, so, none⟩) s.stk.length scap) ∧ w'.cell? ⟨sb, so + (n + k), none⟩ = some (.int .i64 a) ∧ w'.cell? ⟨tb, tof + k, none⟩ = some (.int .i64 t))) (by kernel_rfl) ?_ (fun hHeld => ?_)
   ·exact (unhide HO) _ drew_below
   refine take_x (some 58) 0 rfl rfl ?_
   refine take_x (some 59) 1 rfl rfl ?_
   refine take_x (some 60) 2 rfl rfl ?_
   refine take_x (some 61) 3 rfl rfl ?_
   refine take_x (some 62) 4 rfl rfl ?_
   refine take_x (some 63) 5 rfl rfl ?_
   refine take_x (some 64) 6 rfl rfl ?_
   refine take_x (some 65) 7 rfl rfl ?_
   refine take_x (some 66) 8 rfl rfl ?_
   refine take_x (some 67) 9 rfl rfl ?_
   refine take_x (some 68) 10 rfl rfl ?_
   refine take_x (some 69) 11 rfl rfl ?_
   refine wpAnyH_ready (rs := [12]) (by kernel_rfl) (by simp) ?_
   refine AllReadyH.cons rfl (fun K hK => ?_) AllReadyH.nil
   go_simp
   refine (rs_fits p _ a t wr.drew (prog_keep (Keeps.of_below drew_below) (prog_keep (Keeps.of_below IV.bel) (unhide HP))) hs hpl hx hy).mono ?_
   rintro e w1 ⟨rfl, hb1'⟩
   have hb1 : Below wr.heap.size wr w1 := ⟨hb1'.os, hb1'.tape, hb1'.output, hb1'.size, hb1'.block⟩
   have hr1 := hbr.trans (hb1.mono hbr.size)
   have I1 := IV.below hb1
   have HQ0 := hide hall
   clear hb1' hall
   cases hq : rFits p a t with
   | false =>
    have HNO : Hid (rStep p m ⟨2, xa, xb⟩ s = none) := by
     show _ = _
     rw [unhide HR]
     unfold stepK
     rw [if_neg hlen, unhide HN, unhide HNo hq]
     rfl
    have QB := I1
    clear hq
    go_wp2_with fail
    refine hK.out _ _ ((unhide HO) _ hb1) (fun hHeld => ?_)
    clear hK K
    try simp only [Act.put, List.setIfInBounds_toArray, List.set_cons_zero, List.set_cons_succ]
    refine take_x (some 14) 13 rfl rfl ?_
    refine wpAnyH_done (by kernel_rfl) ?_ _
    refine NoPanic.normal ?_
    go_wp2_with (refine wpList_store_blk aggRS QB.b4 0 [.bool false, .slice none 0 0, .slice none 0 0] rfl (by simp) zeros3 (.tmp 8) (.tmp 73) rfl rfl rfl rfl ?_; intro w6 hB6 hM6 hs6; rw [putAt_all (by rfl)] at hB6)
    refine bodyPost_ret (results_blk2 rfl aggRS hB6 rfl rfl) rfl ?_
    exact ⟨fun s' e => (by rw [unhide HNO] at e; cases e), fun _ => ⟨_, _, _, _, _, _, _, rfl⟩, QB.bel.trans (hM6.below QB.bel.size (fun k hk e => by omega))⟩
   | true =>
    have HQ : Hid (((((s.stk.drop n).take (k + 1)).zip (tk.take (k + 1))).all fun x => rFits p x.1 x.2) = true) := by
     show _ = _
     rw [unhide HSn, unhide HQ0, hq]
     rfl
    clear hq
    go_wp2_with fail
    refine hK.out _ _ ((unhide HO) _ hb1) (fun hHeld => ?_)
    clear hK K
    try simp only [Act.put, List.setIfInBounds_toArray, List.set_cons_zero, List.set_cons_succ]
    refine take_x (some 14) 13 rfl rfl ?_
    refine wpAnyH_done (by kernel_rfl) ?_ _
    refine NoPanic.normal ?_
    go_wp2_with fail
    exact ⟨⟨k + 1, by omega, by go_num, unhide HQ, hr1⟩, by simp [intOf]; omega⟩
  ·obtain rfl : k = tk.length := by omega
   have hfit : (((s.stk.drop n).zip tk).all fun x => rFits p x.1 x.2) = true := by
    rw [List.take_length, List.take_of_length_le (by rw [(unhide HHN).2]; exact Nat.le_refl _)] at hall
    exact hall
   have HR2 : Hid (rStep p m ⟨2, xa, xb⟩ s = if (((s.stk.take n ++ lv.map (rLeft (s.stk.drop n))).length : Nat) : Int) ≤ m.stack then some ⟨if 2 = 2 then s.loc.set xa.toNat (s.stk.getD n 0) else s.loc, s.stk.take n ++ lv.map (rLeft (s.stk.drop n))⟩ else none) := by
    show _ = _
    rw [unhide HR]
    unfold stepK
    rw [if_neg hlen, unhide HN, hfit]
    rfl
   have ke : ¬ (tk.length : Int) < (tk.length : Int) := by omega
   clear hall hfit
   have hi0 := IV.bel
   have hwr5 := IV.b4.lt
   have J0 := StpI.start (V := wr) (B := wr.heap.size + 1) hi0
   have hbx := box_below wr (.cells #[.bool true, .slice none 0 0, .slice none 0 0] 149)
   obtain ⟨la', lcap', hle, hlnil, hlsrc⟩ := ints_src (unhide HSS).1
   cases hle
   obtain ⟨a1, n1, cap1, w1, happ1, c1, f1, hbw1, J1⟩ := J0.locals (by omega) (by simp) (by omega) (by omega) s.loc (by omega) la s.loc.length lcap rfl (fun e => ⟨by rw [(hlnil e).1]; rfl, (hlnil e).2⟩) (fun ad e j u h => Keeps.of_below hbx _ _ (Keeps.of_below hi0 _ _ (hlsrc ad e j u h)))
   have hS1 : Mods (fun j => j = wr.heap.size) w1 (w1.setCell ⟨wr.heap.size, 1, none⟩ (.slice a1 n1 cap1)) := (Mods.refl (fun j => j = wr.heap.size) w1).setCell (p := ⟨wr.heap.size, 1, none⟩) (fun _ => rfl) _
   have hb1z : Below wr.heap.size wr (w1.setCell ⟨wr.heap.size, 1, none⟩ (.slice a1 n1 cap1)) := (hbx.trans (hbw1.mono hbx.size)).trans (hS1.below (Nat.le_trans hbx.size hbw1.size) (fun k hk e => by omega))
   have K1 := IV.below hb1z
   have bx2 : (wr.alloc (.cells #[.bool true, .slice none 0 0, .slice none 0 0] 149)).cell? ⟨w.heap.size + 1 + 1 + 1, 1, none⟩ = some (.slice la s.loc.length lcap) := (IV.below hbx).b3.cell 1
   have hs1 := Nat.le_trans hbx.size (Nat.le_trans hbw1.size hS1.size)
   have hs1' := Nat.le_trans hbw1.size hS1.size
   rw [World.size_alloc] at hs1'
   have HJ1 := hide (And.intro J1 K1)
   have cop : (w1.setCell ⟨wr.heap.size, 1, none⟩ (.slice a1 n1 cap1)).cell? ⟨w.heap.size + 1 + 1, 0, none⟩ = some (.int .i64 2) := K1.b2.cell 0
   clear J0 J1 hbw1 hS1 K1 hlnil hlsrc
   go_wp2_with (at_builtin; refine wpList_append_run rfl (.tmp 76) (.tmp 78) 40 rfl _ _ rfl rfl happ1 ?_)
   generalize w1.setCell _ _ = W1 at *
   clear happ1 c1 f1 bx2 cop
   have hl2 := (unhide HJ1).1.rl
   obtain ⟨g, gcap, hge, _, hgb, hgc⟩ := own_read hl2 (by omega)
   injection hge with e1 e2 e3
   subst e1 e2 e3
   obtain ⟨xn, rfl⟩ := Int.eq_ofNat_of_zero_le hxa0
   have hn1 : n < s.stk.length := by have := (unhide HHN).1; have := unhide HTK; omega
   obtain rfl := hsa (ne_nil_of_lt hn1)
   have x0 := Keeps.of_below (unhide HJ1).2.bel _ _ (unhide HSR n hn1)
   have hgd : s.stk.getD n 0 = s.stk[n] := by rw [List.getD_eq_getElem?_getD, List.getElem?_eq_getElem hn1]; rfl
   have HGD := hide hgd
   clear hgd
   generalize s.stk[n] = a at *
   obtain ⟨J2, hM2⟩ := (unhide HJ1).1.set (by omega) hgb xn a
   have hgw := (hl2.lt g hgb).1
   have hb2q : Below wr.heap.size wr (W1.setCell ⟨g, xn, none⟩ (.int .i64 a)) := hb1z.trans (hM2.below hb1z.size (fun k hk e => by omega))
   have K2 := IV.below hb2q
   have r1 : W1.cell? ⟨wr.heap.size, 1, none⟩ = some (.slice (some ⟨g, 0, none⟩) s.loc.length cap1) := (unhide HJ1).1.box.cell 1
   have r2 : W1.cell? ⟨w.heap.size + 1 + 1, 1, none⟩ = some (.int .i64 (xn : Int)) := (unhide HJ1).2.b2.cell 1
   have r3 : W1.cell? ⟨w.heap.size + 1 + 1 + 1, 2, none⟩ = some (.slice (some ⟨sb, so, none⟩) s.stk.length scap) := (unhide HJ1).2.b3.cell 2
   have r4 : (W1.setCell ⟨g, xn, none⟩ (.int .i64 a)).cell? ⟨wr.heap.size, 1, none⟩ = some (.slice (some ⟨g, 0, none⟩) s.loc.length cap1) := J2.box.cell 1
   have r5 : (W1.setCell ⟨g, xn, none⟩ (.int .i64 a)).cell? ⟨w.heap.size + 1 + 1, 1, none⟩ = some (.int .i64 (xn : Int)) := K2.b2.cell 1
   have r6 : (W1.setCell ⟨g, xn, none⟩ (.int .i64 a)).cell? ⟨w.heap.size + 1 + 1 + 1, 2, none⟩ = some (.slice (some ⟨sb, so, none⟩) s.stk.length scap) := K2.b3.cell 2
   have hsbl := cell_lt (unhide HSR n hn1)
   have r7 := hM2.cell x0 (by dsimp only; dsimp only at hsbl; omega)
   have fzg : W1.frozen? ⟨g, xn, none⟩ = false := (by obtain ⟨cur, hcb⟩ := own_blk hl2 hgb; exact hcb.frozen xn)
   have cg : ∃ u, W1.cell? ⟨g, xn, none⟩ = some u := ⟨_, (hgc xn (by omega)).trans (List.getElem?_eq_getElem (by simp; omega))⟩
   obtain ⟨cu, cg⟩ := cg
   have n0' : (0 : Int) ≤ (n : Int) := by omega
   have n1'' : (n : Int) < (s.stk.length : Int) := by omega
   have xn1 : (xn : Int) < (s.loc.length : Int) := by omega
   have xn0 : (0 : Int) ≤ (xn : Int) := by omega
   refine wp_region_noPanic ?_
   refine wp_region_held_drew (S := (fun w' => w'.cell? ⟨wr.heap.size, 1, none⟩ = some (.slice (some ⟨g, 0, none⟩) s.loc.length cap1) ∧ w'.cell? ⟨w.heap.size + 1 + 1, 1, none⟩ = some (.int .i64 (xn : Int)) ∧ w'.cell? ⟨w.heap.size + 1 + 1 + 1, 2, none⟩ = some (.slice (some ⟨sb, so, none⟩) s.stk.length scap) ∧ w'.cell? ⟨sb, so + n, none⟩ = some (.int .i64 a))) (by kernel_rfl) ?_ (fun hHeld => ?_)
   ·exact ⟨r1, r2, r3, x0⟩
   refine take_x (some 84) 0 rfl rfl ?_
   refine take_x (some 85) 1 rfl rfl ?_
   refine take_x (some 86) 2 rfl rfl ?_
   refine take_x (some 87) 3 rfl rfl ?_
   refine take_x (some 88) 4 rfl rfl ?_
   refine take_x (some 89) 5 rfl rfl ?_
   refine take_x (some 90) 6 rfl rfl ?_
   refine take_x (some 91) 7 rfl rfl ?_
   refine take_x (some 92) 8 rfl rfl ?_
   refine take_x (some 93) 9 rfl rfl ?_
   refine wpAnyH_ready (rs := [10]) (by kernel_rfl) (by simp) ?_
   refine AllReadyH.cons rfl (fun K hK => ?_) AllReadyH.nil
   go_simp
   refine hK.out _ _ ⟨r4, r5, r6, r7⟩ (fun hHeld => ?_)
   clear hK K
   try simp only [Act.put]
   refine wpAnyH_done (by kernel_rfl) ?_ _
   refine NoPanic.normal ?_
   go_wp2_with fail
   obtain ⟨W2, loc', hW2, hloc', HJ2⟩ : ∃ W2 loc', W2 = (W1.setCell ⟨g, xn, none⟩ (.int .i64 a)).drew ∧ loc' = s.loc.set xn a ∧ Hid (StpI w W2 (wr.heap.size + 1) wr.heap.size (.slice (some ⟨g, 0, none⟩) s.loc.length cap1) loc' (.slice none 0 0) [] ∧ StpB w W2 p m s 2 (xn : Int) xb (.slice pa p.length pcap) (.slice aa m.args.length acap) (.slice ca m.code.length ccap) (.slice fa m.frames.length fcap) (.slice la s.loc.length lcap) (.slice (some ⟨sb, so, none⟩) s.stk.length scap) ib) := ⟨_, _, rfl, rfl, J2.below drew_below, K2.below drew_below⟩
   have hb1z' := hb2q.drew
   have hs2q := Nat.le_trans hs1' hM2.size
   clear hb1z hs1'
   have hb1z := hb1z'
   clear r1 r2 r3 r4 r5 r6 r7 x0 cg fzg hM2 J2 K2 hgc
   rw [← hW2] at hb1z ⊢
   have hs1' : wr.heap.size + 1 ≤ W2.heap.size := by rw [hW2]; show _ ≤ (W1.setCell _ _).heap.size; omega
   clear HJ1 hW2
   have z2 : W2.cell? ⟨w.heap.size + 1 + 1 + 1, 2, none⟩ = some (.slice (some ⟨sb, so, none⟩) s.stk.length scap) := (unhide HJ2).2.b3.cell 2
   have z3 : W2.cell? ⟨wr.heap.size, 2, none⟩ = some (.slice none 0 0) := (unhide HJ2).1.box.cell 2
   obtain ⟨sa', scap', hse, hsnil, hssrc⟩ := ints_src (unhide HSS).2
   cases hse
   have hnle : n ≤ s.stk.length := by have := (unhide HHN).1; omega
   have n0 : (0 : Int) ≤ (n : Int) := by omega
   have n1' : (n : Int) ≤ (s.stk.length : Int) := by omega
   have n2' : (n : Int) ≤ (scap : Int) := by omega
   refine wp_region_noPanic ?_
   refine wp_region_held_drew (S := (fun w' => w'.cell? ⟨w.heap.size + 1 + 1 + 1, 2, none⟩ = some (.slice (some ⟨sb, so, none⟩) s.stk.length scap))) (by kernel_rfl) ?_ (fun hHeld => ?_)
   ·exact z2
   refine take_x (some 94) 0 rfl rfl ?_
   refine take_x (some 96) 2 rfl rfl ?_
   refine take_x (some 97) 3 rfl rfl ?_
   refine take_x (some 98) 4 rfl rfl ?_
   refine take_d (some 99) (i := 5) (v := .slice (some ⟨sb, so, none⟩) n scap) rfl rfl (by kernel_rfl) (by kernel_rfl) (by kernel_rfl) (fun _ _ _ h => h) (Or.inl ⟨by rfl, fun w' hSw => by (try dsimp only at hSw); go_simp⟩) (by assumption) ?_
   try simp only [Act.put, List.setIfInBounds_toArray, List.set_cons_zero, List.set_cons_succ]
   have J2d := (unhide HJ2).1.below drew_below
   have K2d := (unhide HJ2).2.below drew_below
   have hsz2 : W2.drew.heap.size = W2.heap.size := rfl
   obtain ⟨a3, n3, cap3, w3, happ3, c3, f3, hM3, J3⟩ := J2d.more (by omega) (by omega) (by omega) (by omega) (by simp) (s.stk.take n) (by rw [List.length_take]; omega) (some ⟨sb, so, none⟩) n scap (by rw [List.length_take]; omega) (fun e => ⟨by have := (hsnil e).1; rw [this] at hnle; simpa using hnle, (hsnil e).2⟩) (fun ad e j u h => Keeps.of_below K2d.bel _ _ (hssrc ad e j u (by
    rw [List.map_take, List.getElem?_take] at h
    split at h
    ·exact h
    ·cases h)))
   have hS3 : Mods (fun j => j = wr.heap.size) w3 (w3.setCell ⟨wr.heap.size, 2, none⟩ (.slice a3 n3 cap3)) := (Mods.refl (fun j => j = wr.heap.size) w3).setCell (p := ⟨wr.heap.size, 2, none⟩) (fun _ => rfl) _
   have hM3' : Below wr.heap.size W2 w3 := (drew_below.mono (by omega)).trans (hM3.below (by omega) (fun k hk e => by cases e))
   have hb3z : Below wr.heap.size wr (w3.setCell ⟨wr.heap.size, 2, none⟩ (.slice a3 n3 cap3)) := hb1z.trans (hM3'.trans (hS3.below (by have := hM3.size; omega) (fun k hk e => by omega)))
   have K3 := IV.below hb3z
   have z4 : w3.cell? ⟨w.heap.size + 1 + 1 + 1, 2, none⟩ = some (.slice (some ⟨sb, so, none⟩) s.stk.length scap) := (IV.below (hb1z.trans hM3')).b3.cell 2
   have z5 : (w3.setCell ⟨wr.heap.size, 2, none⟩ (.slice a3 n3 cap3)).cell? ⟨w.heap.size + 1 + 1 + 1, 2, none⟩ = some (.slice (some ⟨sb, so, none⟩) s.stk.length scap) := K3.b3.cell 2
   have hs3' : wr.heap.size + 1 ≤ (w3.setCell ⟨wr.heap.size, 2, none⟩ (.slice a3 n3 cap3)).heap.size := by have := hM3.size; have := hS3.size; omega
   have HJ3 := hide (And.intro J3 K3)
   clear J2d K2d J3 K3 hM3 hM3' hS3 hsnil hssrc
   refine wpAnyH_ready (rs := [1]) (by kernel_rfl) (by simp) ?_
   refine AllReadyH.cons rfl (fun K hK => ?_) AllReadyH.nil
   go_simp
   refine hK.out _ _ z2 (fun hHeld => ?_)
   clear hK K
   try simp only [Act.put, List.setIfInBounds_toArray, List.set_cons_zero, List.set_cons_succ]
   refine wpAnyH_ready (rs := [6]) (by kernel_rfl) (by simp) ?_
   refine AllReadyH.cons rfl (fun K hK => ?_) AllReadyH.nil
   refine wp_append_run (.tmp 95) (.tmp 99) 40 rfl _ _ rfl rfl happ3 ?_
   go_simp
   refine hK.out _ _ z4 (fun hHeld => ?_)
   clear hK K
   try simp only [Act.put, List.setIfInBounds_toArray, List.set_cons_zero, List.set_cons_succ]
   refine take_x (some 101) 7 rfl rfl ?_
   refine wpAnyH_ready (rs := [8]) (by kernel_rfl) (by simp) ?_
   refine AllReadyH.cons rfl (fun K hK => ?_) AllReadyH.nil
   go_simp
   refine hK.out _ _ z5 (fun hHeld => ?_)
   clear hK K
   try simp only [Act.put, List.setIfInBounds_toArray, List.set_cons_zero, List.set_cons_succ]
   refine wpAnyH_done (by kernel_rfl) ?_ _
   refine NoPanic.normal ?_
   generalize w3.setCell _ _ = W3 at *
   clear happ3 c3 f3 z2 z3 z4 z5 HJ2 hb1z
   rw [List.nil_append] at HJ3
   obtain ⟨va', vb, vo, vcap, rfl, _, hva, hvr⟩ := ints_open (ints_keep sel_world hl)
   have HVR := hide hvr
   clear hvr
   have hbr0 := hbr
   have hkw := IV
   go_wp2_with fail
   obtain ⟨w9, rfl⟩ : ∃ w9 : World, w9 = wr := ⟨_, rfl⟩
   go_loopw [16] (fun i V => ∃ (k : Nat) (vs' : Value), k ≤ lv.length ∧ i = .int .i64 k ∧ StpI w V (w9.heap.size + 1) w9.heap.size (.slice (some ⟨g, 0, none⟩) s.loc.length cap1) loc' vs' (s.stk.take n ++ (lv.take k).map (rLeft (s.stk.drop n))) ∧ StpB w V p m s 2 (xn : Int) xb (.slice pa p.length pcap) (.slice aa m.args.length acap) (.slice ca m.code.length ccap) (.slice fa m.frames.length fcap) (.slice la s.loc.length lcap) (.slice (some ⟨sb, so, none⟩) s.stk.length scap) ib ∧ Below w9.heap.size w9 V ∧ w9.heap.size + 1 ≤ V.heap.size) (fun i _ => lv.length - (intOf i).toNat)
   case atStart => exact ⟨0, _, Nat.zero_le _, rfl, by simpa using (unhide HJ3).1, (unhide HJ3).2, hb3z, hs3'⟩
   case round =>
    obtain ⟨k, vs', hk, rfl, JJ, KK, hbV, hsV⟩ := hrel
    obtain ⟨sva, svcap, rfl⟩ := own_form JJ.rs
    obtain ⟨sl, hsl⟩ : ∃ sl, sl = (s.stk.take n ++ (lv.take k).map (rLeft (s.stk.drop n))).length := ⟨_, rfl⟩
    rw [← hsl] at JJ
    have HSL := hide hsl
    clear hsl
    have z6 : wr.cell? ⟨w9.heap.size, 2, none⟩ = some _ := JJ.box.cell 2
    have z7 : wr.cell? ⟨w.heap.size + 1 + 1 + 1, 2, none⟩ = some (.slice (some ⟨sb, so, none⟩) s.stk.length scap) := KK.b3.cell 2
    by_cases hlt : k < lv.length
    ·obtain rfl := hva (ne_nil_of_lt hlt)
     have y0 := Keeps.of_below (hbr0.trans (hbV.mono hbr0.size)) _ _ (unhide HVR k hlt)
     have hlk := List.getElem?_eq_getElem hlt
     have hneg := hng _ (List.getElem_mem hlt)
     generalize lv[k] = t at *
     have k0 : (0 : Int) ≤ (k : Int) := by omega
     have k1 : (k : Int) < (lv.length : Int) := by omega
     by_cases ht0 : t < 0
     ·obtain ⟨j, hj⟩ : ∃ j : Nat, t = -1 - (j : Int) := ⟨(-1 - t).toNat, by omega⟩
      have hjt : j < tk.length := by have := hneg ht0; omega
      have hnj : n + j < s.stk.length := by have := (unhide HHN).1; omega
      have x0 := Keeps.of_below KK.bel _ _ (unhide HSR (n + j) hnj)
      have hrl : rLeft (s.stk.drop n) t = s.stk[n + j] := by
       unfold rLeft
       rw [if_pos ht0, show (-1 - t).toNat = j by omega, List.getD_eq_getElem?_getD, List.getElem?_drop, List.getElem?_eq_getElem hnj]
       rfl
      generalize s.stk[n + j] = a at *
      have q1 : (n : Int) - 1 - t = (n : Int) + (j : Int) := by omega
      have q2 : ((n : Int) + (j : Int)).toNat = n + j := by omega
      have q3 : (0 : Int) ≤ (n : Int) + (j : Int) := by omega
      have q4 : (n : Int) + (j : Int) < (s.stk.length : Int) := by omega
      have q5 : -200 ≤ t := by omega
      have HJT := hide hj
      clear hj
      obtain ⟨a5, n5, cap5, w5, happ5, c5, f5, hM5, J5⟩ := JJ.one (by omega) (by omega) (by omega) (by omega) (by rw [List.length_append, List.length_take, List.length_map, List.length_take]; omega) a
      have hS5 : Mods (fun j => j = w9.heap.size) w5 (w5.setCell ⟨w9.heap.size, 2, none⟩ (.slice a5 n5 cap5)) := (Mods.refl (fun j => j = w9.heap.size) w5).setCell (p := ⟨w9.heap.size, 2, none⟩) (fun _ => rfl) _
      have hb5z : Below w9.heap.size w9 (w5.setCell ⟨w9.heap.size, 2, none⟩ (.slice a5 n5 cap5)) := hbV.trans ((hM5.below hbV.size (fun k hk e => by have := (JJ.rs.lt k e).1; omega)).trans (hS5.below (Nat.le_trans hbV.size hM5.size) (fun k hk e => by omega)))
      have hs5 : w9.heap.size + 1 ≤ (w5.setCell ⟨w9.heap.size, 2, none⟩ (.slice a5 n5 cap5)).heap.size := by have := hM5.size; have := hS5.size; omega
      have HE := hide (And.intro J5 (And.intro (IV.below hb5z) (And.intro hb5z hs5)))
      have HLE := hide (show s.stk.take n ++ (lv.take (k + 1)).map (rLeft (s.stk.drop n)) = s.stk.take n ++ (lv.take k).map (rLeft (s.stk.drop n)) ++ [a] by rw [List.take_add_one, hlk, List.map_append, List.append_assoc]; simp only [Option.toList_some, List.map_cons, List.map_nil]; rw [hrl])
      clear J5 hM5 hS5 hb5z
      go_wp2_with (at_builtin; refine wpList_append_run rfl (.tmp 123) (.tmp 125) 40 rfl _ _ rfl rfl happ5 ?_)
      refine ⟨⟨k + 1, .slice a5 n5 cap5, by omega, by go_num, ?_, (unhide HE).2.1, (unhide HE).2.2.1, (unhide HE).2.2.2⟩, by simp [intOf]; omega⟩
      rw [unhide HLE]
      exact (unhide HE).1
     ·have hrl : rLeft (s.stk.drop n) t = t := by unfold rLeft; rw [if_neg ht0]
      obtain ⟨a5, n5, cap5, w5, happ5, c5, f5, hM5, J5⟩ := JJ.one (by omega) (by omega) (by omega) (by omega) (by rw [List.length_append, List.length_take, List.length_map, List.length_take]; omega) t
      have hS5 : Mods (fun j => j = w9.heap.size) w5 (w5.setCell ⟨w9.heap.size, 2, none⟩ (.slice a5 n5 cap5)) := (Mods.refl (fun j => j = w9.heap.size) w5).setCell (p := ⟨w9.heap.size, 2, none⟩) (fun _ => rfl) _
      have hb5z : Below w9.heap.size w9 (w5.setCell ⟨w9.heap.size, 2, none⟩ (.slice a5 n5 cap5)) := hbV.trans ((hM5.below hbV.size (fun k hk e => by have := (JJ.rs.lt k e).1; omega)).trans (hS5.below (Nat.le_trans hbV.size hM5.size) (fun k hk e => by omega)))
      have hs5 : w9.heap.size + 1 ≤ (w5.setCell ⟨w9.heap.size, 2, none⟩ (.slice a5 n5 cap5)).heap.size := by have := hM5.size; have := hS5.size; omega
      have HE := hide (And.intro J5 (And.intro (IV.below hb5z) (And.intro hb5z hs5)))
      have HLE := hide (show s.stk.take n ++ (lv.take (k + 1)).map (rLeft (s.stk.drop n)) = s.stk.take n ++ (lv.take k).map (rLeft (s.stk.drop n)) ++ [t] by rw [List.take_add_one, hlk, List.map_append, List.append_assoc]; simp only [Option.toList_some, List.map_cons, List.map_nil]; rw [hrl])
      clear J5 hM5 hS5 hb5z
      go_wp2_with (at_builtin; refine wpList_append_run rfl (.tmp 123) (.tmp 125) 40 rfl _ _ rfl rfl happ5 ?_)
      refine ⟨⟨k + 1, .slice a5 n5 cap5, by omega, by go_num, ?_, (unhide HE).2.1, (unhide HE).2.2.1, (unhide HE).2.2.2⟩, by simp [intOf]; omega⟩
      rw [unhide HLE]
      exact (unhide HE).1
    ·obtain rfl : k = lv.length := by omega
     have ke2 : ¬ (lv.length : Int) < (lv.length : Int) := by omega
     rw [List.take_length] at JJ HSL
     have hbW := KK.bel
     go_wp2_with fail
     have g0 : wr.cell? ⟨w9.heap.size, 0, none⟩ = some (.bool true) := JJ.box.cell 0
     have g1 : wr.cell? ⟨w9.heap.size, 1, none⟩ = some (.slice (some ⟨g, 0, none⟩) s.loc.length cap1) := JJ.box.cell 1
     have g3 : wr.cell? ⟨w.heap.size + 1, 4, none⟩ = some (.int .i64 m.stack) := KK.b1.cell 4
     have HJJ := hide (And.intro JJ KK)
     have b4 := KK.b4
     have hl5 := IV.b4.lt
     have HO9 := hide (fun Y (hY : Mods (fun k => k = w.heap.size + 1 + 1 + 1 + 1) wr Y) => And.intro ((JJ.box.mods hY (by omega)).cell 0) (And.intro ((JJ.box.mods hY (by omega)).cell 1) (And.intro ((JJ.box.mods hY (by omega)).cell 2) ((KK.b1.mods hY (by omega)).cell 4))))
     clear JJ KK
     refine wp_region_noPanic ?_
     refine wp_region_held_drew (S := (fun w' => w'.cell? ⟨w9.heap.size, 0, none⟩ = some (.bool true) ∧ w'.cell? ⟨w9.heap.size, 1, none⟩ = some (.slice (some ⟨g, 0, none⟩) s.loc.length cap1) ∧ w'.cell? ⟨w9.heap.size, 2, none⟩ = some (.slice sva sl svcap) ∧ w'.cell? ⟨w.heap.size + 1, 4, none⟩ = some (.int .i64 m.stack))) (by kernel_rfl) ?_ (fun hHeld => ?_)
     ·exact ⟨g0, g1, z6, g3⟩
     refine take_x (some 128) 0 rfl rfl ?_
     refine take_x (some 129) 1 rfl rfl ?_
     refine take_x (some 130) 2 rfl rfl ?_
     refine take_x (some 131) 3 rfl rfl ?_
     refine take_x (some 132) 4 rfl rfl ?_
     refine take_x (some 133) 5 rfl rfl ?_
     refine take_x (some 134) 6 rfl rfl ?_
     refine wpAnyH_ready (rs := [7]) (by kernel_rfl) (by simp) ?_
     refine AllReadyH.cons rfl (fun K hK => ?_) AllReadyH.nil
     refine wp_store_blk aggRS b4.drew 0 [.bool true, .slice (some ⟨g, 0, none⟩) s.loc.length cap1, .slice sva sl svcap] rfl (by simp) (fun u hu => by simp only [List.mem_cons, List.not_mem_nil, or_false] at hu; rcases hu with rfl | rfl | rfl <;> rfl) (.tmp 8) (.tmp 128) rfl rfl rfl ?_
     intro w6 hB6 hM6 hs6
     rw [putAt_all (by rfl)] at hB6
     have hM6' : Mods (fun k => k = w.heap.size + 1 + 1 + 1 + 1) wr w6 := ⟨hM6.os, hM6.tape, hM6.output, hM6.size, hM6.block⟩
     refine hK.out _ _ ((unhide HO9) _ hM6') (fun hHeld => ?_)
     clear hK K
     try simp only [Act.put]
     refine take_x (some 9) 8 rfl rfl ?_
     refine wpAnyH_done (by kernel_rfl) ?_ _
     refine NoPanic.normal ?_
     go_wp2_with fail
     refine bodyPost_ret (results_blk2 rfl aggRS hB6 rfl rfl) rfl ?_
     have hrd := (unhide HJJ).1.read
     have hfb := hbW.trans (hM6'.below hbW.size (fun k hk e => by omega))
     by_cases hfit2 : (sl : Int) ≤ m.stack
     ·have hR3 : rStep p m ⟨2, (xn : Int), xb⟩ s = some ⟨loc', s.stk.take n ++ lv.map (rLeft (s.stk.drop n))⟩ := by
       rw [unhide HR2, if_pos (by rw [← unhide HSL]; exact hfit2), hloc']
       simp only [if_true, Int.toNat_natCast, unhide HGD]
      refine ⟨fun s' e => ?_, fun e => (by rw [hR3] at e; cases e), hfb⟩
      rw [hR3] at e
      cases e
      refine ⟨_, _, (by show Ending.returned (.tuple #[_, .bool (decide _)]) = _; rw [decide_eq_true hfit2]), StG.keep (sel_mods hM6' fun k _ hk => ⟨fun e => by omega, by omega⟩) hrd⟩
     ·have hR3 : rStep p m ⟨2, (xn : Int), xb⟩ s = none := by
       rw [unhide HR2, if_neg (by rw [← unhide HSL]; exact hfit2)]
      refine ⟨fun s' e => (by rw [hR3] at e; cases e), fun _ => ⟨_, _, _, _, _, _, _, (by show Ending.returned (.tuple #[_, .bool (decide _)]) = _; rw [decide_eq_false hfit2])⟩, hfb⟩
theorem rs_step (p : List LClass) (vc : Value) (m : LMeth) (va vco vf : Value) (x : LIns) (s : TSt) (ib : Bool) (vl vs : Value) (w : World) (hp : RProg w vc p) (hv : GVals w.cell? m va vco vf) (hF : formI p = 0) (hz : szProg p ≤ 4194304) (M : MOk p m) (hi : insB p m x = true) (hS : StG w.cell? s vl vs) (tS : TIn p s) (hl : (s.loc.length : Int) = m.locals) (hk : (s.stk.length : Int) ≤ m.stack) :
  Calls Tryz.prog 96 #[.agg #[vc], methV m va vco vf, .agg #[.int .i64 x.op, .int .i64 x.a, .int .i64 x.b], .agg #[.bool ib, vl, vs]] w fun e w' => StepR p m x s w w' e := by
 have G := form_good hF hz
 obtain ⟨op, xa, xb⟩ := x
 have J := ins_ok hi
 have hml := M.loc
 have hms := M.stk
 have ha3 : op = 12 → (findM p xa xb).args.length ≤ 3 := fun h => by
  have hc := J.cls (by omega)
  have := (bareB_iff.1 (form_find hF (J.call h))).2.2.1
  omega
 have hty := rWants_ty (p := p) (m := m) (x := ⟨op, xa, xb⟩) (fun h => J.cls (by dsimp only at h; omega)) (fun h => by
  have hc := J.cls (by dsimp only at h; omega)
  have hf := J.fld (by dsimp only at h; omega)
  obtain ⟨j, hj⟩ := Int.eq_ofNat_of_zero_le hf.1
  show tyOk p.length (fieldT p xa xb)
  rw [hj]
  exact G.fld xa j hc.1 hc.2 (by omega)) (fun h => by
  have hc := J.cls (by dsimp only at h; omega)
  exact (G.arg xa xb hc.1 hc.2 (J.call h)).1) M.ret
 have hng := rWants_neg (p := p) (m := m) (x := ⟨op, xa, xb⟩) (fun h => (J.cls (by dsimp only at h; omega)).1) (fun h => by
  have hc := J.cls (by dsimp only at h; omega)
  have hf := J.fld (by dsimp only at h; omega)
  obtain ⟨j, hj⟩ := Int.eq_ofNat_of_zero_le hf.1
  show 0 ≤ fieldT p xa xb
  rw [hj]
  exact (G.fld xa j hc.1 hc.2 (by omega)).1) (fun h => by
  have hc := J.cls (by dsimp only at h; omega)
  exact (G.arg xa xb hc.1 hc.2 (J.call h)).2.1)
 obtain ⟨n1, n2⟩ := rWants_len (p := p) (m := m) (x := ⟨op, xa, xb⟩) (N := 100) (by omega) (fun h => by have := ha3 h; show 1 + (findM p xa xb).args.length ≤ 100; omega)
 by_cases h1 : op = 1
 ·subst h1
  have hx := J.loc (.inl rfl)
  exact rs_step1 p vc m va vco vf xa xb s ib vl vs w hp hv G.sup hz J hS tS (by omega) (by omega) (by omega) hty hng n1 n2
 by_cases h2 : op = 2
 ·subst h2
  have hx := J.loc (.inr rfl)
  exact rs_step2 p vc m va vco vf xa xb s ib vl vs w hp hv G.sup hz J hS tS (by omega) (by omega) (by omega) hty hng n1 n2
 exact rs_stepO p vc m va vco vf op xa xb s ib vl vs w hp hv G.sup hz J (fun h => by have := ha3 h; omega) hS tS (by omega) (by omega) hty hng n1 n2 h1 h2
end Go.Proofs.YtiiokkllmchohaaGreat
