/- What is proved: the law Bound (the method of a class and a slot is that of its nearest ancestor that has one; CAST lets those by that are below) answers true, and what it was handed reads as it did. Without condition. -/
import Derived.BigQuiet
import Derived.Test.YtiiokkllmchohaaGreatT40
import Derived.Test.YtiiokkllmchohaaGreatT41
/- BndC -/
namespace Go.Proofs.YtiiokkllmchohaaGreat
open Go.RowKit Go.Shelf
attribute [local go_sem ↓] Go.wp_at_zero Go.wp_at_succ
attribute [local go_sem] frz_drew

theorem bnd_start (W w : World) (hb : Below w.heap.size w W) : BndI w (W.alloc (.cells #[nilV] 24)) W.heap.size nilV nilV [] [] [] :=
  ⟨Below.alloc hb hb.size _, hb.size, Blk.new W _ _, World.ownsRow_nil _ _ _ _, World.ownsRow_nil _ _ _ _, rfl, fun j x v h => (by cases h), fun i j u v g _ h => (by cases h)⟩
theorem bound_runE {ps os : List Int} {n a b d : Nat} (hB : BlOk (blL ps os n) (whL ps os n)) (ha : a < n) (hb : b < n) (hd : d < n) (ask : Bool) : runE (boundP (a : Int) (b : Int) (blL ps os n)) (d : Int) 5 0 50 ask = 0 := by
  have hl := blL_len ps os n
  have hF := bound_form (a := (a : Int)) (b := (b : Int)) hB (by omega) (by omega)
  obtain ⟨m1, m2⟩ := bound_meth5 (a := (a : Int)) (b := (b : Int)) hB d (by omega)
  have hT : takesB (boundP (a : Int) (b : Int) (blL ps os n)) (d : Int) 5 0 = true := takesB_iff.2 ⟨⟨by omega, by rw [boundP_len]; omega⟩, by rw [m1]; rfl, by rw [m2]; rfl, fun t ht => by rw [m2] at ht; cases ht⟩
  have hP : passAllB (boundP (a : Int) (b : Int) (blL ps os n)) = true := passAllB_iff.2 fun c k m h => bound_pass hB (by omega) (by omega) h
  unfold runE
  rw [if_pos hF, if_pos ⟨hT, by decide, by decide⟩, if_pos (.inr hP)]
theorem bound_runF {ps os : List Int} {n a b d : Nat} (hB : BlOk (blL ps os n) (whL ps os n)) (ha : a < n) (hb : b < n) (hd : d < n) :
    (descB (boundP (a : Int) (b : Int) (blL ps os n)) a b = false → (runF (boundP (a : Int) (b : Int) (blL ps os n)) (d : Int) 5 [] 50).2 = 4 ∧ (runF (boundP (a : Int) (b : Int) (blL ps os n)) (d : Int) 5 [] 50).1.steps = 1) ∧
    (descB (boundP (a : Int) (b : Int) (blL ps os n)) a b = true → (runF (boundP (a : Int) (b : Int) (blL ps os n)) (d : Int) 5 [] 50).2 = 1 ∧ outV (boundP (a : Int) (b : Int) (blL ps os n)) (d : Int) 5 (runF (boundP (a : Int) (b : Int) (blL ps os n)) (d : Int) 5 [] 50) = 4 ∧ (runF (boundP (a : Int) (b : Int) (blL ps os n)) (d : Int) 5 [] 50).1.out = [100 + (whL ps os n).getD a 0]) ∧ (runF (boundP (a : Int) (b : Int) (blL ps os n)) (d : Int) 5 [] 50).1.out.length ≤ 5000 := by
  have hl := blL_len ps os n
  have hF := bound_form (a := (a : Int)) (b := (b : Int)) hB (by omega) (by omega)
  obtain ⟨m1, m2⟩ := bound_meth5 (a := (a : Int)) (b := (b : Int)) hB d (by omega)
  have hT : takesB (boundP (a : Int) (b : Int) (blL ps os n)) (d : Int) 5 ([] : List Int).length = true := takesB_iff.2 ⟨⟨by omega, by rw [boundP_len]; omega⟩, by rw [m1]; rfl, by rw [m2]; rfl, fun t ht => by rw [m2] at ht; cases ht⟩
  obtain ⟨R, h1, h2, h3⟩ := bound_run (a := (a : Int)) (b := (b : Int)) hB (by omega) (by omega) (c := d) (by omega)
  have h5 := (runF_is hF (bound_sz hB) hT (show (0 : Int) ≤ 50 by decide) (by decide)).2
  have h6 := run_same _ _ _ _ _ h5 h1
  have h7 := runF_out hF (bound_sz hB) hT (show (0 : Int) ≤ 50 by decide) (by decide)
  rw [h6] at h7 ⊢
  refine ⟨h2, fun e => ?_, h7⟩
  obtain ⟨g1, g2, g3⟩ := h3 e
  refine ⟨g1, ?_, g3⟩
  unfold outV
  rw [if_pos g1, g2, m2]
  rfl
set_option maxHeartbeats 20000000 in
set_option maxRecDepth 100000 in
theorem keep_bound (ps os : List Int) (vps vos : Value) (oF tO : Int) (w : World) (hps : SlAt 1 (RInt w) vps ps) (hos : SlAt 1 (RInt w) vos os) (h64 : ∀ x ∈ ps, I64 x) (h64' : ∀ x ∈ os, I64 x) (hlen : (ps.length : Int) ≤ 9223372036854775807) (hlen' : (os.length : Int) ≤ 9223372036854775807) (hof : I64 oF) (hto : I64 tO) :
    Calls Tryz.prog 10 #[vps, vos, .int .i64 oF, .int .i64 tO] w fun e w' => e = .returned (.bool true) ∧ Below w.heap.size w w' := by
  obtain ⟨pa, pb, poff, pcap, rfl, _, hpa, hpr⟩ := ints_open hps
  obtain ⟨oa, ob, ooff, ocap, rfl, _, hoa, hor⟩ := ints_open hos
  have HPR := hide hpr
  have HOR := hide hor
  have H64 := hide (And.intro h64 h64')
  clear hps hos hpr hor h64 h64'
  go_enter Tryz.func10, Tryz.ntmps10
  go_wp2_with fail
  refine (keep_awake w).mono ?_
  rintro e w1 ⟨rfl, hb1⟩
  go_wp2_with fail
  refine (keep_pickI _ 6 w1 ⟨by omega, hlen⟩ (by decide) (by decide)).mono ?_
  rintro e w1' ⟨rfl, rfl⟩
  have hk := pickI_in (ps.length : Int) (n := 6) (by decide)
  obtain ⟨n, hn⟩ : ∃ n : Nat, (n : Int) = 1 + pickI (ps.length : Int) 6 := ⟨(1 + pickI (ps.length : Int) 6).toNat, by omega⟩
  have hn1 : 1 ≤ n := by omega
  have hn6 : n ≤ 6 := by omega
  generalize pickI (ps.length : Int) 6 = q at *
  go_wp2_with fail
  rw [← hn]
  have S0 := bnd_start w1' w hb1
  generalize hbp : w1'.heap.size = bp at *
  generalize w1'.alloc _ = W0 at *
  clear hn hk hb1
  go_loopw [12, 13] (fun s12 s13 wr => ∃ (c : Nat) (vp : Value) (ms : List Value), c ≤ n ∧ s13 = .int .i64 c ∧ BndI w wr bp vp s12 ms (blL ps os c) (whL ps os c)) (fun _ s13 _ => n - (intOf s13).toNat)
  case atStart => exact ⟨0, _, [], Nat.zero_le _, rfl, S0⟩
  case round =>
    clear S0
    obtain ⟨c, vp, ms, hc, rfl, hI⟩ := hrel
    have hbl := blL_len ps os c
    have hwl := whL_len ps os c
    have hbs := blL_succ ps os c
    have hws : whL ps os (c + 1) = whL ps os c ++ [if mineOf os c then (c : Int) else (whL ps os c).getD (supOf ps c).toNat 0] := rfl
    by_cases hlt : c < n
    · have hlt' : (c : Int) < (n : Int) := by omega
      have hXs := BndX.start hI (-1)
      have hs1 : (wr.alloc (.cells #[.int .i64 (-1), nilV, nilV] 66)).heap.size = wr.heap.size + 1 := World.size_alloc _ _
      by_cases h0 : c = 0
      · have hm : mineOf os c = true := by rw [h0]; rfl
        have hsp : supOf ps c = -1 := by rw [h0]; rfl
        rw [hm, hsp] at hbs
        rw [hm, if_pos rfl] at hws
        obtain ⟨a1, n1, cap1, w2, a2, n2, cap2, w4, a3, n3, cap3, w6, happ1, x2, happ2, ⟨x4, f4⟩, ⟨y0, y1, y2, y3⟩, happ3, c6, f6, hF⟩ := bnd_mine hXs (by omega) (by omega) (c : Int) c hbl.symm
        rw [← hbs, ← hws] at hF
        rw [hs1] at happ1
        rw [World.size_setCell] at happ3
        have HFIN := hide hF
        subst h0
        clear hI hXs hbl hwl hbs hws hm hsp hF hs1
        go_wp2_with (first
          | (at_builtin; refine wpList_append_run rfl (.tmp 77) (.tmp 79) 51 rfl _ _ rfl rfl happ1 ?_)
          | (at_builtin; refine wpList_append_run rfl (.tmp 83) (.tmp 90) 64 rfl _ _ rfl rfl happ2 ?_)
          | (at_builtin; refine wpList_append_run rfl (.tmp 94) (.tmp 96) 22 rfl _ _ rfl rfl happ3 ?_))
        refine ⟨⟨0 + 1, _, _, by omega, by go_num, unhide HFIN⟩, by simp [intOf]; omega⟩
      · have c1 : 0 < c := by omega
        have hk := supOf_in ps c1
        obtain ⟨k, hke⟩ := Int.eq_ofNat_of_zero_le hk.1
        have hX1 := BndX.start hI (k : Int)
        have hs2 : (wr.alloc (.cells #[.int .i64 (k : Int), nilV, nilV] 66)).heap.size = wr.heap.size + 1 := World.size_alloc _ _
        have hwh := hI.wh
        rw [hwl] at hwh
        obtain ⟨g, gcap, rfl, hgc, _, hgr⟩ := own_read hwh (by omega)
        have kc : k < c := by omega
        have kc0 : (0 : Int) ≤ (k : Int) := by omega
        have kc1 : (k : Int) < (c : Int) := by omega
        have hz : (whL ps os c).getD (supOf ps c).toNat 0 = (whL ps os c).getD k 0 := by rw [hke]; rfl
        obtain ⟨z, hzz⟩ : ∃ z, z = (whL ps os c).getD k 0 := ⟨_, rfl⟩
        rw [hz, ← hzz] at hws
        have hwh1 := hX1.i.wh
        rw [hwl] at hwh1
        obtain ⟨g', gcap', hge, _, _, hgr1⟩ := own_read hwh1 (by omega)
        simp only [Value.slice.injEq, Option.some.injEq, Addr.mk.injEq, and_true, true_and] at hge
        obtain ⟨rfl, rfl⟩ := hge
        have z1 : (wr.alloc (.cells #[.int .i64 (k : Int), nilV, nilV] 66)).cell? ⟨g, k, none⟩ = some (.int .i64 z) := by
          rw [hgr1 k (by omega), List.getElem?_map, List.getElem?_eq_getElem (by rw [hwl]; exact kc), hzz, List.getD_eq_getElem?_getD, List.getElem?_eq_getElem (by rw [hwl]; exact kc)]
          rfl
        obtain ⟨d, hd⟩ : ∃ d : Nat, c = d + 1 := ⟨c - 1, by omega⟩
        have hcd : (c : Int) - 1 = (d : Int) := by omega
        have hd0 : (0 : Int) ≤ (d : Int) := by omega
        have hc0 : ((c : Int) == 0) = false := by simp only [beq_eq_false_iff_ne, ne_eq]; omega
        have hc1 : (0 : Int) < (c : Int) := by omega
        have hdc : c - 1 = d := by omega
        have HP0 : Hid (c ≤ ps.length → (wr.alloc (.cells #[.int .i64 (-1), nilV, nilV] 66)).cell? ⟨pb, poff + d, none⟩ = some (.int .i64 (ps.getD d 0)) ∧ I64 (ps.getD d 0)) := fun hcp => by
          have hdl : d < ps.length := by omega
          rw [List.getD_eq_getElem?_getD, List.getElem?_eq_getElem hdl]
          exact ⟨Keeps.of_below hXs.i.bel _ _ (unhide HPR d hdl), (unhide H64).1 _ (List.getElem_mem hdl)⟩
        have HO1 : Hid (c ≤ os.length → (wr.alloc (.cells #[.int .i64 (k : Int), nilV, nilV] 66)).cell? ⟨ob, ooff + d, none⟩ = some (.int .i64 (os.getD d 0))) := fun hco => by
          have hdl : d < os.length := by omega
          rw [List.getD_eq_getElem?_getD, List.getElem?_eq_getElem hdl]
          exact Keeps.of_below hX1.i.bel _ _ (unhide HOR d hdl)
        have HSU : Hid (c ≤ ps.length → pickI (ps.getD d 0) (c : Int) = (k : Int)) := fun hcp => by
          rw [← hke]
          unfold supOf
          rw [if_neg h0, if_pos hcp, hdc]
        have HS0 := hide (show ¬ c ≤ ps.length → k = 0 from fun hcp => by
          have : supOf ps c = 0 := by unfold supOf; rw [if_neg h0, if_neg hcp]
          omega)
        have HMI := hide (show mineOf os c = (decide (c ≤ os.length) && (Int.tmod (os.getD d 0) 2 == 0)) by unfold mineOf; rw [if_neg h0, hdc])
        have HD := hide hd
        clear hgr hgr1 hwh hwh1 hz hI hXs hd hdc
        cases hmn : mineOf os c with
        | true =>
          rw [hmn, hke] at hbs
          rw [hmn, if_pos rfl] at hws
          obtain ⟨a1, n1, cap1, w2, a2, n2, cap2, w4, a3, n3, cap3, w6, happ1, x2, happ2, ⟨x4, f4⟩, ⟨y0, y1, y2, y3⟩, happ3, c6, f6, hF⟩ := bnd_mine hX1 (by omega) (by omega) (c : Int) c hbl.symm
          rw [← hbs, ← hws] at hF
          rw [hs2] at happ1
          rw [World.size_setCell] at happ3
          have HFIN := hide hF
          have hmi := unhide HMI
          rw [hmn] at hmi
          simp only [Bool.true_eq, Bool.and_eq_true, decide_eq_true_eq] at hmi
          obtain ⟨hco, hte⟩ := hmi
          have hco' : (c : Int) ≤ (os.length : Int) := by omega
          have hco2 : (d : Int) < (os.length : Int) := by have := unhide HD; omega
          have o1 := unhide HO1 hco
          obtain rfl := hoa (ne_nil_of_lt (show d < os.length by have := unhide HD; omega))
          clear hF hbs hws hbl hwl hX1 hs1 hs2 hmn HMI HO1 hzz z1
          generalize os.getD d 0 = o at *
          by_cases hcp : c ≤ ps.length
          · have hcp' : (c : Int) ≤ (ps.length : Int) := by omega
            have hcp2 : (d : Int) < (ps.length : Int) := by have := unhide HD; omega
            obtain ⟨p0, hpx⟩ := unhide HP0 hcp
            have hpk := unhide HSU hcp
            obtain rfl := hpa (ne_nil_of_lt (show d < ps.length by have := unhide HD; omega))
            clear HP0 HSU
            generalize ps.getD d 0 = x at *
            go_wp2_with fail
            refine (keep_pickI x (c : Int) _ hpx (by omega) (by omega)).mono ?_
            rintro e w9 ⟨rfl, rfl⟩
            rw [hpk]
            go_wp2_with (first
              | (at_builtin; refine wpList_append_run rfl (.tmp 77) (.tmp 79) 51 rfl _ _ rfl rfl happ1 ?_)
              | (at_builtin; refine wpList_append_run rfl (.tmp 83) (.tmp 90) 64 rfl _ _ rfl rfl happ2 ?_)
              | (at_builtin; refine wpList_append_run rfl (.tmp 94) (.tmp 96) 22 rfl _ _ rfl rfl happ3 ?_))
            refine ⟨⟨c + 1, _, _, by omega, by go_num, unhide HFIN⟩, by simp [intOf]; omega⟩
          · have hcp' : ¬ (c : Int) ≤ (ps.length : Int) := by omega
            obtain rfl := unhide HS0 hcp
            rw [show ((0 : Nat) : Int) = 0 from rfl] at happ1 happ3 y0 o1
            go_wp2_with (first
              | (at_builtin; refine wpList_append_run rfl (.tmp 77) (.tmp 79) 51 rfl _ _ rfl rfl happ1 ?_)
              | (at_builtin; refine wpList_append_run rfl (.tmp 83) (.tmp 90) 64 rfl _ _ rfl rfl happ2 ?_)
              | (at_builtin; refine wpList_append_run rfl (.tmp 94) (.tmp 96) 22 rfl _ _ rfl rfl happ3 ?_))
            refine ⟨⟨c + 1, _, _, by omega, by go_num, unhide HFIN⟩, by simp [intOf]; omega⟩
        | false =>
          rw [hmn, hke] at hbs
          rw [hmn, if_neg (by simp)] at hws
          obtain ⟨a1, n1, cap1, w2, a3, n3, cap3, w6, happ1, ⟨y0, y1, y2, y3⟩, happ3, c6, f6, hF⟩ := bnd_not hX1 (by omega) (by omega) z
          rw [← hbs, ← hws] at hF
          rw [hs2] at happ1
          have HFIN := hide hF
          by_cases hco : c ≤ os.length
          · have hco' : (c : Int) ≤ (os.length : Int) := by omega
            have hco2 : (d : Int) < (os.length : Int) := by have := unhide HD; omega
            have hte : (Int.tmod (os.getD d 0) 2 == 0) = false := by
              have hmi := unhide HMI
              rw [hmn, decide_eq_true hco, Bool.true_and] at hmi
              exact hmi.symm
            have o1 := unhide HO1 hco
            obtain rfl := hoa (ne_nil_of_lt (show d < os.length by have := unhide HD; omega))
            clear hF hbs hws hbl hwl hX1 hs1 hs2 hmn HMI HO1 hzz
            generalize os.getD d 0 = o at *
            by_cases hcp : c ≤ ps.length
            · have hcp' : (c : Int) ≤ (ps.length : Int) := by omega
              have hcp2 : (d : Int) < (ps.length : Int) := by have := unhide HD; omega
              obtain ⟨p0, hpx⟩ := unhide HP0 hcp
              have hpk := unhide HSU hcp
              obtain rfl := hpa (ne_nil_of_lt (show d < ps.length by have := unhide HD; omega))
              clear HP0 HSU
              generalize ps.getD d 0 = x at *
              go_wp2_with fail
              refine (keep_pickI x (c : Int) _ hpx (by omega) (by omega)).mono ?_
              rintro e w9 ⟨rfl, rfl⟩
              rw [hpk]
              go_wp2_with (first
                | (at_builtin; refine wpList_append_run rfl (.tmp 77) (.tmp 79) 51 rfl _ _ rfl rfl happ1 ?_)
                | (at_builtin; refine wpList_append_run rfl (.tmp 94) (.tmp 96) 22 rfl _ _ rfl rfl happ3 ?_))
              refine ⟨⟨c + 1, _, _, by omega, by go_num, unhide HFIN⟩, by simp [intOf]; omega⟩
            · have hcp' : ¬ (c : Int) ≤ (ps.length : Int) := by omega
              obtain rfl := unhide HS0 hcp
              rw [show ((0 : Nat) : Int) = 0 from rfl] at happ1 happ3 y0 z1
              try rw [show ((0 : Nat) : Int) = 0 from rfl] at o1
              go_wp2_with (first
                | (at_builtin; refine wpList_append_run rfl (.tmp 77) (.tmp 79) 51 rfl _ _ rfl rfl happ1 ?_)
                | (at_builtin; refine wpList_append_run rfl (.tmp 94) (.tmp 96) 22 rfl _ _ rfl rfl happ3 ?_))
              refine ⟨⟨c + 1, _, _, by omega, by go_num, unhide HFIN⟩, by simp [intOf]; omega⟩
          · have hco' : ¬ (c : Int) ≤ (os.length : Int) := by omega
            clear hF hbs hws hbl hwl hX1 hs1 hs2 hmn HMI HO1 hzz
            by_cases hcp : c ≤ ps.length
            · have hcp' : (c : Int) ≤ (ps.length : Int) := by omega
              have hcp2 : (d : Int) < (ps.length : Int) := by have := unhide HD; omega
              obtain ⟨p0, hpx⟩ := unhide HP0 hcp
              have hpk := unhide HSU hcp
              obtain rfl := hpa (ne_nil_of_lt (show d < ps.length by have := unhide HD; omega))
              clear HP0 HSU
              generalize ps.getD d 0 = x at *
              go_wp2_with fail
              refine (keep_pickI x (c : Int) _ hpx (by omega) (by omega)).mono ?_
              rintro e w9 ⟨rfl, rfl⟩
              rw [hpk]
              go_wp2_with (first
                | (at_builtin; refine wpList_append_run rfl (.tmp 77) (.tmp 79) 51 rfl _ _ rfl rfl happ1 ?_)
                | (at_builtin; refine wpList_append_run rfl (.tmp 94) (.tmp 96) 22 rfl _ _ rfl rfl happ3 ?_))
              refine ⟨⟨c + 1, _, _, by omega, by go_num, unhide HFIN⟩, by simp [intOf]; omega⟩
            · have hcp' : ¬ (c : Int) ≤ (ps.length : Int) := by omega
              obtain rfl := unhide HS0 hcp
              rw [show ((0 : Nat) : Int) = 0 from rfl] at happ1 happ3 y0 z1
              try rw [show ((0 : Nat) : Int) = 0 from rfl] at o1
              go_wp2_with (first
                | (at_builtin; refine wpList_append_run rfl (.tmp 77) (.tmp 79) 51 rfl _ _ rfl rfl happ1 ?_)
                | (at_builtin; refine wpList_append_run rfl (.tmp 94) (.tmp 96) 22 rfl _ _ rfl rfl happ3 ?_))
              refine ⟨⟨c + 1, _, _, by omega, by go_num, unhide HFIN⟩, by simp [intOf]; omega⟩
    · obtain rfl : c = n := by omega
      have hB := bl_ok ps os hn1 hn6
      have HI := hide (And.intro hI hB)
      have hn0 : (0 : Int) < (c : Int) := by omega
      clear hI hB hbl hwl hbs hws
      go_wp2_with fail
      refine (keep_pickI oF (c : Int) wr hof (by omega) (by omega)).mono ?_
      rintro e w7 ⟨rfl, rfl⟩
      have ha := pickI_in oF hn0
      obtain ⟨a, hae⟩ := Int.eq_ofNat_of_zero_le ha.1
      rw [hae] at ha ⊢
      go_wp2_with fail
      refine (keep_pickI tO (c : Int) w7 hto (by omega) (by omega)).mono ?_
      rintro e w8 ⟨rfl, rfl⟩
      have hb := pickI_in tO hn0
      obtain ⟨b, hbe⟩ := Int.eq_ofNat_of_zero_le hb.1
      rw [hbe] at hb ⊢
      clear hae hbe
      go_wp2_with fail
      obtain ⟨hI, hB⟩ := unhide HI
      have hI1 := hI.keep (((Mods.refl (fun _ => False) w8).alloc (.cells #[.int .i64 9, .int .i64 (a : Int), .int .i64 0, .int .i64 17, .int .i64 (b : Int), .int .i64 0, .int .i64 12, .int .i64 0, .int .i64 3, .int .i64 19, .int .i64 0, .int .i64 0, .int .i64 0, .int .i64 4, .int .i64 0, .int .i64 13, .int .i64 0, .int .i64 0] 60)).alloc (.cells #[.int .i64 5, nilV, .int .i64 0, .int .i64 1, .int .i64 1, .slice (some ⟨w8.heap.size, 0, none⟩) 6 6, nilV] 63)).drew (fun _ f => f.elim) (fun _ _ _ _ f => f.elim)
      have hK1 : Blk ((w8.alloc (.cells #[.int .i64 9, .int .i64 (a : Int), .int .i64 0, .int .i64 17, .int .i64 (b : Int), .int .i64 0, .int .i64 12, .int .i64 0, .int .i64 3, .int .i64 19, .int .i64 0, .int .i64 0, .int .i64 0, .int .i64 4, .int .i64 0, .int .i64 13, .int .i64 0, .int .i64 0] 60)).alloc (.cells #[.int .i64 5, nilV, .int .i64 0, .int .i64 1, .int .i64 1, .slice (some ⟨w8.heap.size, 0, none⟩) 6 6, nilV] 63)).drew w8.heap.size 60 (codeCells (mainM (a : Int) (b : Int)).code) := (Blk.new w8 _ _).alloc _
      have hM1 : Blk ((w8.alloc (.cells #[.int .i64 9, .int .i64 (a : Int), .int .i64 0, .int .i64 17, .int .i64 (b : Int), .int .i64 0, .int .i64 12, .int .i64 0, .int .i64 3, .int .i64 19, .int .i64 0, .int .i64 0, .int .i64 0, .int .i64 4, .int .i64 0, .int .i64 13, .int .i64 0, .int .i64 0] 60)).alloc (.cells #[.int .i64 5, nilV, .int .i64 0, .int .i64 1, .int .i64 1, .slice (some ⟨w8.heap.size, 0, none⟩) 6 6, nilV] 63)).drew (w8.heap.size + 1) 63 (mainC w8.heap.size) := blk_new_here (by simp)
      have hlt8 := hI.lt.1
      have HML := hide hI.msLt
      clear hI
      generalize (w8.alloc _).alloc _ = Wm at *
      obtain ⟨gc, ccap, v0, rfl, hgl, hgp, hc0, hv0, ⟨curc, hcB⟩, hty, a', n', cap', w4, happ, c4, f4, hM4, hbF, hRF, howF⟩ := bnd_main hI1 hB hK1
      rw [blL_len] at hI1 hRF
      rw [World.size_drew] at happ
      have p0 : Wm.drew.cell? ⟨bp, 0, none⟩ = some (.slice (some ⟨gc, 0, none⟩) c ccap) := hI1.pr.cell 0
      have hbk : ∀ U (S : Nat → Prop), Mods S Wm.drew U → ¬ S bp → ¬ S (w8.heap.size + 1) → U.cell? ⟨bp, 0, none⟩ = some (.slice (some ⟨gc, 0, none⟩) c ccap) ∧ Blk U (w8.heap.size + 1) 63 (mainC w8.heap.size) := fun U S m h1 h2 => ⟨(hI1.pr.mods m h1).cell 0, hM1.mods m h2⟩
      have hSS : ∀ U, U.cell? ⟨bp, 0, none⟩ = some (.slice (some ⟨gc, 0, none⟩) c ccap) ∧ Blk U (w8.heap.size + 1) 63 (mainC w8.heap.size) → (fun w' => w'.cell? ⟨bp, 0, none⟩ = some (.slice (some ⟨gc, 0, none⟩) c ccap) ∧ w'.cell? ⟨w8.heap.size + 1, 0, none⟩ = some (.int .i64 5) ∧ w'.cell? ⟨w8.heap.size + 1, 1, none⟩ = some nilV ∧ w'.cell? ⟨w8.heap.size + 1, 2, none⟩ = some (.int .i64 0) ∧ w'.cell? ⟨w8.heap.size + 1, 3, none⟩ = some (.int .i64 1) ∧ w'.cell? ⟨w8.heap.size + 1, 4, none⟩ = some (.int .i64 1) ∧ w'.cell? ⟨w8.heap.size + 1, 5, none⟩ = some (.slice (some ⟨w8.heap.size, 0, none⟩) 6 6) ∧ w'.cell? ⟨w8.heap.size + 1, 6, none⟩ = some nilV) U := fun U h => ⟨h.1, h.2.cell 0, h.2.cell 1, h.2.cell 2, h.2.cell 3, h.2.cell 4, h.2.cell 5, h.2.cell 6⟩
      have HS0 := hSS Wm.drew ⟨p0, hM1⟩
      have HSa := hSS (Wm.drew.alloc (.cells #[.int .i64 5, nilV, .int .i64 0, .int .i64 1, .int .i64 1, .slice (some ⟨w8.heap.size, 0, none⟩) 6 6, nilV] 63)) (hbk _ (fun _ => False) ((Mods.refl _ _).alloc _) (fun f => f) (fun f => f))
      have hn1 : v0.ownBlock ≠ some bp := fun e => by
        obtain ⟨cur, hc⟩ := hty bp e
        exact absurd (hc.uniq hI1.pr) (by decide)
      have hn2 : v0.ownBlock ≠ some (w8.heap.size + 1) := fun e => by have := unhide HML v0 hv0 _ e; omega
      have HS4 := hSS w4 (hbk _ _ hM4 hn1 hn2)
      have hgm : w8.heap.size + 1 ≠ gc := fun e => by
        rw [e] at hM1
        exact absurd (hM1.uniq hcB) (by decide)
      have HS5 := hSS (w4.setCell ⟨gc, 2, none⟩ (.slice a' n' cap')) (hbk _ (fun k => v0.ownBlock = some k ∨ k = gc) ((hM4.mono (fun _ _ e => .inl e)).trans ((Mods.refl (fun k => k = gc) w4).setCell (p := ⟨gc, 2, none⟩) (fun _ => rfl) _) (fun _ _ e => .inr e)) (fun e => e.elim hn1 (fun e => hgp e.symm)) (fun e => e.elim hn2 hgm))
      have hca : (Wm.drew.alloc (.cells #[.int .i64 5, nilV, .int .i64 0, .int .i64 1, .int .i64 1, .slice (some ⟨w8.heap.size, 0, none⟩) 6 6, nilV] 63)).cell? ⟨gc, 2, none⟩ = some v0 := ((Mods.refl (fun _ => False) Wm.drew).alloc _).cell hc0 (fun f => f)
      have hdr : Wm.drew.alloc (.cells #[.int .i64 5, nilV, .int .i64 0, .int .i64 1, .int .i64 1, .slice (some ⟨w8.heap.size, 0, none⟩) 6 6, nilV] 63) = (Wm.alloc (.cells #[.int .i64 5, nilV, .int .i64 0, .int .i64 1, .int .i64 1, .slice (some ⟨w8.heap.size, 0, none⟩) 6 6, nilV] 63)).drew := rfl
      rw [hdr] at HSa hca happ
      have HFF := hide (And.intro hbF (And.intro hRF (And.intro howF hB)))
      have hcN : 0 < c := by omega
      clear hbF hRF howF hB hI1 hK1 hM1 hty hM4 hbk hcB HI
      refine wp_region_noPanic ?_
      refine wp_region_held_drew (S := (fun w' => w'.cell? ⟨bp, 0, none⟩ = some (.slice (some ⟨gc, 0, none⟩) c ccap) ∧ w'.cell? ⟨w8.heap.size + 1, 0, none⟩ = some (.int .i64 5) ∧ w'.cell? ⟨w8.heap.size + 1, 1, none⟩ = some nilV ∧ w'.cell? ⟨w8.heap.size + 1, 2, none⟩ = some (.int .i64 0) ∧ w'.cell? ⟨w8.heap.size + 1, 3, none⟩ = some (.int .i64 1) ∧ w'.cell? ⟨w8.heap.size + 1, 4, none⟩ = some (.int .i64 1) ∧ w'.cell? ⟨w8.heap.size + 1, 5, none⟩ = some (.slice (some ⟨w8.heap.size, 0, none⟩) 6 6) ∧ w'.cell? ⟨w8.heap.size + 1, 6, none⟩ = some nilV)) (by kernel_rfl) ?_ (fun hHeld => ?_)
      · exact HS0
      refine take_x (some 115) 0 rfl rfl ?_
      refine take_x (some 116) 1 rfl rfl ?_
      refine take_x (some 117) 2 rfl rfl ?_
      refine take_x (some 118) 3 rfl rfl ?_
      refine take_x (some 119) 4 rfl rfl ?_
      refine take_x (some 120) 5 rfl rfl ?_
      refine take_x (some 122) 7 rfl rfl ?_
      refine wpAnyH_ready (rs := [6, 8]) (by kernel_rfl) (by simp) ?_
      refine AllReadyH.cons rfl (fun K hK => ?_) (AllReadyH.cons rfl (fun K hK => ?_) AllReadyH.nil)
      · go_simp
        refine hK.out _ _ HS0 (fun hHeld => ?_)
        clear hK K
        try simp only [Act.put, List.setIfInBounds_toArray, List.set_cons_zero, List.set_cons_succ]
        refine wpAnyH_ready (rs := [8]) (by kernel_rfl) (by simp) ?_
        refine AllReadyH.cons rfl (fun K hK => ?_) AllReadyH.nil
        go_simp
        refine hK.out _ _ HSa (fun hHeld => ?_)
        clear hK K
        try simp only [Act.put, List.setIfInBounds_toArray, List.set_cons_zero, List.set_cons_succ]
        refine wpAnyH_ready (rs := [9]) (by kernel_rfl) (by simp) ?_
        refine AllReadyH.cons rfl (fun K hK => ?_) AllReadyH.nil
        refine wp_append_run (.tmp 121) (.tmp 123) 64 rfl _ _ rfl rfl happ ?_
        go_simp
        refine hK.out _ _ HS4 (fun hHeld => ?_)
        clear hK K
        try simp only [Act.put, List.setIfInBounds_toArray, List.set_cons_zero, List.set_cons_succ]
        refine take_x (some 125) 10 rfl rfl ?_
        refine take_x (some 126) 11 rfl rfl ?_
        refine wpAnyH_ready (rs := [12]) (by kernel_rfl) (by simp) ?_
        refine AllReadyH.cons rfl (fun K hK => ?_) AllReadyH.nil
        go_simp
        refine hK.out _ _ HS5 (fun hHeld => ?_)
        clear hK K
        try simp only [Act.put, List.setIfInBounds_toArray, List.set_cons_zero, List.set_cons_succ]
        refine wpAnyH_done (by kernel_rfl) ?_ _
        refine NoPanic.normal ?_
        have p5 := HS5.1
        clear happ HS0 HSa HS4 HS5 c4 f4 hca hc0 p0 hSS hn2 hgm hHeld
        generalize w4.setCell ⟨gc, 2, none⟩ (.slice a' n' cap') = W5 at *
        obtain ⟨hbF, hRF, howF, hB⟩ := unhide HFF
        have haN : a < c := by omega
        have hbN : b < c := by omega
        obtain ⟨d, hd⟩ : ∃ d : Nat, c = d + 1 := ⟨c - 1, by omega⟩
        have hcd : (c : Int) - 1 = (d : Int) := by omega
        have hdN : d < c := by omega
        have HE := hide (bound_runE hB haN hbN hdN)
        have HRF := hide (bound_runF hB haN hbN hdN)
        have hsup := bound_sup (a := (a : Int)) (b := (b : Int)) hB
        have HWF := hide (And.intro (bound_wf (a := (a : Int)) (b := (b : Int)) hB (by rw [blL_len]; omega) (by rw [blL_len]; omega)) (bound_sz (a := (a : Int)) (b := (b : Int)) hB))
        have hget : ∀ j : Nat, j < c → (boundP (a : Int) (b : Int) (blL ps os c))[j]? = some ⟨supOf ps j, [], methsB a b j (supOf ps j, mineOf os j)⟩ := fun j hj => by
          rw [boundP_get]
          unfold blL
          rw [List.getElem?_map, List.getElem?_range hj]
          rfl
        generalize boundP (a : Int) (b : Int) (blL ps os c) = P at *
        have HRP := hide hRF
        have HSUP : Hid (∀ j : Nat, j < c → W5.cell? ⟨gc, 0 + j * 3, none⟩ = some (.int .i64 (supOf ps j))) := fun j hj => by
          obtain ⟨qa, qb, qo, qc, e1, _, _, hr⟩ := hRF
          obtain ⟨vf, vm, e2, _⟩ := hr j _ (hget j hj)
          have hq : qa = some ⟨qb, qo, none⟩ := by
            rename_i hh _
            rcases hh with ⟨h1, h2⟩
            exact h1 (fun e => by have := hget j hj; rw [e] at this; cases this)
          rw [hq] at e1
          simp only [Value.slice.injEq, Option.some.injEq, Addr.mk.injEq] at e1
          obtain ⟨⟨rfl, rfl, _⟩, _⟩ := e1
          exact e2
        have HD := hide (And.intro hd (And.intro hsup hget))
        have BPB : Hid (∀ U, Below W5.heap.size W5 U → U.cell? ⟨bp, 0, none⟩ = some (.slice (some ⟨gc, 0, none⟩) c ccap)) := fun U hU => Keeps.of_below hU _ _ p5
        have HOW := hide howF
        clear hRF hB hd hsup hget HFF hcd howF
        go_wp2_with fail
        go_loopw [21] (fun s21 wr => ∃ j : Nat, j < c ∧ s21 = .int .i64 j ∧ descB P (a : Int) (b : Int) = descB P (j : Int) (b : Int) ∧ wr = W5) (fun s21 _ => (intOf s21).toNat)
        case atStart => exact ⟨a, haN, rfl, rfl, rfl⟩
        case round =>
          obtain ⟨j, hj, rfl, hde, rfl⟩ := hrel
          obtain ⟨hd, hsup, hget⟩ := unhide HD
          have j0 : (0 : Int) ≤ (j : Int) := by omega
          have j1 : (j : Int) < (c : Int) := by omega
          have hcons := desc_cons hsup (hget j hj) (b : Int)
          by_cases hgt : b < j
          · have hgt' : (b : Int) < (j : Int) := by omega
            have s0 := unhide HSUP j hj
            have hs2 := supOf_in ps (show 0 < j by omega)
            obtain ⟨k, hk⟩ := Int.eq_ofNat_of_zero_le hs2.1
            dsimp only at hcons
            rw [hk] at s0 hs2 hcons
            rw [Nat.zero_add] at s0
            rw [show ((j : Int) == (b : Int)) = false by simp only [beq_eq_false_iff_ne, ne_eq]; omega, Bool.false_or] at hcons
            have HDE := hide (And.intro (hde.trans hcons) hs2)
            clear hcons hde hk hget hsup hd hs2
            go_wp2_with fail
            exact ⟨⟨k, by have := unhide HDE; omega, rfl, (unhide HDE).1, trivial⟩, by have := unhide HDE; simp [intOf]; omega⟩
          · have hgt' : ¬ (b : Int) < (j : Int) := by omega
            have hdj : j = b ↔ descB P (a : Int) (b : Int) = true := by
              rw [hde]
              constructor
              · rintro rfl
                rw [hcons]; simp
              · intro h
                have := desc_le hsup h
                omega
            have hcd : (c : Int) - 1 = (d : Int) := by omega
            have HJ := hide hdj
            clear hcons hde hget hsup hdj
            have HDD := hide hd
            clear hd
            go_wp2_with fail
            have hE1 := unhide HE false
            have hE2 := unhide HE true
            obtain ⟨hF1, hF2, hol⟩ := unhide HRF
            refine (code_runO P _ (d : Int) 5 [] _ 50 false wr (unhide HRP) (unhide HWF).1 (unhide HWF).2 (nil_sl 1 _) (by decide)).mono ?_
            rintro e w9 ⟨K, V, S, ra, rcap, out, rfl, hso, hv, hb9⟩
            rw [show ([] : List Int).length = 0 from rfl, hE1] at hv ⊢
            obtain ⟨rfl, rfl, rfl, rfl⟩ := hv rfl
            generalize HV0 : outV P (d : Int) 5 (runF P (d : Int) 5 [] 50) = V at *
            obtain ⟨⟨⟨frs, objs, told, out, stp⟩, K⟩, hR⟩ : ∃ R, R = runF P (d : Int) 5 [] 50 := ⟨_, rfl⟩
            rw [← hR] at hF1 hF2 hol hso ⊢
            dsimp only at hF1 hF2 hol hso ⊢
            have HR := hide hR
            have HFF2 := hide (And.intro hF1 hF2)
            have HSO := hide hso
            have p9 := unhide BPB w9 hb9
            have hbw9 := hbF.trans (hb9.mono hbF.size)
            clear hR hF1 hF2 hso hE1
            go_wp2_with (refine wpList_store_blk aggOut (Blk.new w9 #[.int .i64 0, .int .i64 0, .slice none 0 0, .int .i64 0] 69) 0 [.int .i64 K, .int .i64 V, .slice ra out.length rcap, .int .i64 (stp : Int)] rfl (by simp) (one4 K V (stp : Int) ra out.length rcap) (.tmp 22) (.tmp 142) rfl rfl rfl rfl ?_; intro w10 hB10 hM10 hs10; rw [putAt_all (by rfl)] at hB10; have hb10 := (box_below w9 _).trans (hM10.below (by simp) (fun k hk e => by omega)); have p10 := unhide BPB w10 (hb9.trans (hb10.mono hb9.size)))
            have hb10w := hb9.trans (hb10.mono hb9.size)
            have hbw10 := hbw9.trans (hb10.mono hbw9.size)
            refine (code_runO P _ (d : Int) 5 [] _ 50 true w10 (prog_keep (Keeps.of_below hb10w) (unhide HRP)) (unhide HWF).1 (unhide HWF).2 (nil_sl 1 _) (by decide)).mono ?_
            rintro e w11 ⟨K', V', S', ra', rcap', out', rfl, hso', hv', hb11⟩
            rw [show ([] : List Int).length = 0 from rfl, hE2] at hv' ⊢
            obtain ⟨rfl, rfl, rfl, rfl⟩ := hv' rfl
            rw [HV0]
            rw [← unhide HR] at hso' ⊢
            dsimp only at hso' ⊢
            have hbw11 := hbw10.trans (hb11.mono hbw10.size)
            have hB11 := hB10.below hb11 hB10.lt
            have HS11 := hide (And.intro (ints_keep (Keeps.of_below (hb10.trans (hb11.mono hb10.size))) (unhide HSO)) hso')
            have hlt11 := hB11.lt
            generalize w9.heap.size = h9 at *
            clear hE2 hso' hB10 hM10 hs10 p9 p10
            go_wp2_with (refine wpList_store_blk aggOut (Blk.new w11 #[.int .i64 0, .int .i64 0, .slice none 0 0, .int .i64 0] 69) 0 [.int .i64 K, .int .i64 V, .slice ra' out.length rcap', .int .i64 (stp : Int)] rfl (by simp) (one4 K V (stp : Int) ra' out.length rcap') (.tmp 24) (.tmp 149) rfl rfl rfl rfl ?_; intro w12 hB12 hM12 hs12; rw [putAt_all (by rfl)] at hB12; have hB13 := (hB11.alloc (.cells #[.int .i64 0, .int .i64 0, .slice none 0 0, .int .i64 0] 69)).mods hM12 (by omega); have a0 : w12.cell? ⟨h9, 0, none⟩ = some (.int .i64 K) := hB13.cell 0; have a1 : w12.cell? ⟨h9, 1, none⟩ = some (.int .i64 V) := hB13.cell 1; have a2 : w12.cell? ⟨h9, 2, none⟩ = some (.slice ra out.length rcap) := hB13.cell 2; have a3 : w12.cell? ⟨h9, 3, none⟩ = some (.int .i64 (stp : Int)) := hB13.cell 3; have b0 : w12.cell? ⟨w11.heap.size, 0, none⟩ = some (.int .i64 K) := hB12.cell 0; have b1 : w12.cell? ⟨w11.heap.size, 1, none⟩ = some (.int .i64 V) := hB12.cell 1; have b2 : w12.cell? ⟨w11.heap.size, 2, none⟩ = some (.slice ra' out.length rcap') := hB12.cell 2; have b3 : w12.cell? ⟨w11.heap.size, 3, none⟩ = some (.int .i64 (stp : Int)) := hB12.cell 3)
            have hb12 := (box_below w11 _).trans (hM12.below (by simp) (fun k hk e => by omega))
            have hbw12 := hbw11.trans (hb12.mono hbw11.size)
            refine (keep_same K V (stp : Int) _ _ out w12 (ints_keep (Keeps.of_below hb12) (unhide HS11).1) (ints_keep (Keeps.of_below hb12) (unhide HS11).2) (by omega)).mono ?_
            rintro e w13 ⟨rfl, hb13⟩
            have hB14 := hB13.below hb13 hB13.lt
            have hbw13 := hbw12.trans (hb13.mono hbw12.size)
            have HSF := hide (ints_keep (Keeps.of_below (hb12.trans (hb13.mono hb12.size))) (unhide HS11).1)
            have d0 : w13.cell? ⟨h9, 0, none⟩ = some (.int .i64 K) := hB14.cell 0
            have d1 : w13.cell? ⟨h9, 1, none⟩ = some (.int .i64 V) := hB14.cell 1
            have d2 : w13.cell? ⟨h9, 2, none⟩ = some (.slice ra out.length rcap) := hB14.cell 2
            have d3 : w13.cell? ⟨h9, 3, none⟩ = some (.int .i64 (stp : Int)) := hB14.cell 3
            clear a0 a1 a2 a3 b0 b1 b2 b3 hB12 hB13 hM12 hs12
            obtain ⟨hF1, hF2⟩ := unhide HFF2
            cases hdd : descB P (a : Int) (b : Int) with
            | false =>
              have hjb : ((j : Int) != (b : Int)) = true := by
                have : ¬ j = b := fun e => by have := (unhide HJ).1 e; rw [hdd] at this; cases this
                simp only [bne_iff_ne, ne_eq]; omega
              obtain ⟨rfl, rfl⟩ := hF1 hdd
              clear hF1 hF2 hdd
              go_wp2_with fail
              go_ret
              exact ⟨rfl, hbw13⟩
            | true =>
              obtain rfl := (unhide HJ).2 hdd
              obtain ⟨z, hz1, _, _, hz2⟩ := bound_meth3 (a := 0) (b := 0) (bl_ok ps os (n := c) (by omega) (by omega)) a (by rw [blL_len]; omega)
              rw [blL_len] at hz2
              rw [show (whL ps os c).getD a 0 = (z : Int) by rw [List.getD_eq_getElem?_getD, hz1]; rfl] at hF2
              obtain ⟨rfl, rfl, rfl⟩ := hF2 hdd
              clear hF1 hF2 hdd
              have hh := unhide HOW
              rw [whL_len] at hh
              obtain ⟨gw, wcap, rfl, _, _, hwr⟩ := own_read hh hcN
              have hball := ((hb10w.trans (hb11.mono hb10w.size)).trans (hb12.mono (hb10w.trans (hb11.mono hb10w.size)).size)).trans (hb13.mono ((hb10w.trans (hb11.mono hb10w.size)).trans (hb12.mono (hb10w.trans (hb11.mono hb10w.size)).size)).size)
              have s0 : w13.cell? ⟨gw, a, none⟩ = some (.int .i64 (z : Int)) := Keeps.of_below hball _ _ (by rw [hwr a (by omega), List.getElem?_map, hz1]; rfl)
              obtain ⟨ra1, rb, roff, rcap1, hre, _, hra1, hrr⟩ := ints_open (unhide HSF)
              simp only [Value.slice.injEq, true_and] at hre
              obtain ⟨rfl, rfl⟩ := hre
              obtain rfl := hra1 (by simp)
              have r0 : w13.cell? ⟨rb, roff, none⟩ = some (.int .i64 (100 + (z : Int))) := hrr 0 (by simp)
              have a0 : (0 : Int) ≤ (a : Int) := by omega
              have a1 : (a : Int) < (c : Int) := by omega
              clear hwr hh hrr hra1 hball
              go_wp2_with fail
              go_quiet (fail)
              go_wp2_with fail
              go_ret
              exact ⟨rfl, hbw13.trans ⟨rfl, rfl, rfl, Nat.le_refl _, fun _ _ => rfl⟩⟩
      · go_simp
        refine hK.out _ _ HSa (fun hHeld => ?_)
        clear hK K
        try simp only [Act.put, List.setIfInBounds_toArray, List.set_cons_zero, List.set_cons_succ]
        refine wpAnyH_ready (rs := [6]) (by kernel_rfl) (by simp) ?_
        refine AllReadyH.cons rfl (fun K hK => ?_) AllReadyH.nil
        go_simp
        refine hK.out _ _ HSa (fun hHeld => ?_)
        clear hK K
        try simp only [Act.put, List.setIfInBounds_toArray, List.set_cons_zero, List.set_cons_succ]
        refine wpAnyH_ready (rs := [9]) (by kernel_rfl) (by simp) ?_
        refine AllReadyH.cons rfl (fun K hK => ?_) AllReadyH.nil
        refine wp_append_run (.tmp 121) (.tmp 123) 64 rfl _ _ rfl rfl happ ?_
        go_simp
        refine hK.out _ _ HS4 (fun hHeld => ?_)
        clear hK K
        try simp only [Act.put, List.setIfInBounds_toArray, List.set_cons_zero, List.set_cons_succ]
        refine take_x (some 125) 10 rfl rfl ?_
        refine take_x (some 126) 11 rfl rfl ?_
        refine wpAnyH_ready (rs := [12]) (by kernel_rfl) (by simp) ?_
        refine AllReadyH.cons rfl (fun K hK => ?_) AllReadyH.nil
        go_simp
        refine hK.out _ _ HS5 (fun hHeld => ?_)
        clear hK K
        try simp only [Act.put, List.setIfInBounds_toArray, List.set_cons_zero, List.set_cons_succ]
        refine wpAnyH_done (by kernel_rfl) ?_ _
        refine NoPanic.normal ?_
        have p5 := HS5.1
        clear happ HS0 HSa HS4 HS5 c4 f4 hca hc0 p0 hSS hn2 hgm hHeld
        generalize w4.setCell ⟨gc, 2, none⟩ (.slice a' n' cap') = W5 at *
        obtain ⟨hbF, hRF, howF, hB⟩ := unhide HFF
        have haN : a < c := by omega
        have hbN : b < c := by omega
        obtain ⟨d, hd⟩ : ∃ d : Nat, c = d + 1 := ⟨c - 1, by omega⟩
        have hcd : (c : Int) - 1 = (d : Int) := by omega
        have hdN : d < c := by omega
        have HE := hide (bound_runE hB haN hbN hdN)
        have HRF := hide (bound_runF hB haN hbN hdN)
        have hsup := bound_sup (a := (a : Int)) (b := (b : Int)) hB
        have HWF := hide (And.intro (bound_wf (a := (a : Int)) (b := (b : Int)) hB (by rw [blL_len]; omega) (by rw [blL_len]; omega)) (bound_sz (a := (a : Int)) (b := (b : Int)) hB))
        have hget : ∀ j : Nat, j < c → (boundP (a : Int) (b : Int) (blL ps os c))[j]? = some ⟨supOf ps j, [], methsB a b j (supOf ps j, mineOf os j)⟩ := fun j hj => by
          rw [boundP_get]
          unfold blL
          rw [List.getElem?_map, List.getElem?_range hj]
          rfl
        generalize boundP (a : Int) (b : Int) (blL ps os c) = P at *
        have HRP := hide hRF
        have HSUP : Hid (∀ j : Nat, j < c → W5.cell? ⟨gc, 0 + j * 3, none⟩ = some (.int .i64 (supOf ps j))) := fun j hj => by
          obtain ⟨qa, qb, qo, qc, e1, _, _, hr⟩ := hRF
          obtain ⟨vf, vm, e2, _⟩ := hr j _ (hget j hj)
          have hq : qa = some ⟨qb, qo, none⟩ := by
            rename_i hh _
            rcases hh with ⟨h1, h2⟩
            exact h1 (fun e => by have := hget j hj; rw [e] at this; cases this)
          rw [hq] at e1
          simp only [Value.slice.injEq, Option.some.injEq, Addr.mk.injEq] at e1
          obtain ⟨⟨rfl, rfl, _⟩, _⟩ := e1
          exact e2
        have HD := hide (And.intro hd (And.intro hsup hget))
        have BPB : Hid (∀ U, Below W5.heap.size W5 U → U.cell? ⟨bp, 0, none⟩ = some (.slice (some ⟨gc, 0, none⟩) c ccap)) := fun U hU => Keeps.of_below hU _ _ p5
        have HOW := hide howF
        clear hRF hB hd hsup hget HFF hcd howF
        go_wp2_with fail
        go_loopw [21] (fun s21 wr => ∃ j : Nat, j < c ∧ s21 = .int .i64 j ∧ descB P (a : Int) (b : Int) = descB P (j : Int) (b : Int) ∧ wr = W5) (fun s21 _ => (intOf s21).toNat)
        case atStart => exact ⟨a, haN, rfl, rfl, rfl⟩
        case round =>
          obtain ⟨j, hj, rfl, hde, rfl⟩ := hrel
          obtain ⟨hd, hsup, hget⟩ := unhide HD
          have j0 : (0 : Int) ≤ (j : Int) := by omega
          have j1 : (j : Int) < (c : Int) := by omega
          have hcons := desc_cons hsup (hget j hj) (b : Int)
          by_cases hgt : b < j
          · have hgt' : (b : Int) < (j : Int) := by omega
            have s0 := unhide HSUP j hj
            have hs2 := supOf_in ps (show 0 < j by omega)
            obtain ⟨k, hk⟩ := Int.eq_ofNat_of_zero_le hs2.1
            dsimp only at hcons
            rw [hk] at s0 hs2 hcons
            rw [Nat.zero_add] at s0
            rw [show ((j : Int) == (b : Int)) = false by simp only [beq_eq_false_iff_ne, ne_eq]; omega, Bool.false_or] at hcons
            have HDE := hide (And.intro (hde.trans hcons) hs2)
            clear hcons hde hk hget hsup hd hs2
            go_wp2_with fail
            exact ⟨⟨k, by have := unhide HDE; omega, rfl, (unhide HDE).1, trivial⟩, by have := unhide HDE; simp [intOf]; omega⟩
          · have hgt' : ¬ (b : Int) < (j : Int) := by omega
            have hdj : j = b ↔ descB P (a : Int) (b : Int) = true := by
              rw [hde]
              constructor
              · rintro rfl
                rw [hcons]; simp
              · intro h
                have := desc_le hsup h
                omega
            have hcd : (c : Int) - 1 = (d : Int) := by omega
            have HJ := hide hdj
            clear hcons hde hget hsup hdj
            have HDD := hide hd
            clear hd
            go_wp2_with fail
            have hE1 := unhide HE false
            have hE2 := unhide HE true
            obtain ⟨hF1, hF2, hol⟩ := unhide HRF
            refine (code_runO P _ (d : Int) 5 [] _ 50 false wr (unhide HRP) (unhide HWF).1 (unhide HWF).2 (nil_sl 1 _) (by decide)).mono ?_
            rintro e w9 ⟨K, V, S, ra, rcap, out, rfl, hso, hv, hb9⟩
            rw [show ([] : List Int).length = 0 from rfl, hE1] at hv ⊢
            obtain ⟨rfl, rfl, rfl, rfl⟩ := hv rfl
            generalize HV0 : outV P (d : Int) 5 (runF P (d : Int) 5 [] 50) = V at *
            obtain ⟨⟨⟨frs, objs, told, out, stp⟩, K⟩, hR⟩ : ∃ R, R = runF P (d : Int) 5 [] 50 := ⟨_, rfl⟩
            rw [← hR] at hF1 hF2 hol hso ⊢
            dsimp only at hF1 hF2 hol hso ⊢
            have HR := hide hR
            have HFF2 := hide (And.intro hF1 hF2)
            have HSO := hide hso
            have p9 := unhide BPB w9 hb9
            have hbw9 := hbF.trans (hb9.mono hbF.size)
            clear hR hF1 hF2 hso hE1
            go_wp2_with (refine wpList_store_blk aggOut (Blk.new w9 #[.int .i64 0, .int .i64 0, .slice none 0 0, .int .i64 0] 69) 0 [.int .i64 K, .int .i64 V, .slice ra out.length rcap, .int .i64 (stp : Int)] rfl (by simp) (one4 K V (stp : Int) ra out.length rcap) (.tmp 22) (.tmp 142) rfl rfl rfl rfl ?_; intro w10 hB10 hM10 hs10; rw [putAt_all (by rfl)] at hB10; have hb10 := (box_below w9 _).trans (hM10.below (by simp) (fun k hk e => by omega)); have p10 := unhide BPB w10 (hb9.trans (hb10.mono hb9.size)))
            have hb10w := hb9.trans (hb10.mono hb9.size)
            have hbw10 := hbw9.trans (hb10.mono hbw9.size)
            refine (code_runO P _ (d : Int) 5 [] _ 50 true w10 (prog_keep (Keeps.of_below hb10w) (unhide HRP)) (unhide HWF).1 (unhide HWF).2 (nil_sl 1 _) (by decide)).mono ?_
            rintro e w11 ⟨K', V', S', ra', rcap', out', rfl, hso', hv', hb11⟩
            rw [show ([] : List Int).length = 0 from rfl, hE2] at hv' ⊢
            obtain ⟨rfl, rfl, rfl, rfl⟩ := hv' rfl
            rw [HV0]
            rw [← unhide HR] at hso' ⊢
            dsimp only at hso' ⊢
            have hbw11 := hbw10.trans (hb11.mono hbw10.size)
            have hB11 := hB10.below hb11 hB10.lt
            have HS11 := hide (And.intro (ints_keep (Keeps.of_below (hb10.trans (hb11.mono hb10.size))) (unhide HSO)) hso')
            have hlt11 := hB11.lt
            generalize w9.heap.size = h9 at *
            clear hE2 hso' hB10 hM10 hs10 p9 p10
            go_wp2_with (refine wpList_store_blk aggOut (Blk.new w11 #[.int .i64 0, .int .i64 0, .slice none 0 0, .int .i64 0] 69) 0 [.int .i64 K, .int .i64 V, .slice ra' out.length rcap', .int .i64 (stp : Int)] rfl (by simp) (one4 K V (stp : Int) ra' out.length rcap') (.tmp 24) (.tmp 149) rfl rfl rfl rfl ?_; intro w12 hB12 hM12 hs12; rw [putAt_all (by rfl)] at hB12; have hB13 := (hB11.alloc (.cells #[.int .i64 0, .int .i64 0, .slice none 0 0, .int .i64 0] 69)).mods hM12 (by omega); have a0 : w12.cell? ⟨h9, 0, none⟩ = some (.int .i64 K) := hB13.cell 0; have a1 : w12.cell? ⟨h9, 1, none⟩ = some (.int .i64 V) := hB13.cell 1; have a2 : w12.cell? ⟨h9, 2, none⟩ = some (.slice ra out.length rcap) := hB13.cell 2; have a3 : w12.cell? ⟨h9, 3, none⟩ = some (.int .i64 (stp : Int)) := hB13.cell 3; have b0 : w12.cell? ⟨w11.heap.size, 0, none⟩ = some (.int .i64 K) := hB12.cell 0; have b1 : w12.cell? ⟨w11.heap.size, 1, none⟩ = some (.int .i64 V) := hB12.cell 1; have b2 : w12.cell? ⟨w11.heap.size, 2, none⟩ = some (.slice ra' out.length rcap') := hB12.cell 2; have b3 : w12.cell? ⟨w11.heap.size, 3, none⟩ = some (.int .i64 (stp : Int)) := hB12.cell 3)
            have hb12 := (box_below w11 _).trans (hM12.below (by simp) (fun k hk e => by omega))
            have hbw12 := hbw11.trans (hb12.mono hbw11.size)
            refine (keep_same K V (stp : Int) _ _ out w12 (ints_keep (Keeps.of_below hb12) (unhide HS11).1) (ints_keep (Keeps.of_below hb12) (unhide HS11).2) (by omega)).mono ?_
            rintro e w13 ⟨rfl, hb13⟩
            have hB14 := hB13.below hb13 hB13.lt
            have hbw13 := hbw12.trans (hb13.mono hbw12.size)
            have HSF := hide (ints_keep (Keeps.of_below (hb12.trans (hb13.mono hb12.size))) (unhide HS11).1)
            have d0 : w13.cell? ⟨h9, 0, none⟩ = some (.int .i64 K) := hB14.cell 0
            have d1 : w13.cell? ⟨h9, 1, none⟩ = some (.int .i64 V) := hB14.cell 1
            have d2 : w13.cell? ⟨h9, 2, none⟩ = some (.slice ra out.length rcap) := hB14.cell 2
            have d3 : w13.cell? ⟨h9, 3, none⟩ = some (.int .i64 (stp : Int)) := hB14.cell 3
            clear a0 a1 a2 a3 b0 b1 b2 b3 hB12 hB13 hM12 hs12
            obtain ⟨hF1, hF2⟩ := unhide HFF2
            cases hdd : descB P (a : Int) (b : Int) with
            | false =>
              have hjb : ((j : Int) != (b : Int)) = true := by
                have : ¬ j = b := fun e => by have := (unhide HJ).1 e; rw [hdd] at this; cases this
                simp only [bne_iff_ne, ne_eq]; omega
              obtain ⟨rfl, rfl⟩ := hF1 hdd
              clear hF1 hF2 hdd
              go_wp2_with fail
              go_ret
              exact ⟨rfl, hbw13⟩
            | true =>
              obtain rfl := (unhide HJ).2 hdd
              obtain ⟨z, hz1, _, _, hz2⟩ := bound_meth3 (a := 0) (b := 0) (bl_ok ps os (n := c) (by omega) (by omega)) a (by rw [blL_len]; omega)
              rw [blL_len] at hz2
              rw [show (whL ps os c).getD a 0 = (z : Int) by rw [List.getD_eq_getElem?_getD, hz1]; rfl] at hF2
              obtain ⟨rfl, rfl, rfl⟩ := hF2 hdd
              clear hF1 hF2 hdd
              have hh := unhide HOW
              rw [whL_len] at hh
              obtain ⟨gw, wcap, rfl, _, _, hwr⟩ := own_read hh hcN
              have hball := ((hb10w.trans (hb11.mono hb10w.size)).trans (hb12.mono (hb10w.trans (hb11.mono hb10w.size)).size)).trans (hb13.mono ((hb10w.trans (hb11.mono hb10w.size)).trans (hb12.mono (hb10w.trans (hb11.mono hb10w.size)).size)).size)
              have s0 : w13.cell? ⟨gw, a, none⟩ = some (.int .i64 (z : Int)) := Keeps.of_below hball _ _ (by rw [hwr a (by omega), List.getElem?_map, hz1]; rfl)
              obtain ⟨ra1, rb, roff, rcap1, hre, _, hra1, hrr⟩ := ints_open (unhide HSF)
              simp only [Value.slice.injEq, true_and] at hre
              obtain ⟨rfl, rfl⟩ := hre
              obtain rfl := hra1 (by simp)
              have r0 : w13.cell? ⟨rb, roff, none⟩ = some (.int .i64 (100 + (z : Int))) := hrr 0 (by simp)
              have a0 : (0 : Int) ≤ (a : Int) := by omega
              have a1 : (a : Int) < (c : Int) := by omega
              clear hwr hh hrr hra1 hball
              go_wp2_with fail
              go_quiet (fail)
              go_wp2_with fail
              go_ret
              exact ⟨rfl, hbw13.trans ⟨rfl, rfl, rfl, Nat.le_refl _, fun _ _ => rfl⟩⟩
end Go.Proofs.YtiiokkllmchohaaGreat
/- RowB -/
namespace Go.Proofs.YtiiokkllmchohaaGreat
open Go.ChangeShapes Go.WideShapes Go.ChangeAt Go.RowKit

set_option maxRecDepth 100000 in
theorem bound_lifted (os : Os) (started : os.Started) (H : Type) (enc : TypeId × Value → H) :
    ReturnsInHanded {} Tryz.checked os 10 .any (Rows.boundSpec.pre6 enc Tryz.prog Tryz.f10 Rows.boundRow.domain false) (Rows.boundSpec.post enc Tryz.prog Tryz.f10 false true false false) := by
  refine returnsInHanded_of_change (C := Tryz.checked) keep_knob started (by kernel_rfl) Tryz.func10
    (ChangeSpec.witness6 (enc := enc) (C := Tryz.checked) false ⟨#[], #[.slice none 0 0, .slice none 0 0, .int .i64 0, .int .i64 0], []⟩ 8 (by kernel_rfl) (by kernel_rfl) (by kernel_rfl) (by kernel_rfl)) ?_
  intro W base args ds gs before hval0 hW hcnd _
  have hval : ∀ (j : Nat) t v, Tryz.f10.params[j]? = some t → args[j]? = some v → Value.okWide Tryz.prog W .any base t v := hval0
  have hW' := hW
  obtain ⟨p, q, hA0, hV, rfl, hfz, hnd⟩ := hW
  have hA : DataW.TrodAll enc Tryz.prog W 0 (fun _ => true) true Tryz.f10.params.toList args.toList ds p := hA0
  rw [Tryz.params10] at hA hval
  obtain ⟨v0, v1, v2, v3, d0, d1, d2, d3, p0, p1, p2, p3, rfl, rfl, rfl, h0, h1, h2, h3⟩ := trodAll_four hA
  obtain ⟨rfl, rfl⟩ := trodVars_none hV
  obtain ⟨l, hl, hl64, _⟩ := open_intsV (v := v0) (hval 0 51 v0 rfl rfl) h0
  obtain ⟨l', hl', hl64', _⟩ := open_intsV (v := v1) (hval 1 51 v1 rfl rfl) h1
  obtain ⟨n2, rfl, rfl, _, hf2⟩ := open_int Tryz.underlying3 (hval 2 3 v2 rfl rfl) h2
  obtain ⟨n3, rfl, rfl, _, hf3⟩ := open_int Tryz.underlying3 (hval 3 3 v3 rfl rfl) h3
  have hlen : (l.length : Int) ≤ 9223372036854775807 := by
    obtain ⟨a, _, _, cap, e, _⟩ := hl
    have := hval 0 51 v0 rfl rfl
    rw [e] at this
    exact okw_len this
  have hlen' : (l'.length : Int) ≤ 9223372036854775807 := by
    obtain ⟨a, _, _, cap, e, _⟩ := hl'
    have := hval 1 51 v1 rfl rfl
    rw [e] at this
    exact okw_len this
  clear hA0
  refine (keep_bound l l' v0 v1 n2 n3 W hl hl' hl64 hl64' hlen hlen' (wf_i64 hf2) (wf_i64 hf3)).mono fun e W' ⟨he, hB⟩ => ?_
  subst he
  have e1 : Rows.boundSpec.fn H ([d0, d1, .lit (.int .i64 n2), .lit (.int .i64 n3)] ++ []) = { results := [.lit (.bool true)], args := [d0, d1, .lit (.int .i64 n2), .lit (.int .i64 n3)] } := rfl
  refine ⟨_, rfl, _, _, _, [], p0 ++ (p1 ++ (p2 ++ p3)), [], hW', ?_, ?_, ?_, hB.frame _, fun h => by cases h⟩
  · rw [e1]
    exact trodAll_mk1 (shut_bool Tryz.underlying4 _)
  · rw [e1]
    exact trodAll_mk4 (Below.trod keep_laid (by kernel_rfl) (of_decide_eq_true (by kernel_rfl)) h0 hB (fun x hx => hW'.lt x (by simp [hx]))) (Below.trod keep_laid (by kernel_rfl) (of_decide_eq_true (by kernel_rfl)) h1 hB (fun x hx => hW'.lt x (by simp [hx]))) (Below.trod keep_laid (by kernel_rfl) (of_decide_eq_true (by kernel_rfl)) h2 hB (fun x hx => hW'.lt x (by simp [hx]))) (Below.trod keep_laid (by kernel_rfl) (of_decide_eq_true (by kernel_rfl)) h3 hB (fun x hx => hW'.lt x (by simp [hx])))
  · rw [e1]
    rfl
theorem bound_over : Rows.boundRow.holds Tryz.pinned (OpenSpec.ofChange Rows.boundSpec) :=
  OpenClaim.holds_of_wide 10 Tryz.f10 rfl rfl rfl rfl rfl rfl rfl ⟨rfl, rfl, rfl, rfl, rfl⟩ rfl rfl rfl rfl rfl (by kernel_rfl) Tryz.func10 (by kernel_rfl)
    (of_decide_eq_true (by kernel_rfl)) (by unfold Func.isWrapper; first | (rw [if_pos (by decide +kernel)]; kernel_rfl) | (rw [if_neg (by decide +kernel)]; exact ⟨rfl, rfl⟩))
    (fun os started H enc _ => bound_lifted os started H enc)
theorem bound_holds : Rows.BoundSaid := bound_over
end Go.Proofs.YtiiokkllmchohaaGreat
