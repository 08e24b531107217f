/- The document's answer: join, states below states. -/
import Derived.Test.YtiiokkllmchohaaGreatT17
import Derived.Test.YtiiokkllmchohaaGreatT23
import Derived.Test.YtiiokkllmchohaaGreatT27
import Derived.Test.YtiiokkllmchohaaGreatT30
namespace Go.Proofs.YtiiokkllmchohaaGreat
open Go.RowKit Go.Shelf
attribute [local go_sem ↓] Go.wp_at_zero Go.wp_at_succ
attribute [local go_sem] frz_drew
set_option maxHeartbeats 1000000 in
set_option maxRecDepth 100000 in
theorem rs_join (p : List LClass) (vc : Value) (a b : Int) (w : World) (hp : RProg w vc p) (hs : SupOk p p.length) (h6 : p.length ≤ 6) (ha : tyOk p.length a) (hb : tyOk p.length b) :
  Calls Tryz.prog 153 #[.agg #[vc], .int .i64 a, .int .i64 b] w fun e w' => e = .returned (.int .i64 (joinB p a b)) ∧ Below w.heap.size w w' := by
 have HP := hide hp
 have HJ := hide (rJ_is hs h6 ha hb)
 obtain ⟨pa, _, _, pcap, rfl, _⟩ := hp
 have hbel := box_below w (.cells #[.slice pa p.length pcap] 24)
 have B0 := Blk.new w #[.slice pa p.length pcap] 24
 go_enter Tryz.func153, Tryz.ntmps153
 go_wp2_with fail
 generalize w.alloc _ = W at *
 have hbox : W.cell? ⟨w.heap.size, 0, none⟩ = some (.slice pa p.length pcap) := B0.cell 0
 clear B0
 go_loopw [7, 8] (fun s i wr => ∃ k : Nat, k ≤ p.length + 3 ∧ i = .int .i64 k ∧ s = .int .i64 (rJ p a b k) ∧ tyOk p.length (rJ p a b k) ∧ Below W.heap.size W wr) (fun _ i _ => p.length + 3 - (intOf i).toNat)
 case atStart => exact ⟨0, by omega, rfl, rfl, ⟨by unfold rJ; omega, by unfold rJ; omega⟩, Below.refl _ _⟩
 case round =>
  obtain ⟨k, hk, rfl, rfl, hT, hbr⟩ := hrel
  have hf := hbel.trans (hbr.mono hbel.size)
  have e0 := Keeps.of_below hbr _ _ hbox
  by_cases hlt : k < p.length + 3
  ·have HS : Hid (rJ p a b (k + 1) = if belowB p a (k : Int) && belowB p b (k : Int) && belowB p (k : Int) (rJ p a b k) then (k : Int) else rJ p a b k) := rfl
   generalize rJ p a b k = best at *
   have k1 : (k : Int) < 3 + (p.length : Int) := by omega
   have hpl : p.length ≤ 4194304 := by omega
   have hk3 : tyOk p.length (k : Int) := ⟨by omega, by omega⟩
   go_wp2_with fail
   refine (rs_below p _ a (k : Int) wr (prog_keep (Keeps.of_below hf) (unhide HP)) hs hpl ha hk3).mono ?_
   rintro e w1 ⟨rfl, hb1⟩
   have hr1 := hbr.trans (hb1.mono hbr.size)
   have hf1 := hf.trans (hb1.mono hf.size)
   have e1 := Keeps.of_below hr1 _ _ hbox
   generalize belowB p a (k : Int) = q1 at *
   clear hb1 e0 hbr
   go_wp2_with fail
   refine (rs_below p _ b (k : Int) w1 (prog_keep (Keeps.of_below hf1) (unhide HP)) hs hpl hb hk3).mono ?_
   rintro e w2 ⟨rfl, hb2⟩
   have hr2 := hr1.trans (hb2.mono hr1.size)
   have hf2 := hf1.trans (hb2.mono hf1.size)
   have e2 := Keeps.of_below hr2 _ _ hbox
   generalize belowB p b (k : Int) = q2 at *
   clear hb2 e1 hr1
   go_wp2_with fail
   refine (rs_below p _ (k : Int) best w2 (prog_keep (Keeps.of_below hf2) (unhide HP)) hs hpl hk3 hT).mono ?_
   rintro e w3 ⟨rfl, hb3⟩
   have hr3 := hr2.trans (hb3.mono hr2.size)
   generalize belowB p (k : Int) best = q3 at *
   clear hb3 e2 hr2
   have hfin : ∀ z : Int, z = (if q1 && q2 && q3 then (k : Int) else best) → tyOk p.length (rJ p a b (k + 1)) ∧ z = rJ p a b (k + 1) := fun z hz => by
    rw [unhide HS, ← hz]
    refine ⟨?_, rfl⟩
    rw [hz]
    split
    ·exact hk3
    ·exact hT
   have HFn := hide hfin
   clear hfin HS
   cases q1 with
   | false =>
    go_wp2_with fail
    exact ⟨⟨k + 1, by omega, by go_num, congrArg (Value.int .i64) (unhide HFn _ rfl).2, (unhide HFn _ rfl).1, hr3⟩, by simp [intOf]; omega⟩
   | true =>
    cases q2 with
    | false =>
     go_wp2_with fail
     exact ⟨⟨k + 1, by omega, by go_num, congrArg (Value.int .i64) (unhide HFn _ rfl).2, (unhide HFn _ rfl).1, hr3⟩, by simp [intOf]; omega⟩
    | true =>
     cases q3 with
     | false =>
      go_wp2_with fail
      exact ⟨⟨k + 1, by omega, by go_num, congrArg (Value.int .i64) (unhide HFn _ rfl).2, (unhide HFn _ rfl).1, hr3⟩, by simp [intOf]; omega⟩
     | true =>
      go_wp2_with fail
      exact ⟨⟨k + 1, by omega, by go_num, congrArg (Value.int .i64) (unhide HFn _ rfl).2, (unhide HFn _ rfl).1, hr3⟩, by simp [intOf]; omega⟩
  ·obtain rfl : k = p.length + 3 := by omega
   obtain ⟨j, hj⟩ : ∃ j, j = rJ p a b (p.length + 3) := ⟨_, rfl⟩
   rw [← hj]
   have HJJ := hide (hj.trans (unhide HJ))
   have k1 : ¬ ((p.length + 3 : Nat) : Int) < 3 + (p.length : Int) := by omega
   clear hj hT
   go_wp2_with fail
   go_ret
   exact ⟨ret_int (unhide HJJ), hf⟩
def underB (p : List LClass) (s t : TSt) : Bool := (s.stk.length == t.stk.length) && (s.loc.length == t.loc.length) && ((s.stk.zip t.stk).all fun x => belowB p x.1 x.2) && ((s.loc.zip t.loc).all fun x => belowB p x.1 x.2)
def StG (g : Addr → Option Value) (s : TSt) (vl vs : Value) : Prop := SlAt 1 (GInt g) vl s.loc ∧ SlAt 1 (GInt g) vs s.stk
theorem StG.keep {g g' : Addr → Option Value} (h : GLe g g') {s : TSt} {vl vs : Value} (r : StG g s vl vs) : StG g' s vl vs := ⟨ints_keep h r.1, ints_keep h r.2⟩
theorem zip_snoc (f : Int × Int → Bool) {l u : List Int} {k : Nat} (h1 : k < l.length) (h2 : k < u.length) : ((l.take (k + 1)).zip (u.take (k + 1))).all f = (((l.take k).zip (u.take k)).all f && f (l[k], u[k])) := by
 rw [List.take_add_one, List.take_add_one, List.getElem?_eq_getElem h1, List.getElem?_eq_getElem h2, List.zip_append (by simp; omega), List.all_append]
 simp
theorem zip_no (f : Int × Int → Bool) {l u : List Int} {k : Nat} (h1 : k < l.length) (h2 : k < u.length) (h : f (l[k], u[k]) = false) : (l.zip u).all f = false := by
 rw [List.all_eq_false]
 exact ⟨(l[k], u[k]), by rw [← List.getElem_zip (h := by simp; omega)]; exact List.getElem_mem _, by rw [h]; simp⟩
set_option maxHeartbeats 2000000 in
set_option maxRecDepth 100000 in
theorem rs_under (p : List LClass) (vc : Value) (s t : TSt) (ia ib : Bool) (val vas vbl vbs : Value) (w : World) (hp : RProg w vc p) (hs : SupOk p p.length) (hz : p.length ≤ 4194304) (hA : StG w.cell? s val vas) (hB : StG w.cell? t vbl vbs) (tA : TIn p s) (tB : TIn p t) (l1 : s.loc.length ≤ 4194304) (l2 : s.stk.length ≤ 4194304) :
  Calls Tryz.prog 99 #[.agg #[vc], .agg #[.bool ia, val, vas], .agg #[.bool ib, vbl, vbs]] w fun e w' => e = .returned (.bool (underB p s t)) ∧ Below w.heap.size w w' := by
 have HP := hide hp
 obtain ⟨pa, _, _, pcap, rfl, _⟩ := hp
 obtain ⟨ala, alb, alo, alc, rfl, _, halh, halr⟩ := ints_open hA.1
 obtain ⟨asa, asb, aso, asc, rfl, _, hash, hasr⟩ := ints_open hA.2
 obtain ⟨bla, blb, blo, blc, rfl, _, hblh, hblr⟩ := ints_open hB.1
 obtain ⟨bsa, bsb, bso, bsc, rfl, _, hbsh, hbsr⟩ := ints_open hB.2
 have HAL := hide halr
 have HAS := hide hasr
 have HBL := hide hblr
 have HBS := hide hbsr
 clear halr hasr hblr hbsr hA hB
 have hbel : Below w.heap.size w (((w.alloc (.cells #[.slice pa p.length pcap] 24)).alloc (.cells #[.bool ia, .slice ala s.loc.length alc, .slice asa s.stk.length asc] 149)).alloc (.cells #[.bool ib, .slice bla t.loc.length blc, .slice bsa t.stk.length bsc] 149)) := (box2_below _ _ _).alloc (by simp; omega) _
 have B0 := ((Blk.new w #[.slice pa p.length pcap] 24).alloc (.cells #[.bool ia, .slice ala s.loc.length alc, .slice asa s.stk.length asc] 149)).alloc (.cells #[.bool ib, .slice bla t.loc.length blc, .slice bsa t.stk.length bsc] 149)
 have B1 := (Blk.new (w.alloc (.cells #[.slice pa p.length pcap] 24)) #[.bool ia, .slice ala s.loc.length alc, .slice asa s.stk.length asc] 149).alloc (.cells #[.bool ib, .slice bla t.loc.length blc, .slice bsa t.stk.length bsc] 149)
 have B2 := Blk.new ((w.alloc (.cells #[.slice pa p.length pcap] 24)).alloc (.cells #[.bool ia, .slice ala s.loc.length alc, .slice asa s.stk.length asc] 149)) #[.bool ib, .slice bla t.loc.length blc, .slice bsa t.stk.length bsc] 149
 rw [World.size_alloc] at B1
 rw [World.size_alloc, World.size_alloc] at B2
 go_enter Tryz.func99, Tryz.ntmps99
 by_cases h1 : s.stk.length = t.stk.length
 rotate_left
 ·have h1' : ((s.stk.length : Int) == (t.stk.length : Int)) = false := by simpa using fun h : (s.stk.length : Int) = t.stk.length => h1 (by omega)
  have HN : Hid (underB p s t = false) := by show _ = _; unfold underB; rw [show (s.stk.length == t.stk.length) = false by simpa using h1]; rfl
  clear h1
  go_wp2_with fail
  go_ret
  exact ⟨ret_bool (unhide HN).symm, hbel⟩
 by_cases h2 : s.loc.length = t.loc.length
 rotate_left
 ·have h2' : ((s.loc.length : Int) == (t.loc.length : Int)) = false := by simpa using fun h : (s.loc.length : Int) = t.loc.length => h2 (by omega)
  have HN : Hid (underB p s t = false) := by show _ = _; unfold underB; rw [show (s.loc.length == t.loc.length) = false by simpa using h2, Bool.and_false]; rfl
  rw [← h1] at hbel ⊢
  clear h2 h1
  go_wp2_with fail
  go_ret
  exact ⟨ret_bool (unhide HN).symm, hbel⟩
 have HU : Hid (underB p s t = (((s.stk.zip t.stk).all fun x => belowB p x.1 x.2) && ((s.loc.zip t.loc).all fun x => belowB p x.1 x.2))) := by show _ = _; unfold underB; rw [h1, h2]; simp
 have H1 := hide h1
 have H2 := hide h2
 rw [← h1, ← h2] at hbel B0 B1 B2 ⊢
 have hash' : t.stk ≠ [] → bsa = some ⟨bsb, bso, none⟩ := hbsh
 clear h1 h2
 go_wp2_with fail
 generalize ((w.alloc _).alloc _).alloc _ = W at *
 have hold : ∀ U, Below W.heap.size W U → U.cell? ⟨w.heap.size, 0, none⟩ = some (.slice pa p.length pcap) ∧ U.cell? ⟨w.heap.size + 1, 1, none⟩ = some (.slice ala s.loc.length alc) ∧ U.cell? ⟨w.heap.size + 1, 2, none⟩ = some (.slice asa s.stk.length asc) ∧ U.cell? ⟨w.heap.size + 1 + 1, 1, none⟩ = some (.slice bla s.loc.length blc) ∧ U.cell? ⟨w.heap.size + 1 + 1, 2, none⟩ = some (.slice bsa s.stk.length bsc) := fun U hU =>
  ⟨(B0.below hU B0.lt).cell 0, (B1.below hU B1.lt).cell 1, (B1.below hU B1.lt).cell 2, (B2.below hU B2.lt).cell 1, (B2.below hU B2.lt).cell 2⟩
 have HO := hide hold
 clear hold B0 B1 B2
 go_loopw [7] (fun i wr => ∃ k : Nat, k ≤ s.stk.length ∧ i = .int .i64 k ∧ (((s.stk.take k).zip (t.stk.take k)).all fun x => belowB p x.1 x.2) = true ∧ Below W.heap.size W wr) (fun i _ => s.stk.length - (intOf i).toNat)
 case atStart => exact ⟨0, Nat.zero_le _, rfl, rfl, Below.refl _ _⟩
 case round =>
  obtain ⟨k, hk, rfl, hall, hbr⟩ := hrel
  have hf := hbel.trans (hbr.mono hbel.size)
  obtain ⟨q0, q1, q2, q3, q4⟩ := unhide HO wr hbr
  by_cases hlt : k < s.stk.length
  ·have hlt' : k < t.stk.length := by rw [← unhide H1]; exact hlt
   obtain rfl := hash (ne_nil_of_lt hlt)
   obtain rfl := hbsh (ne_nil_of_lt hlt')
   have x0 := unhide HAS k hlt
   have y0 := unhide HBS k hlt'
   have hx := tA.2 _ (List.getElem_mem hlt)
   have hy := tB.2 _ (List.getElem_mem hlt')
   have HS := hide (zip_snoc (fun x => belowB p x.1 x.2) hlt hlt')
   have HNO := hide (zip_no (fun x => belowB p x.1 x.2) hlt hlt')
   generalize s.stk[k] = a at *
   generalize t.stk[k] = b at *
   have x1 := Keeps.of_below hf _ _ x0
   have y1 := Keeps.of_below hf _ _ y0
   have k0 : (0 : Int) ≤ (k : Int) := by omega
   have k1 : (k : Int) < (s.stk.length : Int) := by omega
   go_wp2_with fail
   refine wp_region_noPanic ?_
   refine wp_region_held_drew (S := (fun w' => w'.cell? ⟨w.heap.size, 0, none⟩ = some (.slice pa p.length pcap) ∧ w'.cell? ⟨w.heap.size + 1, 2, none⟩ = some (.slice (some ⟨asb, aso, none⟩) s.stk.length asc) ∧ w'.cell? ⟨w.heap.size + 1 + 1, 2, none⟩ = some (.slice (some ⟨bsb, bso, none⟩) s.stk.length bsc) ∧ w'.cell? ⟨asb, aso + k, none⟩ = some (.int .i64 a) ∧ w'.cell? ⟨bsb, bso + k, none⟩ = some (.int .i64 b))) (by kernel_rfl) ?_ (fun hHeld => ?_)
   ·exact ⟨q0, q2, q4, x1, y1⟩
   refine take_x (some 34) 0 rfl rfl ?_
   refine take_x (some 35) 1 rfl rfl ?_
   refine take_x (some 36) 2 rfl rfl ?_
   refine take_x (some 37) 3 rfl rfl ?_
   refine take_x (some 38) 4 rfl rfl ?_
   refine take_x (some 39) 5 rfl rfl ?_
   refine take_x (some 40) 6 rfl rfl ?_
   refine take_x (some 41) 7 rfl rfl ?_
   refine take_x (some 42) 8 rfl rfl ?_
   refine take_x (some 43) 9 rfl rfl ?_
   refine take_x (some 44) 10 rfl rfl ?_
   refine wpAnyH_ready (rs := [11]) (by kernel_rfl) (by simp) ?_
   refine AllReadyH.cons rfl (fun K hK => ?_) AllReadyH.nil
   go_simp
   refine (rs_below p _ a b wr.drew (prog_keep (Keeps.of_below ((Below.refl _ _).drew)) (prog_keep (Keeps.of_below hf) (unhide HP))) hs hz hx hy).mono ?_
   rintro e w1 ⟨rfl, hb1⟩
   have hb1' : Below wr.heap.size wr w1 := ⟨hb1.os, hb1.tape, hb1.output, hb1.size, hb1.block⟩
   have hr1 := hbr.trans (hb1'.mono hbr.size)
   have hf1 := hf.trans (hb1'.mono hf.size)
   obtain ⟨r0, r1, r2, r3, r4⟩ := unhide HO w1 hr1
   have x2 := Keeps.of_below hf1 _ _ x0
   have y2 := Keeps.of_below hf1 _ _ y0
   rw [hall, Bool.true_and] at HS
   have HS2 := hide (unhide HS)
   cases hq : belowB p a b with
   | false =>
    have HN := hide (unhide HNO hq)
    clear hb1 x1 y1 q0 q1 q2 q3 q4 hq
    go_wp2_with fail
    refine hK.out _ _ ⟨r0, r2, r4, x2, y2⟩ (fun hHeld => ?_)
    clear hK K
    try simp only [Act.put, List.setIfInBounds_toArray, List.set_cons_zero, List.set_cons_succ]
    refine take_x (some 8) 12 rfl rfl ?_
    refine wpAnyH_done (by kernel_rfl) ?_ _
    refine NoPanic.normal ?_
    go_wp2_with fail
    go_ret
    exact ⟨ret_bool (by rw [unhide HU, unhide HN, Bool.false_and]), hf1⟩
   | true =>
    have HN := hide hq
    clear hb1 x1 y1 q0 q1 q2 q3 q4 hq
    go_wp2_with fail
    refine hK.out _ _ ⟨r0, r2, r4, x2, y2⟩ (fun hHeld => ?_)
    clear hK K
    try simp only [Act.put, List.setIfInBounds_toArray, List.set_cons_zero, List.set_cons_succ]
    refine take_x (some 8) 12 rfl rfl ?_
    refine wpAnyH_done (by kernel_rfl) ?_ _
    refine NoPanic.normal ?_
    go_wp2_with fail
    exact ⟨⟨k + 1, by omega, by go_num, by rw [unhide HS2]; exact unhide HN, hr1⟩, by simp [intOf]; omega⟩
  ·obtain rfl : k = s.stk.length := by omega
   have hst : ((s.stk.zip t.stk).all fun x => belowB p x.1 x.2) = true := by
    rw [List.take_length, unhide H1, List.take_length] at hall
    exact hall
   have HST := hide hst
   have k1 : ¬ (s.stk.length : Int) < (s.stk.length : Int) := by omega
   clear hall hst
   go_wp2_with fail
   obtain ⟨w5, rfl⟩ : ∃ w5 : World, w5 = wr := ⟨_, rfl⟩
   clear q0 q1 q2 q3 q4
   go_loopw [9] (fun i wr => ∃ k : Nat, k ≤ s.loc.length ∧ i = .int .i64 k ∧ (((s.loc.take k).zip (t.loc.take k)).all fun x => belowB p x.1 x.2) = true ∧ Below W.heap.size W wr) (fun i _ => s.loc.length - (intOf i).toNat)
   case atStart => exact ⟨0, Nat.zero_le _, rfl, rfl, hbr⟩
   case round =>
    clear hbr hf
    obtain ⟨k, hk, rfl, hall, hbr⟩ := hrel
    have hf := hbel.trans (hbr.mono hbel.size)
    obtain ⟨q0, q1, q2, q3, q4⟩ := unhide HO wr hbr
    by_cases hlt : k < s.loc.length
    ·have hlt' : k < t.loc.length := by rw [← unhide H2]; exact hlt
     obtain rfl := halh (ne_nil_of_lt hlt)
     obtain rfl := hblh (ne_nil_of_lt hlt')
     have x0 := unhide HAL k hlt
     have y0 := unhide HBL k hlt'
     have hx := tA.1 _ (List.getElem_mem hlt)
     have hy := tB.1 _ (List.getElem_mem hlt')
     have HS := hide (zip_snoc (fun x => belowB p x.1 x.2) hlt hlt')
     have HNO := hide (zip_no (fun x => belowB p x.1 x.2) hlt hlt')
     generalize s.loc[k] = a at *
     generalize t.loc[k] = b at *
     have x1 := Keeps.of_below hf _ _ x0
     have y1 := Keeps.of_below hf _ _ y0
     have k0 : (0 : Int) ≤ (k : Int) := by omega
     have k1 : (k : Int) < (s.loc.length : Int) := by omega
     go_wp2_with fail
     refine wp_region_noPanic ?_
     refine wp_region_held_drew (S := (fun w' => w'.cell? ⟨w.heap.size, 0, none⟩ = some (.slice pa p.length pcap) ∧ w'.cell? ⟨w.heap.size + 1, 1, none⟩ = some (.slice (some ⟨alb, alo, none⟩) s.loc.length alc) ∧ w'.cell? ⟨w.heap.size + 1 + 1, 1, none⟩ = some (.slice (some ⟨blb, blo, none⟩) s.loc.length blc) ∧ w'.cell? ⟨alb, alo + k, none⟩ = some (.int .i64 a) ∧ w'.cell? ⟨blb, blo + k, none⟩ = some (.int .i64 b))) (by kernel_rfl) ?_ (fun hHeld => ?_)
     ·exact ⟨q0, q1, q3, x1, y1⟩
     refine take_x (some 55) 0 rfl rfl ?_
     refine take_x (some 56) 1 rfl rfl ?_
     refine take_x (some 57) 2 rfl rfl ?_
     refine take_x (some 58) 3 rfl rfl ?_
     refine take_x (some 59) 4 rfl rfl ?_
     refine take_x (some 60) 5 rfl rfl ?_
     refine take_x (some 61) 6 rfl rfl ?_
     refine take_x (some 62) 7 rfl rfl ?_
     refine take_x (some 63) 8 rfl rfl ?_
     refine take_x (some 64) 9 rfl rfl ?_
     refine take_x (some 65) 10 rfl rfl ?_
     refine wpAnyH_ready (rs := [11]) (by kernel_rfl) (by simp) ?_
     refine AllReadyH.cons rfl (fun K hK => ?_) AllReadyH.nil
     go_simp
     refine (rs_below p _ a b wr.drew (prog_keep (Keeps.of_below ((Below.refl _ _).drew)) (prog_keep (Keeps.of_below hf) (unhide HP))) hs hz hx hy).mono ?_
     rintro e w1 ⟨rfl, hb1⟩
     have hb1' : Below wr.heap.size wr w1 := ⟨hb1.os, hb1.tape, hb1.output, hb1.size, hb1.block⟩
     have hr1 := hbr.trans (hb1'.mono hbr.size)
     have hf1 := hf.trans (hb1'.mono hf.size)
     obtain ⟨r0, r1, r2, r3, r4⟩ := unhide HO w1 hr1
     have x2 := Keeps.of_below hf1 _ _ x0
     have y2 := Keeps.of_below hf1 _ _ y0
     rw [hall, Bool.true_and] at HS
     have HS2 := hide (unhide HS)
     cases hq : belowB p a b with
     | false =>
      have HN := hide (unhide HNO hq)
      clear hb1 x1 y1 q0 q1 q2 q3 q4 hq
      go_wp2_with fail
      refine hK.out _ _ ⟨r0, r1, r3, x2, y2⟩ (fun hHeld => ?_)
      clear hK K
      try simp only [Act.put, List.setIfInBounds_toArray, List.set_cons_zero, List.set_cons_succ]
      refine take_x (some 10) 12 rfl rfl ?_
      refine wpAnyH_done (by kernel_rfl) ?_ _
      refine NoPanic.normal ?_
      go_wp2_with fail
      go_ret
      exact ⟨ret_bool (by rw [unhide HU, unhide HN, unhide HST, Bool.true_and]), hf1⟩
     | true =>
      have HN := hide hq
      clear hb1 x1 y1 q0 q1 q2 q3 q4 hq
      go_wp2_with fail
      refine hK.out _ _ ⟨r0, r1, r3, x2, y2⟩ (fun hHeld => ?_)
      clear hK K
      try simp only [Act.put, List.setIfInBounds_toArray, List.set_cons_zero, List.set_cons_succ]
      refine take_x (some 10) 12 rfl rfl ?_
      refine wpAnyH_done (by kernel_rfl) ?_ _
      refine NoPanic.normal ?_
      go_wp2_with fail
      exact ⟨⟨k + 1, by omega, by go_num, by rw [unhide HS2]; exact unhide HN, hr1⟩, by simp [intOf]; omega⟩
    ·obtain rfl : k = s.loc.length := by omega
     have hst : ((s.loc.zip t.loc).all fun x => belowB p x.1 x.2) = true := by
      rw [List.take_length, unhide H2, List.take_length] at hall
      exact hall
     have HLL := hide hst
     have k2 : ¬ (s.loc.length : Int) < (s.loc.length : Int) := by omega
     clear hall hst
     go_wp2_with fail
     go_ret
     exact ⟨ret_bool (by rw [unhide HU, unhide HST, unhide HLL]; rfl), hf⟩
theorem aggRS : AggOk Tryz.prog 149 3 := ⟨by kernel_rfl, by kernel_rfl⟩
theorem app_types {w : World} (base : Nat) (v : Value) (n : Nat) (xs : List Value) (hown : w.ownsRow base 43 1 v n xs) (sa : Option Addr) (m c : Nat) (news : List Value) (hl : news.length = m) (hnil : sa = none → m = 0 ∧ c = 0)
  (hnews : ∀ ad, sa = some ad → ∀ j u, news[j]? = some u → w.cell? (ad.add j) = some u) (h1 : ∀ u ∈ news, u.oneCell' = true) (hn : n ≤ 4194304) (hm : m ≤ 4194304) (hbase : base ≤ w.heap.size) :
  ∃ v' w', (Builtin.append_ #[40, 40] 40 #[v, .slice sa m c]).run Tryz.prog w = .ok v' w' ∧ w'.ownsRow base 43 1 v' (n + m) (xs ++ news) ∧ Mods (fun k => v.ownBlock = some k) w w' ∧ (v'.ownBlock = v.ownBlock ∨ v'.ownBlock = some w.heap.size) := by
 obtain ⟨iT, hT, hT0, hT1, hT2⟩ := info_parts infoTypeC
 cases sa with
 | none =>
  obtain ⟨rfl, rfl⟩ := hnil rfl
  obtain rfl : news = [] := List.eq_nil_of_length_eq_zero hl
  exact ⟨v, w, run_append_owned_none (P := Tryz.prog) (w := w) base 40 40 43 iT 1 Tryz.underlying40 hT v n xs hown, by simpa using hown, Mods.refl _ _, .inl rfl⟩
 | some ad =>
  obtain ⟨v', w', hr, h2, h3, _, h5⟩ := run_append_own_at (P := Tryz.prog) w base 40 40 43 iT _ 1 8 Tryz.underlying40 hT hT0 hT1 hT2 rfl (by decide) v n xs hown ad m c news (by omega) (hnews ad rfl) h1 (by unfold maxLen; omega) (by omega) hbase
  exact ⟨v', w', hr, h2, (Mods.refl _ w).grown h3 (fun k e _ => e), h5⟩
structure GrowI (w V : World) (B b k : Nat) (vs : List Value) (v : Value) (l : List Int) : Prop where
 bel : Below w.heap.size w V
 box : Blk V b 149 vs
 at_ : vs[k]? = some v
 row : V.ownsRow B 43 1 v l.length (l.map (Value.int .i64))
theorem own_not_box {V : World} {B b : Nat} {v : Value} {n : Nat} {xs vs : List Value} (h : V.ownsRow B 43 1 v n xs) (hb : Blk V b 149 vs) : v.ownBlock ≠ some b := fun e => by
 obtain ⟨cur, hc⟩ := own_blk h e
 exact absurd (hc.uniq hb) (by decide)
section
variable {w V : World} {B b k : Nat} {vs : List Value} {v : Value} {l : List Int}
theorem GrowI.one (i : GrowI w V B b k vs v l) (hB : w.heap.size ≤ B) (hBV : B ≤ V.heap.size) (hb : w.heap.size ≤ b) (hbB : b < B) (hl : l.length ≤ 100) (x : Int) :
  ∃ a n cap w', (Builtin.append_ #[40, 40] 40 #[v, .slice (some ⟨V.heap.size, 0, none⟩) 1 1]).run Tryz.prog (V.alloc (.cells #[.int .i64 x] 43)) = .ok (.slice a n cap) w' ∧
   w'.cell? ⟨b, k, none⟩ = some v ∧ w'.frozen? ⟨b, k, none⟩ = false ∧ Mods (fun j => v.ownBlock = some j) V w' ∧ (∀ g, (Value.slice a n cap).ownBlock = some g → v.ownBlock = some g ∨ V.heap.size ≤ g) ∧ GrowI w (w'.setCell ⟨b, k, none⟩ (.slice a n cap)) B b k (vs.set k (.slice a n cap)) (.slice a n cap) (l ++ [x]) := by
 obtain ⟨iT, hT, hT0, hT1, hT2⟩ := info_parts infoTypeC
 obtain ⟨v', w', happ, hO', hM, hv⟩ := app_ex (P := Tryz.prog) (W := V) 40 40 43 iT _ 1 8 Tryz.underlying40 hT hT0 hT1 hT2 rfl (by decide) B v l.length _ i.row #[.int .i64 x] rfl
  (fun u hu => by
    simp only [List.mem_cons, List.not_mem_nil, or_false] at hu
    subst hu; rfl) V.heap.size rfl (by unfold maxLen; omega) (by omega) hBV
 obtain ⟨a, cap, rfl⟩ := own_form hO'
 have hbx := i.box.mods hM (own_not_box i.row i.box)
 have hM2 : Mods (fun j => j = b) w' (w'.setCell ⟨b, k, none⟩ (.slice a (l.length + 1) cap)) := (Mods.refl (fun j => j = b) w').setCell (p := ⟨b, k, none⟩) (fun _ => rfl) _
 refine ⟨a, _, cap, w', happ, (hbx.cell k).trans i.at_, hbx.frozen k, hM, fun g hg => ?_, (i.bel.trans (hM.below i.bel.size (fun j hj e => by have := (i.row.lt j e).1; omega))).trans (hM2.below (Nat.le_trans i.bel.size hM.size) (fun j hj e => by omega)), hbx.setCell k _, ?_, ?_⟩
 ·rcases hv with h | ⟨k', hk', h⟩
  ·exact .inl (by rw [← h]; exact hg)
  ·rw [h] at hg
   cases hg
   exact .inr hk'
 ·rw [List.getElem?_set_self (List.getElem?_eq_some_iff.1 i.at_).1]
 ·have := own_mods hO' hM2 (fun g hg e => by have := (hO'.lt g hg).1; omega)
  simpa using this
theorem GrowI.more (i : GrowI w V B b k vs v l) (hB : w.heap.size ≤ B) (hBV : B ≤ V.heap.size) (hb : w.heap.size ≤ b) (hbB : b < B) (hl : l.length ≤ 100) (xs : List Int) (hx : xs.length ≤ 4194304) (sa : Option Addr) (sn sc : Nat) (hsn : sn = xs.length) (hnil : sa = none → sn = 0 ∧ sc = 0) (hsrc : ∀ ad, sa = some ad → ∀ j u, (xs.map (Value.int .i64))[j]? = some u → V.cell? (ad.add j) = some u) :
  ∃ a n cap w', (Builtin.append_ #[40, 40] 40 #[v, .slice sa sn sc]).run Tryz.prog V = .ok (.slice a n cap) w' ∧
   w'.cell? ⟨b, k, none⟩ = some v ∧ w'.frozen? ⟨b, k, none⟩ = false ∧ Mods (fun j => v.ownBlock = some j) V w' ∧ (∀ g, (Value.slice a n cap).ownBlock = some g → v.ownBlock = some g ∨ V.heap.size ≤ g) ∧ GrowI w (w'.setCell ⟨b, k, none⟩ (.slice a n cap)) B b k (vs.set k (.slice a n cap)) (.slice a n cap) (l ++ xs) := by
 subst hsn
 obtain ⟨v', w', happ, hO', hM, hv⟩ := app_types B v l.length _ i.row sa xs.length sc (xs.map (Value.int .i64)) (by simp) hnil hsrc (oneCell_ints _) (by omega) hx hBV
 obtain ⟨a, cap, rfl⟩ := own_form hO'
 have hbx := i.box.mods hM (own_not_box i.row i.box)
 have hM2 : Mods (fun j => j = b) w' (w'.setCell ⟨b, k, none⟩ (.slice a (l.length + xs.length) cap)) := (Mods.refl (fun j => j = b) w').setCell (p := ⟨b, k, none⟩) (fun _ => rfl) _
 refine ⟨a, _, cap, w', happ, (hbx.cell k).trans i.at_, hbx.frozen k, hM, fun g hg => ?_, (i.bel.trans (hM.below i.bel.size (fun j hj e => by have := (i.row.lt j e).1; omega))).trans (hM2.below (Nat.le_trans i.bel.size hM.size) (fun j hj e => by omega)), hbx.setCell k _, ?_, ?_⟩
 ·rcases hv with h | h
  ·exact .inl (by rw [← h]; exact hg)
  ·rw [h] at hg
   cases hg
   exact .inr (Nat.le_refl _)
 ·rw [List.getElem?_set_self (List.getElem?_eq_some_iff.1 i.at_).1]
 ·have := own_mods hO' hM2 (fun g hg e => by have := (hO'.lt g hg).1; omega)
  simpa using this
end
def NewSt (B : Nat) (w : World) (s : TSt) (vl vs : Value) : Prop := StG (sel (fun k => B ≤ k) w) s vl vs
theorem nil_ints {g : Addr → Option Value} : SlAt 1 (GInt g) (.slice none 0 0) [] := ⟨none, 0, 0, 0, rfl, Nat.le_refl _, ⟨fun e => absurd rfl e, .inl ⟨rfl, rfl⟩⟩, fun j x hj => by simp at hj⟩
def begL (c : Int) (m : LMeth) (k : Nat) : List Int := (c + 3) :: (m.args ++ List.replicate k 2)
theorem begL_cut {c : Int} {m : LMeth} (h1 : 1 + (m.args.length : Int) ≤ m.locals) (h8 : m.locals ≤ 8) : begL c m (m.locals.toNat - (1 + m.args.length)) = (cutS m (beginS c m)).loc := by
 unfold begL cutS beginS
 dsimp only
 obtain ⟨n, hn⟩ : ∃ n, m.locals.toNat = n + 1 := ⟨m.locals.toNat - 1, by omega⟩
 rw [hn, List.take_succ_cons]
 congr 1
 rw [List.take_append, List.take_of_length_le (by omega), List.take_replicate]
 congr 2
 omega
set_option maxHeartbeats 1000000 in
set_option maxRecDepth 100000 in
theorem rs_begin (c : Int) (m : LMeth) (va vco vf : Value) (w : World) (hv : GVals w.cell? m va vco vf) (hc0 : 0 ≤ c) (hc1 : c ≤ 4194304) (h1 : 1 + (m.args.length : Int) ≤ m.locals) (h8 : m.locals ≤ 8) :
  Calls Tryz.prog 95 #[.int .i64 c, methV m va vco vf] w fun e w' => ∃ vl, e = .returned (.agg #[.bool true, vl, .slice none 0 0]) ∧ NewSt w.heap.size w' (cutS m (beginS c m)) vl (.slice none 0 0) ∧ Below w.heap.size w w' := by
 unfold methV
 obtain ⟨aa, acap, rfl, hanil, hasrc⟩ := ints_src hv.1
 obtain ⟨ca, _, _, ccap, rfl, _⟩ := hv.2.1
 obtain ⟨fa, _, _, fcap, rfl, _⟩ := hv.2.2
 obtain ⟨W0, hW0⟩ : ∃ W0, W0 = ((w.alloc (.cells #[.int .i64 m.slot, .slice aa m.args.length acap, .int .i64 m.ret, .int .i64 m.locals, .int .i64 m.stack, .slice ca m.code.length ccap, .slice fa m.frames.length fcap] 63)).alloc (.cells #[.bool false, .slice none 0 0, .slice none 0 0] 149)).alloc (.cells #[.bool true, .slice none 0 0, .slice none 0 0] 149) := ⟨_, rfl⟩
 have hbel : Below w.heap.size w W0 := by rw [hW0]; exact (box2_below _ _ _).alloc (by simp; omega) _
 have B0 : Blk W0 w.heap.size 63 [.int .i64 m.slot, .slice aa m.args.length acap, .int .i64 m.ret, .int .i64 m.locals, .int .i64 m.stack, .slice ca m.code.length ccap, .slice fa m.frames.length fcap] := by rw [hW0]; exact ((Blk.new w _ _).alloc _).alloc _
 have B1 : Blk W0 (w.heap.size + 1) 149 [.bool false, .slice none 0 0, .slice none 0 0] := by
  have := (Blk.new (w.alloc (.cells #[.int .i64 m.slot, .slice aa m.args.length acap, .int .i64 m.ret, .int .i64 m.locals, .int .i64 m.stack, .slice ca m.code.length ccap, .slice fa m.frames.length fcap] 63)) #[.bool false, .slice none 0 0, .slice none 0 0] 149).alloc (.cells #[.bool true, .slice none 0 0, .slice none 0 0] 149)
  rw [World.size_alloc] at this
  rw [hW0]; exact this
 have B2 : Blk W0 (w.heap.size + 1 + 1) 149 [.bool true, .slice none 0 0, .slice none 0 0] := by
  have := Blk.new ((w.alloc (.cells #[.int .i64 m.slot, .slice aa m.args.length acap, .int .i64 m.ret, .int .i64 m.locals, .int .i64 m.stack, .slice ca m.code.length ccap, .slice fa m.frames.length fcap] 63)).alloc (.cells #[.bool false, .slice none 0 0, .slice none 0 0] 149)) #[.bool true, .slice none 0 0, .slice none 0 0] 149
  rw [World.size_alloc, World.size_alloc] at this
  rw [hW0]; exact this
 have hWs : W0.heap.size = w.heap.size + 1 + 1 + 1 := by rw [hW0]; simp
 have I0 : GrowI w W0 (w.heap.size + 1 + 1 + 1) (w.heap.size + 1 + 1) 1 [.bool true, .slice none 0 0, .slice none 0 0] (.slice none 0 0) [] := ⟨hbel, B2, rfl, World.ownsRow_nil _ _ _ _⟩
 obtain ⟨a1, n1, cap1, w1, happ1, c1, f1, hM1, _, I1⟩ := I0.one (by omega) (by omega) (by omega) (by omega) (by simp) (3 + c)
 have hS1 : Mods (fun j => j = w.heap.size + 1 + 1) w1 (w1.setCell ⟨w.heap.size + 1 + 1, 1, none⟩ (.slice a1 n1 cap1)) := (Mods.refl (fun j => j = w.heap.size + 1 + 1) w1).setCell (p := ⟨w.heap.size + 1 + 1, 1, none⟩) (fun _ => rfl) _
 have C0 := (B0.mods hM1 (fun e => by cases e)).mods hS1 (by omega)
 have C1 := (B1.mods hM1 (fun e => by cases e)).mods hS1 (by omega)
 have hs1 := Nat.le_trans hM1.size hS1.size
 obtain ⟨W1, hW1⟩ : ∃ W1, W1 = w1.setCell ⟨w.heap.size + 1 + 1, 1, none⟩ (.slice a1 n1 cap1) := ⟨_, rfl⟩
 rw [← hW1] at I1 C0 C1 hs1
 obtain ⟨a2, n2, cap2, w2, happ2, c2, f2, hM2, _, I2⟩ := I1.more (by omega) (by omega) (by omega) (by omega) (by simp) m.args (by omega) aa m.args.length acap rfl (fun e => ⟨by rw [(hanil e).1]; rfl, (hanil e).2⟩) (fun ad e j u h => Keeps.of_below I1.bel _ _ (hasrc ad e j u h))
 have hS2 : Mods (fun j => j = w.heap.size + 1 + 1) w2 (w2.setCell ⟨w.heap.size + 1 + 1, 1, none⟩ (.slice a2 n2 cap2)) := (Mods.refl (fun j => j = w.heap.size + 1 + 1) w2).setCell (p := ⟨w.heap.size + 1 + 1, 1, none⟩) (fun _ => rfl) _
 have nb : ∀ j, j < w.heap.size + 1 + 1 + 1 → ¬ (Value.slice a1 n1 cap1).ownBlock = some j := fun j hj e => by have := (I1.row.lt j e).1; omega
 have D0 := (C0.mods hM2 (nb _ (by omega))).mods hS2 (by omega)
 have D1 := (C1.mods hM2 (nb _ (by omega))).mods hS2 (by omega)
 have d1 : W1.cell? ⟨w.heap.size + 1 + 1, 1, none⟩ = some (.slice a1 n1 cap1) := (I1.box.cell 1).trans I1.at_
 have e1 : W1.cell? ⟨w.heap.size, 1, none⟩ = some (.slice aa m.args.length acap) := C0.cell 1
 have hs2 := Nat.le_trans hM2.size hS2.size
 obtain ⟨W2, hW2⟩ : ∃ W2, W2 = w2.setCell ⟨w.heap.size + 1 + 1, 1, none⟩ (.slice a2 n2 cap2) := ⟨_, rfl⟩
 rw [← hW2] at I2 D0 D1 hs2
 rw [hWs] at happ1
 rw [hW0] at happ1
 rw [hW1] at happ2 d1 e1
 clear B0 B1 B2 C0 C1 I1 hM1 hM2 hS1 hS2 nb hanil hasrc hv
 go_enter Tryz.func95, Tryz.ntmps95
 go_wp2_with (at_builtin; first
  | refine wpList_append_run rfl (.tmp 8) (.tmp 11) 40 rfl _ _ rfl rfl happ1 ?_
  | refine wpList_append_run rfl (.tmp 15) (.tmp 17) 40 rfl _ _ rfl rfl happ2 ?_)
 rw [← hW2]
 have hln : ∀ k, (begL c m k).length = 1 + m.args.length + k := fun k => by unfold begL; simp; omega
 have HI0 : Hid (GrowI w W2 (w.heap.size + 1 + 1 + 1) (w.heap.size + 1 + 1) 1 [.bool true, .slice a2 n2 cap2, .slice none 0 0] (.slice a2 n2 cap2) (begL c m 0)) := by
  have : begL c m 0 = [] ++ [3 + c] ++ m.args := by unfold begL; simp; omega
  show GrowI _ _ _ _ _ _ _ _
  rw [this]
  exact I2
 clear I0 I2 happ1 happ2 hW0 hW1 hW2 c1 f1 c2 f2 d1 e1
 go_loopw [25] (fun _ wr => ∃ (k : Nat) (v : Value), (k : Int) ≤ m.locals - (1 + (m.args.length : Int)) ∧ W2.heap.size ≤ wr.heap.size ∧ GrowI w wr (w.heap.size + 1 + 1 + 1) (w.heap.size + 1 + 1) 1 [.bool true, v, .slice none 0 0] v (begL c m k) ∧ Blk wr w.heap.size 63 [.int .i64 m.slot, .slice aa m.args.length acap, .int .i64 m.ret, .int .i64 m.locals, .int .i64 m.stack, .slice ca m.code.length ccap, .slice fa m.frames.length fcap] ∧ Blk wr (w.heap.size + 1) 149 [.bool false, .slice none 0 0, .slice none 0 0]) (fun _ wr => match wr.cell? ⟨w.heap.size + 1 + 1, 1, none⟩ with
  | some (.slice _ n _) => 100 - n
  | _ => 0)
 case atStart => exact ⟨0, _, by omega, Nat.le_refl _, unhide HI0, D0, D1⟩
 case round =>
  obtain ⟨k, v, hk, hsz, hI, hM0, hR0⟩ := hrel
  obtain ⟨va, vcap, rfl⟩ := own_form hI.row
  have g1 : wr.cell? ⟨w.heap.size + 1 + 1, 1, none⟩ = some (.slice va (begL c m k).length vcap) := hI.box.cell 1
  have g2 : wr.cell? ⟨w.heap.size, 3, none⟩ = some (.int .i64 m.locals) := hM0.cell 3
  have hlen := hln k
  by_cases hlt : (k : Int) < m.locals - (1 + (m.args.length : Int))
  ·obtain ⟨na, nn, ncap, w5, happ, c5, f5, hM5, _, I5⟩ := hI.one (by omega) (by omega) (by omega) (by omega) (by omega) 2
   have nb : ∀ j, j < w.heap.size + 1 + 1 + 1 → ¬ (Value.slice va (begL c m k).length vcap).ownBlock = some j := fun j hj e => by have := (hI.row.lt j e).1; omega
   have hS5 : Mods (fun j => j = w.heap.size + 1 + 1) w5 (w5.setCell ⟨w.heap.size + 1 + 1, 1, none⟩ (.slice na nn ncap)) := (Mods.refl (fun j => j = w.heap.size + 1 + 1) w5).setCell (p := ⟨w.heap.size + 1 + 1, 1, none⟩) (fun _ => rfl) _
   have E0 := (hM0.mods hM5 (nb _ (by omega))).mods hS5 (by omega)
   have E1 := (hR0.mods hM5 (nb _ (by omega))).mods hS5 (by omega)
   have hb : begL c m k ++ [2] = begL c m (k + 1) := by unfold begL; rw [List.replicate_succ']; simp
   rw [hb] at I5
   have g5 : (w5.setCell ⟨w.heap.size + 1 + 1, 1, none⟩ (.slice na nn ncap)).cell? ⟨w.heap.size + 1 + 1, 1, none⟩ = some (.slice na nn ncap) := (I5.box.cell 1).trans I5.at_
   have hnn : nn = (begL c m (k + 1)).length := by
    obtain ⟨_, _, h⟩ := own_form I5.row
    injection h
   have hlen' := hln (k + 1)
   have HE := hide (And.intro I5 (And.intro E0 (And.intro E1 (Nat.le_trans hM5.size hS5.size))))
   clear I5 E0 E1 hI hM0 hR0 hM5 hS5
   generalize (begL c m k).length = bk at *
   have q1 : (bk : Int) < m.locals := by omega
   have HL := hide (And.intro hlen (And.intro hlen' hnn))
   clear hlen hlen' hnn hln
   go_wp2_with (at_builtin; refine wpList_append_run rfl (.tmp 27) (.tmp 28) 40 rfl _ _ rfl rfl happ ?_)
   refine ⟨⟨k + 1, _, by omega, Nat.le_trans hsz (unhide HE).2.2.2, (unhide HE).1, (unhide HE).2.1, (unhide HE).2.2.1⟩, ?_⟩
   rw [g5, g1]
   dsimp only
   obtain ⟨l1, l2, l3⟩ := unhide HL
   omega
  ·have hkk : k = m.locals.toNat - (1 + m.args.length) := by omega
   have HFin : Hid (NewSt (w.heap.size + 1 + 1 + 1) wr (cutS m (beginS c m)) (.slice va (begL c m k).length vcap) (.slice none 0 0)) := by
    refine ⟨?_, nil_ints⟩
    rw [← begL_cut h1 h8, ← hkk]
    exact own_intsC hI.row (fun g hg => (hI.row.lt g hg).1)
   have b0 : wr.cell? ⟨w.heap.size + 1 + 1, 0, none⟩ = some (.bool true) := hI.box.cell 0
   have b2 : wr.cell? ⟨w.heap.size + 1 + 1, 2, none⟩ = some (.slice none 0 0) := hI.box.cell 2
   have q1 : ¬ ((begL c m k).length : Int) < m.locals := by omega
   have hb := hI.bel
   have hbs := hb.size
   clear hI
   generalize (begL c m k).length = bk at *
   clear hlen hln hkk
   go_wp2_with (refine wpList_store_blk aggRS hR0 0 [.bool true, .slice va bk vcap, .slice none 0 0] rfl (by simp) (fun u hu => by simp only [List.mem_cons, List.not_mem_nil, or_false] at hu; rcases hu with rfl | rfl | rfl <;> rfl) (.tmp 4) (.tmp 31) rfl rfl rfl rfl ?_; intro w6 hB6 hM6 hs6; rw [putAt_all (by rfl)] at hB6)
   refine bodyPost_ret (results_blk rfl aggRS hB6 rfl rfl) rfl ?_
   refine ⟨_, rfl, ?_, hb.trans (hM6.below hb.size (fun j hj e => by omega))⟩
   exact StG.keep (sel_mods hM6 fun j _ hj => ⟨fun e => by omega, by omega⟩) (unhide HFin)
set_option maxHeartbeats 1000000 in
set_option maxRecDepth 100000 in
theorem rs_fits (p : List LClass) (vc : Value) (t o : Int) (w : World) (hp : RProg w vc p) (hs : SupOk p p.length) (hz : p.length ≤ 4194304) (ht : tyOk p.length t) (ho : o = -1 ∨ o = -2 ∨ tyOk p.length o) :
  Calls Tryz.prog 152 #[.agg #[vc], .int .i64 t, .int .i64 o] w fun e w' => e = .returned (.bool (rFits p t o)) ∧ Below w.heap.size w w' := by
 have HP := hide hp
 obtain ⟨a, b, off, cap, rfl, _, _, _⟩ := sl_open hp
 clear hp
 have hbel : Below w.heap.size w (w.alloc (.cells #[.slice a p.length cap] 24)) := box_below _ _
 go_enter Tryz.func152, Tryz.ntmps152
 by_cases h1 : o = -1
 ·subst h1
  have HR : Hid (rFits p t (-1) = mayObj t) := by show _ = _; unfold rFits; rw [if_pos rfl]
  by_cases h2 : t = 1
  ·subst h2
   go_wp2_with fail
   go_ret
   exact ⟨ret_bool (by rw [unhide HR]; rfl), hbel⟩
  ·have h2' : (t == 1) = false := by simpa using h2
   have HM : Hid (mayObj t = decide (3 ≤ t)) := by show _ = _; unfold mayObj; rw [h2']; rfl
   go_wp2_with fail
   all_goals go_ret
   all_goals exact ⟨ret_bool (by rw [unhide HR, unhide HM]), hbel⟩
 have h1' : (o == -1) = false := by simpa using h1
 by_cases h2 : o = -2
 ·subst h2
  have HR : Hid (rFits p t (-2) = !(t == 2)) := by show _ = _; unfold rFits; rw [if_neg (by omega), if_pos rfl]
  go_wp2_with fail
  all_goals go_ret
  all_goals exact ⟨ret_bool (by rw [unhide HR]; rfl), hbel⟩
 have h2' : (o == -2) = false := by simpa using h2
 have ho' : tyOk p.length o := by
  rcases ho with h | h | h
  ·exact absurd h h1
  ·exact absurd h h2
  ·exact h
 have HR : Hid (rFits p t o = belowB p t o) := by show _ = _; unfold rFits; rw [if_neg h1, if_neg h2]
 go_wp2_with fail
 refine (rs_below p _ t o _ (prog_keep (Keeps.of_below hbel) (unhide HP)) hs hz ht ho').mono ?_
 rintro e w1 ⟨rfl, hb1⟩
 rw [← unhide HR]
 go_wp2_with fail
 go_ret
 exact ⟨rfl, hbel.trans (hb1.mono hbel.size)⟩
def goesL (x : LIns) (i : Nat) : List Int := (if fallsB x then [(i : Int) + 1] else []) ++ (if jumpsB x then [x.a] else [])
theorem goesL_is (x : LIns) (i : Nat) : goesL x i = (onwardL x i).reverse.map (·.1) := by
 unfold goesL onwardL
 cases fallsB x <;> cases jumpsB x <;> rfl
theorem infoIntR : (Tryz.prog.info? 3).map (fun i => (i.zero, i.size, i.bytes)) = some (some (.int .i64 0), 1, 8) := by kernel_rfl
theorem app_int {W : World} (base : Nat) (v : Value) (l : List Int) (h : W.ownsRow base 3 1 v l.length (l.map (Value.int .i64))) (x : Int) (H : Nat) (hH : W.heap.size = H) (hl : l.length ≤ 100) (hb : base ≤ W.heap.size) :
  ∃ a n cap W', (Builtin.append_ #[51, 51] 51 #[v, .slice (some ⟨H, 0, none⟩) 1 1]).run Tryz.prog (W.alloc (.cells #[.int .i64 x] 3)) = .ok (.slice a n cap) W' ∧ W'.ownsRow base 3 1 (.slice a n cap) (l ++ [x]).length ((l ++ [x]).map (Value.int .i64)) ∧ Mods (fun k => v.ownBlock = some k) W W' := by
 obtain ⟨iT, hT, hT0, hT1, hT2⟩ := info_parts infoIntR
 obtain ⟨v', W', hr, hO, hM, _⟩ := app_ex (P := Tryz.prog) (W := W) 51 51 3 iT _ 1 8 Tryz.underlying51 hT hT0 hT1 hT2 rfl (by decide) base v l.length _ h #[.int .i64 x] rfl
  (fun u hu => by
    simp only [List.mem_cons, List.not_mem_nil, or_false] at hu
    subst hu; rfl) H hH (by unfold maxLen; omega) (by omega) hb
 obtain ⟨a, cap, rfl⟩ := own_form hO
 exact ⟨a, _, cap, W', hr, by simpa using hO, hM⟩
set_option maxHeartbeats 1000000 in
set_option maxRecDepth 100000 in
theorem rs_goes (m : LMeth) (va vco vf : Value) (i : Nat) (w : World) (hv : GVals w.cell? m va vco vf) (hi : i < m.code.length) (h40 : m.code.length ≤ 40) :
  Calls Tryz.prog 97 #[methV m va vco vf, .int .i64 (i : Int)] w fun e w' => ∃ v, e = .returned v ∧ SlAt 1 (GInt (sel (fun k => w.heap.size ≤ k) w')) v (goesL (insAt m i) i) ∧ Below w.heap.size w w' := by
 unfold methV
 obtain ⟨aa, _, _, acap, rfl, _⟩ := hv.1
 obtain ⟨ca, cb, off, ccap, rfl, _, hca, hcr⟩ := sl_open hv.2.1
 obtain ⟨fa, _, _, fcap, rfl, _⟩ := hv.2.2
 obtain rfl := hca (ne_nil_of_lt hi)
 obtain ⟨x0, x1, x2⟩ := hcr i hi
 have hIA : insAt m i = m.code[i] := by unfold insAt; rw [List.getElem?_eq_getElem hi]; rfl
 rw [hIA]
 generalize m.code[i] = x at *
 clear hcr hv
 have hbel : Below w.heap.size w ((w.alloc (.cells #[.int .i64 m.slot, .slice aa m.args.length acap, .int .i64 m.ret, .int .i64 m.locals, .int .i64 m.stack, .slice (some ⟨cb, off, none⟩) m.code.length ccap, .slice fa m.frames.length fcap] 63)).alloc (.cells #[.int .i64 x.op, .int .i64 x.a, .int .i64 x.b] 60)) := box2_below _ _ _
 have B1 := Blk.new (w.alloc (.cells #[.int .i64 m.slot, .slice aa m.args.length acap, .int .i64 m.ret, .int .i64 m.locals, .int .i64 m.stack, .slice (some ⟨cb, off, none⟩) m.code.length ccap, .slice fa m.frames.length fcap] 63)) #[.int .i64 x.op, .int .i64 x.a, .int .i64 x.b] 60
 have hsz : ((w.alloc (.cells #[.int .i64 m.slot, .slice aa m.args.length acap, .int .i64 m.ret, .int .i64 m.locals, .int .i64 m.stack, .slice (some ⟨cb, off, none⟩) m.code.length ccap, .slice fa m.frames.length fcap] 63)).alloc (.cells #[.int .i64 x.op, .int .i64 x.a, .int .i64 x.b] 60)).heap.size = w.heap.size + 1 + 1 := by simp
 rw [World.size_alloc] at B1
 have y0 := Keeps.of_below (box_below w (.cells #[.int .i64 m.slot, .slice aa m.args.length acap, .int .i64 m.ret, .int .i64 m.locals, .int .i64 m.stack, .slice (some ⟨cb, off, none⟩) m.code.length ccap, .slice fa m.frames.length fcap] 63)) _ _ x0
 have y1 := Keeps.of_below (box_below w (.cells #[.int .i64 m.slot, .slice aa m.args.length acap, .int .i64 m.ret, .int .i64 m.locals, .int .i64 m.stack, .slice (some ⟨cb, off, none⟩) m.code.length ccap, .slice fa m.frames.length fcap] 63)) _ _ x1
 have y2 := Keeps.of_below (box_below w (.cells #[.int .i64 m.slot, .slice aa m.args.length acap, .int .i64 m.ret, .int .i64 m.locals, .int .i64 m.stack, .slice (some ⟨cb, off, none⟩) m.code.length ccap, .slice fa m.frames.length fcap] 63)) _ _ x2
 have i0 : (0 : Int) ≤ (i : Int) := by omega
 have i1 : (i : Int) < (m.code.length : Int) := by omega
 have hcl := cell_lt x0
 obtain ⟨op, xa, xb⟩ := x
 dsimp only at *
 go_enter Tryz.func97, Tryz.ntmps97
 by_cases h13 : op = 13
 ·subst h13
  have hg : goesL ⟨13, xa, xb⟩ i = [] := rfl
  rw [hg]
  go_wp2_with fail
  go_ret
  exact ⟨_, rfl, nil_ints, hbel⟩
 by_cases h7 : op = 7
 ·subst h7
  have hg : goesL ⟨7, xa, xb⟩ i = [xa] := rfl
  rw [hg]
  obtain ⟨a1, n1, c1, w1, happ1, hO1, hM1⟩ := app_int (W := (w.alloc (.cells #[.int .i64 m.slot, .slice aa m.args.length acap, .int .i64 m.ret, .int .i64 m.locals, .int .i64 m.stack, .slice (some ⟨cb, off, none⟩) m.code.length ccap, .slice fa m.frames.length fcap] 63)).alloc (.cells #[.int .i64 7, .int .i64 xa, .int .i64 xb] 60)) w.heap.size (.slice none 0 0) [] (World.ownsRow_nil _ _ _ _) xa (w.heap.size + 1 + 1) hsz (by simp) (by omega)
  have hb1 := hbel.trans (hM1.below hbel.size (fun k hk e => by cases e))
  have HF := hide (And.intro (own_intsC (S := fun k => w.heap.size ≤ k) hO1 (fun g hg => (hO1.lt g hg).1)) hb1)
  clear hO1 hM1 B1 hbel hb1 hsz
  go_wp2_with (at_builtin; refine wpList_append_run rfl (.tmp 38) (.tmp 41) 51 rfl _ _ rfl rfl happ1 ?_)
  go_ret
  exact ⟨_, rfl, (unhide HF).1, (unhide HF).2⟩
 by_cases h8 : op = 8
 ·subst h8
  have hg : goesL ⟨8, xa, xb⟩ i = [(i : Int) + 1, xa] := rfl
  rw [hg]
  obtain ⟨a1, n1, c1, w1, happ1, hO1, hM1⟩ := app_int (W := (w.alloc (.cells #[.int .i64 m.slot, .slice aa m.args.length acap, .int .i64 m.ret, .int .i64 m.locals, .int .i64 m.stack, .slice (some ⟨cb, off, none⟩) m.code.length ccap, .slice fa m.frames.length fcap] 63)).alloc (.cells #[.int .i64 8, .int .i64 xa, .int .i64 xb] 60)) w.heap.size (.slice none 0 0) [] (World.ownsRow_nil _ _ _ _) ((i : Int) + 1) (w.heap.size + 1 + 1) hsz (by simp) (by omega)
  have C1 := B1.mods hM1 (fun e => by cases e)
  have hs1 := hM1.size
  obtain ⟨a2, n2, c2, w2, happ2, hO2, hM2⟩ := app_int (W := w1) w.heap.size _ _ hO1 xa w1.heap.size rfl (by simp) (by omega)
  have z0 : w1.cell? ⟨w.heap.size + 1, 0, none⟩ = some (.int .i64 8) := C1.cell 0
  have z1 : w1.cell? ⟨w.heap.size + 1, 1, none⟩ = some (.int .i64 xa) := C1.cell 1
  have hb2 := (hbel.trans (hM1.below hbel.size (fun k hk e => by cases e))).trans (hM2.below (Nat.le_trans hbel.size hs1) (fun k hk e => by have := (hO1.lt k e).1; omega))
  have HF := hide (And.intro (own_intsC (S := fun k => w.heap.size ≤ k) hO2 (fun g hg => (hO2.lt g hg).1)) hb2)
  clear hO1 hO2 hM1 hM2 C1 B1 hbel hb2 hsz
  go_wp2_with (at_builtin; first
   | refine wpList_append_run rfl (.tmp 20) (.tmp 23) 51 rfl _ _ rfl rfl happ1 ?_
   | refine wpList_append_run rfl (.tmp 38) (.tmp 41) 51 rfl _ _ rfl rfl happ2 ?_)
  go_ret
  exact ⟨_, rfl, (unhide HF).1, (unhide HF).2⟩
 by_cases h18 : op = 18
 ·subst h18
  have hg : goesL ⟨18, xa, xb⟩ i = [(i : Int) + 1, xa] := rfl
  rw [hg]
  obtain ⟨a1, n1, c1, w1, happ1, hO1, hM1⟩ := app_int (W := (w.alloc (.cells #[.int .i64 m.slot, .slice aa m.args.length acap, .int .i64 m.ret, .int .i64 m.locals, .int .i64 m.stack, .slice (some ⟨cb, off, none⟩) m.code.length ccap, .slice fa m.frames.length fcap] 63)).alloc (.cells #[.int .i64 18, .int .i64 xa, .int .i64 xb] 60)) w.heap.size (.slice none 0 0) [] (World.ownsRow_nil _ _ _ _) ((i : Int) + 1) (w.heap.size + 1 + 1) hsz (by simp) (by omega)
  have C1 := B1.mods hM1 (fun e => by cases e)
  have hs1 := hM1.size
  obtain ⟨a2, n2, c2, w2, happ2, hO2, hM2⟩ := app_int (W := w1) w.heap.size _ _ hO1 xa w1.heap.size rfl (by simp) (by omega)
  have z0 : w1.cell? ⟨w.heap.size + 1, 0, none⟩ = some (.int .i64 18) := C1.cell 0
  have z1 : w1.cell? ⟨w.heap.size + 1, 1, none⟩ = some (.int .i64 xa) := C1.cell 1
  have hb2 := (hbel.trans (hM1.below hbel.size (fun k hk e => by cases e))).trans (hM2.below (Nat.le_trans hbel.size hs1) (fun k hk e => by have := (hO1.lt k e).1; omega))
  have HF := hide (And.intro (own_intsC (S := fun k => w.heap.size ≤ k) hO2 (fun g hg => (hO2.lt g hg).1)) hb2)
  clear hO1 hO2 hM1 hM2 C1 B1 hbel hb2 hsz
  go_wp2_with (at_builtin; first
   | refine wpList_append_run rfl (.tmp 20) (.tmp 23) 51 rfl _ _ rfl rfl happ1 ?_
   | refine wpList_append_run rfl (.tmp 38) (.tmp 41) 51 rfl _ _ rfl rfl happ2 ?_)
  go_ret
  exact ⟨_, rfl, (unhide HF).1, (unhide HF).2⟩
 have e7 : (op == 7) = false := by simpa using h7
 have e8 : (op == 8) = false := by simpa using h8
 have e13 : (op == 13) = false := by simpa using h13
 have e18 : (op == 18) = false := by simpa using h18
 have n7 : (op != 7) = true := by simpa using h7
 have n13 : (op != 13) = true := by simpa using h13
 have hg : goesL ⟨op, xa, xb⟩ i = [(i : Int) + 1] := by unfold goesL fallsB jumpsB; dsimp only; rw [e7, e8, e13, e18]; rfl
 rw [hg]
 obtain ⟨a1, n1, c1, w1, happ1, hO1, hM1⟩ := app_int (W := (w.alloc (.cells #[.int .i64 m.slot, .slice aa m.args.length acap, .int .i64 m.ret, .int .i64 m.locals, .int .i64 m.stack, .slice (some ⟨cb, off, none⟩) m.code.length ccap, .slice fa m.frames.length fcap] 63)).alloc (.cells #[.int .i64 op, .int .i64 xa, .int .i64 xb] 60)) w.heap.size (.slice none 0 0) [] (World.ownsRow_nil _ _ _ _) ((i : Int) + 1) (w.heap.size + 1 + 1) hsz (by simp) (by omega)
 have C1 := B1.mods hM1 (fun e => by cases e)
 have z0 : w1.cell? ⟨w.heap.size + 1, 0, none⟩ = some (.int .i64 op) := C1.cell 0
 have hb1 := hbel.trans (hM1.below hbel.size (fun k hk e => by cases e))
 have HF := hide (And.intro (own_intsC (S := fun k => w.heap.size ≤ k) hO1 (fun g hg => (hO1.lt g hg).1)) hb1)
 clear hO1 hM1 B1 C1 hbel hb1 hsz
 go_wp2_with (at_builtin; refine wpList_append_run rfl (.tmp 20) (.tmp 23) 51 rfl _ _ rfl rfl happ1 ?_)
 go_ret
 exact ⟨_, rfl, (unhide HF).1, (unhide HF).2⟩
end Go.Proofs.YtiiokkllmchohaaGreat
namespace Go.Proofs.YtiiokkllmchohaaGreat
open Go.RowKit Go.Shelf
structure StpI (w V : World) (B b : Nat) (vl : Value) (loc : List Int) (vs : Value) (stk : List Int) : Prop where
 bel : Below w.heap.size w V
 box : Blk V b 149 [.bool true, vl, vs]
 rl : V.ownsRow B 43 1 vl loc.length (loc.map (Value.int .i64))
 rs : V.ownsRow B 43 1 vs stk.length (stk.map (Value.int .i64))
 ne : ∀ g, vl.ownBlock = some g → vs.ownBlock ≠ some g
section
variable {w V : World} {B b : Nat} {vl vs : Value} {loc stk : List Int}
theorem StpI.start (hb : Below w.heap.size w V) : StpI w (V.alloc (.cells #[.bool true, .slice none 0 0, .slice none 0 0] 149)) B V.heap.size (.slice none 0 0) [] (.slice none 0 0) [] :=
 ⟨hb.alloc hb.size _, Blk.new V _ _, World.ownsRow_nil _ _ _ _, World.ownsRow_nil _ _ _ _, fun g h => by cases h⟩
theorem StpI.growL (i : StpI w V B b vl loc vs stk) : GrowI w V B b 1 [.bool true, vl, vs] vl loc := ⟨i.bel, i.box, rfl, i.rl⟩
theorem StpI.growS (i : StpI w V B b vl loc vs stk) : GrowI w V B b 2 [.bool true, vl, vs] vs stk := ⟨i.bel, i.box, rfl, i.rs⟩
theorem StpI.below {V' : World} (i : StpI w V B b vl loc vs stk) (h : Below V.heap.size V V') : StpI w V' B b vl loc vs stk :=
 ⟨i.bel.trans (h.mono i.bel.size), i.box.below h i.box.lt, own_mods i.rl (Mods.of_below h) (fun g hg e => by have := (i.rl.lt g hg).2; omega), own_mods i.rs (Mods.of_below h) (fun g hg e => by have := (i.rs.lt g hg).2; omega), i.ne⟩
theorem StpI.locals (i : StpI w V B b (.slice none 0 0) [] (.slice none 0 0) []) (hB : w.heap.size ≤ B) (hBV : B ≤ V.heap.size) (hb : w.heap.size ≤ b) (hbB : b < B) (xs : List Int) (hx : xs.length ≤ 4194304) (sa : Option Addr) (sn sc : Nat) (hsn : sn = xs.length) (hnil : sa = none → sn = 0 ∧ sc = 0) (hsrc : ∀ ad, sa = some ad → ∀ j u, (xs.map (Value.int .i64))[j]? = some u → V.cell? (ad.add j) = some u) :
  ∃ a n cap w', (Builtin.append_ #[40, 40] 40 #[.slice none 0 0, .slice sa sn sc]).run Tryz.prog V = .ok (.slice a n cap) w' ∧
   w'.cell? ⟨b, 1, none⟩ = some (.slice none 0 0) ∧ w'.frozen? ⟨b, 1, none⟩ = false ∧ Below V.heap.size V w' ∧ StpI w (w'.setCell ⟨b, 1, none⟩ (.slice a n cap)) B b (.slice a n cap) xs (.slice none 0 0) [] := by
 obtain ⟨a, n, cap, w', happ, c1, f1, hM, _, I⟩ := i.growL.more hB hBV hb hbB (by simp) xs hx sa sn sc hsn hnil hsrc
 exact ⟨a, n, cap, w', happ, c1, f1, hM.below (Nat.le_refl _) (fun k hk e => by cases e), I.bel, I.box, by simpa using I.row, World.ownsRow_nil _ _ _ _, fun g _ h => by cases h⟩
theorem StpI.set (i : StpI w V B b vl loc vs stk) (hB : w.heap.size ≤ B) {g : Nat} (hg : vl.ownBlock = some g) (k : Nat) (x : Int) : StpI w (V.setCell ⟨g, k, none⟩ (.int .i64 x)) B b vl (loc.set k x) vs stk ∧ Mods (fun j => j = g) V (V.setCell ⟨g, k, none⟩ (.int .i64 x)) := by
 have hM : Mods (fun j => j = g) V (V.setCell ⟨g, k, none⟩ (.int .i64 x)) := (Mods.refl (fun j => j = g) V).setCell (p := ⟨g, k, none⟩) (fun _ => rfl) _
 have hlt := (i.rl.lt g hg).1
 refine ⟨⟨i.bel.trans (hM.below i.bel.size (fun j hj e => by omega)), i.box.mods hM (fun e => own_not_box i.rl i.box (by rw [hg, e])), ?_, own_mods i.rs hM (fun g' hg' e => i.ne g hg (by rw [hg', e])), i.ne⟩, hM⟩
 have := own_set i.rl hg k (.int .i64 x)
 rw [List.length_set, List.map_set]
 exact this
theorem StpI.more (i : StpI w V B b vl loc vs stk) (hB : w.heap.size ≤ B) (hBV : B ≤ V.heap.size) (hb : w.heap.size ≤ b) (hbB : b < B) (hl : stk.length ≤ 100) (xs : List Int) (hx : xs.length ≤ 4194304) (sa : Option Addr) (sn sc : Nat) (hsn : sn = xs.length) (hnil : sa = none → sn = 0 ∧ sc = 0) (hsrc : ∀ ad, sa = some ad → ∀ j u, (xs.map (Value.int .i64))[j]? = some u → V.cell? (ad.add j) = some u) :
  ∃ a n cap w', (Builtin.append_ #[40, 40] 40 #[vs, .slice sa sn sc]).run Tryz.prog V = .ok (.slice a n cap) w' ∧
   w'.cell? ⟨b, 2, none⟩ = some vs ∧ w'.frozen? ⟨b, 2, none⟩ = false ∧ Mods (fun j => vs.ownBlock = some j) V w' ∧ StpI w (w'.setCell ⟨b, 2, none⟩ (.slice a n cap)) B b vl loc (.slice a n cap) (stk ++ xs) := by
 obtain ⟨a, n, cap, w', happ, c1, f1, hM, hv, I⟩ := i.growS.more hB hBV hb hbB hl xs hx sa sn sc hsn hnil hsrc
 have hM2 : Mods (fun j => j = b) w' (w'.setCell ⟨b, 2, none⟩ (.slice a n cap)) := (Mods.refl (fun j => j = b) w').setCell (p := ⟨b, 2, none⟩) (fun _ => rfl) _
 have r1 := own_mods i.rl hM (fun g hg e => i.ne g hg e)
 refine ⟨a, n, cap, w', happ, c1, f1, hM, I.bel, I.box, own_mods r1 hM2 (fun g hg e => by have := (i.rl.lt g hg).1; omega), I.row, fun g hg h => ?_⟩
 rcases hv g h with h' | h'
 ·exact i.ne g hg h'
 ·have := (i.rl.lt g hg).2; omega
theorem StpI.one (i : StpI w V B b vl loc vs stk) (hB : w.heap.size ≤ B) (hBV : B ≤ V.heap.size) (hb : w.heap.size ≤ b) (hbB : b < B) (hl : stk.length ≤ 100) (x : Int) :
  ∃ a n cap w', (Builtin.append_ #[40, 40] 40 #[vs, .slice (some ⟨V.heap.size, 0, none⟩) 1 1]).run Tryz.prog (V.alloc (.cells #[.int .i64 x] 43)) = .ok (.slice a n cap) w' ∧
   w'.cell? ⟨b, 2, none⟩ = some vs ∧ w'.frozen? ⟨b, 2, none⟩ = false ∧ Mods (fun j => vs.ownBlock = some j) V w' ∧ StpI w (w'.setCell ⟨b, 2, none⟩ (.slice a n cap)) B b vl loc (.slice a n cap) (stk ++ [x]) := by
 obtain ⟨a, n, cap, w', happ, c1, f1, hM, hv, I⟩ := i.growS.one hB hBV hb hbB hl x
 have hM2 : Mods (fun j => j = b) w' (w'.setCell ⟨b, 2, none⟩ (.slice a n cap)) := (Mods.refl (fun j => j = b) w').setCell (p := ⟨b, 2, none⟩) (fun _ => rfl) _
 have r1 := own_mods i.rl hM (fun g hg e => i.ne g hg e)
 refine ⟨a, n, cap, w', happ, c1, f1, hM, I.bel, I.box, own_mods r1 hM2 (fun g hg e => by have := (i.rl.lt g hg).1; omega), I.row, fun g hg h => ?_⟩
 rcases hv g h with h' | h'
 ·exact i.ne g hg h'
 ·have := (i.rl.lt g hg).2; omega
theorem StpI.read (i : StpI w V B b vl loc vs stk) : NewSt B V ⟨loc, stk⟩ vl vs :=
 ⟨own_intsC i.rl (fun g hg => (i.rl.lt g hg).1), own_intsC i.rs (fun g hg => (i.rs.lt g hg).1)⟩
end
end Go.Proofs.YtiiokkllmchohaaGreat
