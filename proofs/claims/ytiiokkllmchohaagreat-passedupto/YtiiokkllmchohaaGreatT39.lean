/- The document's frames of a solution, walked. -/
import Derived.Test.YtiiokkllmchohaaGreatT30
import Derived.Test.YtiiokkllmchohaaGreatT37
namespace Go.Proofs.YtiiokkllmchohaaGreat
open Go.RowKit Go.Shelf
attribute [local go_sem ↓] Go.wp_at_zero Go.wp_at_succ
attribute [local go_sem] frz_drew
theorem FopF.add {w V : World} {B : Nat} {v : Value} {l : List LFrame} (F : FopF w V B v l) (hb : Below w.heap.size w V) (hl : l.length ≤ 40) {x : LFrame} {vl vs : Value} (h1 : SlAt 1 (GInt (sel (fun k => B ≤ k) w)) vl x.locals) (h2 : SlAt 1 (GInt (sel (fun k => B ≤ k) w)) vs x.stack) (H : Nat) (hH : V.heap.size = H) :
  ∃ a n cap w', (Builtin.append_ #[36, 36] 36 #[v, .slice (some ⟨H, 0, none⟩) 1 1]).run Tryz.prog (V.alloc (.cells #[.int .i64 x.pc, vl, vs] 42)) = .ok (.slice a n cap) w' ∧ FopF w w' B (.slice a n cap) (l ++ [x]) ∧ Mods (fun k => v.ownBlock = some k) V w' := by
 obtain ⟨j0, gj0, gz0, gz1, gz2⟩ := info_parts infoFr3
 obtain ⟨cs, hO, hR⟩ := F
 obtain ⟨v3, w3, happ, hO3, hM3, _⟩ := app_ex (P := Tryz.prog) (W := V) 36 36 42 j0 _ 3 56 Tryz.underlying36 gj0 gz0 gz1 gz2 rfl (by decide) w.heap.size _ _ _ hO #[.int .i64 x.pc, vl, vs] rfl
  (fun u hu => by
    simp only [List.mem_cons, List.not_mem_nil, or_false] at hu
    rcases hu with rfl | rfl | rfl
    ·rfl
    ·exact slAt_one h1
    ·exact slAt_one h2) H hH (by unfold maxLen; omega) (by omega) hb.size
 obtain ⟨a, cap, rfl⟩ := own_form hO3
 exact ⟨a, _, cap, w3, happ, ⟨_, by simpa using hO3, hR.snoc ⟨vl, vs, rfl, h1, h2⟩ rfl⟩, hM3⟩
theorem frR_len (m : LMeth) (R : List (Option TSt)) (pl : Bool) : ∀ n, (frR m R pl n).length ≤ n
 | 0 => Nat.le_refl _
 | n + 1 => by
  unfold frR
  rw [List.length_append]
  have := frR_len m R pl n
  split <;> simp <;> omega
structure FroI (w V : World) (m : LMeth) (B : Nat) (mc : List Value) (v : Value) (l : List LFrame) : Prop where
 bel : Below w.heap.size w V
 bm : Blk V w.heap.size 63 mc
 fr : FopF w V B v l
theorem FroI.add {w V : World} {m : LMeth} {B : Nat} {mc : List Value} {v : Value} {l : List LFrame} (i : FroI w V m B mc v l) (hl : l.length ≤ 40) {x : LFrame} {vl vs : Value} (h1 : SlAt 1 (GInt (sel (fun k => B ≤ k) w)) vl x.locals) (h2 : SlAt 1 (GInt (sel (fun k => B ≤ k) w)) vs x.stack) (H : Nat) (hH : V.heap.size = H) :
  ∃ a n cap w', (Builtin.append_ #[36, 36] 36 #[v, .slice (some ⟨H, 0, none⟩) 1 1]).run Tryz.prog (V.alloc (.cells #[.int .i64 x.pc, vl, vs] 42)) = .ok (.slice a n cap) w' ∧ FroI w w' m B mc (.slice a n cap) (l ++ [x]) := by
 obtain ⟨a, n, cap, w', happ, hF, hM⟩ := i.fr.add i.bel hl h1 h2 H hH
 obtain ⟨cs, hO, _⟩ := i.fr
 refine ⟨a, n, cap, w', happ, i.bel.trans (hM.below i.bel.size (fun k hk e => by have := (hO.lt k e).1; omega)), i.bm.mods hM (fun e => ?_), hF⟩
 obtain ⟨cur, hb⟩ := own_blk hO e
 exact absurd (hb.uniq i.bm) (by decide)
set_option maxHeartbeats 2000000 in
set_option maxRecDepth 100000 in
theorem rs_framesOf (p : List LClass) (m : LMeth) (va vco vf : Value) (pl : Bool) (R : List (Option TSt)) (cs : List Value) (B lb : Nat) (w : World) (hv : GVals w.cell? m va vco vf) (hR : RowS w p m B lb R cs) (hl : R.length = m.code.length) (h40 : m.code.length ≤ 40) (hB : B ≤ w.heap.size) :
  Calls Tryz.prog 53 #[methV m va vco vf, .slice (some ⟨lb, 0, none⟩) m.code.length m.code.length, .bool pl] w fun e w' => FopR B (frR m R pl m.code.length) w w' e := by
 unfold methV
 obtain ⟨aa, _, _, acap, rfl, _⟩ := hv.1
 obtain ⟨ca, cb, off, ccap, rfl, _, hca, hcr⟩ := sl_open hv.2.1
 obtain ⟨fa, _, _, fcap, rfl, _⟩ := hv.2.2
 have HCR := hide hcr
 have HC0 := hide hca
 clear hcr hv hca
 have HI0 : Hid (FroI w (w.alloc (.cells #[.int .i64 m.slot, .slice aa m.args.length acap, .int .i64 m.ret, .int .i64 m.locals, .int .i64 m.stack, .slice ca m.code.length ccap, .slice fa m.frames.length fcap] 63)) m B [.int .i64 m.slot, .slice aa m.args.length acap, .int .i64 m.ret, .int .i64 m.locals, .int .i64 m.stack, .slice ca m.code.length ccap, .slice fa m.frames.length fcap] (.slice none 0 0) (frR m R pl 0)) := ⟨box_below w _, Blk.new w _ _, [], World.ownsRow_nil _ _ _ _, RowG.nil⟩
 go_enter Tryz.func53, Tryz.ntmps53
 go_wp2_with fail
 generalize w.alloc _ = W at *
 go_loopg [7, 8] m.code.length (fun g v i V => ∃ k : Nat, k ≤ m.code.length ∧ g = m.code.length - k ∧ i = .int .i64 k ∧ FroI w V m B [.int .i64 m.slot, .slice aa m.args.length acap, .int .i64 m.ret, .int .i64 m.locals, .int .i64 m.stack, .slice ca m.code.length ccap, .slice fa m.frames.length fcap] v (frR m R pl k))
 case atStart => exact ⟨0, Nat.zero_le _, rfl, rfl, unhide HI0⟩
 case round =>
  clear HI0
  rename World => W1
  rename Value => vfr
  obtain ⟨k, hk, hgk, rfl, hI⟩ := hrel
  have HGK := hide hgk
  clear hgk
  obtain ⟨cs7, hO7, hR7⟩ := hI.fr
  obtain ⟨va7, vc7, hv7⟩ := own_form hO7
  obtain ⟨fl, hfl⟩ : ∃ fl, fl = (frR m R pl k).length := ⟨_, rfl⟩
  rw [← hfl] at hv7
  subst hv7
  clear hO7 hR7 hfl
  have HI1 := hide hI
  by_cases hlt : k < m.code.length
  rotate_left
  ·obtain rfl : k = m.code.length := by omega
   have ke : ¬ (m.code.length : Int) < (m.code.length : Int) := by omega
   clear hI
   go_wp2_with fail
   go_ret
   obtain ⟨cs9, hO9, hR9⟩ := (unhide HI1).fr
   exact ⟨_, rfl, own_frmS hO9 (hR9.mono fun x c h => FrmC.keep (sel_mods (Mods.of_below (unhide HI1).bel) fun k hk hS => ⟨fun e => by omega, hS⟩) h) (fun g hg => by have := (hO9.lt g hg).1; omega), (unhide HI1).bel⟩
  obtain rfl := unhide HC0 (ne_nil_of_lt hlt)
  have k0 : (0 : Int) ≤ (k : Int) := by omega
  have k1 : (k : Int) < (m.code.length : Int) := by omega
  have m5 : W1.cell? ⟨w.heap.size, 5, none⟩ = some (.slice (some ⟨cb, off, none⟩) m.code.length ccap) := hI.bm.cell 5
  have hbl := hI.bel
  clear hI
  go_wp2_with fail
  go_loopg [9, 10] m.code.length (fun g q i V => ∃ (j : Nat) (b : Bool), j ≤ m.code.length ∧ g = m.code.length - j ∧ q = .bool b ∧ i = .int .i64 j ∧ b = (!pl || plcK m R k j) ∧ V = W1)
  case atStart => exact ⟨0, _, Nat.zero_le _, rfl, rfl, rfl, by show _ = (!pl || false); simp, rfl⟩
  case round =>
   obtain ⟨j, b, hj, hgj, rfl, rfl, hb, rfl⟩ := hrel
   rename World => W2
   have HGJ := hide hgj
   have HB0 := hide hb
   clear hgj hb
   by_cases hjl : j < m.code.length
   rotate_left
   ·obtain rfl : j = m.code.length := by omega
    have ke : ¬ (m.code.length : Int) < (m.code.length : Int) := by omega
    obtain ⟨a, n, c, a', n', c', r0, r1, r2, hS, _⟩ := hR.at_ (i := k) (by omega)
    have s0 := Keeps.of_below hbl _ _ r0
    have s1 := Keeps.of_below hbl _ _ r1
    have s2 := Keeps.of_below hbl _ _ r2
    obtain ⟨rr, hrr⟩ : ∃ rr, rr = R.getD k none := ⟨_, rfl⟩
    rw [← hrr] at s0 hS
    have HRR := hide hrr
    clear hrr r0
    cases b with
    | false =>
     have HC : Hid (((!pl || plcK m R k m.code.length) && (R.getD k none).isSome) = false) := by show _ = _; rw [← unhide HB0]; rfl
     clear s0 s1 s2 r1 r2
     have hfr : frR m R pl (k + 1) = frR m R pl k ++ (if (!pl || plcK m R k m.code.length) && (R.getD k none).isSome then [⟨(k : Int), ((R.getD k none).getD ⟨[], []⟩).loc, ((R.getD k none).getD ⟨[], []⟩).stk⟩] else []) := rfl
     have HE : Hid (frR m R pl (k + 1) = frR m R pl k) := by show _ = _; rw [hfr, unhide HC]; simp
     clear hfr
     rw [← unhide HE] at HI1
     go_wp2_with fail
     go_roundg (m.code.length - (k + 1))
     case measure => have := unhide HGK; omega
     case rel => exact ⟨k + 1, by omega, rfl, by go_num, unhide HI1⟩
    | true =>
     cases rr with
     | none =>
      dsimp only [Option.isSome] at s0
      have HC : Hid (((!pl || plcK m R k m.code.length) && (R.getD k none).isSome) = false) := by show _ = _; rw [← unhide HRR]; simp
      clear s1 s2 r1 r2
      have hfr : frR m R pl (k + 1) = frR m R pl k ++ (if (!pl || plcK m R k m.code.length) && (R.getD k none).isSome then [⟨(k : Int), ((R.getD k none).getD ⟨[], []⟩).loc, ((R.getD k none).getD ⟨[], []⟩).stk⟩] else []) := rfl
      have HE : Hid (frR m R pl (k + 1) = frR m R pl k) := by show _ = _; rw [hfr, unhide HC]; simp
      clear hfr
      rw [← unhide HE] at HI1
      go_wp2_with fail
      go_roundg (m.code.length - (k + 1))
      case measure => have := unhide HGK; omega
      case rel => exact ⟨k + 1, by omega, rfl, by go_num, unhide HI1⟩
     | some s =>
      dsimp only [Option.isSome] at s0
      have HE : Hid (frR m R pl (k + 1) = frR m R pl k ++ [⟨(k : Int), s.loc, s.stk⟩]) := by
       show _ = _
       have hfr : frR m R pl (k + 1) = frR m R pl k ++ (if (!pl || plcK m R k m.code.length) && (R.getD k none).isSome then [⟨(k : Int), ((R.getD k none).getD ⟨[], []⟩).loc, ((R.getD k none).getD ⟨[], []⟩).stk⟩] else []) := rfl
       rw [hfr, ← unhide HB0, ← unhide HRR]
       rfl
      have hS' : StG (sel (fun k => B ≤ k) w) s (.slice a n c) (.slice a' n' c') := StG.keep (sel_mods (Mods.refl (fun _ => False) w) fun k hk hS => ⟨fun e => e, hS.1⟩) hS
      have HO := hide (fun Y (hY : Below W2.heap.size W2 Y) => And.intro (Keeps.of_below hY _ _ s1) (Keeps.of_below hY _ _ s2))
      have I2 : FroI w W2.drew m B _ _ _ := ⟨(unhide HI1).bel.drew, (unhide HI1).bm.drew, (unhide HI1).fr.below drew_below⟩
      have hln := frR_len m R pl k
      obtain ⟨na, nn, ncap, w3, happ, I3⟩ := I2.add (by omega) (x := ⟨(k : Int), s.loc, s.stk⟩) hS'.1 hS'.2 W2.heap.size rfl
      rw [← unhide HE] at I3
      have HI3 := hide I3
      have hb3 : Below w.heap.size w w3 := I3.bel
      have q1 := Keeps.of_below hb3 _ _ r1
      have q2 := Keeps.of_below hb3 _ _ r2
      clear I2 I3 m5
      go_upto_region 12 with fail
      refine wp_region_noPanic ?_
      refine wp_region_held_drew (S := (fun w' => w'.cell? ⟨lb, k * 3 + 1, none⟩ = some (.slice a n c) ∧ w'.cell? ⟨lb, k * 3 + 2, none⟩ = some (.slice a' n' c'))) (by kernel_rfl) ?_ (fun hHeld => ?_)
      ·exact (unhide HO) _ drew_below
      refine take_x (some 70) 0 rfl rfl ?_
      refine take_x (some 71) 1 rfl rfl ?_
      refine take_x (some 72) 2 rfl rfl ?_
      refine take_x (some 73) 3 rfl rfl ?_
      refine take_x (some 74) 4 rfl rfl ?_
      refine take_x (some 75) 5 rfl rfl ?_
      refine take_x (some 76) 6 rfl rfl ?_
      refine take_x (some 77) 7 rfl rfl ?_
      refine take_x (some 78) 8 rfl rfl ?_
      refine take_x (some 79) 9 rfl rfl ?_
      refine take_x (some 80) 10 rfl rfl ?_
      refine take_x (some 81) 11 rfl rfl ?_
      refine take_x (some 82) 12 rfl rfl ?_
      refine wpAnyH_ready (rs := [13]) (by kernel_rfl) (by simp) ?_
      refine AllReadyH.cons rfl (fun K hK => ?_) AllReadyH.nil
      go_simp
      have hz1 := box_below W2.drew (.cells #[.int .i64 (k : Int), .slice a n c, .slice a' n' c'] 42)
      have hz2 : Below W2.heap.size W2 (W2.drew.alloc (.cells #[.int .i64 (k : Int), .slice a n c, .slice a' n' c'] 42)) := ⟨hz1.os, hz1.tape, hz1.output, hz1.size, hz1.block⟩
      refine hK.out _ _ ((unhide HO) _ hz2) (fun hHeld => ?_)
      clear hK K
      try simp only [Act.put, List.setIfInBounds_toArray, List.set_cons_zero, List.set_cons_succ]
      refine wpAnyH_ready (rs := [14]) (by kernel_rfl) (by simp) ?_
      refine AllReadyH.cons rfl (fun K hK => ?_) AllReadyH.nil
      refine wp_append_run (.tmp 70) (.tmp 83) 36 rfl _ _ rfl rfl happ ?_
      go_simp
      refine hK.out _ _ ⟨q1, q2⟩ (fun hHeld => ?_)
      clear hK K
      try simp only [Act.put, List.setIfInBounds_toArray, List.set_cons_zero, List.set_cons_succ]
      refine take_x (some 7) 15 rfl rfl ?_
      refine wpAnyH_done (by kernel_rfl) ?_ _
      refine NoPanic.normal ?_
      clear hHeld happ hz1 hz2 q1 q2 r1 r2 s0 s1 s2
      go_wp2_with fail
      go_roundg (m.code.length - (k + 1))
      case measure => have := unhide HGK; omega
      case rel => exact ⟨k + 1, by omega, rfl, by go_num, unhide HI3⟩
   obtain ⟨a, n, c, a', n', c', r0, _, _, _, _⟩ := hR.at_ (i := j) (by omega)
   have s0 := Keeps.of_below hbl _ _ r0
   have hIA : insAt m j = m.code[j] := by unfold insAt; rw [List.getElem?_eq_getElem hjl]; rfl
   obtain ⟨x0, x1, _⟩ := unhide HCR j hjl
   rw [← hIA] at x0 x1
   have y0 := Keeps.of_below hbl _ _ x0
   have y1 := Keeps.of_below hbl _ _ x1
   have j0 : (0 : Int) ≤ (j : Int) := by omega
   have j1 : (j : Int) < (m.code.length : Int) := by omega
   have HP : Hid (plcK m R k (j + 1) = (plcK m R k j || ((R.getD j none).isSome && jumpsB (insAt m j) && ((insAt m j).a == (k : Int))))) := rfl
   generalize insAt m j = x at *
   generalize (R.getD j none).isSome = ii at *
   clear x0 x1 r0 hIA
   have HE : Hid ((b || (ii && jumpsB x && (x.a == (k : Int)))) = (!pl || plcK m R k (j + 1))) := by show _ = _; rw [unhide HP, unhide HB0]; cases pl <;> simp
   ·have HJ : Hid (jumpsB x = (x.op == 7 || x.op == 8 || x.op == 18)) := rfl
    cases b with
    | true =>
     have HB : Hid ((true || (ii && jumpsB x && (x.a == (k : Int)))) = true) := rfl
     clear HB0 HP
     go_wp2_with fail
     go_roundg (m.code.length - (j + 1))
     case measure => have := unhide HGJ; omega
     case rel => exact ⟨j + 1, _, by omega, rfl, rfl, by go_num, by rw [← unhide HE, unhide HB], rfl⟩
    | false =>
     cases ii with
     | false =>
      have HB : Hid ((false || (false && jumpsB x && (x.a == (k : Int)))) = false) := rfl
      clear HB0 HP
      go_wp2_with fail
      go_roundg (m.code.length - (j + 1))
      case measure => have := unhide HGJ; omega
      case rel => exact ⟨j + 1, _, by omega, rfl, rfl, by go_num, by rw [← unhide HE, unhide HB], rfl⟩
     | true =>
      by_cases e7 : x.op = 7
      ·have f7 : (x.op == 7) = true := by simpa using e7
       have HB : Hid ((false || (true && jumpsB x && (x.a == (k : Int)))) = (x.a == (k : Int))) := by show _ = _; rw [unhide HJ, f7]; simp
       clear e7
       clear HB0 HP
       go_wp2_with fail
       go_roundg (m.code.length - (j + 1))
       case measure => have := unhide HGJ; omega
       case rel => exact ⟨j + 1, _, by omega, rfl, rfl, by go_num, by rw [← unhide HE, unhide HB], rfl⟩
      have f7 : (x.op == 7) = false := by simpa using e7
      by_cases e8 : x.op = 8
      ·have f8 : (x.op == 8) = true := by simpa using e8
       have HB : Hid ((false || (true && jumpsB x && (x.a == (k : Int)))) = (x.a == (k : Int))) := by show _ = _; rw [unhide HJ, f7, f8]; simp
       clear e7 e8
       clear HB0 HP
       go_wp2_with fail
       go_roundg (m.code.length - (j + 1))
       case measure => have := unhide HGJ; omega
       case rel => exact ⟨j + 1, _, by omega, rfl, rfl, by go_num, by rw [← unhide HE, unhide HB], rfl⟩
      have f8 : (x.op == 8) = false := by simpa using e8
      by_cases e18 : x.op = 18
      ·have f18 : (x.op == 18) = true := by simpa using e18
       have HB : Hid ((false || (true && jumpsB x && (x.a == (k : Int)))) = (x.a == (k : Int))) := by show _ = _; rw [unhide HJ, f7, f8, f18]; simp
       clear e7 e8 e18
       clear HB0 HP
       go_wp2_with fail
       go_roundg (m.code.length - (j + 1))
       case measure => have := unhide HGJ; omega
       case rel => exact ⟨j + 1, _, by omega, rfl, rfl, by go_num, by rw [← unhide HE, unhide HB], rfl⟩
      have f18 : (x.op == 18) = false := by simpa using e18
      have HB : Hid ((false || (true && jumpsB x && (x.a == (k : Int)))) = false) := by show _ = _; rw [unhide HJ, f7, f8, f18]; simp
      clear e7 e8 e18
      clear HB0 HP
      go_wp2_with fail
      go_roundg (m.code.length - (j + 1))
      case measure => have := unhide HGJ; omega
      case rel => exact ⟨j + 1, _, by omega, rfl, rfl, by go_num, by rw [← unhide HE, unhide HB], rfl⟩
end Go.Proofs.YtiiokkllmchohaaGreat
