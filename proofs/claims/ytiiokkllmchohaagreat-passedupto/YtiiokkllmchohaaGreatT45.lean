/- What is proved: the law Passed (every Check, of a program, of what Certify makes of it, and of the program again, behind one that passes and one that must not) answers true, and what it was handed reads as it did. Condition: the arguments hold together at most 1048576 values and letters. -/
import Derived.Test.YtiiokkllmchohaaGreatT30
import Derived.Test.YtiiokkllmchohaaGreatT38
import Derived.Test.YtiiokkllmchohaaGreatT40
import Derived.Test.YtiiokkllmchohaaGreatT42
import Derived.Test.YtiiokkllmchohaaGreatT43
import Derived.Test.YtiiokkllmchohaaGreatT44
namespace Go.Proofs.YtiiokkllmchohaaGreat
open Go.RowKit Go.Shelf
attribute [local go_sem ↓] Go.wp_at_zero Go.wp_at_succ
attribute [local go_sem] frz_drew
def RCertR (n : Nat) (p : List LClass) (Q : Nat → Nat → Option SvSt) (w w' : World) (e : Ending) : Prop :=
 (formI p ≠ 0 → e = .returned (.tuple #[.agg #[.slice none 0 0], .int .i64 (formI p)])) ∧ (formI p = 0 → (AllS p Q ∧ ∃ v, e = .returned (.tuple #[.agg #[v], .int .i64 0]) ∧ SlAt 3 (GClass (sel (fun k => k < n ∨ w.heap.size + 1 < k) w')) v (certP p (getR Q))) ∨ (¬ AllS p Q ∧ e = .returned (.tuple #[.agg #[.slice none 0 0], .int .i64 5]))) ∧ Below w.heap.size w w'
set_option maxHeartbeats 2000000 in
set_option maxRecDepth 100000 in
theorem rs_certify (n : Nat) (p : List LClass) (vc : Value) (w : World) (hn : n ≤ w.heap.size) (hp : SlAt 3 (GClass (sel (fun k => k < n) w)) vc p) (hwf : wfProg p) (hz : szProg p ≤ 4194304) (Q : Nat → Nat → Option SvSt) (hQ : formI p = 0 → Ends p Q) :
  Calls Tryz.prog 22 #[.agg #[vc]] w fun e w' => RCertR n p Q w w' e := by
 have HP : Hid (RProg w vc p) := prog_keep sel_world hp
 have HQ := hide hQ
 have HFM := hide (fun w hp => ref_form p vc w hp hwf hz)
 have HSV := hide (fun c m va vco vf w hp hv hF M hins h40 hc0 hc1 h1 hb hcl N r hN => rs_solved p vc c m va vco vf w hp hv hF hz M hins h40 hc0 hc1 h1 hb hcl N r hN)
 have hpl : p.length ≤ 4194304 := Nat.le_trans (szProg_len p) hz
 obtain ⟨pa, pb, poff, pcap, rfl, _, hpa, hpr⟩ := sl_open hp
 have HPR := hide hpr
 have HPA := hide hpa
 clear hpr hp hQ hpa
 have hbel : Below w.heap.size w ((w.alloc (.cells #[.slice pa p.length pcap] 24)).alloc (.cells #[.slice none 0 0] 24)) := box2_below _ _ _
 have B0 := (Blk.new w #[.slice pa p.length pcap] 24).alloc (.cells #[.slice none 0 0] 24)
 have B1 := Blk.new (w.alloc (.cells #[.slice pa p.length pcap] 24)) #[.slice none 0 0] 24
 rw [World.size_alloc] at B1
 go_enter Tryz.func22, Tryz.ntmps22
 go_wp2_with fail
 generalize (w.alloc _).alloc _ = W at *
 refine (unhide HFM W (prog_keep (Keeps.of_below hbel) (unhide HP))).mono ?_
 rintro e w1 ⟨rfl, hb1⟩
 have hbw1 := hbel.trans (hb1.mono hbel.size)
 have C0 := B0.below hb1 B0.lt
 have C1 := B1.below hb1 B1.lt
 by_cases hF : formI p = 0
 rotate_left
 ·have c1 : w1.cell? ⟨w.heap.size + 1, 0, none⟩ = some (.slice none 0 0) := C1.cell 0
  have f1 := C1.frozen 0
  have HFF := hide hF
  have hF' : (formI p != 0) = true := by simpa using hF
  have R1 := C1.setCell 0 (.slice none 0 0)
  have HB := hide (hbw1.setCell (p := ⟨w.heap.size + 1, 0, none⟩) (by dsimp only; omega) (.slice none 0 0))
  clear hF
  go_wp2_with fail
  refine bodyPost_ret (results_blk2 rfl aggPr1 R1 rfl rfl) rfl ?_
  exact ⟨fun _ => rfl, fun e => absurd e (unhide HFF), unhide HB⟩
 have HF := hide hF
 rw [hF]
 clear hF
 have hb2 := box_below w1 (.cells #[.slice none 0 0] 24)
 have hl1 := C1.lt
 obtain ⟨bo, hbo⟩ : ∃ bo, bo = w1.heap.size := ⟨_, rfl⟩
 have HI0 : Hid (CwI n w (w1.alloc (.cells #[.slice none 0 0] 24)) bo (.slice pa p.length pcap) (.slice none 0 0) ((certP p (getR Q)).take 0)) :=
  ⟨hbw1.trans (hb2.mono hbw1.size), C0.below hb2 C0.lt, C1.below hb2 C1.lt, (by rw [hbo]; exact Blk.new w1 _ _), ⟨[], World.ownsRow_nil _ _ _ _, RowG.nil⟩, by omega, hn⟩
 go_wp2_with fail
 generalize w1.alloc _ = W2 at *
 rw [← hbo]
 clear hbo hb2 hl1 hbw1 hb1 C0 C1 B0 B1 hbel
 have x0 : W2.cell? ⟨w.heap.size, 0, none⟩ = some (.slice pa p.length pcap) := (unhide HI0).b0.cell 0
 go_loopg [6] p.length (fun g i V => ∃ (c : Nat) (v : Value), c ≤ p.length ∧ g = p.length - c ∧ i = .int .i64 c ∧ CwI n w V bo (.slice pa p.length pcap) v ((certP p (getR Q)).take c) ∧ ∀ (c' k : Nat) (m : LMeth), c' < c → ownM p c' k = some m → Q c' k ≠ none)
 case atStart => exact ⟨0, _, Nat.zero_le _, rfl, rfl, unhide HI0, fun c' k m h => by omega⟩
 case round =>
  clear HI0 x0
  rename World => Wa
  obtain ⟨c, v, hc, hgc, rfl, hI, hall⟩ := hrel
  have HI := hide hI
  have HGC := hide hgc
  have HALL := hide hall
  clear hgc hall
  have y0 : Wa.cell? ⟨w.heap.size, 0, none⟩ = some (.slice pa p.length pcap) := hI.b0.cell 0
  by_cases hcl : c < p.length
  rotate_left
  ·obtain rfl : c = p.length := by omega
   have ke : ¬ (p.length : Int) < (p.length : Int) := by omega
   have hA : AllS p Q := fun c k m hm => by
    have hc := (form_own (unhide HF) hm).2.1
    exact unhide HALL c k m (by omega) hm
   obtain ⟨va, vn, vcap, rfl⟩ : ∃ a n cap, v = .slice a n cap := by
    obtain ⟨cs, hO, _⟩ := hI.row
    obtain ⟨a, cap, h⟩ := own_form hO
    exact ⟨a, _, cap, h⟩
   have y1 : Wa.cell? ⟨w.heap.size + 1, 0, none⟩ = some (.slice none 0 0) := hI.b1.cell 0
   have f1 := hI.b1.frozen 0
   have y2 : Wa.cell? ⟨bo, 0, none⟩ = some (.slice va vn vcap) := hI.blk.cell 0
   have hlo := hI.lo
   have R1 := hI.b1.setCell 0 (.slice va vn vcap)
   have hM6 : Mods (fun k => k = w.heap.size + 1) Wa (Wa.setCell ⟨w.heap.size + 1, 0, none⟩ (.slice va vn vcap)) := (Mods.refl (fun k => k = w.heap.size + 1) Wa).setCell (p := ⟨w.heap.size + 1, 0, none⟩) (fun _ => rfl) _
   have hR := hI.fin hM6
   rw [List.take_of_length_le (by simp [certP])] at hR
   have HFin : Hid (RCertR n p Q w (Wa.setCell ⟨w.heap.size + 1, 0, none⟩ (.slice va vn vcap)) (.returned (.tuple #[.agg #[.slice va vn vcap], .int .i64 0]))) :=
    ⟨fun e => absurd (unhide HF) e, fun _ => .inl ⟨hA, _, rfl, hR⟩, hI.bel.trans (hM6.below hI.bel.size (fun k hk e => by omega))⟩
   clear hI hA hM6 hR
   go_wp2_with fail
   refine bodyPost_ret (results_blk2 rfl aggPr1 R1 rfl rfl) rfl ?_
   exact unhide HFin
  obtain rfl := unhide HPA (ne_nil_of_lt hcl)
  have c0 : (0 : Int) ≤ (c : Int) := by omega
  have c1 : (c : Int) < (p.length : Int) := by omega
  obtain ⟨vf, vms, d0, d1, d2, hf, hms⟩ := unhide HPR c hcl
  replace d0 := sel_world _ _ d0
  replace d1 := sel_world _ _ d1
  replace d2 := sel_world _ _ d2
  have HME : Hid (∀ (k : Nat) (m : LMeth), p[c].meths[k]? = some m → ownM p c k = some m) := fun k m hm => by
   unfold ownM
   rw [if_pos ⟨by omega, by omega⟩, Int.toNat_natCast, Int.toNat_natCast, List.getElem?_eq_getElem hcl]
   exact hm
  have HOL : Hid (∀ (k : Nat) (m : LMeth), ownM p c k = some m → k < p[c].meths.length) := fun k m hm => by
   unfold ownM at hm
   rw [if_pos ⟨by omega, by omega⟩, Int.toNat_natCast, Int.toNat_natCast, List.getElem?_eq_getElem hcl] at hm
   exact (List.getElem?_eq_some_iff.1 hm).1
  have HCP : Hid ((certP p (getR Q)).take (c + 1) = (certP p (getR Q)).take c ++ [{ p[c] with meths := p[c].meths.mapIdx fun k m => certM m (getR Q c k) }]) := by
   show _ = _
   rw [List.take_add_one, certP_get, List.getElem?_eq_getElem hcl]
   rfl
  have hml : p[c].meths.length ≤ 4194304 := Nat.le_trans (szMeths_le _) (Nat.le_trans (szClass_le (List.getElem_mem hcl)) hz)
  obtain ⟨ms, hms0⟩ : ∃ ms, ms = p[c].meths.mapIdx fun k m => certM m (getR Q c k) := ⟨_, rfl⟩
  rw [← hms0] at HCP
  have HMS : Hid (∀ (k : Nat) (m : LMeth), p[c].meths[k]? = some m → ms.take (k + 1) = ms.take k ++ [certM m (getR Q c k)]) := fun k m hm => by
   rw [List.take_add_one, hms0, List.getElem?_mapIdx, hm]
   rfl
  have hmsl : ms.length = p[c].meths.length := by rw [hms0]; simp
  have HML := hide hmsl
  clear hms0 hmsl
  generalize p[c] = x at *
  obtain ⟨sup, fields, meths⟩ := x
  dsimp only at d0 d1 d2 hf hms hml HME HCP HMS HML HOL
  obtain ⟨fa, _, _, fcap, rfl, _⟩ := id hf
  obtain ⟨ma, mb, moff, mcap, rfl, hmc, hma, hmr⟩ := sl_open hms
  have HMR := hide hmr
  have HMA := hide hma
  have HFL := hide hf
  have e0 := Keeps.of_below hI.bel _ _ d0
  have e1 := Keeps.of_below hI.bel _ _ d1
  have e2 := Keeps.of_below hI.bel _ _ d2
  obtain ⟨v0a, v0n, v0c, rfl⟩ : ∃ a n cap, v = .slice a n cap := by
   obtain ⟨cs, hO, _⟩ := hI.row
   obtain ⟨a, cap, h⟩ := own_form hO
   exact ⟨a, _, cap, h⟩
  have hwa := hI.bel.size
  have hb3 : Below Wa.heap.size Wa ((Wa.alloc (.cells #[.int .i64 sup, .slice fa fields.length fcap, .slice ma meths.length mcap] 66)).alloc (.cells #[.int .i64 sup, .slice fa fields.length fcap, .slice none 0 0] 66)) := box2_below _ _ _
  have D0 := (Blk.new Wa #[.int .i64 sup, .slice fa fields.length fcap, .slice ma meths.length mcap] 66).alloc (.cells #[.int .i64 sup, .slice fa fields.length fcap, .slice none 0 0] 66)
  have D1 := Blk.new (Wa.alloc (.cells #[.int .i64 sup, .slice fa fields.length fcap, .slice ma meths.length mcap] 66)) #[.int .i64 sup, .slice fa fields.length fcap, .slice none 0 0] 66
  rw [World.size_alloc] at D1
  have HM0 : Hid (MwI n Wa ((Wa.alloc (.cells #[.int .i64 sup, .slice fa fields.length fcap, .slice ma meths.length mcap] 66)).alloc (.cells #[.int .i64 sup, .slice fa fields.length fcap, .slice none 0 0] 66)) (Wa.heap.size + 1) (.slice (some ⟨pb, poff, none⟩) p.length pcap) (.slice fa fields.length fcap) (.slice none 0 0) sup (ms.take 0)) :=
   ⟨hb3, D1, ⟨[], World.ownsRow_nil _ _ _ _, RowG.nil⟩, by omega⟩
  have HD0 := hide D0
  clear hmr hma hms hmc hf d0 d1 d2 hb3 D0 D1 hI
  go_wp2_with fail
  generalize (Wa.alloc _).alloc _ = Wb at *
  have z2 : Wb.cell? ⟨Wa.heap.size, 2, none⟩ = some (.slice ma meths.length mcap) := (unhide HD0).cell 2
  go_loopg [9] meths.length (fun g i V => ∃ (k : Nat) (vm : Value), k ≤ meths.length ∧ g = meths.length - k ∧ i = .int .i64 k ∧ MwI n Wa V (Wa.heap.size + 1) (.slice (some ⟨pb, poff, none⟩) p.length pcap) (.slice fa fields.length fcap) vm sup (ms.take k) ∧ Blk V Wa.heap.size 66 [.int .i64 sup, .slice fa fields.length fcap, .slice ma meths.length mcap] ∧ ∀ (k' : Nat) (m : LMeth), k' < k → ownM p c k' = some m → Q c k' ≠ none)
  case atStart => exact ⟨0, _, Nat.zero_le _, rfl, rfl, unhide HM0, unhide HD0, fun k' m h => by omega⟩
  case round =>
   clear z2 HM0 HD0 e0 e1 e2 y0
   rename World => Wd
   obtain ⟨k, vm, hk, hgk, rfl, M1, X1, hal⟩ := hrel
   have HGK := hide hgk
   have HAL := hide hal
   have HM1 := hide M1
   have HX1 := hide X1
   clear hgk hal
   obtain ⟨vma, vmn, vmc, hvm, hvlt⟩ : ∃ a n cap, vm = .slice a n cap ∧ ∀ g, vm.ownBlock = some g → g < Wd.heap.size := by
    obtain ⟨cs, hO, _⟩ := M1.row
    obtain ⟨a, cap, h⟩ := own_form hO
    exact ⟨a, _, cap, h, fun g hg => (hO.lt g hg).2⟩
   subst hvm
   have z2 : Wd.cell? ⟨Wa.heap.size, 2, none⟩ = some (.slice ma meths.length mcap) := X1.cell 2
   have hbz := M1.bel.size
   have hbyl := M1.blk.lt
   by_cases hkl : k < meths.length
   rotate_left
   ·obtain rfl : k = meths.length := by omega
    have ke : ¬ (meths.length : Int) < (meths.length : Int) := by omega
    have I2 := (unhide HI).below M1.bel
    have y0 : Wd.cell? ⟨Wa.heap.size + 1, 0, none⟩ = some (.int .i64 sup) := M1.blk.cell 0
    have y1 : Wd.cell? ⟨Wa.heap.size + 1, 1, none⟩ = some (.slice fa fields.length fcap) := M1.blk.cell 1
    have y2 : Wd.cell? ⟨Wa.heap.size + 1, 2, none⟩ = some (.slice vma vmn vmc) := M1.blk.cell 2
    have y3 : Wd.cell? ⟨bo, 0, none⟩ = some (.slice v0a v0n v0c) := I2.blk.cell 0
    have hm9 := M1.fin
    rw [List.take_of_length_le (by rw [unhide HML]; exact Nat.le_refl _)] at hm9
    have hbo := (unhide HI).blk.lt
    obtain ⟨a5, n5, cap5, w5, happ5, c5, f5, I5⟩ := I2.next (B := Wa.heap.size + 1 + 1) (by rw [List.length_take]; omega) (fun g hg => by obtain ⟨cs, hO, _⟩ := (unhide HI).row; have := (hO.lt g hg).2; omega) (by omega) (x := ⟨sup, fields, ms⟩) (ints_keep (sel_mods (Mods.of_below I2.bel) fun k hk hS => ⟨fun e => by omega, .inl hS⟩) (unhide HFL)) hm9
    rw [← unhide HCP] at I5
    have HI5 := hide I5
    have HE : Hid (∀ (c' k : Nat) (m : LMeth), c' < c + 1 → ownM p c' k = some m → Q c' k ≠ none) := fun c' k m h hm => by
     by_cases e : c' = c
     ·subst e
      have hk : k < meths.length := unhide HOL k m hm
      exact unhide HAL k m hk hm
     ·exact unhide HALL c' k m (by omega) hm
    clear I2 I5 hm9 M1 X1
    go_wp2_with (at_builtin; refine wpList_append_run rfl (.tmp 70) (.tmp 72) 22 rfl _ _ rfl rfl happ5 ?_)
    go_roundg (p.length - (c + 1))
    case measure => have := unhide HGC; omega
    case rel => exact ⟨c + 1, _, by omega, rfl, by go_num, unhide HI5, unhide HE⟩
   obtain rfl := unhide HMA (ne_nil_of_lt hkl)
   have k0 : (0 : Int) ≤ (k : Int) := by omega
   have k1 : (k : Int) < (meths.length : Int) := by omega
   have hown := unhide HME k meths[k] (List.getElem?_eq_getElem hkl)
   have O := ref_own (unhide HF) hown
   obtain ⟨N, hN⟩ := unhide HQ (unhide HF) c k meths[k] hown
   obtain ⟨n', r', hCS, hr1, hr2⟩ := solved_ends (unhide HF) hz hown O.cd O.cl (by have := O.l1; omega) hN
   have HSN := hide (unhide HMS k meths[k] (List.getElem?_eq_getElem hkl))
   obtain ⟨va, vco, vfr, hgv, e0, e1, e2, e3, e4, e5, e6⟩ := unhide HMR k hkl
   have HOWN := hide hown
   clear hN hown
   generalize meths[k] = m at *
   have HGV := hide hgv
   obtain ⟨aa, _, _, acap, rfl, _⟩ := hgv.1
   obtain ⟨ca, _, _, ccap, rfl, _⟩ := hgv.2.1
   obtain ⟨fra, _, _, frc, rfl, _⟩ := hgv.2.2
   have hbw : Below w.heap.size w Wd := (unhide HI).bel.trans (M1.bel.mono hwa)
   replace e0 := Keeps.of_below hbw _ _ (sel_world _ _ e0)
   replace e1 := Keeps.of_below hbw _ _ (sel_world _ _ e1)
   replace e2 := Keeps.of_below hbw _ _ (sel_world _ _ e2)
   replace e3 := Keeps.of_below hbw _ _ (sel_world _ _ e3)
   replace e4 := Keeps.of_below hbw _ _ (sel_world _ _ e4)
   replace e5 := Keeps.of_below hbw _ _ (sel_world _ _ e5)
   replace e6 := Keeps.of_below hbw _ _ (sel_world _ _ e6)
   have hbx := box_below Wd (.cells #[.int .i64 m.slot, .slice aa m.args.length acap, .int .i64 m.ret, .int .i64 m.locals, .int .i64 m.stack, .slice ca m.code.length ccap, .slice fra m.frames.length frc] 63)
   have A0 := Blk.new Wd #[.int .i64 m.slot, .slice aa m.args.length acap, .int .i64 m.ret, .int .i64 m.locals, .int .i64 m.stack, .slice ca m.code.length ccap, .slice fra m.frames.length frc] 63
   have hsz : (Wd.alloc (.cells #[.int .i64 m.slot, .slice aa m.args.length acap, .int .i64 m.ret, .int .i64 m.locals, .int .i64 m.stack, .slice ca m.code.length ccap, .slice fra m.frames.length frc] 63)).heap.size = Wd.heap.size + 1 := by simp
   have I2 := (unhide HI).below (M1.bel.trans (hbx.mono hbz))
   have y0 : (Wd.alloc (.cells #[.int .i64 m.slot, .slice aa m.args.length acap, .int .i64 m.ret, .int .i64 m.locals, .int .i64 m.stack, .slice ca m.code.length ccap, .slice fra m.frames.length frc] 63)).cell? ⟨w.heap.size, 0, none⟩ = some (.slice (some ⟨pb, poff, none⟩) p.length pcap) := I2.b0.cell 0
   have HI2 := hide I2
   clear hgv I2 M1 X1
   go_upto_region 14 with fail
   clear e0 e1 e2 e3 e4 e5 e6
   generalize Wd.alloc _ = We at *
   have b0 : We.cell? ⟨Wd.heap.size, 0, none⟩ = some (.int .i64 m.slot) := A0.cell 0
   have b1 : We.cell? ⟨Wd.heap.size, 1, none⟩ = some (.slice aa m.args.length acap) := A0.cell 1
   have b2 : We.cell? ⟨Wd.heap.size, 2, none⟩ = some (.int .i64 m.ret) := A0.cell 2
   have b3 : We.cell? ⟨Wd.heap.size, 3, none⟩ = some (.int .i64 m.locals) := A0.cell 3
   have b4 : We.cell? ⟨Wd.heap.size, 4, none⟩ = some (.int .i64 m.stack) := A0.cell 4
   have b5 : We.cell? ⟨Wd.heap.size, 5, none⟩ = some (.slice ca m.code.length ccap) := A0.cell 5
   have b6 : We.cell? ⟨Wd.heap.size, 6, none⟩ = some (.slice fra m.frames.length frc) := A0.cell 6
   have hbe := hbw.trans (hbx.mono hbw.size)
   have HSZ := hide hsz
   clear hsz
   have HSV1 := unhide HSV (c : Int) m (.slice aa m.args.length acap) (.slice ca m.code.length ccap) (.slice fra m.frames.length frc) We (prog_keep (Keeps.of_below hbe) (unhide HP)) (GVals.keep (Keeps.of_below hbe) (GVals.keep sel_world (unhide HGV))) (unhide HF) O.ok O.ins O.c40 O.c0 O.c1 O.l1 O.cd O.cl n' r' hCS
   unfold methV at HSV1
   go_wp2_with fail
   refine HSV1.mono ?_
   rintro e V2 ⟨hs1, hs2, hb2⟩
   clear HSV1 b0 b1 b2 b3 b4 b5 b6 y0 z2
   have hbz2 := hb2.size
   have I3 := (unhide HI2).below hb2
   cases hq : Q c k with
   | none =>
    obtain rfl := hs1 (hr1 hq)
    have hA : ¬ AllS p Q := fun h => h c k m (unhide HOWN) hq
    have y1 : V2.cell? ⟨w.heap.size + 1, 0, none⟩ = some (.slice none 0 0) := I3.b1.cell 0
    have f1 := I3.b1.frozen 0
    have R1 := I3.b1.setCell 0 (.slice none 0 0)
    have hM6 : Mods (fun k => k = w.heap.size + 1) V2 (V2.setCell ⟨w.heap.size + 1, 0, none⟩ (.slice none 0 0)) := (Mods.refl (fun k => k = w.heap.size + 1) V2).setCell (p := ⟨w.heap.size + 1, 0, none⟩) (fun _ => rfl) _
    have HFin : Hid (RCertR n p Q w (V2.setCell ⟨w.heap.size + 1, 0, none⟩ (.slice none 0 0)) (.returned (.tuple #[.agg #[.slice none 0 0], .int .i64 5]))) :=
     ⟨fun e => absurd (unhide HF) e, fun _ => .inr ⟨hA, rfl⟩, I3.bel.trans (hM6.below I3.bel.size (fun k hk e => by omega))⟩
    clear I3 hA hM6 hr1 hr2 hs1 hs2 hq
    go_wp2_with fail
    refine bodyPost_ret (results_blk2 rfl aggPr1 R1 rfl rfl) rfl ?_
    exact unhide HFin
   | some s =>
    obtain ⟨R, hR1, hR2, hR3, _⟩ := hr2 s hq
    obtain ⟨lb, cs, rfl, hRow, hRl, hlbw⟩ := hs2 R hR1
    have hgr : getR Q c k = s := by unfold getR; rw [hq]; rfl
    have A2 := A0.below hb2 A0.lt
    have b0 : V2.cell? ⟨Wd.heap.size, 0, none⟩ = some (.int .i64 m.slot) := A2.cell 0
    have b1 : V2.cell? ⟨Wd.heap.size, 1, none⟩ = some (.slice aa m.args.length acap) := A2.cell 1
    have b2 : V2.cell? ⟨Wd.heap.size, 2, none⟩ = some (.int .i64 m.ret) := A2.cell 2
    have b3 : V2.cell? ⟨Wd.heap.size, 3, none⟩ = some (.int .i64 m.locals) := A2.cell 3
    have b4 : V2.cell? ⟨Wd.heap.size, 4, none⟩ = some (.int .i64 m.stack) := A2.cell 4
    have b5 : V2.cell? ⟨Wd.heap.size, 5, none⟩ = some (.slice ca m.code.length ccap) := A2.cell 5
    have b6 : V2.cell? ⟨Wd.heap.size, 6, none⟩ = some (.slice fra m.frames.length frc) := A2.cell 6
    have hbv2 := hbe.trans (hb2.mono hbe.size)
    have HFO := rs_framesOf p m (.slice aa m.args.length acap) (.slice ca m.code.length ccap) (.slice fra m.frames.length frc) true R cs We.heap.size lb V2 (GVals.keep (Keeps.of_below hbv2) (GVals.keep sel_world (unhide HGV))) hRow hRl O.c40 hbz2
    rw [hR3] at HFO
    unfold methV at HFO
    have HQQ := hide hq
    clear hr1 hr2 hs1 hs2 hq hR1 hR3
    go_wp2_with fail
    refine HFO.mono ?_
    rintro e V3 ⟨v3, rfl, hF3, hb3⟩
    clear HFO b0 b1 b2 b3 b4 b5 b6
    obtain ⟨f3a, _, _, f3c, rfl, _⟩ := id hF3
    obtain ⟨f3n, hf3n⟩ : ∃ n, n = (certL m s).length := ⟨_, rfl⟩
    rw [← hf3n] at hF3 ⊢
    clear hf3n
    have A3 := A2.below hb3 A2.lt
    have hbz3 := hb3.size
    have hM4 : Mods (fun k => k = Wd.heap.size) V3 (V3.setCell ⟨Wd.heap.size, 6, none⟩ (.slice f3a f3n f3c)) := (Mods.refl (fun k => k = Wd.heap.size) V3).setCell (p := ⟨Wd.heap.size, 6, none⟩) (fun _ => rfl) _
    have A4 := A3.setCell 6 (.slice f3a f3n f3c)
    have hz9 := unhide HSZ
    have hb4 : Below Wd.heap.size Wd (V3.setCell ⟨Wd.heap.size, 6, none⟩ (.slice f3a f3n f3c)) := (hbx.trans ((hb2.mono hbx.size).trans (hb3.mono (by omega)))).trans (hM4.below (by omega) (fun k hk e => by omega))
    have M4 := (unhide HM1).below hb4
    have X4 := (unhide HX1).below hb4 (unhide HX1).lt
    have hgv4 : GVals (sel (fun k => k < n ∨ We.heap.size ≤ k) (V3.setCell ⟨Wd.heap.size, 6, none⟩ (.slice f3a f3n f3c))) (certM m (getR Q c k)) (.slice aa m.args.length acap) (.slice ca m.code.length ccap) (.slice f3a f3n f3c) := by
     have hold : GLe (sel (fun k => k < n) w) (sel (fun k => k < n ∨ We.heap.size ≤ k) (V3.setCell ⟨Wd.heap.size, 6, none⟩ (.slice f3a f3n f3c))) := sel_mods (Mods.of_below (hbw.trans (hb4.mono hbw.size))) fun k hk hS => ⟨fun e => by omega, .inl hS⟩
     have hg := GVals.keep hold (unhide HGV)
     refine ⟨hg.1, hg.2.1, ?_⟩
     rw [hgr]
     exact frames_keep (sel_mods hM4 fun k hk hS => ⟨fun e => by omega, .inr hS⟩) hF3
    obtain ⟨a5, n5, cap5, w5, happ5, c5, f5, M5, hM5, hv5⟩ := M4.next (B := We.heap.size) (by omega) (by rw [List.length_take]; omega) (fun g hg => by have := hvlt g hg; omega) (by omega) hgv4
    rw [← unhide HSN] at M5
    have X5 := X4.mods hM5 (by
     rintro (e | e)
     ·have := hv5 _ e; omega
     ·omega)
    have HM5 := hide M5
    have HX5 := hide X5
    have HA5 : Hid (∀ (k' : Nat) (m : LMeth), k' < k + 1 → ownM p c k' = some m → Q c k' ≠ none) := fun k' m' h hm => by
     by_cases e : k' = k
     ·subst e
      rw [unhide HQQ]
      simp
     ·exact unhide HAL k' m' (by omega) hm
    have q6 : V3.cell? ⟨Wd.heap.size, 6, none⟩ = some (.slice fra m.frames.length frc) := A3.cell 6
    have fz6 := A3.frozen 6
    have b0 : (V3.setCell ⟨Wd.heap.size, 6, none⟩ (.slice f3a f3n f3c)).cell? ⟨Wd.heap.size, 0, none⟩ = some (.int .i64 m.slot) := A4.cell 0
    have b1 : (V3.setCell ⟨Wd.heap.size, 6, none⟩ (.slice f3a f3n f3c)).cell? ⟨Wd.heap.size, 1, none⟩ = some (.slice aa m.args.length acap) := A4.cell 1
    have b2 : (V3.setCell ⟨Wd.heap.size, 6, none⟩ (.slice f3a f3n f3c)).cell? ⟨Wd.heap.size, 2, none⟩ = some (.int .i64 m.ret) := A4.cell 2
    have b3 : (V3.setCell ⟨Wd.heap.size, 6, none⟩ (.slice f3a f3n f3c)).cell? ⟨Wd.heap.size, 3, none⟩ = some (.int .i64 m.locals) := A4.cell 3
    have b4 : (V3.setCell ⟨Wd.heap.size, 6, none⟩ (.slice f3a f3n f3c)).cell? ⟨Wd.heap.size, 4, none⟩ = some (.int .i64 m.stack) := A4.cell 4
    have b5 : (V3.setCell ⟨Wd.heap.size, 6, none⟩ (.slice f3a f3n f3c)).cell? ⟨Wd.heap.size, 5, none⟩ = some (.slice ca m.code.length ccap) := A4.cell 5
    have b6 : (V3.setCell ⟨Wd.heap.size, 6, none⟩ (.slice f3a f3n f3c)).cell? ⟨Wd.heap.size, 6, none⟩ = some (.slice f3a f3n f3c) := A4.cell 6
    have b7 : (V3.setCell ⟨Wd.heap.size, 6, none⟩ (.slice f3a f3n f3c)).cell? ⟨Wa.heap.size + 1, 2, none⟩ = some (.slice vma vmn vmc) := M4.blk.cell 2
    clear M5 X5 M4 X4 hgv4 hF3 hM5 hv5 hM4 A4 A3 hb4 hgr hRow hRl hvlt
    go_upto_region 18 with fail
    generalize V3.setCell _ _ = V4 at *
    clear q6 fz6
    go_wp2_with (at_builtin; refine wpList_append_run rfl (.tmp 64) (.tmp 66) 64 rfl _ _ rfl rfl happ5 ?_)
    go_roundg (meths.length - (k + 1))
    case measure => have := unhide HGK; omega
    case rel => exact ⟨k + 1, _, by omega, rfl, by go_num, unhide HM5, unhide HX5, unhide HA5⟩
end Go.Proofs.YtiiokkllmchohaaGreat
namespace Go.Proofs.YtiiokkllmchohaaGreat
open Go.RowKit Go.Shelf
attribute [local go_sem ↓] Go.wp_at_zero Go.wp_at_succ
def exB (code0 : List LIns) : List LClass := [⟨-1, [0], [⟨0, [], 0, 1, 2, code0, []⟩, ⟨1, [0], 0, 2, 3, [⟨1, 0, 0⟩, ⟨1, 1, 0⟩, ⟨11, 0, 0⟩, ⟨1, 0, 0⟩, ⟨12, 0, 0⟩, ⟨13, 0, 0⟩], []⟩]⟩]
def badP : List LClass := exB [⟨1, 0, 0⟩, ⟨13, 0, 0⟩]
theorem exB_exP : exB [⟨1, 0, 0⟩, ⟨10, 0, 0⟩, ⟨13, 0, 0⟩] = exP := rfl
theorem exP_pass : checkI exP 0 1 = 0 := by kernel_rfl
theorem badP_chk : checkI badP 0 0 = 5 := by kernel_rfl
theorem exP_szL : szProg exP ≤ 4194304 := by decide
theorem badP_sz : szProg badP ≤ 4194304 := by decide
theorem badP_wf : wfProg badP := by
 unfold wfProg badP exB
 intro x hx
 obtain rfl := List.mem_singleton.1 hx
 refine ⟨by unfold I64; decide, fun y hy => ?_, fun m hm => ?_⟩
 ·obtain rfl := List.mem_singleton.1 hy
  unfold I64; decide
 ·simp only [List.mem_cons, List.not_mem_nil, or_false] at hm
  rcases hm with rfl | rfl
  ·refine ⟨by unfold I64; decide, fun y hy => (by cases hy), by unfold I64; decide, by unfold I64; decide, by unfold I64; decide, fun i hi => ?_, fun f hf => (by cases hf)⟩
   simp only [List.mem_cons, List.not_mem_nil, or_false] at hi
   rcases hi with rfl | rfl <;> (unfold wfIns I64; decide)
  ·refine ⟨by unfold I64; decide, fun y hy => ?_, by unfold I64; decide, by unfold I64; decide, by unfold I64; decide, fun i hi => ?_, fun f hf => (by cases hf)⟩
   ·obtain rfl := List.mem_singleton.1 hy
    unfold I64; decide
   ·simp only [List.mem_cons, List.not_mem_nil, or_false] at hi
    rcases hi with rfl | rfl | rfl | rfl | rfl | rfl <;> (unfold wfIns I64; decide)
structure CellB (F : World) (h : Nat) (v0 : Value) : Prop where
 b3 : Blk F (h + 1 + 1 + 1) 43 (([0] : List Int).map (Value.int .i64) ++ [])
 b4 : Blk F (h + 1 + 1 + 1 + 1) 60 (codeCells [⟨1, 0, 0⟩, ⟨1, 1, 0⟩, ⟨11, 0, 0⟩, ⟨1, 0, 0⟩, ⟨12, 0, 0⟩, ⟨13, 0, 0⟩] ++ [])
 b6 : Blk F (h + 1 + 1 + 1 + 1 + 1 + 1) 43 (([0] : List Int).map (Value.int .i64) ++ [])
 b7 : Blk F (h + 1 + 1 + 1 + 1 + 1 + 1 + 1) 63 [.int .i64 0, .slice none 0 0, .int .i64 0, .int .i64 1, .int .i64 2, v0, .slice none 0 0, .int .i64 1, .slice (some ⟨h + 1 + 1 + 1, 0, none⟩) 1 1, .int .i64 0, .int .i64 2, .int .i64 3, .slice (some ⟨h + 1 + 1 + 1 + 1, 0, none⟩) 6 6, .slice none 0 0]
 b8 : Blk F (h + 1 + 1 + 1 + 1 + 1 + 1 + 1 + 1) 66 [.int .i64 (-1), .slice (some ⟨h + 1 + 1 + 1 + 1 + 1 + 1, 0, none⟩) 1 1, .slice (some ⟨h + 1 + 1 + 1 + 1 + 1 + 1 + 1, 0, none⟩) 2 2]
theorem CellB.prog {F : World} {h : Nat} {v0 : Value} {code0 : List LIns} (i : CellB F h v0) (s1 : SlAt 3 (RIns F) v0 code0) : RProg F (.slice (some ⟨h + 1 + 1 + 1 + 1 + 1 + 1 + 1 + 1, 0, none⟩) 1 1) (exB code0) := by
 obtain ⟨B3, B4, B6, B7, B8⟩ := i
 have nilS : ∀ {α : Type} (sz : Nat) (R : α → Nat → Nat → Prop), SlAt sz R (.slice none 0 0) [] := fun sz R => ⟨none, 0, 0, 0, rfl, Nat.le_refl _, ⟨fun e => absurd rfl e, .inl ⟨rfl, rfl⟩⟩, fun j x hj => by simp at hj⟩
 have s3 : SlAt 1 (RInt F) (.slice (some ⟨h + 1 + 1 + 1, 0, none⟩) 1 1) [0] := ints_keep (cellS_le tT F) (ints_of_blk (cap := 1) B3 (by simp) (by decide))
 have s4 : SlAt 3 (RIns F) (.slice (some ⟨h + 1 + 1 + 1 + 1, 0, none⟩) 6 6) [⟨1, 0, 0⟩, ⟨1, 1, 0⟩, ⟨11, 0, 0⟩, ⟨1, 0, 0⟩, ⟨12, 0, 0⟩, ⟨13, 0, 0⟩] := code_keep (cellS_le [60] F) (code_of_blk (cap := 6) B4 (by simp) (by decide))
 have s6 : SlAt 1 (RInt F) (.slice (some ⟨h + 1 + 1 + 1 + 1 + 1 + 1, 0, none⟩) 1 1) [0] := ints_keep (cellS_le tT F) (ints_of_blk (cap := 1) B6 (by simp) (by decide))
 have s7 : SlAt 7 (RMeth F) (.slice (some ⟨h + 1 + 1 + 1 + 1 + 1 + 1 + 1, 0, none⟩) 2 2) [⟨0, [], 0, 1, 2, code0, []⟩, ⟨1, [0], 0, 2, 3, [⟨1, 0, 0⟩, ⟨1, 1, 0⟩, ⟨11, 0, 0⟩, ⟨1, 0, 0⟩, ⟨12, 0, 0⟩, ⟨13, 0, 0⟩], []⟩] := by
  refine ⟨some ⟨_, 0, none⟩, _, 0, 2, rfl, by simp, ⟨fun _ => rfl, .inr (.inl rfl)⟩, fun j x hj => ?_⟩
  match j, hj with
  | 0, hj =>
   simp at hj
   subst hj
   exact ⟨.slice none 0 0, _, .slice none 0 0, ⟨nilS 1 _, s1, nilS 3 _⟩, B7.cell 0, B7.cell 1, B7.cell 2, B7.cell 3, B7.cell 4, B7.cell 5, B7.cell 6⟩
  | 1, hj =>
   simp at hj
   subst hj
   exact ⟨_, _, .slice none 0 0, ⟨s3, s4, nilS 3 _⟩, B7.cell 7, B7.cell 8, B7.cell 9, B7.cell 10, B7.cell 11, B7.cell 12, B7.cell 13⟩
  | n + 2, hj => simp at hj
 refine ⟨some ⟨_, 0, none⟩, _, 0, 1, rfl, by simp [exB], ⟨fun _ => rfl, .inr (.inl rfl)⟩, fun j x hj => ?_⟩
 match j, hj with
 | 0, hj =>
  simp [exB] at hj
  subst hj
  exact ⟨_, _, B8.cell 0, B8.cell 1, B8.cell 2, s6, s7⟩
 | n + 1, hj => simp [exB] at hj
theorem CellB.below {F F' : World} {h : Nat} {v0 : Value} (i : CellB F h v0) (b : Below F.heap.size F F') : CellB F' h v0 :=
 ⟨i.b3.below b i.b3.lt, i.b4.below b i.b4.lt, i.b6.below b i.b6.lt, i.b7.below b i.b7.lt, i.b8.below b i.b8.lt⟩
set_option maxHeartbeats 2000000 in
set_option maxRecDepth 100000 in
theorem law_cellX (w : World) : Calls Tryz.prog 19 #[] w fun e w' => e = .returned (.agg #[.slice (some ⟨w.heap.size + 1 + 1 + 1 + 1 + 1 + 1 + 1 + 1, 0, none⟩) 1 1]) ∧ CellB w' w.heap.size (.slice (some ⟨w.heap.size + 1, 0, none⟩) 3 3) ∧ SlAt 3 (GIns (sel (fun k => k ≠ w.heap.size + 1 + 1 + 1 + 1 + 1 + 1 + 1) w')) (.slice (some ⟨w.heap.size + 1, 0, none⟩) 3 3) [⟨1, 0, 0⟩, ⟨10, 0, 0⟩, ⟨13, 0, 0⟩] ∧ Below w.heap.size w w' := by
 go_enter Tryz.func19, Tryz.ntmps19
 go_wp2_with fail
 have hbel : Below w.heap.size w (((((((((w.alloc (.cells #[.slice (some ⟨w.heap.size + 1 + 1 + 1 + 1 + 1 + 1 + 1 + 1, 0, none⟩) 1 1] 24)).alloc (.cells #[.int .i64 1, .int .i64 0, .int .i64 0, .int .i64 10, .int .i64 0, .int .i64 0, .int .i64 13, .int .i64 0, .int .i64 0] 60)).alloc (.cells #[.int .i64 0, .slice none 0 0, .int .i64 0, .int .i64 1, .int .i64 2, .slice (some ⟨w.heap.size + 1, 0, none⟩) 3 3, .slice none 0 0] 63)).alloc (.cells #[.int .i64 0] 43)).alloc (.cells #[.int .i64 1, .int .i64 0, .int .i64 0, .int .i64 1, .int .i64 1, .int .i64 0, .int .i64 11, .int .i64 0, .int .i64 0, .int .i64 1, .int .i64 0, .int .i64 0, .int .i64 12, .int .i64 0, .int .i64 0, .int .i64 13, .int .i64 0, .int .i64 0] 60)).alloc (.cells #[.int .i64 1, .slice (some ⟨w.heap.size + 1 + 1 + 1, 0, none⟩) 1 1, .int .i64 0, .int .i64 2, .int .i64 3, .slice (some ⟨w.heap.size + 1 + 1 + 1 + 1, 0, none⟩) 6 6, .slice none 0 0] 63)).alloc (.cells #[.int .i64 0] 43)).alloc (.cells #[.int .i64 0, .slice none 0 0, .int .i64 0, .int .i64 1, .int .i64 2, .slice (some ⟨w.heap.size + 1, 0, none⟩) 3 3, .slice none 0 0, .int .i64 1, .slice (some ⟨w.heap.size + 1 + 1 + 1, 0, none⟩) 1 1, .int .i64 0, .int .i64 2, .int .i64 3, .slice (some ⟨w.heap.size + 1 + 1 + 1 + 1, 0, none⟩) 6 6, .slice none 0 0] 63)).alloc (.cells #[.int .i64 (-1), .slice (some ⟨w.heap.size + 1 + 1 + 1 + 1 + 1 + 1, 0, none⟩) 1 1, .slice (some ⟨w.heap.size + 1 + 1 + 1 + 1 + 1 + 1 + 1, 0, none⟩) 2 2] 66)) := by
  repeat' (first | exact Below.refl _ _ | (refine Below.alloc ?_ (by simp; try omega) _))
 generalize hF : World.alloc _ _ = F at hbel ⊢
 have B0 : Blk F w.heap.size 24 [.slice (some ⟨w.heap.size + 1 + 1 + 1 + 1 + 1 + 1 + 1 + 1, 0, none⟩) 1 1] := by rw [← hF]; exact Blk.alloc (Blk.alloc (Blk.alloc (Blk.alloc (Blk.alloc (Blk.alloc (Blk.alloc (Blk.alloc (blk_new_at (by simp)) _) _) _) _) _) _) _) _
 have B1 : Blk F (w.heap.size + 1) 60 (codeCells [⟨1, 0, 0⟩, ⟨10, 0, 0⟩, ⟨13, 0, 0⟩] ++ []) := by rw [← hF]; exact Blk.alloc (Blk.alloc (Blk.alloc (Blk.alloc (Blk.alloc (Blk.alloc (Blk.alloc (blk_new_at (by simp)) _) _) _) _) _) _) _
 have B3 : Blk F (w.heap.size + 1 + 1 + 1) 43 (([0] : List Int).map (Value.int .i64) ++ []) := by rw [← hF]; exact Blk.alloc (Blk.alloc (Blk.alloc (Blk.alloc (Blk.alloc (blk_new_at (by simp)) _) _) _) _) _
 have B4 : Blk F (w.heap.size + 1 + 1 + 1 + 1) 60 (codeCells [⟨1, 0, 0⟩, ⟨1, 1, 0⟩, ⟨11, 0, 0⟩, ⟨1, 0, 0⟩, ⟨12, 0, 0⟩, ⟨13, 0, 0⟩] ++ []) := by rw [← hF]; exact Blk.alloc (Blk.alloc (Blk.alloc (Blk.alloc (blk_new_at (by simp)) _) _) _) _
 have B6 : Blk F (w.heap.size + 1 + 1 + 1 + 1 + 1 + 1) 43 (([0] : List Int).map (Value.int .i64) ++ []) := by rw [← hF]; exact Blk.alloc (Blk.alloc (blk_new_at (by simp)) _) _
 have B7 : Blk F (w.heap.size + 1 + 1 + 1 + 1 + 1 + 1 + 1) 63 [.int .i64 0, .slice none 0 0, .int .i64 0, .int .i64 1, .int .i64 2, .slice (some ⟨w.heap.size + 1, 0, none⟩) 3 3, .slice none 0 0, .int .i64 1, .slice (some ⟨w.heap.size + 1 + 1 + 1, 0, none⟩) 1 1, .int .i64 0, .int .i64 2, .int .i64 3, .slice (some ⟨w.heap.size + 1 + 1 + 1 + 1, 0, none⟩) 6 6, .slice none 0 0] := by rw [← hF]; exact Blk.alloc (blk_new_at (by simp)) _
 have B8 : Blk F (w.heap.size + 1 + 1 + 1 + 1 + 1 + 1 + 1 + 1) 66 [.int .i64 (-1), .slice (some ⟨w.heap.size + 1 + 1 + 1 + 1 + 1 + 1, 0, none⟩) 1 1, .slice (some ⟨w.heap.size + 1 + 1 + 1 + 1 + 1 + 1 + 1, 0, none⟩) 2 2] := by rw [← hF]; exact blk_new_at (by simp)
 clear hF
 have c0 : F.cell? ⟨w.heap.size, 0, none⟩ = some (.slice (some ⟨w.heap.size + 1 + 1 + 1 + 1 + 1 + 1 + 1 + 1, 0, none⟩) 1 1) := B0.cell 0
 refine bodyPost_ret (v := .agg #[.slice (some ⟨w.heap.size + 1 + 1 + 1 + 1 + 1 + 1 + 1 + 1, 0, none⟩) 1 1]) (by simp [results, Tryz.results19, go_sem, c0]) rfl ⟨rfl, ⟨B3, B4, B6, B7, B8⟩, ?_, hbel⟩
 refine ⟨some ⟨_, 0, none⟩, _, 0, 3, rfl, by decide, ⟨fun _ => rfl, .inr (.inl rfl)⟩, fun j x hj => ?_⟩
 have key : ∀ o v, (codeCells [⟨1, 0, 0⟩, ⟨10, 0, 0⟩, ⟨13, 0, 0⟩] ++ [])[o]? = some v → sel (fun k => k ≠ w.heap.size + 1 + 1 + 1 + 1 + 1 + 1 + 1) F ⟨w.heap.size + 1, o, none⟩ = some v := fun o v e => by
  rw [sel_eq (by show w.heap.size + 1 ≠ _; omega), B1.cell]
  exact e
 match j, hj with
 | 0, hj =>
  cases hj
  exact ⟨key 0 _ rfl, key 1 _ rfl, key 2 _ rfl⟩
 | 1, hj =>
  cases hj
  exact ⟨key 3 _ rfl, key 4 _ rfl, key 5 _ rfl⟩
 | 2, hj =>
  cases hj
  exact ⟨key 6 _ rfl, key 7 _ rfl, key 8 _ rfl⟩
 | n + 3, hj => simp at hj
theorem nil_prog {g : Addr → Option Value} : SlAt 3 (GClass g) (.slice none 0 0) [] := ⟨none, 0, 0, 0, rfl, Nat.le_refl _, ⟨fun e => absurd rfl e, .inl ⟨rfl, rfl⟩⟩, fun j x hj => by simp at hj⟩
theorem RCertR.form {n : Nat} {p : List LClass} {Q : Nat → Nat → Option SvSt} {w w' : World} {e : Ending} (h : RCertR n p Q w w' e) (hwf : wfProg p) (hz : szProg p ≤ 1048576) (hQ : formI p = 0 → Ends p Q) : ∃ a m cap q r, e = .returned (.tuple #[.agg #[.slice a m cap], .int .i64 r]) ∧ SlAt 3 (GClass (sel (fun k => k < n ∨ w.heap.size + 1 < k) w')) (.slice a m cap) q ∧ wfProg q ∧ szProg q ≤ 1048576 ∧ Below w.heap.size w w' := by
 obtain ⟨h1, h2, hb⟩ := h
 by_cases hF : formI p = 0
 ·rcases h2 hF with ⟨hA, v, rfl, hv⟩ | ⟨_, rfl⟩
  ·have hS := ends_sols (hQ hF) hA
   have hz4 : szProg p ≤ 4194304 := by omega
   obtain ⟨a, _, _, cap, rfl, _⟩ := id hv
   exact ⟨a, _, cap, certP p (getR Q), 0, rfl, hv, cert_wf hwf hF hz4 hS, Nat.le_trans (form_sz (cert_form hF hz4 hS)) (by decide), hb⟩
  ·exact ⟨none, 0, 0, [], 5, rfl, nil_prog, fun x hx => (by cases hx), by decide, hb⟩
 ·obtain rfl := h1 hF
  exact ⟨none, 0, 0, [], formI p, rfl, nil_prog, fun x hx => (by cases hx), by decide, hb⟩
theorem world_no {w W : World} {b : Nat} (h : Below w.heap.size w W) (hb : w.heap.size ≤ b) : GLe w.cell? (cellNo b W.heap.size W) := fun a v e => by
 have h1 := cell_lt e
 have h2 := Keeps.of_below h _ _ e
 unfold cellNo
 rw [if_pos ⟨by omega, cell_lt h2⟩]
 exact h2
theorem sel_no {S : Nat → Prop} [DecidablePred S] {w W : World} {b : Nat} (h : Below w.heap.size w W) (hb : ∀ k, S k → k ≠ b) : GLe (sel S w) (cellNo b W.heap.size W) := fun a v e => by
 obtain ⟨h1, h2⟩ := sel_some e
 have h3 := Keeps.of_below h _ _ h2
 unfold cellNo
 rw [if_pos ⟨hb _ h1, cell_lt h3⟩]
 exact h3
set_option maxHeartbeats 2000000 in
set_option maxRecDepth 100000 in
theorem law_passed (p : List LClass) (vp : Value) (c k : Int) (w : World) (hp : RProg w vp p) (hwf : wfProg p) (hz : szProg p ≤ 1048576) :
  Calls Tryz.prog 5 #[.agg #[vp], .int .i64 c, .int .i64 k] w fun e w' => e = .returned (.bool true) ∧ Below w.heap.size w w' := by
 have HP := hide hp
 obtain ⟨Q, HQ⟩ : ∃ Q, Hid (formI p = 0 → Ends p Q) := by
  by_cases hF : formI p = 0
  ·obtain ⟨Q, hQ⟩ := ends_ex hF
   exact ⟨Q, fun _ => hQ⟩
  ·exact ⟨fun _ _ => none, fun h => absurd h hF⟩
 obtain ⟨pa, _, _, pcap, rfl, _⟩ := hp
 have hbel := box_below w (.cells #[.slice pa p.length pcap] 24)
 have B0 := Blk.new w #[.slice pa p.length pcap] 24
 go_enter Tryz.func5, Tryz.ntmps5
 go_wp2_with fail
 generalize w.alloc _ = W0 at *
 refine (law_cellX W0).mono ?_
 rintro e W1 ⟨rfl, C1, s1, hb1⟩
 have hw1 := hbel.trans (hb1.mono hbel.size)
 have B1 := B0.below hb1 B0.lt
 have HC1 : Hid (RProg W1 (.slice (some ⟨W0.heap.size + 1 + 1 + 1 + 1 + 1 + 1 + 1 + 1, 0, none⟩) 1 1) exP) := by rw [← exB_exP]; exact C1.prog (code_keep sel_world s1)
 clear C1 s1
 go_wp2_with fail
 refine (code_chk exP _ 0 1 W1 (unhide HC1) exP_wf exP_szL).mono ?_
 rintro e W2 ⟨rfl, hb2⟩
 rw [exP_pass]
 have hw2 := hw1.trans (hb2.mono hw1.size)
 have B2 := B1.below hb2 B1.lt
 clear HC1
 go_wp2_with fail
 refine (law_cellX W2).mono ?_
 rintro e W3 ⟨rfl, C3, s3, hb3⟩
 have hw3 := hw2.trans (hb3.mono hw2.size)
 have B3 := B2.below hb3 B2.lt
 have hbx := box_below W3 (.cells #[.slice (some ⟨W2.heap.size + 1 + 1 + 1 + 1 + 1 + 1 + 1 + 1, 0, none⟩) 1 1] 24)
 have A3 := Blk.new W3 #[.slice (some ⟨W2.heap.size + 1 + 1 + 1 + 1 + 1 + 1 + 1 + 1, 0, none⟩) 1 1] 24
 have hw4 := hw3.trans (hbx.mono hw3.size)
 have C4 := C3.below hbx
 have B4 := B3.below hbx B3.lt
 obtain ⟨h2, hh2⟩ : ∃ h, h = W2.heap.size := ⟨_, rfl⟩
 rw [← hh2] at C4 A3 ⊢
 have hh3 := C3.b8.lt
 have hs4 : (W3.alloc (.cells #[.slice (some ⟨h2 + 1 + 1 + 1 + 1 + 1 + 1 + 1 + 1, 0, none⟩) 1 1] 24)).heap.size = W3.heap.size + 1 := by simp
 rw [← hh2] at hbx hw4 B4 hh3
 have hz2 : w.heap.size ≤ h2 := by have := hw2.size; omega
 have l2 : w.heap.size < h2 := by have := B2.lt; omega
 have HS4 := hide hs4
 clear C3 s3 hs4 hh2
 go_upto_region 3 with fail
 generalize W3.alloc _ = W4 at *
 have x0 : W4.cell? ⟨W3.heap.size, 0, none⟩ = some (.slice (some ⟨h2 + 1 + 1 + 1 + 1 + 1 + 1 + 1 + 1, 0, none⟩) 1 1) := A3.cell 0
 have x1 : W4.cell? ⟨h2 + 1 + 1 + 1 + 1 + 1 + 1 + 1 + 1, 2, none⟩ = some (.slice (some ⟨h2 + 1 + 1 + 1 + 1 + 1 + 1 + 1, 0, none⟩) 2 2) := C4.b8.cell 2
 have y5 : (W4.alloc (.cells #[.int .i64 1, .int .i64 0, .int .i64 0, .int .i64 13, .int .i64 0, .int .i64 0] 60)).cell? ⟨h2 + 1 + 1 + 1 + 1 + 1 + 1 + 1, 5, none⟩ = some (.slice (some ⟨h2 + 1, 0, none⟩) 3 3) := (C4.b7.alloc _).cell 5
 have f5 := (C4.b7.alloc (.cells #[.int .i64 1, .int .i64 0, .int .i64 0, .int .i64 13, .int .i64 0, .int .i64 0] 60)).frozen 5
 have l4 := A3.lt
 have hM5 : Mods (fun k => k = h2 + 1 + 1 + 1 + 1 + 1 + 1 + 1) W4 ((W4.alloc (.cells #[.int .i64 1, .int .i64 0, .int .i64 0, .int .i64 13, .int .i64 0, .int .i64 0] 60)).setCell ⟨h2 + 1 + 1 + 1 + 1 + 1 + 1 + 1, 5, none⟩ (.slice (some ⟨W4.heap.size, 0, none⟩) 2 2)) :=
  ((Mods.refl (fun k => k = h2 + 1 + 1 + 1 + 1 + 1 + 1 + 1) W4).alloc _).setCell (p := ⟨h2 + 1 + 1 + 1 + 1 + 1 + 1 + 1, 5, none⟩) (fun _ => rfl) _
 have C5 : CellB ((W4.alloc (.cells #[.int .i64 1, .int .i64 0, .int .i64 0, .int .i64 13, .int .i64 0, .int .i64 0] 60)).setCell ⟨h2 + 1 + 1 + 1 + 1 + 1 + 1 + 1, 5, none⟩ (.slice (some ⟨W4.heap.size, 0, none⟩) 2 2)) h2 (.slice (some ⟨W4.heap.size, 0, none⟩) 2 2) :=
  ⟨C4.b3.mods hM5 (by omega), C4.b4.mods hM5 (by omega), C4.b6.mods hM5 (by omega), (C4.b7.alloc _).setCell 5 _, C4.b8.mods hM5 (by omega)⟩
 have D5 : Blk ((W4.alloc (.cells #[.int .i64 1, .int .i64 0, .int .i64 0, .int .i64 13, .int .i64 0, .int .i64 0] 60)).setCell ⟨h2 + 1 + 1 + 1 + 1 + 1 + 1 + 1, 5, none⟩ (.slice (some ⟨W4.heap.size, 0, none⟩) 2 2)) W4.heap.size 60 (codeCells [⟨1, 0, 0⟩, ⟨13, 0, 0⟩] ++ []) := (Blk.new W4 #[.int .i64 1, .int .i64 0, .int .i64 0, .int .i64 13, .int .i64 0, .int .i64 0] 60).setCell_ne (by have := C4.b7.lt; dsimp only; omega) _
 have HC5 : Hid (RProg ((W4.alloc (.cells #[.int .i64 1, .int .i64 0, .int .i64 0, .int .i64 13, .int .i64 0, .int .i64 0] 60)).setCell ⟨h2 + 1 + 1 + 1 + 1 + 1 + 1 + 1, 5, none⟩ (.slice (some ⟨W4.heap.size, 0, none⟩) 2 2)) (.slice (some ⟨h2 + 1 + 1 + 1 + 1 + 1 + 1 + 1 + 1, 0, none⟩) 1 1) badP) := C5.prog (code_keep (cellS_le [60] _) (code_of_blk (cap := 2) D5 (by simp) (by decide)))
 have hw5 : Below w.heap.size w ((W4.alloc (.cells #[.int .i64 1, .int .i64 0, .int .i64 0, .int .i64 13, .int .i64 0, .int .i64 0] 60)).setCell ⟨h2 + 1 + 1 + 1 + 1 + 1 + 1 + 1, 5, none⟩ (.slice (some ⟨W4.heap.size, 0, none⟩) 2 2)) := hw4.trans (hM5.below hw4.size (fun k hk e => by omega))
 have B5 := B4.mods hM5 (by omega)
 have A5 := A3.mods hM5 (by omega)
 clear C4 C5 D5 hM5 B4 A3
 go_upto_region 4 with fail
 generalize (World.alloc _ _).setCell _ _ = W5 at *
 have x5 : W5.cell? ⟨W3.heap.size, 0, none⟩ = some (.slice (some ⟨h2 + 1 + 1 + 1 + 1 + 1 + 1 + 1 + 1, 0, none⟩) 1 1) := A5.cell 0
 clear x0 x1 y5 f5
 go_wp2_with fail
 refine (code_chk badP _ 0 0 W5 (unhide HC5) badP_wf badP_sz).mono ?_
 rintro e W6 ⟨rfl, hb6⟩
 rw [badP_chk]
 have hw6 := hw5.trans (hb6.mono hw5.size)
 have B6 := B5.below hb6 B5.lt
 have hbh := box_below W6 (.cells hands0.toArray 53)
 have hw7 := hw6.trans (hbh.mono hw6.size)
 have B7 := B6.below hbh B6.lt
 have HH7 : Hid (HBlk (W6.alloc (.cells hands0.toArray 53)) W6.heap.size hands0) := ⟨Blk.new W6 hands0.toArray 53, rfl⟩
 have hz6 := hw6.size
 have l6 : w.heap.size < W6.heap.size := B6.lt
 clear HC5 hw5 B5 A5 x5 hb6
 go_upto_region 6 with fail
 generalize W6.alloc _ = W7 at *
 obtain ⟨bh, hbh6⟩ : ∃ bh, bh = W6.heap.size := ⟨_, rfl⟩
 rw [← hbh6] at HH7 l6 ⊢
 clear hbh6
 have p7 : W7.cell? ⟨w.heap.size, 0, none⟩ = some (.slice pa p.length pcap) := B7.cell 0
 go_wp2_with fail
 refine (law_checked p _ c k W7 bh hands0 (prog_keep (world_no hw7 (by omega)) (unhide HP)) (unhide HH7) rfl rfl rfl rfl rfl rfl hwf hz).mono ?_
 rintro e W8 ⟨rfl, hh8, hM8⟩
 have hw8 : Below w.heap.size w W8 := hw7.trans (hM8.below hw7.size (fun k hk e => by omega))
 have B8 := B7.mods hM8 (by omega)
 have p8 : W8.cell? ⟨w.heap.size, 0, none⟩ = some (.slice pa p.length pcap) := B8.cell 0
 have HH8 := hide hh8
 have l8 := hh8.1.lt
 clear p7 hh8 hM8
 go_wp2_with fail
 refine (rs_certify w.heap.size p _ W8 hw8.size (prog_keep (world_sel (Mods.of_below hw8) fun k hk => ⟨fun e => by omega, hk⟩) (unhide HP)) hwf (by omega) Q (unhide HQ)).mono ?_
 rintro e W9 hC
 obtain ⟨qa, qn, qc, q, qr, rfl, hq, hqw, hqz, hb9⟩ := hC.form hwf hz (unhide HQ)
 have hw9 := hw8.trans (hb9.mono hw8.size)
 have B9 := B8.below hb9 B8.lt
 have hbx9 := box_below W9 (.cells #[.slice qa qn qc] 24)
 have A9 := Blk.new W9 #[.slice qa qn qc] 24
 have hw10 := hw9.trans (hbx9.mono hw9.size)
 have B10 := B9.below hbx9 B9.lt
 have HH10 : Hid (HBlk (W9.alloc (.cells #[.slice qa qn qc] 24)) bh hands0) := ⟨((unhide HH8).1.below hb9 (unhide HH8).1.lt).alloc _, (unhide HH8).2⟩
 have HQ9 := hide hq
 clear p8 hC hq
 go_upto_region 8 with fail
 generalize W9.alloc _ = W10 at *
 have x10 : W10.cell? ⟨W9.heap.size, 0, none⟩ = some (.slice qa qn qc) := A9.cell 0
 go_wp2_with fail
 refine (law_checked q _ c k W10 bh hands0 (prog_keep (sel_no hbx9 (fun k hk => by omega)) (unhide HQ9)) (unhide HH10) rfl rfl rfl rfl rfl rfl hqw hqz).mono ?_
 rintro e W11 ⟨rfl, hh11, hM11⟩
 have hw11 : Below w.heap.size w W11 := hw10.trans (hM11.below hw10.size (fun k hk e => by omega))
 have B11 := B10.mods hM11 (by omega)
 have p11 : W11.cell? ⟨w.heap.size, 0, none⟩ = some (.slice pa p.length pcap) := B11.cell 0
 have HH11 := hide hh11
 clear x10 hh11 hM11
 go_wp2_with fail
 refine (law_checked p _ c k W11 bh hands0 (prog_keep (world_no hw11 (by omega)) (unhide HP)) (unhide HH11) rfl rfl rfl rfl rfl rfl hwf hz).mono ?_
 rintro e W12 ⟨rfl, hh12, hM12⟩
 have hw12 : Below w.heap.size w W12 := hw11.trans (hM12.below hw11.size (fun k hk e => by omega))
 clear p11 hh12 hM12
 go_wp2_with fail
 go_ret
 exact ⟨rfl, hw12⟩
end Go.Proofs.YtiiokkllmchohaaGreat
namespace Go.Proofs.YtiiokkllmchohaaGreat
open Go.ChangeShapes Go.WideShapes Go.ChangeAt Go.RowKit
theorem bulk_3 {H : Type} {d0 d1 d2 : DataW H} (hk : Rows.uptoSmall H ([d0, d1, d2] ++ []) = true) : Rows.uptoBulk d0 + Rows.uptoBulk d1 + Rows.uptoBulk d2 ≤ 1048576 := by
 have h := of_decide_eq_true hk
 simp only [List.append_nil, Rows.uptoBulkAll] at h
 omega

set_option maxRecDepth 100000 in
theorem passed_contract (H : Type) (enc : TypeId × Value → H) (W : World) (base : Nat) (args : Array Value) (ds gs : List (DataW H)) (before : List MemPlace)
  (hval : ∀ (j : Nat) t v, Tryz.f5.params[j]? = some t → args[j]? = some v → Value.okWide Tryz.prog W .any base t v)
  (hW : DataW.Whole enc Tryz.prog Tryz.f5.params.toList Rows.passedSpec.vars false W args.toList ds gs before) (hk : Rows.uptoSmall H (ds ++ gs) = true) :
  Calls Tryz.prog 5 args W fun e W' => ∃ v, e = .returned v ∧ Rows.passedSpec.post enc Tryz.prog Tryz.f5 false true false false W args v W' := by
 have hW' := hW
 obtain ⟨p, q, hA0, hV, rfl, hfz, hnd⟩ := hW
 have hA : DataW.TrodAll enc Tryz.prog W 0 (fun _ => true) true Tryz.f5.params.toList args.toList ds p := hA0
 rw [Tryz.params5] at hA hval
 obtain ⟨v0, v1, v2, d0, d1, d2, p0, p1, p2, rfl, rfl, rfl, h0, h1, h2⟩ := trodAll_three hA
 obtain ⟨rfl, rfl⟩ := trodVars_none hV
 have hbulk := bulk_3 hk
 obtain ⟨vp, lp, rfl, r0, f0, z0⟩ := open_prog (hval 0 24 _ rfl rfl) h0
 obtain ⟨n1, rfl, rfl, _, hf1⟩ := open_int Tryz.underlying3 (hval 1 3 v1 rfl rfl) h1
 obtain ⟨n2, rfl, rfl, _, hf2⟩ := open_int Tryz.underlying3 (hval 2 3 v2 rfl rfl) h2
 clear hA0
 refine (law_passed lp vp n1 n2 W r0 f0 (by omega)).mono fun e W' ⟨he, hB⟩ => ?_
 subst he
 have e1 : Rows.passedSpec.fn H ([d0, .lit (.int .i64 n1), .lit (.int .i64 n2)] ++ []) = { results := [.lit (.bool true)], args := [d0, .lit (.int .i64 n1), .lit (.int .i64 n2)] } := rfl
 refine ⟨_, rfl, _, _, _, [], p0 ++ (p1 ++ p2), [], hW', ?_, ?_, ?_, hB.frame _, fun h => by cases h⟩
 ·rw [e1]
  exact trodAll_mk1 (shut_bool Tryz.underlying4 _)
 ·rw [e1]
  exact trodAll_mk3 (Below.trod keep_laid (by kernel_rfl) (of_decide_eq_true (by kernel_rfl)) h0 hB (fun x hx => hW'.lt x (by simp [hx]))) (Below.trod keep_laid (by kernel_rfl) (of_decide_eq_true (by kernel_rfl)) h1 hB (fun x hx => hW'.lt x (by simp [hx]))) (Below.trod keep_laid (by kernel_rfl) (of_decide_eq_true (by kernel_rfl)) h2 hB (fun x hx => hW'.lt x (by simp [hx])))
 ·rw [e1]
  rfl

set_option maxRecDepth 100000 in
theorem passed_lifted (os : Os) (started : os.Started) (H : Type) (enc : TypeId × Value → H) (F : Stop.Interp) :
  ReturnsInHanded {} Tryz.checked os 5 .any ((Rows.OpenSpec.upto Rows.passedSpec).pre6 enc Tryz.prog Tryz.f5 Rows.passedUptoRow.domain false) (((Rows.OpenSpec.upto Rows.passedSpec).at F).post enc Tryz.prog Tryz.f5 false true false false) := by
 refine returnsInHanded_of_cond (C := Tryz.checked) (s := Rows.OpenSpec.upto Rows.passedSpec) (k := Rows.uptoSmall) rfl keep_knob started (by kernel_rfl) Tryz.func5
  (OpenSpec.witness (enc := enc) (C := Tryz.checked) (s := Rows.OpenSpec.upto Rows.passedSpec) (k := Rows.uptoSmall) rfl false ⟨#[], #[.agg #[.slice none 0 0], .int .i64 0, .int .i64 0], []⟩ 8 (by kernel_rfl) (by kernel_rfl) (by kernel_rfl)
    (x := ([.agg [.nil], .lit (.int .i64 0), .lit (.int .i64 0)], [], [])) (by kernel_rfl) rfl (by kernel_rfl)) ?_
 intro W base args ds gs before hval hW _ hk _
 exact passed_contract H enc W base args ds gs before hval hW hk

theorem passed_over : Rows.passedUptoRow.holds Tryz.pinned (Rows.OpenSpec.upto Rows.passedSpec) :=
 OpenClaim.holds_of_cond 5 Tryz.f5 rfl rfl rfl rfl rfl rfl rfl ⟨rfl, rfl, rfl, rfl, rfl⟩ rfl rfl rfl rfl rfl (by kernel_rfl) Tryz.func5 (by kernel_rfl)
  (of_decide_eq_true (by kernel_rfl)) (by unfold Func.isWrapper; first | (rw [if_pos (by decide +kernel)]; kernel_rfl) | (rw [if_neg (by decide +kernel)]; exact ⟨rfl, rfl⟩))
  (fun os started H enc _ F => passed_lifted os started H enc F)
theorem passed_holds : Rows.PassedUptoSaid := passed_over
end Go.Proofs.YtiiokkllmchohaaGreat
