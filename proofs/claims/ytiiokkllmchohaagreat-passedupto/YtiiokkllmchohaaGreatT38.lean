/- The document's Check. -/
import Derived.Test.YtiiokkllmchohaaGreatT13
import Derived.Test.YtiiokkllmchohaaGreatT14
import Derived.Test.YtiiokkllmchohaaGreatT26
import Derived.Test.YtiiokkllmchohaaGreatT35
import Derived.Test.YtiiokkllmchohaaGreatT37
namespace Go.Proofs.YtiiokkllmchohaaGreat
open Go.RowKit Go.Shelf
attribute [local go_sem ↓] Go.wp_at_zero Go.wp_at_succ
attribute [local go_sem] frz_drew
structure RefO (p : List LClass) (c : Int) (m : LMeth) : Prop where
 c0 : 0 ≤ c
 c1 : c < (p.length : Int)
 ok : MOk p m
 ins : ∀ i ∈ m.code, insB p m i = true
 c40 : m.code.length ≤ 40
 cl : 1 ≤ m.code.length
 f40 : m.frames.length ≤ 40
 fr : framesB p.length m (-1) m.frames = true
 l1 : 1 + (m.args.length : Int) ≤ m.locals
 cd : CdOk p m (beginS c m)
theorem ref_own {p : List LClass} {c k : Int} {m : LMeth} (hF : formI p = 0) (hm : ownM p c k = some m) : RefO p c m := by
 obtain ⟨o0, o1, O⟩ := form_own hF hm
 have hx : ∃ x, p[c.toNat]? = some x ∧ x.meths[k.toNat]? = some m := by
  unfold ownM at hm
  split at hm
  ·cases hx : p[c.toNat]? with
   | none => rw [hx] at hm; cases hm
   | some x => rw [hx] at hm; exact ⟨x, rfl, hm⟩
  ·cases hm
 obtain ⟨x, hx1, hx2⟩ := hx
 have hb := bareB_iff.1 (form_bare hF hx1 hx2)
 have hc := (form_all hF).2.2 x (List.mem_of_getElem? hx1) m (List.mem_of_getElem? hx2)
 unfold codeB at hc
 simp only [Bool.and_eq_true] at hc
 have hl := hb.2.2.2.2.2.1
 refine ⟨o0, o1, O.ok, O.ins, O.c40, O.c1, O.f40, hc.2, by omega, ?_, begin_hi (by omega) O.a7, ?_, begin_tin O⟩
 ·exact (okS_begin (c := c) O.a7).1
 ·exact O.bg.2.2
set_option maxHeartbeats 1000000 in
set_option maxRecDepth 100000 in
theorem rs_has (p : List LClass) (vc : Value) (c k : Int) (w : World) (hp : RProg w vc p) (hz : szProg p ≤ 4194304) :
  Calls Tryz.prog 85 #[.agg #[vc], .int .i64 c, .int .i64 k] w fun e w' => e = .returned (.bool (ownM p c k).isSome) ∧ Below w.heap.size w w' := by
 obtain ⟨pa, pb, poff, pcap, rfl, _, hpa, hpr⟩ := sl_open hp
 have HPR := hide hpr
 have hpl : p.length ≤ 4194304 := Nat.le_trans (szProg_len p) hz
 clear hpr hp
 have hbel := box_below w (.cells #[.slice pa p.length pcap] 24)
 go_enter Tryz.func85, Tryz.ntmps85
 by_cases h0 : 0 ≤ c
 rotate_left
 ·have HR : Hid ((ownM p c k).isSome = false) := by show _ = _; unfold ownM; rw [if_neg (fun h => h0 h.1)]; rfl
  go_wp2_with fail
  go_ret
  exact ⟨ret_bool (unhide HR).symm, hbel⟩
 obtain ⟨n, rfl⟩ := Int.eq_ofNat_of_zero_le h0
 by_cases h1 : n < p.length
 rotate_left
 ·have HR : Hid ((ownM p n k).isSome = false) := by show _ = _; unfold ownM; rw [Int.toNat_natCast, List.getElem?_eq_none (by omega)]; split <;> rfl
  have h1' : ¬ (n : Int) < (p.length : Int) := by omega
  have n0 : (0 : Int) ≤ (n : Int) := by omega
  clear h1
  go_wp2_with fail
  go_ret
  exact ⟨ret_bool (unhide HR).symm, hbel⟩
 obtain rfl := hpa (ne_nil_of_lt h1)
 have h1' : (n : Int) < (p.length : Int) := by omega
 have n0 : (0 : Int) ≤ (n : Int) := by omega
 by_cases k0 : 0 ≤ k
 rotate_left
 ·have HR : Hid ((ownM p n k).isSome = false) := by show _ = _; unfold ownM; rw [if_neg (fun h => k0 h.2)]; rfl
  go_wp2_with fail
  go_ret
  exact ⟨ret_bool (unhide HR).symm, hbel⟩
 obtain ⟨j, rfl⟩ := Int.eq_ofNat_of_zero_le k0
 obtain ⟨vf, vm, d0, d1, d2, hf, hmm⟩ := unhide HPR n h1
 obtain ⟨ma, mb, moff, mcap, rfl, hmcap, hma, hmr⟩ := sl_open hmm
 have e2 := Keeps.of_below hbel _ _ d2
 have HR : Hid ((ownM p n j).isSome = decide (j < p[n].meths.length)) := by
  show _ = _
  unfold ownM
  rw [if_pos ⟨by omega, by omega⟩, Int.toNat_natCast, Int.toNat_natCast, List.getElem?_eq_getElem h1, Option.bind_some]
  by_cases hj : j < p[n].meths.length
  ·rw [List.getElem?_eq_getElem hj]; simp [hj]
  ·rw [List.getElem?_eq_none (by omega)]; simp [hj]
 clear d0 d1 d2 hf hmm hma hmr
 generalize p[n].meths.length = ml at *
 have j0 : (0 : Int) ≤ (j : Int) := by omega
 by_cases hj : j < ml
 ·have hj' : (j : Int) < (ml : Int) := by omega
  have HR2 : Hid ((ownM p n j).isSome = true) := by show _ = _; rw [unhide HR]; simp [hj]
  clear hj
  go_wp2_with fail
  go_ret
  exact ⟨ret_bool (unhide HR2).symm, hbel⟩
 ·have hj' : ¬ (j : Int) < (ml : Int) := by omega
  have HR2 : Hid ((ownM p n j).isSome = false) := by show _ = _; rw [unhide HR]; simp [hj]
  clear hj
  go_wp2_with fail
  go_ret
  exact ⟨ret_bool (unhide HR2).symm, hbel⟩
set_option maxHeartbeats 1000000 in
set_option maxRecDepth 100000 in
theorem rs_check (p : List LClass) (vc : Value) (c k : Int) (w : World) (hp : RProg w vc p) (hwf : wfProg p) (hz : szProg p ≤ 4194304) :
  Calls Tryz.prog 56 #[.agg #[vc], .int .i64 c, .int .i64 k] w fun e w' => e = .returned (.int .i64 (checkI p c k)) ∧ Below w.heap.size w w' := by
 have HP := hide hp
 have HFM := hide (fun w hp => ref_form p vc w hp hwf hz)
 have HHS := hide (fun w hp => rs_has p vc c k w hp hz)
 obtain ⟨pa, pb, poff, pcap, rfl, _, hpa, hpr⟩ := sl_open hp
 have HPR := hide hpr
 clear hpr hp
 have hbel := box_below w (.cells #[.slice pa p.length pcap] 24)
 have B0 := Blk.new w #[.slice pa p.length pcap] 24
 go_enter Tryz.func56, Tryz.ntmps56
 go_wp2_with fail
 generalize w.alloc _ = W at *
 refine (unhide HFM W (prog_keep (Keeps.of_below hbel) (unhide HP))).mono ?_
 rintro e W1 ⟨rfl, hb1⟩
 have hbw1 := hbel.trans (hb1.mono hbel.size)
 have B1 := B0.below hb1 B0.lt
 have c0 : W1.cell? ⟨w.heap.size, 0, none⟩ = some (.slice pa p.length pcap) := B1.cell 0
 by_cases hF : formI p = 0
 rotate_left
 ·have HC : Hid (checkI p c k = formI p) := by show _ = _; unfold checkI; rw [if_neg hF]
  have hFb : (formI p == 0) = false := by simpa using hF
  generalize formI p = fo at *
  go_wp2_with fail
  go_ret
  exact ⟨by rw [unhide HC]; rfl, hbw1⟩
 have HF := hide hF
 rw [hF]
 clear hF
 go_wp2_with fail
 refine (unhide HHS W1 (prog_keep (Keeps.of_below hbw1) (unhide HP))).mono ?_
 rintro e W2 ⟨rfl, hb2⟩
 have hbw2 := hbw1.trans (hb2.mono hbw1.size)
 have B2 := B1.below hb2 B1.lt
 have c2 : W2.cell? ⟨w.heap.size, 0, none⟩ = some (.slice pa p.length pcap) := B2.cell 0
 clear c0
 cases hm : ownM p c k with
 | none =>
  have HC : Hid (checkI p c k = 4) := by show _ = _; unfold checkI; rw [if_pos (unhide HF), hm]
  clear hm
  dsimp only [Option.isSome]
  go_wp2_with fail
  go_ret
  exact ⟨by rw [unhide HC]; rfl, hbw2⟩
 | some m =>
  have O := ref_own (unhide HF) hm
  have HC : Hid (checkI p c k = if passB p c m then 0 else 5) := by show _ = _; unfold checkI; rw [if_pos (unhide HF), hm]
  obtain ⟨n, rfl⟩ := Int.eq_ofNat_of_zero_le O.c0
  have hk0 : 0 ≤ k := by
   unfold ownM at hm
   split at hm
   ·rename_i h; exact h.2
   ·cases hm
  obtain ⟨j, rfl⟩ := Int.eq_ofNat_of_zero_le hk0
  have h1 : n < p.length := by have := O.c1; omega
  obtain rfl := hpa (ne_nil_of_lt h1)
  obtain ⟨vf, vm, d0, d1, d2, hf, hmm⟩ := unhide HPR n h1
  obtain ⟨ma, mb, moff, mcap, rfl, hmcap, hma, hmr⟩ := sl_open hmm
  unfold ownM at hm
  rw [if_pos ⟨by omega, by omega⟩, Int.toNat_natCast, Int.toNat_natCast, List.getElem?_eq_getElem h1, Option.bind_some] at hm
  obtain ⟨hj, hme⟩ := List.getElem?_eq_some_iff.1 hm
  obtain rfl := hma (ne_nil_of_lt hj)
  obtain ⟨va, vco, vfr, hgv, e0, e1, e2, e3, e4, e5, e6⟩ := hmr j hj
  rw [hme] at hgv e0 e2 e3 e4
  have HPS := hide (fun (va vco vf : Value) w hp hv => rs_pass p (.slice (some ⟨pb, poff, none⟩) p.length pcap) (n : Int) m va vco vf w hp hv (unhide HF) hz O.ok O.ins O.fr O.f40 O.c40 O.c0 O.c1 O.l1 O.cd)
  have HPB : Hid (refPass p (n : Int) m = passB p (n : Int) m) := passes_same (form_good (unhide HF) hz) O.ok (by have := O.l1; omega) O.ins O.fr O.cd O.cl
  have HGV := hide hgv
  unfold methV at HPS
  obtain ⟨aa, _, _, acap, rfl, _⟩ := hgv.1
  obtain ⟨ca, _, _, ccap, rfl, _⟩ := hgv.2.1
  obtain ⟨fa, _, _, fcap, rfl, _⟩ := hgv.2.2
  have n0 : (0 : Int) ≤ (n : Int) := by omega
  have n1 : (n : Int) < (p.length : Int) := by omega
  have j0 : (0 : Int) ≤ (j : Int) := by omega
  have j1 : (j : Int) < ((p[n].meths.length : Nat) : Int) := by omega
  have HO := hide (fun Y (hY : Below W2.heap.size W2 Y) => And.intro ((B2.below hY B2.lt).cell 0) (And.intro (Keeps.of_below (hbw2.trans (hY.mono hbw2.size)) _ _ d2) (And.intro (Keeps.of_below (hbw2.trans (hY.mono hbw2.size)) _ _ e0) (And.intro (Keeps.of_below (hbw2.trans (hY.mono hbw2.size)) _ _ e1) (And.intro (Keeps.of_below (hbw2.trans (hY.mono hbw2.size)) _ _ e2) (And.intro (Keeps.of_below (hbw2.trans (hY.mono hbw2.size)) _ _ e3) (And.intro (Keeps.of_below (hbw2.trans (hY.mono hbw2.size)) _ _ e4) (And.intro (Keeps.of_below (hbw2.trans (hY.mono hbw2.size)) _ _ e5) (Keeps.of_below (hbw2.trans (hY.mono hbw2.size)) _ _ e6)))))))))
  clear d0 d1 d2 e0 e1 e2 e3 e4 e5 e6 hf hmm hmr hm hme hgv O c2
  generalize p[n].meths.length = ml at *
  dsimp only [Option.isSome]
  go_upto_region 7 with fail
  refine wp_region_noPanic ?_
  refine wp_region_held_drew (S := (fun w' => w'.cell? ⟨w.heap.size, 0, none⟩ = some (.slice (some ⟨pb, poff, none⟩) p.length pcap) ∧ w'.cell? ⟨pb, poff + n * 3 + 2, none⟩ = some (.slice (some ⟨mb, moff, none⟩) ml mcap) ∧ w'.cell? ⟨mb, moff + j * 7, none⟩ = some (.int .i64 m.slot) ∧ w'.cell? ⟨mb, moff + j * 7 + 1, none⟩ = some (.slice aa m.args.length acap) ∧ w'.cell? ⟨mb, moff + j * 7 + 2, none⟩ = some (.int .i64 m.ret) ∧ w'.cell? ⟨mb, moff + j * 7 + 3, none⟩ = some (.int .i64 m.locals) ∧ w'.cell? ⟨mb, moff + j * 7 + 4, none⟩ = some (.int .i64 m.stack) ∧ w'.cell? ⟨mb, moff + j * 7 + 5, none⟩ = some (.slice ca m.code.length ccap) ∧ w'.cell? ⟨mb, moff + j * 7 + 6, none⟩ = some (.slice fa m.frames.length fcap))) (by kernel_rfl) ?_ (fun hHeld => ?_)
  ·exact (unhide HO) _ drew_below
  refine take_x (some 21) 0 rfl rfl ?_
  refine take_x (some 22) 1 rfl rfl ?_
  refine take_x (some 23) 2 rfl rfl ?_
  refine take_x (some 24) 3 rfl rfl ?_
  refine take_x (some 25) 4 rfl rfl ?_
  refine take_x (some 26) 5 rfl rfl ?_
  refine take_x (some 27) 6 rfl rfl ?_
  refine take_x (some 28) 7 rfl rfl ?_
  refine take_x (some 29) 8 rfl rfl ?_
  refine take_x (some 30) 9 rfl rfl ?_
  refine take_x (some 31) 10 rfl rfl ?_
  refine wpAnyH_ready (rs := [11]) (by kernel_rfl) (by simp) ?_
  refine AllReadyH.cons rfl (fun K hK => ?_) AllReadyH.nil
  go_simp
  refine (unhide HPS _ _ _ W2.drew (prog_keep (Keeps.of_below drew_below) (prog_keep (Keeps.of_below hbw2) (unhide HP))) (GVals.keep (Keeps.of_below drew_below) (GVals.keep (Keeps.of_below hbw2) (unhide HGV)))).mono ?_
  rintro e w3 ⟨rfl, hb3'⟩
  have hb3 : Below W2.heap.size W2 w3 := ⟨hb3'.os, hb3'.tape, hb3'.output, hb3'.size, hb3'.block⟩
  have hbw3 := hbw2.trans (hb3.mono hbw2.size)
  rw [← unhide HPB] at HC
  generalize refPass p (n : Int) m = rp at *
  clear hb3'
  go_wp2_with fail
  refine hK.out _ _ ((unhide HO) _ hb3) (fun hHeld => ?_)
  clear hK K
  try simp only [Act.put, List.setIfInBounds_toArray, List.set_cons_zero, List.set_cons_succ]
  refine take_x (some 9) 12 rfl rfl ?_
  refine wpAnyH_done (by kernel_rfl) ?_ _
  refine NoPanic.normal ?_
  cases rp with
  | true =>
   go_wp2_with fail
   go_ret
   exact ⟨by rw [unhide HC]; rfl, hbw3⟩
  | false =>
   go_wp2_with fail
   go_ret
   exact ⟨by rw [unhide HC]; rfl, hbw3⟩
end Go.Proofs.YtiiokkllmchohaaGreat
namespace Go.Proofs.YtiiokkllmchohaaGreat
open Go.RowKit
attribute [local go_sem ↓] Go.wp_at_zero Go.wp_at_succ
theorem cellNo_up {b n n' : Nat} {w w' : World} (m : Mods (fun _ => False) w w') (h : n ≤ n') : GLe (cellNo b n w) (cellNo b n' w') := fun p v e => by
 have hp := cellNo_lt e
 unfold cellNo at e ⊢
 rw [if_pos hp] at e
 rw [if_pos ⟨hp.1, by omega⟩]
 exact m.cell e (fun f => f)
set_option maxHeartbeats 4000000 in
set_option maxRecDepth 100000 in
theorem law_checked (p : List LClass) (vp : Value) (c k : Int) (w : World) (bh : Nat) (cs0 : List Value) (hp : SlAt 3 (GClass (cellNo bh w.heap.size w)) vp p) (hh : HBlk w bh cs0) (n0 : cs0[0]? = some (.slice none 0 0)) (n1 : cs0[1]? = some (.slice none 0 0)) (n2 : cs0[2]? = some (.slice none 0 0)) (n3 : cs0[3]? = some (.slice none 0 0)) (n4 : cs0[4]? = some (.slice none 0 0)) (n5 : cs0[5]? = some (.slice none 0 0)) (hwf : wfProg p) (hz : szProg p ≤ 1048576) :
  Calls Tryz.prog 24 #[.pointer (some ⟨bh, 0, none⟩), .agg #[vp], .int .i64 c, .int .i64 k] w fun e w' => e = .returned (.bool true) ∧ HBlk w' bh cs0 ∧ Mods (fun k => k = bh) w w' := by
 have hbh := hh.1.lt
 have HP := hide hp
 have m0 := (Mods.refl (fun _ => False) w).alloc (.cells #[vp] 24)
 have bp := Blk.new w #[vp] 24
 have hh0 : HBlk (w.alloc (.cells #[vp] 24)) bh cs0 := ⟨hh.1.alloc _, hh.2⟩
 have hs0 : (w.alloc (.cells #[vp] 24)).heap.size = w.heap.size + 1 := by simp
 have HS0 := hide hs0
 obtain ⟨pa, _, _, pcap, rfl, _⟩ := hp
 clear hs0
 go_enter Tryz.func24, Tryz.ntmps24
 go_wp2_with fail
 generalize w.alloc _ = W at *
 have hWs0 := unhide HS0
 have hpW : SlAt 3 (GClass (cellNo bh W.heap.size W)) (.slice pa p.length pcap) p := prog_keep (cellNo_up m0 (by omega)) (unhide HP)
 clear hWs0
 have HPW := hide hpW
 refine Calls.mono (lend_prog p _ W bh cs0 hpW hh0 hh0.1.lt n0 n1 n2 n3 n4 hz) ?_
 rintro e w1 ⟨gl, rfl, vt, vi, vf, vm, vc, ts, is, fs, ms, ks, cs, hL, t1, t2, t3', t4', t5'⟩
 have ML := hide hL.mods
 have bp1 := bp.mods hL.mods (by omega)
 have m2 := (Mods.refl (fun _ => False) w1).alloc (.cells #[.slice (some ⟨gl, 0, none⟩) p.length (p.length + 1)] 24)
 have bx := Blk.new w1 #[.slice (some ⟨gl, 0, none⟩) p.length (p.length + 1)] 24
 have bp2 := bp1.alloc (.cells #[.slice (some ⟨gl, 0, none⟩) p.length (p.length + 1)] 24)
 have lp2 : RProg (w1.alloc (.cells #[.slice (some ⟨gl, 0, none⟩) p.length (p.length + 1)] 24)) (.slice (some ⟨gl, 0, none⟩) p.length (p.length + 1)) p := prog_keep (GLe.trans (cellS_le t5 w1) (box_keeps w1 _)) hL.prog
 have HL := hide hL
 clear hL bp1 bp hh0 hpW
 go_wp2_with fail
 generalize w1.alloc _ = w2 at *
 have LP2 := hide lp2
 refine Calls.mono (code_chk p _ c k w2 lp2 hwf (by omega)) ?_
 rintro e w4 ⟨rfl, hb4⟩
 have m4 := m2.trans (below_none hb4) (fun _ _ f => f)
 have bx4 := bx.below hb4 bx.lt
 have bp4 := bp2.below hb4 bp2.lt
 have x4 : w4.cell? ⟨w1.heap.size, 0, none⟩ = some (.slice (some ⟨gl, 0, none⟩) p.length (p.length + 1)) := bx4.cell 0
 have p4 : w4.cell? ⟨w.heap.size, 0, none⟩ = some (.slice pa p.length pcap) := bp4.cell 0
 have lp4 := prog_keep (Keeps.of_below hb4) (unhide LP2)
 have pp4 : RProg w4 (.slice pa p.length pcap) p := prog_keep (GLe.trans (cellNo_mods (b := bh) (n := W.heap.size) (unhide ML) (fun k hk e => by omega)) (GLe.trans (cellNo_mods (b := bh) (n := W.heap.size) m4 (fun _ _ f => f)) (cellNo_le bh W.heap.size w4))) (unhide HPW)
 have hs4 := (unhide HL).hs.stay m4 (fun _ _ _ _ f => f.elim)
 have hM4 := (unhide HL).m.mods m4 (fun _ _ _ f => f) (fun _ _ _ f => f)
 have hC4 := (unhide HL).c.mods m4 (fun _ _ _ f => f) (fun _ _ _ f => f)
 clear lp2 m2 bx bp2 hb4 bx4
 go_wp2_with fail
 have hWs := unhide HS0
 refine Calls.mono (law_back w4 W.heap.size bh cs vt vi vf vm vc ts is fs ms ks p _ _ hs4 hM4 hC4 (unhide HL).c3 (unhide HL).c4 (by rw [(unhide HL).rest 5 (Nat.le_refl _)]; exact n5) lp4 pp4 hz (by omega) (by omega) (by omega) (by omega) (by omega)) ?_
 rintro e w5 ⟨rfl, hH5, m5⟩
 have hcs : (((((cs.set 0 (.slice none 0 0)).set 1 (.slice none 0 0)).set 2 (.slice none 0 0)).set 3 (.slice none 0 0)).set 4 (.slice none 0 0)).set 5 (.slice none 0 0) = cs0 := set6_same (by rw [hs4.hands.2, hh.2]) n0 n1 n2 n3 n4 n5 (unhide HL).rest
 rw [hcs] at hH5
 have bp5 := bp4.mods m5 (fun e => by omega)
 have p5 : w5.cell? ⟨w.heap.size, 0, none⟩ = some (.slice pa p.length pcap) := bp5.cell 0
 have M5 : Mods (fun k => k = bh) w w5 := ((((m0.mono (fun _ _ f => f.elim)).trans (unhide ML) (fun _ _ e => e)).trans m4 (fun _ _ f => f.elim)).trans m5 (fun k hk e => by omega))
 have pp5 : RProg w5 (.slice pa p.length pcap) p := prog_keep (GLe.trans (cellNo_mods (b := bh) (n := w.heap.size) M5 (fun k hk e => by omega)) (cellNo_le bh w.heap.size w5)) (unhide HP)
 have HM6 := hide M5
 have HH6 := hide hH5
 have HP6 := hide pp5
 obtain ⟨ck, hck⟩ : ∃ ck, ck = checkI p c k := ⟨_, rfl⟩
 have HCK := hide (fun w hp => rs_check p (.slice pa p.length pcap) c k w hp hwf (show szProg p ≤ 4194304 by omega))
 rw [← hck] at HCK ⊢
 clear hs4 hM4 hC4 lp4 pp4 m4 m5 x4 p4 bp4 hcs M5 hH5 HL ML hck pp5
 go_wp2_with fail
 go_region_held3 (fun w' => w'.cell? ⟨w.heap.size, 0, none⟩ = some (.slice pa p.length pcap))
  (first
    | with_reducible exact one_keep p5 HB7.out
    | go_keep)
  (first | ((go_at_call 48; refine (law_num _ _).mono ?_); rintro e z ⟨rfl, rfl⟩)
         | ((go_at_call 56; refine (unhide HCK _ ?_).mono ?_); (exact prog_keep (Keeps.of_below ((Below.refl _ _).drew)) (unhide HP6)); rintro e w7 ⟨rfl, hb7⟩; have HB7 := hide (below_call hb7); clear hb7))
 all_goals
  go_wp2_with fail
  go_ret
  refine ⟨by simp, ⟨(unhide HH6).1.below HB7.out (unhide HH6).1.lt, (unhide HH6).2⟩, (unhide HM6).trans (below_none HB7.out) (fun _ _ f => f.elim)⟩
end Go.Proofs.YtiiokkllmchohaaGreat
