/- The code's Fields: new memory. -/
import Derived.Deep.DeepCutAuto
import Derived.Test.YtiiokkllmchohaaGreatT01
import Derived.Test.YtiiokkllmchohaaGreatT03
import Derived.Test.YtiiokkllmchohaaGreatT08
/- FitF -/
namespace Go.Proofs.YtiiokkllmchohaaGreat
open Go.RowKit
attribute [local go_sem ↓] Go.wp_at_zero Go.wp_at_succ

set_option maxHeartbeats 1000000 in
set_option maxRecDepth 100000 in
theorem code_fields (p : List LClass) (hs : SupOk p p.length) (hz : szProg p ≤ 4194304) : ∀ (n : Nat) (c : Int) (vc : Value) (w : World), RProg w vc p → -1 ≤ c → c < (p.length : Int) → (c + 1).toNat ≤ n →
  Calls Tryz.prog 167 #[.agg #[vc], .int .i64 c] w fun e w' => ∃ v', e = .returned v' ∧
   w'.ownsRow w.heap.size 43 1 v' (fieldsOf p c).length ((fieldsOf p c).map (Value.int .i64)) ∧ Below w.heap.size w w' := by
 intro n
 induction n with
 | zero =>
  intro c vc w hp h1 h2 h3
  obtain ⟨pa, _, _, pcap, rfl, _⟩ := hp
  have hc : c < 0 := by omega
  have HF := hide (fieldsOf_neg p hc)
  go_enter Tryz.func167, Tryz.ntmps167
  go_wp2_with fail
  go_ret
  refine ⟨_, rfl, ?_, box_below _ _⟩
  rw [unhide HF]
  exact World.ownsRow_nil _ _ _ _
 | succ n ih =>
  intro c vc w hp h1 h2 h3
  rcases Int.lt_or_le c 0 with hc | hc
  ·obtain ⟨pa, _, _, pcap, rfl, _⟩ := hp
   have HF := hide (fieldsOf_neg p hc)
   clear ih
   go_enter Tryz.func167, Tryz.ntmps167
   go_wp2_with fail
   go_ret
   refine ⟨_, rfl, ?_, box_below _ _⟩
   rw [unhide HF]
   exact World.ownsRow_nil _ _ _ _
  ·obtain ⟨k, rfl⟩ := Int.eq_ofNat_of_zero_le hc
   have IH := hide ih
   clear ih
   obtain ⟨i0, hi0, hz0, hz1, hz2⟩ := info_parts infoType
   have HP := hide hp
   obtain ⟨a, b, off, cap, rfl, hcap, ha, hr⟩ := sl_open hp
   have hi : k < p.length := by omega
   obtain rfl := ha (ne_nil_of_lt hi)
   have hX := List.getElem?_eq_getElem hi
   have hsup := supB_le (hs k _ hi hX)
   have hfz := fieldsOf_sz p hs hi
   have HF := hide (fieldsOf_step p hs hi hX)
   clear hX hp
   obtain ⟨vf, vm, c0, c1, c2, hf, hmm⟩ := hr k hi
   have hlen : p[k].fields.length ≤ 4194304 := by
    have := szFields_le p[k]; have := szClass_le (List.getElem_mem hi); omega
   have HFI := hide hf
   obtain ⟨fa, fcap, rfl, hnil, hsrc⟩ := ints_src hf
   clear hr hmm hnil hsrc hf
   generalize p[k] = x at *
   have hki : (k : Int) < (p.length : Int) := by omega
   have hkz : (0 : Int) ≤ (k : Int) := by omega
   go_enter Tryz.func167, Tryz.ntmps167
   go_wp2_with fail
   generalize hW : w.alloc _ = W
   have hbel : Below w.heap.size w W := by rw [← hW]; exact box_below _ _
   have hbox : W.cell? ⟨w.heap.size, 0, none⟩ = some (.slice (some ⟨b, off, none⟩) p.length cap) := by rw [← hW]; exact box_cell _ _ _ 0
   clear hW
   have d0 := Keeps.of_below hbel _ _ c0
   have d1 := Keeps.of_below hbel _ _ c1
   have HPW := hide (prog_keep (Keeps.of_below hbel) (unhide HP))
   have HFW := hide (ints_keep (Keeps.of_below hbel) (unhide HFI))
   clear c0 c1 c2
   refine wp_region_noPanic ?_
   refine wp_region_held_drew (S := (fun w' => w'.cell? ⟨w.heap.size, 0, none⟩ = some (.slice (some ⟨b, off, none⟩) p.length cap) ∧ w'.cell? ⟨b, off + k * 3, none⟩ = some (.int .i64 x.sup) ∧ w'.cell? ⟨b, off + k * 3 + 1, none⟩ = some (.slice fa x.fields.length fcap))) (by kernel_rfl) ?_ (fun hHeld => ?_)
   ·exact (And.intro hbox (And.intro d0 d1))
   refine take_x (some 7) 0 rfl rfl ?_
   refine take_x (some 8) 1 rfl rfl ?_
   refine take_x (some 9) 2 rfl rfl ?_
   refine take_x (some 10) 3 rfl rfl ?_
   refine take_x (some 11) 4 rfl rfl ?_
   refine take_x (some 12) 5 rfl rfl ?_
   refine take_x (some 13) 6 rfl rfl ?_
   refine take_x (some 15) 8 rfl rfl ?_
   refine take_x (some 16) 9 rfl rfl ?_
   refine take_x (some 17) 10 rfl rfl ?_
   refine take_x (some 18) 11 rfl rfl ?_
   refine take_x (some 19) 12 rfl rfl ?_
   refine take_x (some 20) 13 rfl rfl ?_
   refine wpAnyH_ready (rs := [7]) (by kernel_rfl) (by simp) ?_
   refine AllReadyH.cons rfl (fun K hK => ?_) AllReadyH.nil
   go_simp
   refine ((unhide IH) x.sup _ _ (prog_keep (Keeps.of_below ((Below.refl _ _).drew)) (unhide HPW)) hsup.1 (by omega) (by omega)).mono ?_
   rintro e w1 ⟨v', rfl, hown, hb1⟩
   have hb1' : Below W.heap.size W w1 := ⟨hb1.os, hb1.tape, hb1.output, hb1.size, hb1.block⟩
   have k1 := Keeps.of_below hb1'
   go_wp2_with fail
   refine hK.out _ _ (And.intro (k1 _ _ hbox) (And.intro (k1 _ _ d0) (k1 _ _ d1))) (fun hHeld => ?_)
   clear hK K
   try simp only [Act.put, List.setIfInBounds_toArray, List.set_cons_zero, List.set_cons_succ]
   refine wpAnyH_ready (rs := [14]) (by kernel_rfl) (by simp) ?_
   refine AllReadyH.cons rfl (fun K hK => ?_) AllReadyH.nil
   obtain ⟨sa, scap, hsl, hnil, hsrc⟩ := ints_src (ints_keep k1 (unhide HFW))
   simp only [Value.slice.injEq, true_and] at hsl
   obtain ⟨rfl, rfl⟩ := hsl
   have hfl : (fieldsOf p x.sup).length + x.fields.length ≤ 4194304 := by
    have h := congrArg List.length (unhide HF)
    rw [List.length_append] at h
    omega
   refine wp_append_sl (.tmp 14) (.tmp 20) 40 rfl W.heap.size 43 i0 (.int .i64 0) 1 8 Tryz.underlying40 hi0 hz0 hz1 hz2 rfl (by decide) v' (fieldsOf p x.sup).length ((fieldsOf p x.sup).map (Value.int .i64)) rfl hown fa x.fields.length fcap (x.fields.map (Value.int .i64)) rfl (by simp) (fun e => ⟨by rw [(hnil e).1]; rfl, (hnil e).2⟩) hsrc (oneCell_ints _) (by unfold maxLen; omega) (by omega) hb1'.size ?_
   intro v2 w2 hown2 hg2 hat2
   obtain ⟨a2, cap2, rfl⟩ := own_form hown2
   have hb2 : Below W.heap.size W w2 := hb1'.grown hg2 hb1'.size (fun k e => by have := hown.lt k e; exact this.1)
   have k2 := Keeps.of_below hb2
   go_simp
   refine hK.out _ _ (And.intro (k2 _ _ hbox) (And.intro (k2 _ _ d0) (k2 _ _ d1))) (fun hHeld => ?_)
   clear hK K
   try simp only [Act.put, List.setIfInBounds_toArray, List.set_cons_zero, List.set_cons_succ]
   have HO := hide hown2
   clear hown2 hg2 hat2 hown hb1 hb1' k1 k2 hnil hsrc
   refine take_x (some 4) 15 rfl rfl ?_
   refine wpAnyH_done (by kernel_rfl) ?_ _
   refine NoPanic.normal ?_
   go_wp2_with fail
   go_ret
   refine ⟨_, rfl, ?_, hbel.trans (hb2.mono hbel.size)⟩
   have := own_base (unhide HO) hbel.size
   rw [unhide HF, List.length_append, List.map_append]
   exact this
end Go.Proofs.YtiiokkllmchohaaGreat
/- The code looks whether a call fits. -/
namespace Go.Proofs.YtiiokkllmchohaaGreat
open Go.RowKit
attribute [local go_sem ↓] Go.wp_at_zero Go.wp_at_succ
attribute [local go_sem] frz_drew

def callS (p : List LClass) (m : LMeth) (a b : Int) (s : TSt) : Option TSt := (wantsS p (findM p a b).args.reverse s).bind fun s => (wantS p (a + 3) s).bind (leaveS m (findM p a b).ret)
theorem findM_of {p : List LClass} {a b : Int} {ck : Nat × Nat} {o : LMeth} (h1 : methOf p a b = some ck) (h2 : methAt p ck = some o) : findM p a b = o := by
 unfold findM
 rw [h1, Option.bind_some, h2]; rfl
theorem wantsS_bad (p : List LClass) : ∀ (l : List Int) (s : TSt) (k : Nat), wantsS p (l.take k) s = none → wantsS p l s = none
 | [], s, k, h => by simp [wantsS] at h
 | t :: r, s, 0, h => by simp [wantsS] at h
 | t :: r, s, k + 1, h => by
  rw [List.take_succ_cons] at h
  unfold wantsS at h ⊢
  cases e : wantS p t s with
  | none => rfl
  | some s1 =>
   rw [e] at h
   exact wantsS_bad p r s1 k h
theorem wantsS_snoc (p : List LClass) (t : Int) : ∀ (l : List Int) (s : TSt), wantsS p (l ++ [t]) s = (wantsS p l s).bind (wantS p t)
 | [], s => by
  simp only [List.nil_append, wantsS, Option.bind_some]
  cases wantS p t s <;> rfl
 | x :: r, s => by
  rw [List.cons_append]
  unfold wantsS
  cases wantS p x s with
  | none => rfl
  | some s1 => exact wantsS_snoc p t r s1

theorem b0_box {B : Nat} {w0 W : World} (h : Below B w0 W) (hB : B ≤ w0.heap.size) (o : Obj) : Below B w0 (W.alloc o).drew := (h.alloc (Nat.le_trans hB h.size) o).drew
theorem b0_box' {B : Nat} {w0 W : World} (h : Below B w0 W) (hB : B ≤ w0.heap.size) (o : Obj) : Below B w0 (W.drew.alloc o) := h.drew.alloc (Nat.le_trans hB h.size) o

set_option maxHeartbeats 2000000 in
set_option maxRecDepth 100000 in
theorem lk_call (op a b : Int) (p : List LClass) (vc : Value) (m : LMeth) (s : TSt) (w0 w : World) (bl : Nat) (pre : List Value) (h : LkC w0 w bl p vc m pre s) (hs : SupOk p p.length) (hz : szProg p ≤ 4194304) (h8 : m.stack ≤ 8)
  (ha0 : 0 ≤ a) (ha1 : a < (p.length : Int)) (hmo : (methOf p a b).isSome = true) (hty : ∀ x ∈ (findM p a b).args, tyOk p.length x) (hret : tyOk p.length (findM p a b).ret) :
  Calls Tryz.prog 208 #[.pointer (some ⟨bl, 0, none⟩), .agg #[.int .i64 op, .int .i64 a, .int .i64 b]] w fun e w' => (∀ s', callS p m a b s = some s' → e = .returned (.tuple #[]) ∧ LkC w0 w' bl p vc m pre s') ∧ (callS p m a b s = none → e = .panicked (refC 5)) ∧ Mods (fun k => k = bl) w w' := by
 have hpl : p.length ≤ 4194304 := Nat.le_trans (szProg_len p) hz
 obtain ⟨ck, hck⟩ := Option.isSome_iff_exists.1 hmo
 have H := hide h
 have hbl := h.lk.lt
 have c0 := h.cell (by omega) h.p0
 obtain ⟨va, _, _, vcap, rfl, _⟩ := h.pr
 have HCK := hide hck
 clear h hck
 go_enter Tryz.func208, Tryz.ntmps208
 go_wp2_with fail
 have HW := hide ((unhide H).below (box_below w (.cells #[.int .i64 op, .int .i64 a, .int .i64 b] 60)))
 have hbel : Below w.heap.size w (w.alloc (.cells #[.int .i64 op, .int .i64 a, .int .i64 b] 60)) := box_below _ _
 have hBI := Blk.new w #[.int .i64 op, .int .i64 a, .int .i64 b] 60
 have hWs : (w.alloc (.cells #[.int .i64 op, .int .i64 a, .int .i64 b] 60)).heap.size = w.heap.size + 1 := by simp
 have HWS := hide hWs
 clear hWs
 generalize w.alloc _ = W at *
 have x0 : W.cell? ⟨bl, 0, none⟩ = some (.slice va p.length vcap) := (unhide HW).cell (by omega) (unhide HW).p0
 have x1 : W.cell? ⟨w.heap.size, 1, none⟩ = some (.int .i64 a) := hBI.cell 1
 have x2 : W.cell? ⟨w.heap.size, 2, none⟩ = some (.int .i64 b) := hBI.cell 2
 have HS3 := hide (And.intro x0 (And.intro x1 x2))
 go_cut [4, 5] (fun s4 s5 wx => ∃ (aa ca fa : Option Addr) (ac cc fc bI : Nat), s4 = .pointer (some ⟨bI, 0, none⟩) ∧ s5 = .bool true ∧ W.heap.size ≤ bI ∧ Blk wx bI 63 [.int .i64 (findM p a b).slot, .slice aa (findM p a b).args.length ac, .int .i64 (findM p a b).ret, .int .i64 (findM p a b).locals, .int .i64 (findM p a b).stack, .slice ca (findM p a b).code.length cc, .slice fa (findM p a b).frames.length fc] ∧ SlAt 1 (RInt w0) (.slice aa (findM p a b).args.length ac) (findM p a b).args ∧ Below W.heap.size W wx ∧ methAt p ck = some (findM p a b))
 case first =>
  have hb0 := (unhide HW).b0
  have hpr := (unhide HW).pr
  have HB0 := hide hb0
  have HPR := hide hpr
  clear hb0 hpr
  go_region_held3 (fun w' => w'.cell? ⟨bl, 0, none⟩ = some (.slice va p.length vcap) ∧ w'.cell? ⟨w.heap.size, 1, none⟩ = some (.int .i64 a) ∧ w'.cell? ⟨w.heap.size, 2, none⟩ = some (.int .i64 b))
   (first
    | with_reducible exact tri_keep HS3.out (below_put7 (below_boxcall HB1.out) (Nat.le_refl _) _ _ _ _ _ _ _).drew.drew
    | with_reducible exact tri_keep HS3.out (below_put7 (below_boxcall HB1.out) (Nat.le_refl _) _ _ _ _ _ _ _).drew
    | with_reducible exact tri_keep HS3.out (below_put7 (below_boxcall HB1.out) (Nat.le_refl _) _ _ _ _ _ _ _)
    | with_reducible exact tri_keep HS3.out (below_call hb1)
    | with_reducible exact tri_keep HS3.out ((below_call hb1).alloc (below_call hb1).size _)
    | with_reducible exact tri_keep HS3.out (below_boxcall HB1.out)
    | with_reducible exact tri_keep HS3.out (below_box _)
    | with_reducible exact tri_keep HS3.out (below_box' _)
    | (with_reducible exact HS3.out)
    | go_keep)
   (first | ((go_at_call 109; refine (code_findmethod0 p _ p.length _ _ w0 _ (unhide HPR) ?_ hs (Nat.le_refl _) (by omega) (by omega) hz).mono ?_); (first | with_reducible exact (unhide HB0).drew | with_reducible exact b0_box (unhide HB0) (Nat.le_refl _) _ | with_reducible exact b0_box' (unhide HB0) (Nat.le_refl _) _); rintro e w1 ⟨o, oa, oc, of, oac, occ, ofc, rfl, hfm, hb1⟩; (first | (have y1 := blk_boxcall hb1; obtain ⟨⟨f0, f1, f2, f3, f4, f5, f6⟩, g0, g1, g2, g3, g4, g5, g6⟩ := blk7 y1; have Y1 := hide y1; have HB1 := hide hb1; have HFM := hide hfm; clear y1 hb1 hfm; skip) | skip)))
  ·obtain ⟨hma, hmv⟩ := hfm ck (unhide HCK)
   obtain rfl := findM_of (unhide HCK) hma
   have hb1' := below_call hb1
   have hB := Blk.new w1 #[.int .i64 (findM p a b).slot, .slice oa (findM p a b).args.length oac, .int .i64 (findM p a b).ret, .int .i64 (findM p a b).locals, .int .i64 (findM p a b).stack, .slice oc (findM p a b).code.length occ, .slice of (findM p a b).frames.length ofc] 63
   have hbz := hb1'.alloc hb1'.size (.cells #[.int .i64 (findM p a b).slot, .slice oa (findM p a b).args.length oac, .int .i64 (findM p a b).ret, .int .i64 (findM p a b).locals, .int .i64 (findM p a b).stack, .slice oc (findM p a b).code.length occ, .slice of (findM p a b).frames.length ofc] 63)
   have hsz := hb1'.size
   go_wp2_with fail
   go_meet
   case rel => exact ⟨oa, oc, of, oac, occ, ofc, w1.heap.size, rfl, rfl, hsz, hB, hmv.1, hbz, hma⟩
  ·obtain ⟨hma, hmv⟩ := HFM.out ck (unhide HCK)
   obtain rfl := findM_of (unhide HCK) hma
   have hbz := below_put7 (below_boxcall HB1.out) (Nat.le_refl _) (.int .i64 (findM p a b).slot) (.slice oa (findM p a b).args.length oac) (.int .i64 (findM p a b).ret) (.int .i64 (findM p a b).locals) (.int .i64 (findM p a b).stack) (.slice oc (findM p a b).code.length occ) (.slice of (findM p a b).frames.length ofc)
   have hB := put7_blk (unhide Y1) (.int .i64 (findM p a b).slot) (.slice oa (findM p a b).args.length oac) (.int .i64 (findM p a b).ret) (.int .i64 (findM p a b).locals) (.int .i64 (findM p a b).stack) (.slice oc (findM p a b).code.length occ) (.slice of (findM p a b).frames.length ofc)
   unfold put7 at hB
   go_wp2_with fail
   go_meet
   case rel => exact ⟨oa, oc, of, oac, occ, ofc, W.heap.size, rfl, rfl, Nat.le_refl _, hB, hmv.1, hbz, hma⟩
 case rest =>
  obtain ⟨aa, ca, fa, ac, cc, fc, bI, rfl, rfl, hbI, hB, hsl, hbx, hma⟩ := hcut
  have hWs := unhide HWS
  have L1 := (unhide HW).below hbx
  have hBI1 := hBI.below hbx hBI.lt
  have M1 : Mods (fun k => k = bl) w wc := (bnone hbel).trans (bnone (S := fun k => k = bl) hbx) (fun _ _ e => e)
  clear x0 x1 x2 HS3 hBI HW H hbel
  have q1 : wc.cell? ⟨bI, 1, none⟩ = some (.slice aa (findM p a b).args.length ac) := hB.cell 1
  have hlb : bl < w.heap.size := hbl
  have hIb : bI ≠ bl := by omega
  have hBb : w.heap.size ≠ bl := by omega
  have hargs : (findM p a b).args.length ≤ 4194304 := methAt_len hma hz
  clear hma
  obtain ⟨sa, gb, goff, scap, hse, _, hsa, hsr⟩ := ints_open hsl
  simp only [Value.slice.injEq, true_and] at hse
  obtain ⟨rfl, rfl⟩ := hse
  have HL1 := hide L1
  have HB := hide hB
  have HBI := hide hBI1
  have HM1 := hide M1
  have HSR := hide hsr
  clear L1 hB hBI1 M1 hsr hWs hsl hbx
  generalize hM : findM p a b = o at *
  have HMO := hide hM
  clear hM
  go_wp2_with fail
  go_loopw [6, 22] (fun s6 s22 wr => ∃ (k : Nat) (s1 : TSt), k ≤ o.args.length ∧ s22 = .int .i64 k ∧ wantsS p (o.args.reverse.take k) s = some s1 ∧ LkC w0 wr bl p (.slice va p.length vcap) m pre s1 ∧ Mods (fun k => k = bl) w wr ∧ Blk wr bI 63 [.int .i64 o.slot, .slice aa o.args.length ac, .int .i64 o.ret, .int .i64 o.locals, .int .i64 o.stack, .slice ca o.code.length cc, .slice fa o.frames.length fc] ∧ Blk wr w.heap.size 60 [.int .i64 op, .int .i64 a, .int .i64 b]) (fun _ s22 _ => o.args.length - (intOf s22).toNat)
  case atStart => exact ⟨0, s, Nat.zero_le _, rfl, rfl, unhide HL1, unhide HM1, unhide HB, unhide HBI⟩
  case round =>
   obtain ⟨k, s1, hk, rfl, hws, hL, hMo, hBo, hBi⟩ := hrel
   have q1 : wr.cell? ⟨bI, 1, none⟩ = some (.slice aa o.args.length ac) := hBo.cell 1
   have q2 : wr.cell? ⟨bI, 2, none⟩ = some (.int .i64 o.ret) := hBo.cell 2
   have r1 : wr.cell? ⟨w.heap.size, 1, none⟩ = some (.int .i64 a) := hBi.cell 1
   have HWS2 := hide hws
   have HLr := hide hL
   have HMr := hide hMo
   have HBr := hide hBo
   have HBi := hide hBi
   clear hws hL hMo hBo hBi HL1 HM1 HB HBI
   by_cases hlt : k < o.args.length
   ·obtain rfl := hsa (ne_nil_of_lt hlt)
    obtain ⟨j, hj⟩ : ∃ j, j + k + 1 = o.args.length := ⟨o.args.length - 1 - k, by omega⟩
    have hjl : j < o.args.length := by omega
    have e0 : wr.cell? ⟨gb, goff + j, none⟩ = some (.int .i64 o.args[j]) := Keeps.of_below (unhide HLr).b0 _ _ (unhide HSR j hjl)
    have htx : tyOk p.length o.args[j] := hty _ (List.getElem_mem hjl)
    have hrev : o.args.reverse.take (k + 1) = o.args.reverse.take k ++ [o.args[j]] := by
     rw [List.take_add_one, List.getElem?_reverse (by omega), List.getElem?_eq_getElem (by omega), Option.toList_some]
     congr 3
     omega
    have HREV := hide hrev
    clear hrev
    generalize o.args[j] = t at *
    have hlt' : (k : Int) < (o.args.length : Int) := by omega
    have e1 : (o.args.length : Int) - 1 - (k : Int) = (j : Int) := by omega
    have j0 : (0 : Int) ≤ (j : Int) := by omega
    have j1 : (j : Int) < (o.args.length : Int) := by omega
    have HJ := hide hj
    clear hj
    go_wp2_with fail
    refine Calls.mono (lk_want t p _ m s1 w0 wr bl pre (unhide HLr) hs hpl htx) ?_
    rintro e w2 ⟨h1, h2, m2⟩
    cases hwt : wantS p t s1 with
    | none =>
     obtain rfl := h2 hwt
     have HN : Hid (callS p m a b s = none) := by
      show _ = _
      unfold callS
      rw [unhide HMO, wantsS_bad p o.args.reverse s (k + 1) (by rw [unhide HREV, wantsS_snoc, unhide HWS2]; exact hwt)]
      rfl
     have HM := hide ((unhide HMr).trans m2 (fun _ _ e => e))
     clear hwt h1 h2
     go_wp2_with fail
     exact ⟨rfl, fun s' e => (by rw [unhide HN] at e; cases e), fun _ => rfl, unhide HM⟩
    | some s2 =>
     obtain ⟨rfl, hL2⟩ := h1 s2 hwt
     have HN : Hid (wantsS p (o.args.reverse.take (k + 1)) s = some s2) := by show _ = _; rw [unhide HREV, wantsS_snoc, unhide HWS2]; exact hwt
     have HX := hide (And.intro hL2 (And.intro ((unhide HMr).trans m2 (fun _ _ e => e)) (And.intro ((unhide HBr).mods m2 hIb) ((unhide HBi).mods m2 hBb))))
     clear hwt h1 h2 hL2 m2
     go_wp2_with fail
     obtain ⟨z1, z2, z3, z4⟩ := unhide HX
     exact ⟨⟨k + 1, s2, by omega, by go_num, unhide HN, z1, z2, z3, z4⟩, by simp [intOf]; omega⟩
   ·have hlt' : ¬ (k : Int) < (o.args.length : Int) := by omega
    have HA : Hid (wantsS p o.args.reverse s = some s1) := by
     show _ = _
     have := unhide HWS2
     rwa [List.take_of_length_le (by simp; omega)] at this
    have hta : tyOk p.length (a + 3) := ⟨by omega, by omega⟩
    clear hlt HWS2 q1
    go_wp2_with fail
    refine (code_of a (by omega) (by omega) _).mono ?_
    rintro e w2 ⟨rfl, rfl⟩
    go_wp2_with fail
    refine (lk_want (a + 3) p _ m s1 w0 _ bl pre (unhide HLr) hs hpl hta).mono ?_
    rintro e w3 ⟨h1, h2, m3⟩
    cases hwt : wantS p (a + 3) s1 with
    | none =>
     obtain rfl := h2 hwt
     have HN : Hid (callS p m a b s = none) := by
      show _ = _
      unfold callS
      rw [unhide HMO, unhide HA, Option.bind_some, hwt]
      rfl
     have HM := hide ((unhide HMr).trans m3 (fun _ _ e => e))
     clear hwt h1 h2
     go_wp2_with fail
     exact ⟨rfl, fun s' e => (by rw [unhide HN] at e; cases e), fun _ => rfl, unhide HM⟩
    | some s2 =>
     obtain ⟨rfl, hL2⟩ := h1 s2 hwt
     have HC : Hid (callS p m a b s = leaveS m o.ret s2) := by
      show _ = _
      unfold callS
      rw [unhide HMO, unhide HA, Option.bind_some, hwt]
      rfl
     have HM := hide ((unhide HMr).trans m3 (fun _ _ e => e))
     have q3 : w3.cell? ⟨bI, 2, none⟩ = some (.int .i64 o.ret) := ((unhide HBr).mods m3 hIb).cell 2
     have HL2 := hide hL2
     clear hwt h1 h2 hL2 m3 q2 r1
     go_wp2_with fail
     refine (lk_leave o.ret p _ m s2 w0 w3 bl pre (unhide HL2) hret h8).mono ?_
     rintro e w4 ⟨h1, h2, m4⟩
     have HM4 := hide ((unhide HM).trans m4 (fun _ _ e => e))
     cases hlv : leaveS m o.ret s2 with
     | none =>
      obtain rfl := h2 hlv
      have HN : Hid (callS p m a b s = none) := by show _ = _; rw [unhide HC, hlv]
      clear hlv h1 h2
      go_wp2_with fail
      exact ⟨rfl, fun s' e => (by rw [unhide HN] at e; cases e), fun _ => rfl, unhide HM4⟩
     | some s3 =>
      obtain ⟨rfl, hL3⟩ := h1 s3 hlv
      have HN : Hid (callS p m a b s = some s3) := by show _ = _; rw [unhide HC, hlv]
      clear hlv h1 h2
      go_wp2_with fail
      go_end0
      refine ⟨fun s' e => ?_, fun e => (by rw [unhide HN] at e; cases e), unhide HM4⟩
      rw [unhide HN] at e
      simp only [Option.some.injEq] at e
      subst e
      exact ⟨rfl, hL3⟩
end Go.Proofs.YtiiokkllmchohaaGreat
