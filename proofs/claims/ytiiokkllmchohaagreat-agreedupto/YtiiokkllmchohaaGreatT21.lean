/- The machine's frames: take, pop, top. -/
import Derived.Test.YtiiokkllmchohaaGreatT09
import Derived.Test.YtiiokkllmchohaaGreatT16
import Derived.Test.YtiiokkllmchohaaGreatT19
/- MacD -/
namespace Go.Proofs.YtiiokkllmchohaaGreat
open Go.RowKit Go.Shelf
attribute [local go_sem ↓] Go.wp_at_zero Go.wp_at_succ
attribute [local go_sem] frz_drew

section
variable {w : World} {B : Nat} {A : List Nat} {fb : Nat} {mc : List Value} {pc : Int} {vl : Value} {loc : List LVal} {vs : Value} {stk : List LVal}
theorem FrA.cut {sa : Option Addr} {scap : Nat} (h : FrA w B A fb mc pc vl loc (.slice sa stk.length scap) stk) {n : Nat} (hn : n ≤ stk.length) : FrA (w.setCell ⟨fb, 9, none⟩ (.slice sa n scap)) B A fb mc pc vl loc (.slice sa n scap) (stk.take n) ∧ Mods (fun k => k = fb) w (w.setCell ⟨fb, 9, none⟩ (.slice sa n scap)) ∧ (Value.slice sa n scap).ownBlock = (Value.slice sa stk.length scap).ownBlock := by
 have hM : Mods (fun k => k = fb) w (w.setCell ⟨fb, 9, none⟩ (.slice sa n scap)) := (Mods.refl (fun k => k = fb) w).setCell (p := ⟨fb, 9, none⟩) (fun _ => rfl) _
 have l7 := h.l7
 have hblk := h.blk.setCell 9 (.slice sa n scap)
 have hB9 : (mc ++ [.int .i64 pc, vl, .slice sa stk.length scap]).set 9 (.slice sa n scap) = mc ++ [.int .i64 pc, vl, .slice sa n scap] := by
  rw [List.set_append_right _ _ (by omega), l7]; rfl
 rw [hB9] at hblk
 have hob : (Value.slice sa n scap).ownBlock = (Value.slice sa stk.length scap).ownBlock := by cases sa <;> rfl
 have hst := own_less h.st hn
 rw [encL_take] at hst
 refine ⟨⟨hblk, l7, h.base, own_mods h.lo hM (fun g hg e => own_ne h.lo h.blk tv_ne_fr (e ▸ hg)), ?_, fun g hg e => h.ne g hg (hob ▸ e)⟩, hM, hob⟩
 rw [List.length_take, Nat.min_eq_left hn]
 exact own_mods hst hM (fun g hg e => own_ne h.st h.blk tv_ne_fr (by rw [← hob, hg, e]))
end
def TakeR (B : Nat) (A : List Nat) (fb : Nat) (mc : List Value) (pc : Int) (vl : Value) (loc : List LVal) (vs : Value) (stk : List LVal) (n : Nat) (w w' : World) (e : Ending) : Prop :=
 ∃ ta tcap vs', e = .returned (.slice ta n tcap) ∧ n ≤ tcap ∧ (ta = none → n = 0 ∧ tcap = 0) ∧ (0 < n → ∃ g, ta = some ⟨g, (stk.length - n) * 3, none⟩ ∧ vs.ownBlock = some g) ∧ (∀ ad, ta = some ad → ∀ j u, (encL A (stk.drop (stk.length - n)))[j]? = some u → w'.cell? (ad.add j) = some u) ∧
  FrA w' B A fb mc pc vl loc vs' (stk.take (stk.length - n)) ∧ vs'.ownBlock = vs.ownBlock ∧ Mods (fun k => k = fb) w w'
set_option maxHeartbeats 1000000 in
set_option maxRecDepth 100000 in
theorem ma_take (B : Nat) (A : List Nat) (fb : Nat) (mc : List Value) (pc : Int) (vl : Value) (loc : List LVal) (vs : Value) (stk : List LVal) (n : Nat) (w : World) (h : FrA w B A fb mc pc vl loc vs stk) (hn : n ≤ stk.length) (h4 : stk.length ≤ 4194304) :
  Calls Tryz.prog 171 #[.pointer (some ⟨fb, 0, none⟩), .int .i64 (n : Int)] w fun e w' => TakeR B A fb mc pc vl loc vs stk n w w' e := by
 have H := hide h
 have c9 := h.c7.2.2
 have f9 := h.blk.frozen 9
 have r0 : (0 : Int) ≤ (stk.length : Int) - (n : Int) := by omega
 have r1 : (stk.length : Int) - (n : Int) ≤ (stk.length : Int) := by omega
 rcases h.st.2 with ⟨rfl, e0⟩ | ⟨g, cap, cur, rfl, h2, h3, hnc, hcm, hcs, htk⟩
 ·clear h
  obtain rfl : n = 0 := by omega
  obtain rfl : stk = [] := List.eq_nil_of_length_eq_zero e0
  go_enter Tryz.func171, Tryz.ntmps171
  go_wp2_with fail
  go_ret
  obtain ⟨g1, g2, g3⟩ := FrA.cut (stk := []) (sa := none) (scap := 0) (unhide H) (n := 0) (Nat.le_refl _)
  exact ⟨none, 0, .slice none 0 0, rfl, Nat.le_refl _, fun _ => ⟨rfl, rfl⟩, fun e => absurd e (Nat.lt_irrefl _), fun ad e => (by cases e), g1, g3, g2⟩
 ·clear h
  have hcap : (stk.length : Int) ≤ (cap : Int) := by omega
  have hsub : (stk.length : Int) - (n : Int) = ((stk.length - n : Nat) : Int) := by omega
  have hnn : stk.length - (stk.length - n) = n := by omega
  obtain ⟨g1, g2, g3⟩ := (unhide H).cut (n := stk.length - n) (by omega)
  have hcur : ∀ j u, (encL A (stk.drop (stk.length - n)))[j]? = some u → w.cell? ⟨g, (stk.length - n) * 3 + j, none⟩ = some u := fun j u hu => by
   have hj : j < (encL A (stk.drop (stk.length - n))).length := (List.getElem?_eq_some_iff.1 hu).1
   rw [encL_len, List.length_drop, hnn] at hj
   rw [← encL_drop, List.getElem?_drop, ← htk, List.getElem?_take] at hu
   split at hu
   ·unfold World.cell?
    simp only [h3]
    simpa using hu
   ·cases hu
  have hgf : ¬ g = fb := fun e => own_ne (unhide H).st (unhide H).blk tv_ne_fr (show _ = some fb from e ▸ rfl)
  have HF : ∀ tcap, n ≤ tcap → Hid (TakeR B A fb mc pc vl loc (.slice (some ⟨g, 0, none⟩) stk.length cap) stk n w (w.setCell ⟨fb, 9, none⟩ (.slice (some ⟨g, 0, none⟩) (stk.length - n) cap)) (.returned (.slice (some ⟨g, (stk.length - n) * 3, none⟩) n tcap))) := fun tcap ht =>
   ⟨_, tcap, _, rfl, ht, fun e => (by cases e), fun _ => ⟨g, rfl, rfl⟩, fun ad e j u hu => by
    obtain rfl := Option.some.inj e
    rw [addr_plus]
    exact g2.cell (hcur j u hu) hgf, g1, g3, g2⟩
  have HF0 : n = 0 → Hid (TakeR B A fb mc pc vl loc (.slice (some ⟨g, 0, none⟩) stk.length cap) stk n w (w.setCell ⟨fb, 9, none⟩ (.slice (some ⟨g, 0, none⟩) (stk.length - n) cap)) (.returned (.slice (some ⟨g, 0, none⟩) n 0))) := fun hn0 =>
   ⟨_, 0, _, rfl, by omega, fun e => (by cases e), fun h => (by omega), fun ad e j u hu => by
    subst hn0
    rw [Nat.sub_zero, List.drop_length] at hu
    simp [encL] at hu, g1, g3, g2⟩
  have HH := hide HF
  have HH0 := hide HF0
  have HC := hide (show n ≤ cap - (stk.length - n) by omega)
  clear g1 g2 g3 hcur HF HF0 hgf htk h3 hcs H
  go_enter Tryz.func171, Tryz.ntmps171
  go_wp2_with fail
  ·go_ret
   have hce : cap = stk.length - n := by omega
   have hF := unhide ((unhide HH0) (by omega))
   rw [hce] at hF
   exact hF
  ·go_ret
   exact unhide ((unhide HH) _ (unhide HC))
end Go.Proofs.YtiiokkllmchohaaGreat
/- The machine's frames: pop, top. -/
namespace Go.Proofs.YtiiokkllmchohaaGreat
open Go.RowKit Go.Shelf
attribute [local go_sem ↓] Go.wp_at_zero Go.wp_at_succ
attribute [local go_sem] frz_drew

section
variable {w w' : World} {B : Nat} {A : List Nat} {fb : Nat} {mc : List Value} {pc : Int} {vl : Value} {loc : List LVal} {vs : Value} {stk : List LVal}
theorem FrA.mods {S : Nat → Prop} (h : FrA w B A fb mc pc vl loc vs stk) (m : Mods S w w') (hf : ¬ S fb) (hl : ∀ g, vl.ownBlock = some g → ¬ S g) (hs : ∀ g, vs.ownBlock = some g → ¬ S g) : FrA w' B A fb mc pc vl loc vs stk :=
 ⟨h.blk.mods m hf, h.l7, h.base, own_mods h.lo m hl, own_mods h.st m hs, h.ne⟩
theorem FrA.below {b : Nat} (h : FrA w B A fb mc pc vl loc vs stk) (m : Below b w w') (hb : w.heap.size ≤ b) : FrA w' B A fb mc pc vl loc vs stk :=
 h.mods (Mods.of_below m) (by have := h.blk.lt; omega) (fun g hg => by have := (h.lo.lt g hg).2; omega) (fun g hg => by have := (h.st.lt g hg).2; omega)
end
theorem encL_set (A : List Nat) : ∀ (l : List LVal) (k : Nat) (v : LVal), k < l.length → encL A (l.set k v) = putAt (encL A l) (k * 3) (encV A v)
 | [], k, v, h => by simp at h
 | u :: r, 0, v, _ => by
  show encV A v ++ encL A r = putAt (encV A u ++ encL A r) (0 * 3) (encV A v)
  unfold putAt
  have l3 : (encV A u).length = 3 := rfl
  have l3' : (encV A v).length = 3 := rfl
  rw [Nat.zero_mul, List.take_zero, List.nil_append, l3', Nat.zero_add, List.drop_append, l3, Nat.sub_self, List.drop_zero, List.drop_of_length_le (by rw [l3]; omega), List.nil_append]
 | u :: r, k + 1, v, h => by
  show encV A u ++ encL A (r.set k v) = putAt (encV A u ++ encL A r) ((k + 1) * 3) (encV A v)
  have ih := encL_set A r k v (by simpa using h)
  have l3 : (encV A u).length = 3 := rfl
  have l3' : (encV A v).length = 3 := rfl
  have ht : (encV A u).take ((k + 1) * 3) = encV A u := List.take_of_length_le (by rw [l3]; omega)
  have hd : (encV A u).drop ((k + 1) * 3 + 3) = [] := List.drop_of_length_le (by rw [l3]; omega)
  unfold putAt at ih ⊢
  rw [ih, l3', List.take_append, List.drop_append, l3, ht, hd, List.nil_append, show (k + 1) * 3 - 3 = k * 3 by omega, show (k + 1) * 3 + 3 - 3 = k * 3 + 3 by omega]
  simp only [List.append_assoc]
theorem own_put {w : World} {B : Nat} {A : List Nat} {g n cap k : Nat} {l : List LVal} (v : LVal) (h : w.ownsRow B 170 3 (.slice (some ⟨g, 0, none⟩) n cap) n (encL A l)) (hn : n = l.length) (hk : k < l.length) :
  ∃ cur, Blk w g 170 cur ∧ k * 3 + 3 ≤ cur.length ∧ ∀ w', Blk w' g 170 (putAt cur (k * 3) (encV A v)) → w'.ownsRow B 170 3 (.slice (some ⟨g, 0, none⟩) n cap) n (encL A (l.set k v)) := by
 subst hn
 rcases h.2 with ⟨e1, _⟩ | ⟨g', c2, cur, e1, h2, h3, h4, h5, h6, h7⟩
 ·cases e1
 ·cases e1
  have hcl : cur.toList.length = cap * 3 := by rw [Array.length_toList]; exact h6
  have hle : k * 3 + 3 ≤ cur.toList.length := by rw [hcl]; omega
  refine ⟨cur.toList, h3, hle, fun w' hB => ⟨by rw [encL_len, List.length_set], .inr ⟨g, cap, (putAt cur.toList (k * 3) (encV A v)).toArray, rfl, h2, hB, h4, h5, ?_, ?_⟩⟩⟩
  ·rw [List.size_toArray, putAt_length (by exact hle), hcl]
  ·have hl3 : (encL A l).length = l.length * 3 := encL_len A l
   have l3' : (encV A v).length = 3 := rfl
   rw [encL_set A l k v hk]
   show (putAt cur.toList (k * 3) (encV A v)).take (l.length * 3) = _
   apply List.ext_getElem?
   intro i
   rw [List.getElem?_take, putAt_get (by exact hle), putAt_get (by rw [hl3, l3']; omega), l3', ← h7, List.getElem?_take]
   by_cases hi : i < l.length * 3
   ·simp only [hi, if_true]
   ·simp only [hi, if_false]
    rw [if_neg (by omega), if_neg (by omega)]
def PopR (B : Nat) (A : List Nat) (fb : Nat) (mc : List Value) (pc : Int) (vl : Value) (loc : List LVal) (vs : Value) (stk : List LVal) (v : LVal) (w w' : World) (e : Ending) : Prop :=
 ∃ vs', e = .returned (.agg (encV A v).toArray) ∧ FrA w' B A fb mc pc vl loc vs' stk ∧ vs'.ownBlock = vs.ownBlock ∧ Mods (fun k => k = fb) w w'
set_option maxHeartbeats 1000000 in
set_option maxRecDepth 100000 in
theorem ma_pop (B : Nat) (A : List Nat) (fb : Nat) (mc : List Value) (pc : Int) (vl : Value) (loc : List LVal) (vs : Value) (stk : List LVal) (v : LVal) (w : World) (h : FrA w B A fb mc pc vl loc vs (stk ++ [v])) (h4 : stk.length < 4194304) :
  Calls Tryz.prog 170 #[.pointer (some ⟨fb, 0, none⟩)] w fun e w' => PopR B A fb mc pc vl loc vs stk v w w' e := by
 have hbel := box_below w (.cells #[.int .i64 0, .int .i64 0, .pointer none] 170)
 have B0 := Blk.new w #[.int .i64 0, .int .i64 0, .pointer none] 170
 have H := hide (h.below hbel (Nat.le_refl _))
 have hfb := h.blk.lt
 have hvs : ∀ g, vs.ownBlock = some g → g < w.heap.size := fun g hg => (h.st.lt g hg).2
 have hvl : ∀ g, vl.ownBlock = some g → g < w.heap.size := fun g hg => (h.lo.lt g hg).2
 have hl : (stk ++ [v]).length = stk.length + 1 := by simp
 have HT : Hid ((stk ++ [v]).take stk.length = stk) := by show _ = _; simp
 have HD : Hid ((stk ++ [v]).drop stk.length = [v]) := by show _ = _; simp
 have HON := hide (encV_one A v)
 clear h
 go_enter Tryz.func170, Tryz.ntmps170
 go_wp2_with fail
 generalize w.alloc _ = W at *
 refine (ma_take B A fb mc pc vl loc vs (stk ++ [v]) 1 W (unhide H) (by omega) (by omega)).mono ?_
 rintro e w1 ⟨ta, tcap, vs', rfl, hcap, _, ht, hrd, hF, hob, hM⟩
 obtain ⟨g, rfl, hg⟩ := ht (by omega)
 have hs1 : (stk ++ [v]).length - 1 = stk.length := by omega
 rw [hs1, unhide HT] at hF
 rw [hs1, unhide HD] at hrd
 rw [hs1]
 have r0 := hrd _ rfl 0 _ rfl
 have r1 := hrd _ rfl 1 _ rfl
 have r2 := hrd _ rfl 2 _ rfl
 rw [addr_plus] at r0 r1 r2
 rw [Nat.add_zero] at r0
 have B1 := B0.mods hM (by omega)
 have HX := hide (And.intro hF hob)
 have hsz := hM.size
 have hWs := hbel.size
 have hgW := hvs g hg
 have HMM := hide ((bnone (S := fun k => k = fb) hbel).trans hM (fun _ _ e => e))
 have hone := unhide HON
 unfold encV at hone
 generalize hob2 : objP A v.obj = ob at *
 clear hrd hF hob hM ht
 go_wp2_with (refine wpList_store_blk aggVal B1 0 [.int .i64 v.kind, .int .i64 v.num, ob] rfl (by simp) hone (.tmp 2) (.tmp 6) rfl rfl rfl rfl ?_; intro w2 hB2 hM2 hs2)
 rw [putAt_all (by rfl)] at hB2
 refine bodyPost_ret (results_blk rfl aggVal hB2 rfl rfl) rfl ?_
 refine ⟨vs', by unfold encV; rw [hob2], (unhide HX).1.mods hM2 (by omega) (fun g hg e => ?_) (fun g hg e => ?_), (unhide HX).2, (unhide HMM).trans hM2 (fun k hk e => by omega)⟩
 ·have := hvl g hg; omega
 ·rw [(unhide HX).2] at hg
  have := hvs g hg; omega
set_option maxHeartbeats 1000000 in
set_option maxRecDepth 100000 in
theorem ma_top (B : Nat) (A : List Nat) (fb : Nat) (mc : List Value) (pc : Int) (vl : Value) (loc : List LVal) (vs : Value) (stk : List LVal) (v : LVal) (w : World) (h : FrA w B A fb mc pc vl loc vs (stk ++ [v])) (h4 : stk.length < 4194304) :
  Calls Tryz.prog 214 #[.pointer (some ⟨fb, 0, none⟩)] w fun e w' => ValR (encV A v) w w' e := by
 have hbel := box_below w (.cells #[.int .i64 0, .int .i64 0, .pointer none] 170)
 have B0 := Blk.new w #[.int .i64 0, .int .i64 0, .pointer none] 170
 have hl : (stk ++ [v]).length = stk.length + 1 := by simp
 obtain ⟨g, cap, rfl, hcap, _, hrd⟩ := own_read h.st (by omega)
 have hgt : (stk ++ [v])[stk.length]? = some v := by simp
 have r0 : w.cell? ⟨g, stk.length * 3, none⟩ = some (.int .i64 v.kind) := by
  rw [hrd _ (by omega)]; exact encL_get A _ _ v hgt 0 (by omega)
 have r1 : w.cell? ⟨g, stk.length * 3 + 1, none⟩ = some (.int .i64 v.num) := by
  rw [hrd _ (by omega)]; exact encL_get A _ _ v hgt 1 (by omega)
 have r2 : w.cell? ⟨g, stk.length * 3 + 2, none⟩ = some (objP A v.obj) := by
  rw [hrd _ (by omega)]; exact encL_get A _ _ v hgt 2 (by omega)
 have c9 := h.c7.2.2
 have k := Keeps.of_below hbel
 have r0' := k _ _ r0
 have r1' := k _ _ r1
 have r2' := k _ _ r2
 have c9' := k _ _ c9
 have hone := encV_one A v
 unfold encV at *
 generalize objP A v.obj = ob at *
 rw [hl] at c9'
 have n1 : ((stk.length + 1 : Nat) : Int) - 1 = (stk.length : Int) := by omega
 have n0 : (0 : Int) ≤ (stk.length : Int) := by omega
 have hwr : IntKind.i64.wrap (stk.length : Int) = (stk.length : Int) := by rw [IntKind.wrap_i64]; omega
 have n3 : (stk.length : Int) < (stk.length : Int) + 1 := by omega
 have n2 : (stk.length : Int) < ((stk.length + 1 : Nat) : Int) := by omega
 have hgl : g < w.heap.size := World.block_lt_of_cell? w _ r0
 have hfl : fb < w.heap.size := h.blk.lt
 clear h hrd hgt r0 r1 r2 k c9
 go_enter Tryz.func214, Tryz.ntmps214
 go_wp2_with fail
 generalize w.alloc _ = W at *
 refine wp_region_noPanic ?_
 refine wp_region_held_drew (S := (fun w' => w'.cell? ⟨fb, 9, none⟩ = some (.slice (some ⟨g, 0, none⟩) (stk.length + 1) cap) ∧ w'.cell? ⟨g, stk.length * 3, none⟩ = some (.int .i64 v.kind) ∧ w'.cell? ⟨g, stk.length * 3 + 1, none⟩ = some (.int .i64 v.num) ∧ w'.cell? ⟨g, stk.length * 3 + 2, none⟩ = some ob)) (by kernel_rfl) ?_ (fun hHeld => ?_)
 ·exact ⟨c9', r0', r1', r2'⟩
 refine take_x (some 3) 0 rfl rfl ?_
 refine take_x (some 4) 1 rfl rfl ?_
 refine take_x (some 5) 2 rfl rfl ?_
 refine take_x (some 6) 3 rfl rfl ?_
 refine take_x (some 7) 4 rfl rfl ?_
 refine take_x (some 8) 5 rfl rfl ?_
 refine take_x (some 9) 6 rfl rfl ?_
 refine take_x (some 10) 7 rfl rfl ?_
 refine take_x (some 11) 8 rfl rfl ?_
 refine take_x (some 12) 9 rfl rfl ?_
 refine take_x (some 13) 10 rfl rfl ?_
 refine take_x (some 14) 11 rfl rfl ?_
 refine wpAnyH_ready (rs := [12]) (by kernel_rfl) (by simp) ?_
 refine AllReadyH.cons rfl (fun K hK => ?_) AllReadyH.nil
 refine wp_store_blk aggVal B0.drew 0 [.int .i64 v.kind, .int .i64 v.num, ob] rfl (by simp) hone (.tmp 2) (.tmp 14) rfl rfl rfl ?_
 intro w2 hB2 hM2 hs2
 rw [putAt_all (by rfl)] at hB2
 refine hK.out _ _ ⟨hM2.cell (w := W.drew) c9' ?_, hM2.cell (w := W.drew) r0' ?_, hM2.cell (w := W.drew) r1' ?_, hM2.cell (w := W.drew) r2' ?_⟩ (fun hHeld => ?_)
 ·dsimp only; omega
 ·dsimp only; omega
 ·dsimp only; omega
 ·dsimp only; omega
 clear hK K
 try simp only [Act.put]
 refine wpAnyH_done (by kernel_rfl) ?_ _
 refine NoPanic.normal ?_
 go_wp2_with fail
 refine bodyPost_ret (results_blk rfl aggVal hB2 rfl rfl) rfl ?_
 exact ⟨rfl, hbel.drew.trans (hM2.below hbel.size (fun k hk e => by omega))⟩
end Go.Proofs.YtiiokkllmchohaaGreat
/- The machine's frames: move, an instruction at a time. -/
namespace Go.Proofs.YtiiokkllmchohaaGreat
open Go.RowKit Go.Shelf
attribute [local go_sem ↓] Go.wp_at_zero Go.wp_at_succ
attribute [local go_sem] frz_drew

theorem ma_add (x y : Int) (w : World) : Calls Tryz.prog 231 #[.int .i64 3, .int .i64 x, .int .i64 y] w fun e w' => e = .returned (.int .i64 (wrap64 (x + y))) ∧ w' = w := by
 go_enter Tryz.func231, Tryz.ntmps231
 go_wp2_with fail
 go_ret
 exact ⟨rfl, rfl⟩
theorem ma_sub (x y : Int) (w : World) : Calls Tryz.prog 231 #[.int .i64 4, .int .i64 x, .int .i64 y] w fun e w' => e = .returned (.int .i64 (wrap64 (x - y))) ∧ w' = w := by
 go_enter Tryz.func231, Tryz.ntmps231
 go_wp2_with fail
 go_ret
 exact ⟨rfl, rfl⟩
theorem ma_mul (x y : Int) (w : World) : Calls Tryz.prog 231 #[.int .i64 5, .int .i64 x, .int .i64 y] w fun e w' => e = .returned (.int .i64 (wrap64 (x * y))) ∧ w' = w := by
 go_enter Tryz.func231, Tryz.ntmps231
 go_wp2_with fail
 go_ret
 exact ⟨rfl, rfl⟩
theorem ma_quo (x y : Int) (w : World) (hy : y ≠ 0) : Calls Tryz.prog 231 #[.int .i64 6, .int .i64 x, .int .i64 y] w fun e w' => e = .returned (.int .i64 (wrap64 (Int.tdiv x y))) ∧ w' = w := by
 go_enter Tryz.func231, Tryz.ntmps231
 go_wp2_with fail
 go_ret
 exact ⟨rfl, rfl⟩
def MoveR (B : Nat) (A : List Nat) (fb : Nat) (mc : List Value) (pc : Int) (vl : Value) (vs : Value) (loc stk : List LVal) (w w' : World) (e : Ending) : Prop :=
 ∃ vs', e = .returned (.tuple #[]) ∧ FrA w' B A fb mc pc vl loc vs' stk ∧ Mods (fun k => k = fb ∨ vs.ownBlock = some k ∨ vl.ownBlock = some k) w w' ∧ (vs'.ownBlock = vs.ownBlock ∨ ∃ k, w.heap.size ≤ k ∧ vs'.ownBlock = some k)
theorem PushR.move {B : Nat} {A : List Nat} {fb : Nat} {mc : List Value} {pc : Int} {vl : Value} {loc : List LVal} {vs vs0 : Value} {stk : List LVal} {v : LVal} {w0 w w' : World} {e : Ending} (h : PushR B A fb mc pc vl loc vs stk v w w' e) (hm : Mods (fun k => k = fb ∨ vs0.ownBlock = some k ∨ vl.ownBlock = some k) w0 w) (hv : vs.ownBlock = vs0.ownBlock ∨ ∃ k, w0.heap.size ≤ k ∧ vs.ownBlock = some k) : MoveR B A fb mc pc vl vs0 loc (stk ++ [v]) w0 w' e := by
 obtain ⟨vs', h1, h2, h3, h4⟩ := h
 refine ⟨vs', h1, h2, hm.trans h3 (fun k hk e => ?_), ?_⟩
 ·rcases e with e | e
  ·exact .inl e
  ·rcases hv with e' | ⟨j, hj, e'⟩
   ·exact .inr (.inl (e' ▸ e))
   ·rw [e'] at e; cases e; omega
 ·have := hm.size
  rcases h4 with e | ⟨k, hk, e⟩
  ·rcases hv with e' | ⟨j, hj, e'⟩
   ·exact .inl (e.trans e')
   ·exact .inr ⟨j, hj, e.trans e'⟩
  ·exact .inr ⟨k, by omega, e⟩
section
variable (B : Nat) (A : List Nat) (fb : Nat) (mc : List Value) (pc : Int) (vl : Value) (loc : List LVal) (vs : Value) (stk : List LVal) (a b : Int) (w : World)
set_option maxHeartbeats 1000000 in
set_option maxRecDepth 100000 in
theorem mv_num (h : FrA w B A fb mc pc vl loc vs stk) (hB : B ≤ w.heap.size) (hn : stk.length ≤ 4194304) : Calls Tryz.prog 215 #[.pointer (some ⟨fb, 0, none⟩), .agg #[.int .i64 0, .int .i64 a, .int .i64 b]] w fun e w' => MoveR B A fb mc pc vl vs loc (stk ++ [numbV a]) w w' e := by
 have hbel := box_below w (.cells #[.int .i64 0, .int .i64 a, .int .i64 b] 60)
 go_enter Tryz.func215, Tryz.ntmps215
 go_wp2_with fail
 generalize w.alloc _ = W at *
 refine (ma_number a _).mono ?_
 rintro e w1 ⟨rfl, hb⟩
 have hb1 := hbel.trans (hb.mono hbel.size)
 have H := hide (h.below hb1 (Nat.le_refl _))
 go_wp2_with fail
 refine (ma_push B A fb mc pc vl loc vs stk (numbV a) w1 (unhide H) (Nat.le_trans hB hb1.size) hn).mono ?_
 rintro e w2 hP
 have HF := hide (hP.move (bnone hb1) (.inl rfl))
 obtain ⟨vs', rfl, _⟩ := hP
 go_wp2_with fail
 go_end0
 exact unhide HF
set_option maxHeartbeats 1000000 in
set_option maxRecDepth 100000 in
theorem mv_null (h : FrA w B A fb mc pc vl loc vs stk) (hB : B ≤ w.heap.size) (hn : stk.length ≤ 4194304) : Calls Tryz.prog 215 #[.pointer (some ⟨fb, 0, none⟩), .agg #[.int .i64 16, .int .i64 a, .int .i64 b]] w fun e w' => MoveR B A fb mc pc vl vs loc (stk ++ [nullV]) w w' e := by
 have hbel := box_below w (.cells #[.int .i64 16, .int .i64 a, .int .i64 b] 60)
 go_enter Tryz.func215, Tryz.ntmps215
 go_wp2_with fail
 generalize w.alloc _ = W at *
 refine (ma_null _).mono ?_
 rintro e w1 ⟨rfl, hb⟩
 have hb1 := hbel.trans (hb.mono hbel.size)
 have H := hide (h.below hb1 (Nat.le_refl _))
 go_wp2_with fail
 refine (ma_push B A fb mc pc vl loc vs stk nullV w1 (unhide H) (Nat.le_trans hB hb1.size) hn).mono ?_
 rintro e w2 hP
 have HF := hide (hP.move (bnone hb1) (.inl rfl))
 obtain ⟨vs', rfl, _⟩ := hP
 go_wp2_with fail
 go_end0
 exact unhide HF
set_option maxHeartbeats 1000000 in
set_option maxRecDepth 100000 in
theorem mv_load (k : Nat) (x : LVal) (hx : loc[k]? = some x) (h : FrA w B A fb mc pc vl loc vs stk) (hB : B ≤ w.heap.size) (hn : stk.length ≤ 4194304) (hl : loc.length ≤ 4194304) : Calls Tryz.prog 215 #[.pointer (some ⟨fb, 0, none⟩), .agg #[.int .i64 1, .int .i64 (k : Int), .int .i64 b]] w fun e w' => MoveR B A fb mc pc vl vs loc (stk ++ [x]) w w' e := by
 have hbel := box_below w (.cells #[.int .i64 1, .int .i64 (k : Int), .int .i64 b] 60)
 have B0 := Blk.new w #[.int .i64 1, .int .i64 (k : Int), .int .i64 b] 60
 have hk : k < loc.length := (List.getElem?_eq_some_iff.1 hx).1
 obtain ⟨g, cap, rfl, hcap, _, hrd⟩ := own_read h.lo (by omega)
 have kk := Keeps.of_below hbel
 have r0 := kk _ _ (show w.cell? ⟨g, k * 3, none⟩ = some (.int .i64 x.kind) by rw [hrd _ (by omega)]; exact encL_get A _ _ x hx 0 (by omega))
 have r1 := kk _ _ (show w.cell? ⟨g, k * 3 + 1, none⟩ = some (.int .i64 x.num) by rw [hrd _ (by omega)]; exact encL_get A _ _ x hx 1 (by omega))
 have r2 := kk _ _ (show w.cell? ⟨g, k * 3 + 2, none⟩ = some (objP A x.obj) by rw [hrd _ (by omega)]; exact encL_get A _ _ x hx 2 (by omega))
 have c8 := kk _ _ h.c7.2.1
 have hfb := h.blk.lt
 have hvs : ∀ g, vs.ownBlock = some g → g < w.heap.size := fun g hg => (h.st.lt g hg).2
 have H := hide (h.below hbel (Nat.le_refl _))
 have k0 : (0 : Int) ≤ (k : Int) := by omega
 have k1 : (k : Int) < (loc.length : Int) := by omega
 have he : encV A x = [.int .i64 x.kind, .int .i64 x.num, objP A x.obj] := rfl
 generalize objP A x.obj = ob at *
 have HE := hide he
 clear h hrd kk he
 go_enter Tryz.func215, Tryz.ntmps215
 go_wp2_with fail
 generalize w.alloc _ = W at *
 have b1 : W.cell? ⟨w.heap.size, 1, none⟩ = some (.int .i64 (k : Int)) := B0.cell 1
 refine wp_region_held_drew (S := (fun w' => w'.cell? ⟨fb, 8, none⟩ = some (.slice (some ⟨g, 0, none⟩) loc.length cap) ∧ w'.cell? ⟨w.heap.size, 1, none⟩ = some (.int .i64 (k : Int)) ∧ w'.cell? ⟨g, k * 3, none⟩ = some (.int .i64 x.kind) ∧ w'.cell? ⟨g, k * 3 + 1, none⟩ = some (.int .i64 x.num) ∧ w'.cell? ⟨g, k * 3 + 2, none⟩ = some ob)) (by kernel_rfl) ?_ (fun hHeld => ?_)
 ·exact ⟨c8, b1, r0, r1, r2⟩
 refine take_x (some 25) 0 rfl rfl ?_
 refine take_x (some 26) 1 rfl rfl ?_
 refine take_x (some 27) 2 rfl rfl ?_
 refine take_x (some 28) 3 rfl rfl ?_
 refine take_x (some 29) 4 rfl rfl ?_
 refine take_x (some 30) 5 rfl rfl ?_
 refine take_x (some 31) 6 rfl rfl ?_
 refine take_x (some 32) 7 rfl rfl ?_
 refine take_x (some 33) 8 rfl rfl ?_
 refine wpAnyH_ready (rs := [9]) (by kernel_rfl) (by simp) ?_
 refine AllReadyH.cons rfl (fun K hK => ?_) AllReadyH.nil
 go_simp
 have hb1 : Below w.heap.size w W.drew := hbel.drew
 have hP0 := ma_push B A fb mc pc (.slice (some ⟨g, 0, none⟩) loc.length cap) loc vs stk x W.drew ((unhide H).below (Below.refl _ _).drew (Nat.le_refl _)) (Nat.le_trans hB hbel.size) hn
 rw [unhide HE] at hP0
 refine hP0.mono ?_
 rintro e w2 hP
 have HF := hide (hP.move (bnone hb1) (.inl rfl))
 obtain ⟨vs', rfl, hF2, hM2, _⟩ := hP
 have hgf : ¬ (g = fb ∨ vs.ownBlock = some g) := fun e => by
  rcases e with e | e
  ·exact own_ne (unhide H).lo (unhide H).blk tv_ne_fr (show _ = some fb from e ▸ rfl)
  ·exact (unhide H).ne g rfl e
 have hwf : ¬ (w.heap.size = fb ∨ vs.ownBlock = some w.heap.size) := fun e => by
  rcases e with e | e
  ·omega
  ·have := hvs _ e; omega
 go_wp2_with fail
 refine hK.out _ _ ⟨hF2.c7.2.1, hM2.cell (w := W.drew) b1 hwf, hM2.cell (w := W.drew) r0 hgf, hM2.cell (w := W.drew) r1 hgf, hM2.cell (w := W.drew) r2 hgf⟩ (fun hHeld => ?_)
 clear hK K
 try simp only [Act.put, List.setIfInBounds_toArray, List.set_cons_zero, List.set_cons_succ]
 refine wpAnyH_done (by kernel_rfl) ?_ _
 clear hF2 hM2
 go_wp2_with fail
 go_end0
 exact unhide HF
theorem PopR.mods {B : Nat} {A : List Nat} {fb : Nat} {mc : List Value} {pc : Int} {vl : Value} {loc : List LVal} {vs : Value} {stk : List LVal} {v : LVal} {w w' : World} {e : Ending} (h : PopR B A fb mc pc vl loc vs stk v w w' e) : ∃ vs', e = .returned (.agg (encV A v).toArray) ∧ FrA w' B A fb mc pc vl loc vs' stk ∧ vs'.ownBlock = vs.ownBlock ∧ Mods (fun k => k = fb ∨ vs.ownBlock = some k ∨ vl.ownBlock = some k) w w' := by
 obtain ⟨vs', h1, h2, h3, h4⟩ := h
 exact ⟨vs', h1, h2, h3, h4.mono (fun _ _ e => .inl e)⟩
set_option maxHeartbeats 1000000 in
set_option maxRecDepth 100000 in
theorem mv_pop (v : LVal) (h : FrA w B A fb mc pc vl loc vs (stk ++ [v])) (hn : stk.length < 4194304) : Calls Tryz.prog 215 #[.pointer (some ⟨fb, 0, none⟩), .agg #[.int .i64 14, .int .i64 a, .int .i64 b]] w fun e w' => MoveR B A fb mc pc vl vs loc stk w w' e := by
 have hbel := box_below w (.cells #[.int .i64 14, .int .i64 a, .int .i64 b] 60)
 have H := hide (h.below hbel (Nat.le_refl _))
 clear h
 go_enter Tryz.func215, Tryz.ntmps215
 go_wp2_with fail
 generalize w.alloc _ = W at *
 refine (ma_pop B A fb mc pc vl loc vs stk v W (unhide H) hn).mono ?_
 rintro e w2 hP
 obtain ⟨vs', rfl, hF, hob, hM⟩ := hP.mods
 have HF : Hid (MoveR B A fb mc pc vl vs loc stk w w2 (.returned (.tuple #[]))) := ⟨vs', rfl, hF, (bnone hbel).trans hM (fun _ _ e => e), .inl hob⟩
 clear hF hM hP
 go_wp2_with fail
 go_end0
 exact unhide HF
set_option maxHeartbeats 1000000 in
set_option maxRecDepth 100000 in
theorem mv_store (k : Nat) (v : LVal) (hk : k < loc.length) (h : FrA w B A fb mc pc vl loc vs (stk ++ [v])) (hn : stk.length < 4194304) (hl : loc.length ≤ 4194304) : Calls Tryz.prog 215 #[.pointer (some ⟨fb, 0, none⟩), .agg #[.int .i64 2, .int .i64 (k : Int), .int .i64 b]] w fun e w' => MoveR B A fb mc pc vl vs (loc.set k v) stk w w' e := by
 have hbel := box_below w (.cells #[.int .i64 2, .int .i64 (k : Int), .int .i64 b] 60)
 have B0 := Blk.new w #[.int .i64 2, .int .i64 (k : Int), .int .i64 b] 60
 obtain ⟨g, cap, rfl, hcap, _, _⟩ := own_read h.lo (by omega)
 have hgl : g < w.heap.size := (h.lo.lt g rfl).2
 have c8 := Keeps.of_below hbel _ _ h.c7.2.1
 have hfb := h.blk.lt
 have H := hide (h.below hbel (Nat.le_refl _))
 have k0 : (0 : Int) ≤ (k : Int) := by omega
 have k1 : (k : Int) < (loc.length : Int) := by omega
 have hone := encV_one A v
 clear h
 go_enter Tryz.func215, Tryz.ntmps215
 go_wp2_with fail
 generalize w.alloc _ = W at *
 have b1 : W.cell? ⟨w.heap.size, 1, none⟩ = some (.int .i64 (k : Int)) := B0.cell 1
 refine wp_region_held_drew (S := (fun w' => w'.cell? ⟨fb, 8, none⟩ = some (.slice (some ⟨g, 0, none⟩) loc.length cap) ∧ w'.cell? ⟨w.heap.size, 1, none⟩ = some (.int .i64 (k : Int)))) (by kernel_rfl) ?_ (fun hHeld => ?_)
 ·exact ⟨c8, b1⟩
 refine take_x (some 37) 0 rfl rfl ?_
 refine take_x (some 38) 1 rfl rfl ?_
 refine take_x (some 39) 2 rfl rfl ?_
 refine take_x (some 40) 3 rfl rfl ?_
 refine take_x (some 41) 4 rfl rfl ?_
 refine take_x (some 42) 5 rfl rfl ?_
 refine take_x (some 43) 6 rfl rfl ?_
 refine wpAnyH_ready (rs := [7]) (by kernel_rfl) (by simp) ?_
 refine AllReadyH.cons rfl (fun K hK => ?_) AllReadyH.nil
 go_simp
 refine (ma_pop B A fb mc pc _ loc vs stk v _ ((unhide H).below (Below.refl _ _).drew (Nat.le_refl _)) hn).mono ?_
 rintro e w2 hP
 obtain ⟨vs', rfl, hF, hob, hM⟩ := hP
 have b12 : w2.cell? ⟨w.heap.size, 1, none⟩ = some (.int .i64 (k : Int)) := hM.cell (w := W.drew) b1 (by dsimp only; omega)
 go_wp2_with fail
 refine hK.out _ _ ⟨hF.c7.2.1, b12⟩ (fun hHeld => ?_)
 clear hK K
 try simp only [Act.put, List.setIfInBounds_toArray, List.set_cons_zero, List.set_cons_succ]
 refine take_x (some 45) 8 rfl rfl ?_
 refine wpAnyH_ready (rs := [9]) (by kernel_rfl) (by simp) ?_
 refine AllReadyH.cons rfl (fun K hK => ?_) AllReadyH.nil
 obtain ⟨cur, hcb, hcl, hput⟩ := own_put v hF.lo rfl hk
 refine wp_store_blk aggVal hcb (k * 3) (encV A v) rfl hcl hone (.tmp 45) (.tmp 44) rfl rfl rfl ?_
 intro w3 hB3 hM3 hs3
 have hgf : ¬ fb = g := fun e => own_ne hF.lo hF.blk tv_ne_fr (show _ = some fb from e ▸ rfl)
 have HF : Hid (MoveR B A fb mc pc (.slice (some ⟨g, 0, none⟩) loc.length cap) vs (loc.set k v) stk w w3 (.returned (.tuple #[]))) := by
  refine ⟨vs', rfl, ⟨hF.blk.mods hM3 hgf, hF.l7, hF.base, ?_, own_mods hF.st hM3 (fun j hj e => hF.ne g rfl (e ▸ hj)), hF.ne⟩, ?_, .inl hob⟩
  ·rw [List.length_set]
   exact hput w3 hB3
  ·refine (bnone hbel).drew.trans ((hM.mono (fun _ _ e => .inl e)).trans hM3 (fun _ _ e => .inr (.inr (e ▸ rfl)))) (fun _ _ e => e)
 refine hK.out _ _ ⟨hM3.cell hF.c7.2.1 hgf, hM3.cell b12 (by dsimp only; omega)⟩ (fun hHeld => ?_)
 clear hK K
 try simp only [Act.put]
 refine wpAnyH_done (by kernel_rfl) ?_ _
 clear hF hM hM3 hput hB3 hcb
 go_wp2_with fail
 go_end0
 exact unhide HF
set_option maxHeartbeats 1000000 in
set_option maxRecDepth 100000 in
theorem mv_dup (v : LVal) (h : FrA w B A fb mc pc vl loc vs (stk ++ [v])) (hB : B ≤ w.heap.size) (hn : stk.length + 1 < 4194304) : Calls Tryz.prog 215 #[.pointer (some ⟨fb, 0, none⟩), .agg #[.int .i64 15, .int .i64 a, .int .i64 b]] w fun e w' => MoveR B A fb mc pc vl vs loc (stk ++ [v] ++ [v]) w w' e := by
 have hbel := box_below w (.cells #[.int .i64 15, .int .i64 a, .int .i64 b] 60)
 have H := hide (h.below hbel (Nat.le_refl _))
 have hone := encV_one A v
 have hvl : ∀ g, vl.ownBlock = some g → g < w.heap.size := fun g hg => (h.lo.lt g hg).2
 have hvs : ∀ g, vs.ownBlock = some g → g < w.heap.size := fun g hg => (h.st.lt g hg).2
 have hfb := h.blk.lt
 clear h
 go_enter Tryz.func215, Tryz.ntmps215
 go_wp2_with fail
 generalize w.alloc _ = W at *
 refine (ma_pop B A fb mc pc vl loc vs stk v W (unhide H) (by omega)).mono ?_
 rintro e w2 hP
 obtain ⟨vs', rfl, hF, hob, hM⟩ := hP.mods
 have hm2 := (bnone hbel).trans hM (fun _ _ e => e)
 have hz2 := hm2.size
 clear hP hM
 go_wp2_with (first
  | refine wpList_load_blk aggVal hB3 0 (encV A v) rfl (fun j u e => by simpa using e) (.tmp 4) rfl rfl rfl ?_
  | (refine wpList_store_blk aggVal (Blk.new w2 #[.int .i64 0, .int .i64 0, .pointer none] 170) 0 (encV A v) rfl (by simp) hone (.tmp 4) (.tmp 53) rfl rfl rfl rfl ?_; intro w3 hB3 hM3 hs3; rw [putAt_all (by rfl)] at hB3))
 have hb3 : Below w2.heap.size w2 w3 := (box_below w2 _).trans (hM3.below (by simp) (fun k hk e => by omega))
 have hF3 := hF.below hb3 (Nat.le_refl _)
 have hm3 := hm2.trans (bnone (S := fun _ => False) hb3) (fun _ _ f => f.elim)
 have hz3 := hm3.size
 clear hM3 hs3
 refine (ma_push B A fb mc pc vl loc vs' stk v w3 hF3 (by omega) (by omega)).mono ?_
 rintro e w4 hP
 obtain ⟨vs4, rfl, hF4, hm4, hv4⟩ := hP.move hm3 (.inl hob)
 have hz4 := hm4.size
 have hn4 : ¬ (w2.heap.size = fb ∨ vs'.ownBlock = some w2.heap.size) := fun e => by
  rcases e with e | e
  ·omega
  ·rw [hob] at e; have := hvs _ e; omega
 have hB4 := hB3.mods hP.choose_spec.2.2.1 hn4
 clear hP
 go_wp2_with (refine wpList_load_blk aggVal hB4 0 (encV A v) rfl (fun j u e => by simpa using e) (.tmp 4) rfl rfl rfl ?_)
 refine (ma_push B A fb mc pc vl loc vs4 (stk ++ [v]) v w4 hF4 (by omega) (by simp; omega)).mono ?_
 rintro e w5 hP
 have HF := hide (hP.move hm4 hv4)
 obtain ⟨_, rfl, _⟩ := hP
 go_wp2_with fail
 go_end0
 exact unhide HF
end
end Go.Proofs.YtiiokkllmchohaaGreat
/- The machine's frames: SWAP, sums. -/
namespace Go.Proofs.YtiiokkllmchohaaGreat
open Go.RowKit Go.Shelf
attribute [local go_sem ↓] Go.wp_at_zero Go.wp_at_succ
attribute [local go_sem] frz_drew

theorem fld_num (k n : Int) (o : Value) (w : World) : (Instr.field 170 (.agg #[.int .i64 k, .int .i64 n, o]) 1).run Tryz.prog w = .ok (.int .i64 n) w := by kernel_rfl
theorem fld_obj (k n : Int) (o : Value) (w : World) : (Instr.field 170 (.agg #[.int .i64 k, .int .i64 n, o]) 2).run Tryz.prog w = .ok o w := by kernel_rfl
attribute [local go_sem] fld_num fld_obj
section
variable (B : Nat) (A : List Nat) (fb : Nat) (mc : List Value) (pc : Int) (vl : Value) (loc : List LVal) (vs : Value) (stk : List LVal) (a b : Int) (w : World)
set_option maxHeartbeats 1000000 in
set_option maxRecDepth 100000 in
theorem mv_swap (x y : LVal) (h : FrA w B A fb mc pc vl loc vs (stk ++ [x] ++ [y])) (hB : B ≤ w.heap.size) (hn : stk.length + 2 < 4194304) : Calls Tryz.prog 215 #[.pointer (some ⟨fb, 0, none⟩), .agg #[.int .i64 20, .int .i64 a, .int .i64 b]] w fun e w' => MoveR B A fb mc pc vl vs loc (stk ++ [y] ++ [x]) w w' e := by
 have hbel := box_below w (.cells #[.int .i64 20, .int .i64 a, .int .i64 b] 60)
 have H := hide (h.below hbel (Nat.le_refl _))
 have hone := encV_one A x
 have hone' := encV_one A y
 have hvs : ∀ g, vs.ownBlock = some g → g < w.heap.size := fun g hg => (h.st.lt g hg).2
 have hfb := h.blk.lt
 clear h
 go_enter Tryz.func215, Tryz.ntmps215
 go_wp2_with fail
 generalize w.alloc _ = W at *
 refine (ma_pop B A fb mc pc vl loc vs (stk ++ [x]) y W (unhide H) (by simp; omega)).mono ?_
 rintro e w1 hP
 obtain ⟨vs1, rfl, hF1, hob1, hM1⟩ := hP.mods
 have hm1 := (bnone hbel).trans hM1 (fun _ _ e => e)
 clear hP hM1
 go_wp2_with fail
 refine (ma_pop B A fb mc pc vl loc vs1 stk x w1 hF1 (by omega)).mono ?_
 rintro e w2 hP
 obtain ⟨vs2, rfl, hF2, hob2, hM2⟩ := hP.mods
 have hm2 := hm1.trans hM2 (fun k _ e => by rw [hob1] at e; exact e)
 have hz2 := hm2.size
 have hob : vs2.ownBlock = vs.ownBlock := hob2.trans hob1
 clear hP hM2 hF1 hm1
 have D0 := (Blk.new w2 #[.int .i64 0, .int .i64 0, .pointer none] 170).alloc (.cells #[.int .i64 0, .int .i64 0, .pointer none] 170)
 have D1 := Blk.new (w2.alloc (.cells #[.int .i64 0, .int .i64 0, .pointer none] 170)) #[.int .i64 0, .int .i64 0, .pointer none] 170
 rw [World.size_alloc] at D1
 go_wp2_with (first
  | refine wpList_load_blk aggVal hBy 0 (encV A y) rfl (fun j u e => by simpa using e) (.tmp 5) rfl rfl rfl ?_
  | (refine wpList_store_blk aggVal D0 0 (encV A y) rfl (by simp) hone' (.tmp 5) (.tmp 63) rfl rfl rfl rfl ?_; intro w3 hB3 hM3 hs3; rw [putAt_all (by rfl)] at hB3; have D13 := D1.mods hM3 (by omega))
  | (refine wpList_store_blk aggVal D13 0 (encV A x) rfl (by simp) hone (.tmp 6) (.tmp 65) rfl rfl rfl rfl ?_; intro w4 hB4 hM4 hs4; rw [putAt_all (by rfl)] at hB4; have hBy := hB3.mods hM4 (by omega)))
 have hb3 : Below w2.heap.size w2 w4 := (box2_below w2 _ _).trans ((hM3.below (by simp; omega) (fun k hk e => by omega)).trans (hM4.below (by rw [hs3]; simp; omega) (fun k hk e => by omega)))
 have hF3 := hF2.below hb3 (Nat.le_refl _)
 have hm3 := hm2.trans (bnone (S := fun _ => False) hb3) (fun _ _ f => f.elim)
 have hz3 := hm3.size
 clear hM3 hs3 hM4 hs4 hF2
 refine (ma_push B A fb mc pc vl loc vs2 stk y w4 hF3 (by omega) (by omega)).mono ?_
 rintro e w5 hP
 obtain ⟨vs5, rfl, hF5, hm5, hv5⟩ := hP.move hm3 (.inl hob)
 have hz5 := hm5.size
 have hn4 : ¬ (w2.heap.size + 1 = fb ∨ vs2.ownBlock = some (w2.heap.size + 1)) := fun e => by
  rcases e with e | e
  ·omega
  ·rw [hob] at e; have := hvs _ e; omega
 have hBx := hB4.mods hP.choose_spec.2.2.1 hn4
 clear hP
 go_wp2_with (refine wpList_load_blk aggVal hBx 0 (encV A x) rfl (fun j u e => by simpa using e) (.tmp 6) rfl rfl rfl ?_)
 refine (ma_push B A fb mc pc vl loc vs5 (stk ++ [y]) x w5 hF5 (by omega) (by simp; omega)).mono ?_
 rintro e w6 hP
 have HF := hide (hP.move hm5 hv5)
 obtain ⟨_, rfl, _⟩ := hP
 go_wp2_with fail
 go_end0
 exact unhide HF
set_option maxHeartbeats 1000000 in
set_option maxRecDepth 100000 in
theorem mv_add (x y : LVal) (h : FrA w B A fb mc pc vl loc vs (stk ++ [x] ++ [y])) (hB : B ≤ w.heap.size) (hn : stk.length + 2 < 4194304) : Calls Tryz.prog 215 #[.pointer (some ⟨fb, 0, none⟩), .agg #[.int .i64 3, .int .i64 a, .int .i64 b]] w fun e w' => MoveR B A fb mc pc vl vs loc (stk ++ [numbV (wrap64 (x.num + y.num))]) w w' e := by
 have hbel := box_below w (.cells #[.int .i64 3, .int .i64 a, .int .i64 b] 60)
 have B0 := Blk.new w #[.int .i64 3, .int .i64 a, .int .i64 b] 60
 have H := hide (h.below hbel (Nat.le_refl _))
 have hfb := h.blk.lt
 clear h
 go_enter Tryz.func215, Tryz.ntmps215
 go_wp2_with fail
 generalize w.alloc _ = W at *
 refine (ma_pop B A fb mc pc vl loc vs (stk ++ [x]) y W (unhide H) (by simp; omega)).mono ?_
 rintro e w1 hP
 have B1 := B0.mods hP.choose_spec.2.2.2 (by omega)
 obtain ⟨vs1, rfl, hF1, hob1, hM1⟩ := hP.mods
 have hm1 := (bnone hbel).trans hM1 (fun _ _ e => e)
 clear hP hM1
 unfold encV
 go_wp2_with fail
 refine (ma_pop B A fb mc pc vl loc vs1 stk x w1 hF1 (by omega)).mono ?_
 rintro e w2 hP
 have B2 := B1.mods hP.choose_spec.2.2.2 (by omega)
 obtain ⟨vs2, rfl, hF2, hob2, hM2⟩ := hP.mods
 have hm2 := hm1.trans hM2 (fun k _ e => by rw [hob1] at e; exact e)
 have hz2 := hm2.size
 have hob : vs2.ownBlock = vs.ownBlock := hob2.trans hob1
 clear hP hM2 hF1 hm1
 have q0 : w2.cell? ⟨w.heap.size, 0, none⟩ = some (.int .i64 3) := B2.cell 0
 unfold encV
 go_wp2_with fail
 refine (ma_add _ _ _).mono ?_
 rintro e w' ⟨rfl, rfl⟩
 go_wp2_with fail
 refine (ma_number _ _).mono ?_
 rintro e w3 ⟨rfl, hb⟩
 have hF3 := hF2.below hb (Nat.le_refl _)
 have hm3 := hm2.trans (bnone (S := fun _ => False) hb) (fun _ _ f => f.elim)
 have hz3 := hm3.size
 go_wp2_with fail
 refine (ma_push B A fb mc pc vl loc vs2 stk (numbV _) w3 hF3 (by omega) (by omega)).mono ?_
 rintro e w4 hP
 have HF := hide (hP.move hm3 (.inl hob))
 obtain ⟨_, rfl, _⟩ := hP
 go_wp2_with fail
 go_end0
 exact unhide HF
set_option maxHeartbeats 1000000 in
set_option maxRecDepth 100000 in
theorem mv_sub (x y : LVal) (h : FrA w B A fb mc pc vl loc vs (stk ++ [x] ++ [y])) (hB : B ≤ w.heap.size) (hn : stk.length + 2 < 4194304) : Calls Tryz.prog 215 #[.pointer (some ⟨fb, 0, none⟩), .agg #[.int .i64 4, .int .i64 a, .int .i64 b]] w fun e w' => MoveR B A fb mc pc vl vs loc (stk ++ [numbV (wrap64 (x.num - y.num))]) w w' e := by
 have hbel := box_below w (.cells #[.int .i64 4, .int .i64 a, .int .i64 b] 60)
 have B0 := Blk.new w #[.int .i64 4, .int .i64 a, .int .i64 b] 60
 have H := hide (h.below hbel (Nat.le_refl _))
 have hfb := h.blk.lt
 clear h
 go_enter Tryz.func215, Tryz.ntmps215
 go_wp2_with fail
 generalize w.alloc _ = W at *
 refine (ma_pop B A fb mc pc vl loc vs (stk ++ [x]) y W (unhide H) (by simp; omega)).mono ?_
 rintro e w1 hP
 have B1 := B0.mods hP.choose_spec.2.2.2 (by omega)
 obtain ⟨vs1, rfl, hF1, hob1, hM1⟩ := hP.mods
 have hm1 := (bnone hbel).trans hM1 (fun _ _ e => e)
 clear hP hM1
 unfold encV
 go_wp2_with fail
 refine (ma_pop B A fb mc pc vl loc vs1 stk x w1 hF1 (by omega)).mono ?_
 rintro e w2 hP
 have B2 := B1.mods hP.choose_spec.2.2.2 (by omega)
 obtain ⟨vs2, rfl, hF2, hob2, hM2⟩ := hP.mods
 have hm2 := hm1.trans hM2 (fun k _ e => by rw [hob1] at e; exact e)
 have hz2 := hm2.size
 have hob : vs2.ownBlock = vs.ownBlock := hob2.trans hob1
 clear hP hM2 hF1 hm1
 have q0 : w2.cell? ⟨w.heap.size, 0, none⟩ = some (.int .i64 4) := B2.cell 0
 unfold encV
 go_wp2_with fail
 refine (ma_sub _ _ _).mono ?_
 rintro e w' ⟨rfl, rfl⟩
 go_wp2_with fail
 refine (ma_number _ _).mono ?_
 rintro e w3 ⟨rfl, hb⟩
 have hF3 := hF2.below hb (Nat.le_refl _)
 have hm3 := hm2.trans (bnone (S := fun _ => False) hb) (fun _ _ f => f.elim)
 have hz3 := hm3.size
 go_wp2_with fail
 refine (ma_push B A fb mc pc vl loc vs2 stk (numbV _) w3 hF3 (by omega) (by omega)).mono ?_
 rintro e w4 hP
 have HF := hide (hP.move hm3 (.inl hob))
 obtain ⟨_, rfl, _⟩ := hP
 go_wp2_with fail
 go_end0
 exact unhide HF
set_option maxHeartbeats 1000000 in
set_option maxRecDepth 100000 in
theorem mv_mul (x y : LVal) (h : FrA w B A fb mc pc vl loc vs (stk ++ [x] ++ [y])) (hB : B ≤ w.heap.size) (hn : stk.length + 2 < 4194304) : Calls Tryz.prog 215 #[.pointer (some ⟨fb, 0, none⟩), .agg #[.int .i64 5, .int .i64 a, .int .i64 b]] w fun e w' => MoveR B A fb mc pc vl vs loc (stk ++ [numbV (wrap64 (x.num * y.num))]) w w' e := by
 have hbel := box_below w (.cells #[.int .i64 5, .int .i64 a, .int .i64 b] 60)
 have B0 := Blk.new w #[.int .i64 5, .int .i64 a, .int .i64 b] 60
 have H := hide (h.below hbel (Nat.le_refl _))
 have hfb := h.blk.lt
 clear h
 go_enter Tryz.func215, Tryz.ntmps215
 go_wp2_with fail
 generalize w.alloc _ = W at *
 refine (ma_pop B A fb mc pc vl loc vs (stk ++ [x]) y W (unhide H) (by simp; omega)).mono ?_
 rintro e w1 hP
 have B1 := B0.mods hP.choose_spec.2.2.2 (by omega)
 obtain ⟨vs1, rfl, hF1, hob1, hM1⟩ := hP.mods
 have hm1 := (bnone hbel).trans hM1 (fun _ _ e => e)
 clear hP hM1
 unfold encV
 go_wp2_with fail
 refine (ma_pop B A fb mc pc vl loc vs1 stk x w1 hF1 (by omega)).mono ?_
 rintro e w2 hP
 have B2 := B1.mods hP.choose_spec.2.2.2 (by omega)
 obtain ⟨vs2, rfl, hF2, hob2, hM2⟩ := hP.mods
 have hm2 := hm1.trans hM2 (fun k _ e => by rw [hob1] at e; exact e)
 have hz2 := hm2.size
 have hob : vs2.ownBlock = vs.ownBlock := hob2.trans hob1
 clear hP hM2 hF1 hm1
 have q0 : w2.cell? ⟨w.heap.size, 0, none⟩ = some (.int .i64 5) := B2.cell 0
 unfold encV
 go_wp2_with fail
 refine (ma_mul _ _ _).mono ?_
 rintro e w' ⟨rfl, rfl⟩
 go_wp2_with fail
 refine (ma_number _ _).mono ?_
 rintro e w3 ⟨rfl, hb⟩
 have hF3 := hF2.below hb (Nat.le_refl _)
 have hm3 := hm2.trans (bnone (S := fun _ => False) hb) (fun _ _ f => f.elim)
 have hz3 := hm3.size
 go_wp2_with fail
 refine (ma_push B A fb mc pc vl loc vs2 stk (numbV _) w3 hF3 (by omega) (by omega)).mono ?_
 rintro e w4 hP
 have HF := hide (hP.move hm3 (.inl hob))
 obtain ⟨_, rfl, _⟩ := hP
 go_wp2_with fail
 go_end0
 exact unhide HF
set_option maxHeartbeats 1000000 in
set_option maxRecDepth 100000 in
theorem mv_quo (x y : LVal) (hy : y.num ≠ 0) (h : FrA w B A fb mc pc vl loc vs (stk ++ [x] ++ [y])) (hB : B ≤ w.heap.size) (hn : stk.length + 2 < 4194304) : Calls Tryz.prog 215 #[.pointer (some ⟨fb, 0, none⟩), .agg #[.int .i64 6, .int .i64 a, .int .i64 b]] w fun e w' => MoveR B A fb mc pc vl vs loc (stk ++ [numbV (wrap64 (Int.tdiv x.num y.num))]) w w' e := by
 have hbel := box_below w (.cells #[.int .i64 6, .int .i64 a, .int .i64 b] 60)
 have B0 := Blk.new w #[.int .i64 6, .int .i64 a, .int .i64 b] 60
 have H := hide (h.below hbel (Nat.le_refl _))
 have hfb := h.blk.lt
 clear h
 go_enter Tryz.func215, Tryz.ntmps215
 go_wp2_with fail
 generalize w.alloc _ = W at *
 refine (ma_pop B A fb mc pc vl loc vs (stk ++ [x]) y W (unhide H) (by simp; omega)).mono ?_
 rintro e w1 hP
 have B1 := B0.mods hP.choose_spec.2.2.2 (by omega)
 obtain ⟨vs1, rfl, hF1, hob1, hM1⟩ := hP.mods
 have hm1 := (bnone hbel).trans hM1 (fun _ _ e => e)
 clear hP hM1
 unfold encV
 go_wp2_with fail
 refine (ma_pop B A fb mc pc vl loc vs1 stk x w1 hF1 (by omega)).mono ?_
 rintro e w2 hP
 have B2 := B1.mods hP.choose_spec.2.2.2 (by omega)
 obtain ⟨vs2, rfl, hF2, hob2, hM2⟩ := hP.mods
 have hm2 := hm1.trans hM2 (fun k _ e => by rw [hob1] at e; exact e)
 have hz2 := hm2.size
 have hob : vs2.ownBlock = vs.ownBlock := hob2.trans hob1
 clear hP hM2 hF1 hm1
 have q0 : w2.cell? ⟨w.heap.size, 0, none⟩ = some (.int .i64 6) := B2.cell 0
 unfold encV
 go_wp2_with fail
 refine (ma_quo _ _ _ hy).mono ?_
 rintro e w' ⟨rfl, rfl⟩
 go_wp2_with fail
 refine (ma_number _ _).mono ?_
 rintro e w3 ⟨rfl, hb⟩
 have hF3 := hF2.below hb (Nat.le_refl _)
 have hm3 := hm2.trans (bnone (S := fun _ => False) hb) (fun _ _ f => f.elim)
 have hz3 := hm3.size
 go_wp2_with fail
 refine (ma_push B A fb mc pc vl loc vs2 stk (numbV _) w3 hF3 (by omega) (by omega)).mono ?_
 rintro e w4 hP
 have HF := hide (hP.move hm3 (.inl hob))
 obtain ⟨_, rfl, _⟩ := hP
 go_wp2_with fail
 go_end0
 exact unhide HF
end
end Go.Proofs.YtiiokkllmchohaaGreat
/- The machine in memory: all of a run. -/
namespace Go.Proofs.YtiiokkllmchohaaGreat
open Go.RowKit Go.Shelf

structure MFr where
 m : LMeth
 pc : Nat
 loc : List LVal
 stk : List LVal
structure LObj where
 cls : Int
 flds : List LVal
structure MaSt where
 frames : List MFr
 objs : List LObj
 told : LVal
 out : List Int
 steps : Nat
structure FrX where
 fb : Nat
 mc : List Value
 vl : Value
 vs : Value
def Rl (ρ : Nat → Nat × Nat) (r : Nat × Nat) (v : Value) : Prop := ∀ g, v.ownBlock = some g → ρ g = r
def machC (vp : Value) (fuel : Int) (ask : Bool) (vr : Value) (n : Nat) (A : List Nat) (told : LVal) (vpr : Value) (steps : Nat) : List Value :=
 [vp, .int .i64 fuel, .bool ask, vr, .int .i64 (n : Int), .int .i64 told.kind, .int .i64 told.num, objP A told.obj, vpr, .int .i64 (steps : Int)]
structure FrM (w0 w : World) (ρ : Nat → Nat × Nat) (A : List Nat) (i : Nat) (f : MFr) (x : FrX) : Prop where
 fr : FrA w w0.heap.size A x.fb x.mc (f.pc : Int) x.vl f.loc x.vs f.stk
 mt : ∃ va vco vf, x.mc = methCs f.m va vco vf ∧ GVals w0.cell? f.m va vco vf
 r0 : ρ x.fb = (0, i)
 r1 : Rl ρ (1, i) x.vl
 r2 : Rl ρ (2, i) x.vs
 okl : ∀ v ∈ f.loc, okV A v
 oks : ∀ v ∈ f.stk, okV A v
structure ObM (w0 w : World) (ρ : Nat → Nat × Nat) (A : List Nat) (k : Nat) (o : LObj) (b : Nat) (v : Value) : Prop where
 blk : Blk w b 234 [.int .i64 o.cls, v]
 base : w0.heap.size ≤ b
 row : w.ownsRow w0.heap.size 170 3 v o.flds.length (encL A o.flds)
 r3 : ρ b = (3, k)
 r4 : Rl ρ (4, k) v
 ok : ∀ u ∈ o.flds, okV A u
structure MaA (w0 w : World) (ρ : Nat → Nat × Nat) (mb : Nat) (vp : Value) (fuel : Int) (ask : Bool) (st : MaSt) (A : List Nat) (X : List FrX) (Y : List Value) (vr vpr : Value) : Prop where
 mach : Blk w mb 172 (machC vp fuel ask vr st.objs.length A st.told vpr st.steps)
 base : w0.heap.size ≤ mb
 rmb : ρ mb = (5, 0)
 run : w.ownsRow w0.heap.size 231 1 vr X.length (X.map fun x => .pointer (some ⟨x.fb, 0, none⟩))
 rvr : Rl ρ (6, 0) vr
 prn : w.ownsRow w0.heap.size 3 1 vpr st.out.length (st.out.map (Value.int .i64))
 rpr : Rl ρ (7, 0) vpr
 lx : X.length = st.frames.length
 fr : ∀ (i : Nat) (f : MFr) (x : FrX), st.frames[i]? = some f → X[i]? = some x → FrM w0 w ρ A i f x
 la : A.length = st.objs.length
 ly : Y.length = st.objs.length
 ob : ∀ (k : Nat) (o : LObj) (b : Nat) (v : Value), st.objs[k]? = some o → A[k]? = some b → Y[k]? = some v → ObM w0 w ρ A k o b v
 okt : okV A st.told
 bel : Below w0.heap.size w0 w
 low : ∀ k, k < w0.heap.size → ρ k = (9, 0)

theorem FrA.size {w : World} {B : Nat} {A : List Nat} {fb : Nat} {mc : List Value} {pc : Int} {vl : Value} {loc : List LVal} {vs : Value} {stk : List LVal} (h : FrA w B A fb mc pc vl loc vs stk) : fb < w.heap.size := h.blk.lt
def Same (n : Nat) (ρ ρ' : Nat → Nat × Nat) : Prop := ∀ k, k < n → ρ' k = ρ k
theorem Rl.same {ρ ρ' : Nat → Nat × Nat} {r : Nat × Nat} {v : Value} {n : Nat} (h : Rl ρ r v) (s : Same n ρ ρ') (hl : ∀ g, v.ownBlock = some g → g < n) : Rl ρ' r v := fun g hg => (s g (hl g hg)).trans (h g hg)
section
variable {w0 w w' : World} {ρ ρ' : Nat → Nat × Nat} {A : List Nat} {S : Nat → Prop}
theorem FrM.mods {i : Nat} {f : MFr} {x : FrX} (h : FrM w0 w ρ A i f x) (m : Mods S w w') (s : Same w.heap.size ρ ρ') (hS : ∀ k, k < w.heap.size → S k → ρ k ≠ (0, i) ∧ ρ k ≠ (1, i) ∧ ρ k ≠ (2, i)) : FrM w0 w' ρ' A i f x := by
 refine ⟨h.fr.mods m (fun e => (hS _ h.fr.size e).1 h.r0) (fun g hg e => (hS g (h.fr.lo.lt g hg).2 e).2.1 (h.r1 g hg)) (fun g hg e => (hS g (h.fr.st.lt g hg).2 e).2.2 (h.r2 g hg)), h.mt, (s _ h.fr.size).trans h.r0, h.r1.same s (fun g hg => (h.fr.lo.lt g hg).2), h.r2.same s (fun g hg => (h.fr.st.lt g hg).2), h.okl, h.oks⟩
theorem ObM.mods {k : Nat} {o : LObj} {b : Nat} {v : Value} (h : ObM w0 w ρ A k o b v) (m : Mods S w w') (s : Same w.heap.size ρ ρ') (hS : ∀ j, j < w.heap.size → S j → ρ j ≠ (3, k) ∧ ρ j ≠ (4, k)) : ObM w0 w' ρ' A k o b v :=
 ⟨h.blk.mods m (fun e => (hS _ h.blk.lt e).1 h.r3), h.base, own_mods h.row m (fun g hg e => (hS g (h.row.lt g hg).2 e).2 (h.r4 g hg)), (s _ h.blk.lt).trans h.r3, h.r4.same s (fun g hg => (h.row.lt g hg).2), h.ok⟩
theorem okV_more {v : LVal} (C : List Nat) (h : okV A v) : okV (A ++ C) v := fun k hk => by
 have := h k hk
 rw [List.length_append]
 omega
theorem FrM.more {i : Nat} {f : MFr} {x : FrX} (C : List Nat) (h : FrM w0 w ρ A i f x) : FrM w0 w ρ (A ++ C) i f x := by
 refine ⟨⟨h.fr.blk, h.fr.l7, h.fr.base, ?_, ?_, h.fr.ne⟩, h.mt, h.r0, h.r1, h.r2, fun v hv => okV_more C (h.okl v hv), fun v hv => okV_more C (h.oks v hv)⟩
 ·rw [encL_more A C h.okl]; exact h.fr.lo
 ·rw [encL_more A C h.oks]; exact h.fr.st
theorem ObM.more {k : Nat} {o : LObj} {b : Nat} {v : Value} (C : List Nat) (h : ObM w0 w ρ A k o b v) : ObM w0 w ρ (A ++ C) k o b v := by
 refine ⟨h.blk, h.base, ?_, h.r3, h.r4, fun u hu => okV_more C (h.ok u hu)⟩
 rw [encL_more A C h.ok]; exact h.row
end
def InFr (ρ : Nat → Nat × Nat) (i k : Nat) : Prop := ρ k = (0, i) ∨ ρ k = (1, i) ∨ ρ k = (2, i)
section
variable {w0 w w' : World} {ρ : Nat → Nat × Nat} {mb : Nat} {vp : Value} {fuel : Int} {ask : Bool} {st : MaSt} {A : List Nat} {X : List FrX} {Y : List Value} {vr vpr : Value}
theorem MaA.upd (h : MaA w0 w ρ mb vp fuel ask st A X Y vr vpr) {i : Nat} {f : MFr} {x : FrX} (hf : st.frames[i]? = some f) (hx : X[i]? = some x) {S : Nat → Prop} (hM : Mods S w w') (hS : ∀ k, k < w.heap.size → S k → InFr ρ i k) {pc : Nat} {loc stk : List LVal} {vs' : Value}
  (hF : FrA w' w0.heap.size A x.fb x.mc (pc : Int) x.vl loc vs' stk) (hv : vs'.ownBlock = x.vs.ownBlock ∨ ∃ k, w.heap.size ≤ k ∧ vs'.ownBlock = some k) (okl : ∀ v ∈ loc, okV A v) (oks : ∀ v ∈ stk, okV A v) :
  ∃ ρ', MaA w0 w' ρ' mb vp fuel ask { st with frames := st.frames.set i { f with pc := pc, loc := loc, stk := stk } } A (X.set i { x with vs := vs' }) Y vr vpr := by
 have F := h.fr i f x hf hx
 refine ⟨fun k => if w.heap.size ≤ k then (2, i) else ρ k, ?_⟩
 have s : Same w.heap.size ρ (fun k => if w.heap.size ≤ k then (2, i) else ρ k) := fun k hk => by show (if _ then _ else _) = _; rw [if_neg (by omega)]
 have hq : ∀ k, k < w.heap.size → S k → ∀ r, r ≠ (0, i) → r ≠ (1, i) → r ≠ (2, i) → ρ k ≠ r := fun k hk hs r h0 h1 h2 e => by
  rcases hS k hk hs with e' | e' | e'
  ·exact h0 (e.symm.trans e')
  ·exact h1 (e.symm.trans e')
  ·exact h2 (e.symm.trans e')
 have hil : i < st.frames.length := (List.getElem?_eq_some_iff.1 hf).1
 refine ⟨h.mach.mods hM (fun e => hq _ h.mach.lt e (5, 0) (by simp) (by simp) (by simp) h.rmb), h.base, (s _ h.mach.lt).trans h.rmb, ?_, h.rvr.same s (fun g hg => (h.run.lt g hg).2), own_mods h.prn hM (fun g hg e => hq g (h.prn.lt g hg).2 e (7, 0) (by simp) (by simp) (by simp) (h.rpr g hg)), h.rpr.same s (fun g hg => (h.prn.lt g hg).2), by simpa using h.lx, ?_, h.la, h.ly, ?_, h.okt, ?_, fun k hk => (s k (Nat.lt_of_lt_of_le hk h.bel.size)).trans (h.low k hk)⟩
 ·have hmap : ((X.set i { x with vs := vs' }).map fun x => Value.pointer (some ⟨x.fb, 0, none⟩)) = X.map fun x => Value.pointer (some ⟨x.fb, 0, none⟩) := by
   rw [List.map_set]
   apply List.ext_getElem?
   intro j
   by_cases hj : i = j
   ·subst hj
    have hxl : i < X.length := (List.getElem?_eq_some_iff.1 hx).1
    rw [List.getElem?_set_self (by simpa using hxl), List.getElem?_map, hx]; rfl
   ·rw [List.getElem?_set_ne hj]
  rw [hmap, List.length_set]
  exact own_mods h.run hM (fun g hg e => hq g (h.run.lt g hg).2 e (6, 0) (by simp) (by simp) (by simp) (h.rvr g hg))
 ·intro j f' x' hf' hx'
  by_cases hj : i = j
  ·subst hj
   rw [List.getElem?_set_self hil] at hf'
   rw [List.getElem?_set_self (by rw [h.lx]; exact hil)] at hx'
   obtain rfl := Option.some.inj hf'
   obtain rfl := Option.some.inj hx'
   refine ⟨hF, F.mt, (s _ F.fr.size).trans F.r0, F.r1.same s (fun g hg => (F.fr.lo.lt g hg).2), fun g hg => ?_, okl, oks⟩
   rcases hv with e | ⟨k, hk, e⟩
   ·have hg' : x.vs.ownBlock = some g := e ▸ hg
    exact (s g (F.fr.st.lt g hg').2).trans (F.r2 g hg')
   ·rw [show vs'.ownBlock = some g from hg] at e
    obtain rfl := Option.some.inj e
    show (if _ then _ else _) = _
    rw [if_pos hk]
  ·rw [List.getElem?_set_ne hj] at hf' hx'
   exact (h.fr j f' x' hf' hx').mods hM s (fun k hk hs => ⟨hq k hk hs _ (by simp; omega) (by simp) (by simp), hq k hk hs _ (by simp) (by simp; omega) (by simp), hq k hk hs _ (by simp) (by simp) (by simp; omega)⟩)
 ·intro k o b v h1 h2 h3
  exact (h.ob k o b v h1 h2 h3).mods hM s (fun j hj hs => ⟨hq j hj hs _ (by simp) (by simp) (by simp), hq j hj hs _ (by simp) (by simp) (by simp)⟩)
 ·refine h.bel.trans (hM.below h.bel.size (fun k hk hs => ?_))
  have hkw : k < w.heap.size := Nat.lt_of_lt_of_le hk h.bel.size
  exact hq k hkw hs (9, 0) (by simp) (by simp) (by simp) (h.low k hk)
theorem FrM.within {i : Nat} {f : MFr} {x : FrX} (h : FrM w0 w ρ A i f x) : ∀ k, k < w.heap.size → (k = x.fb ∨ x.vs.ownBlock = some k ∨ x.vl.ownBlock = some k) → InFr ρ i k := fun k _ e => by
 rcases e with rfl | e | e
 ·exact .inl h.r0
 ·exact .inr (.inr (h.r2 k e))
 ·exact .inr (.inl (h.r1 k e))
theorem MaA.move (h : MaA w0 w ρ mb vp fuel ask st A X Y vr vpr) {i : Nat} {f : MFr} {x : FrX} (hf : st.frames[i]? = some f) (hx : X[i]? = some x) {loc stk : List LVal} {e : Ending} (hR : MoveR w0.heap.size A x.fb x.mc (f.pc : Int) x.vl x.vs loc stk w w' e) (okl : ∀ v ∈ loc, okV A v) (oks : ∀ v ∈ stk, okV A v) :
  e = .returned (.tuple #[]) ∧ ∃ ρ' vs', MaA w0 w' ρ' mb vp fuel ask { st with frames := st.frames.set i { f with loc := loc, stk := stk } } A (X.set i { x with vs := vs' }) Y vr vpr := by
 obtain ⟨vs', he, hF, hM, hv⟩ := hR
 obtain ⟨ρ', hA⟩ := h.upd hf hx hM (h.fr i f x hf hx).within hF hv okl oks
 exact ⟨he, ρ', vs', hA⟩
end
end Go.Proofs.YtiiokkllmchohaaGreat
/- The machine: find. -/
namespace Go.Proofs.YtiiokkllmchohaaGreat
open Go.RowKit Go.Shelf
attribute [local go_sem ↓] Go.wp_at_zero Go.wp_at_succ
attribute [local go_sem] frz_drew

def FindR (p : List LClass) (c slot : Int) (w0 w w' : World) (e : Ending) : Prop := ∃ va vco vf, e = .returned (methV (findM p c slot) va vco vf) ∧ GVals w0.cell? (findM p c slot) va vco vf ∧ Below w.heap.size w w'
set_option maxHeartbeats 1000000 in
set_option maxRecDepth 100000 in
theorem ma_find (p : List LClass) (vp : Value) (c slot : Int) (w0 w : World) (mb : Nat) (hp : RProg w0 vp p) (hb0 : Below w0.heap.size w0 w) (hc : w.cell? ⟨mb, 0, none⟩ = some vp) (hs : SupOk p p.length) (hz : szProg p ≤ 4194304) (c0 : 0 ≤ c) (c1 : c < (p.length : Int)) (hm : (methOf p c slot).isSome = true) :
  Calls Tryz.prog 115 #[.pointer (some ⟨mb, 0, none⟩), .int .i64 c, .int .i64 slot] w fun e w' => FindR p c slot w0 w w' e := by
 obtain ⟨ck, hck⟩ := Option.isSome_iff_exists.1 hm
 have hbel := box_below w (.cells #[.int .i64 0, .slice none 0 0, .int .i64 0, .int .i64 0, .int .i64 0, .slice none 0 0, .slice none 0 0] 63)
 have B0 := Blk.new w #[.int .i64 0, .slice none 0 0, .int .i64 0, .int .i64 0, .int .i64 0, .slice none 0 0, .slice none 0 0] 63
 have hc' := Keeps.of_below hbel _ _ hc
 have hbw := hb0.trans (hbel.mono hb0.size)
 have HP := hide hp
 have HCK := hide hck
 obtain ⟨pa, _, _, pcap, rfl, _⟩ := hp
 clear hck
 go_enter Tryz.func115, Tryz.ntmps115
 go_wp2_with fail
 generalize w.alloc _ = W at *
 refine (code_findmethod0 p _ p.length c slot w0 W (unhide HP) hbw hs (Nat.le_refl _) (by omega) c1 hz).mono ?_
 rintro e w1 ⟨o, aa, ca, fa, ac, cc, fc, rfl, hfm, hb1⟩
 obtain ⟨hma, hmv⟩ := hfm ck (unhide HCK)
 obtain rfl := findM_of (unhide HCK) hma
 have HMV := hide hmv
 have B1 := B0.below hb1 B0.lt
 generalize hoe : findM p c slot = o at *
 have HOE := hide hoe
 clear hoe
 have hone : ∀ v ∈ [Value.int .i64 o.slot, .slice aa o.args.length ac, .int .i64 o.ret, .int .i64 o.locals, .int .i64 o.stack, .slice ca o.code.length cc, .slice fa o.frames.length fc], v.oneCell' = true := fun v hv => by
  simp only [List.mem_cons, List.not_mem_nil, or_false] at hv
  rcases hv with rfl | rfl | rfl | rfl | rfl | rfl | rfl <;> rfl
 have lB := B1.lt
 clear hfm hma hmv hm
 go_wp2_with (first
  | refine wpList_load_blk aggMeth hB3 0 _ rfl (fun j u e => by simpa using e) (.tmp 7) rfl rfl rfl ?_
  | (refine wpList_store_blk aggMeth (Blk.new w1 #[.int .i64 0, .slice none 0 0, .int .i64 0, .int .i64 0, .int .i64 0, .slice none 0 0, .slice none 0 0] 63) 0 _ rfl (by simp) hone (.tmp 7) (.tmp 17) rfl rfl rfl rfl ?_; intro w3 hB3 hM3 hs3; rw [putAt_all (by rfl)] at hB3; have B3 := (B1.alloc (.cells #[.int .i64 0, .slice none 0 0, .int .i64 0, .int .i64 0, .int .i64 0, .slice none 0 0, .slice none 0 0] 63)).mods hM3 (by omega))
  | (refine wpList_store_blk aggMeth B3 0 _ rfl (by simp) hone (.tmp 6) (.tmp 19) rfl rfl rfl rfl ?_; intro w4 hB4 hM4 hs4; rw [putAt_all (by rfl)] at hB4))
 refine bodyPost_ret (results_blk rfl aggMeth hB4 rfl rfl) rfl ?_
 unfold FindR
 rw [unhide HOE]
 refine ⟨_, _, _, rfl, unhide HMV, ?_⟩
 have hb3 := (box_below w1 _).trans (hM3.below (by simp) (fun k hk e => by omega))
 have h1 := hbel.trans (hb1.mono hbel.size)
 have h2 := h1.trans (hb3.mono h1.size)
 exact h2.trans (hM4.below h2.size (fun k hk e => by omega))
end Go.Proofs.YtiiokkllmchohaaGreat
