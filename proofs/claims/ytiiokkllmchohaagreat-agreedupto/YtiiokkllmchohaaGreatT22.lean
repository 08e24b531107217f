/- The machine: newFrame. -/
import Derived.Test.YtiiokkllmchohaaGreatT21
/- MacJ -/
namespace Go.Proofs.YtiiokkllmchohaaGreat
open Go.RowKit Go.Shelf
attribute [local go_sem ↓] Go.wp_at_zero Go.wp_at_succ
attribute [local go_sem] frz_drew

theorem FrA.setLoc {w W V : World} {B : Nat} {A : List Nat} {fb : Nat} {mc : List Value} {pc : Int} {vl vl' : Value} {loc : List LVal} {vs : Value} {stk : List LVal} {l2 : List LVal} (h : FrA w B A fb mc pc vl loc vs stk) (hM : Mods (fun k => vl.ownBlock = some k) w W) (hO : W.ownsRow B 170 3 vl' (loc ++ l2).length (encL A (loc ++ l2))) (hv : vl'.ownBlock = vl.ownBlock ∨ ∃ k, w.heap.size ≤ k ∧ vl'.ownBlock = some k) (hV : V = W.setCell ⟨fb, 8, none⟩ vl') :
  FrA V B A fb mc pc vl' (loc ++ l2) vs stk ∧ Mods (fun k => k = fb ∨ vl.ownBlock = some k) w V ∧ W.cell? ⟨fb, 8, none⟩ = some vl ∧ W.frozen? ⟨fb, 8, none⟩ = false := by
 subst hV
 have l7 := h.l7
 have hfr : ¬ vl.ownBlock = some fb := own_ne h.lo h.blk tv_ne_fr
 have hblk := h.blk.mods hM hfr
 have hM4 : Mods (fun k => k = fb) W (W.setCell ⟨fb, 8, none⟩ vl') := (Mods.refl (fun k => k = fb) W).setCell (p := ⟨fb, 8, none⟩) (fun _ => rfl) _
 have hblk4 := hblk.setCell 8 vl'
 have hB8 : (mc ++ [.int .i64 pc, vl, vs]).set 8 vl' = mc ++ [.int .i64 pc, vl', vs] := by
  rw [List.set_append_right _ _ (by omega), l7]; rfl
 rw [hB8] at hblk4
 have hmm : Mods (fun k => k = fb ∨ vl.ownBlock = some k) w (W.setCell ⟨fb, 8, none⟩ vl') := (hM.mono (fun _ _ e => .inr e)).trans hM4 (fun _ _ e => .inl e)
 refine ⟨⟨hblk4, l7, h.base, own_mods hO hM4 (fun g hg e => own_ne hO hblk tv_ne_fr (e ▸ hg)), own_mods h.st hmm (fun g hg e => ?_), fun g hg e => ?_⟩, hmm, ?_, hblk.frozen 8⟩
 ·rcases e with e | e
  ·exact own_ne h.st h.blk tv_ne_fr (e ▸ hg)
  ·exact h.ne g e hg
 ·rcases hv with e' | ⟨k, hk, e'⟩
  ·exact h.ne g (e' ▸ hg) e
  ·rw [e'] at hg
   cases hg
   have := (h.st.lt _ e).2
   omega
 ·rw [hblk.cell, List.getElem?_append_right (by omega), l7]; rfl
structure NFr (w V : World) (A : List Nat) (fb : Nat) (mc : List Value) (loc : List LVal) (vl : Value) : Prop where
 fr : FrA V w.heap.size A fb mc 0 vl loc (.slice none 0 0) []
 b3 : Blk V w.heap.size 63 mc
 bel : Below w.heap.size w V
 new : w.heap.size < fb
theorem NFr.add {w V W U : World} {A : List Nat} {fb : Nat} {mc : List Value} {loc : List LVal} {vl vl' : Value} {l2 : List LVal} (h : NFr w V A fb mc loc vl) (hM : Mods (fun k => vl.ownBlock = some k) V W) (hO : W.ownsRow w.heap.size 170 3 vl' (loc ++ l2).length (encL A (loc ++ l2))) (hv : vl'.ownBlock = vl.ownBlock ∨ ∃ k, V.heap.size ≤ k ∧ vl'.ownBlock = some k) (hU : U = W.setCell ⟨fb, 8, none⟩ vl') :
  NFr w U A fb mc (loc ++ l2) vl' ∧ W.cell? ⟨fb, 8, none⟩ = some vl ∧ W.frozen? ⟨fb, 8, none⟩ = false := by
 obtain ⟨h1, h2, h3, h4⟩ := h.fr.setLoc hM hO hv hU
 have hvl := h.fr.lo.lt
 refine ⟨⟨h1, h.b3.mods h2 (fun e => ?_), h.bel.trans (h2.below h.bel.size (fun k hk e => ?_)), h.new⟩, h3, h4⟩
 ·rcases e with e | e
  ·have := h.new; omega
  ·exact own_ne h.fr.lo h.b3 (by decide) e
 ·rcases e with e | e
  ·have := h.new; omega
  ·have := (hvl k e).1; omega
theorem NFr.keep {w V W : World} {A : List Nat} {fb : Nat} {mc : List Value} {loc : List LVal} {vl : Value} (h : NFr w V A fb mc loc vl) (hb : Below V.heap.size V W) : NFr w W A fb mc loc vl :=
 ⟨h.fr.below hb (Nat.le_refl _), h.b3.below hb h.b3.lt, h.bel.trans (hb.mono h.bel.size), h.new⟩
def slLen : Option Value → Nat
 | some (.slice _ n _) => n
 | _ => 0
def NewR (A : List Nat) (mc : List Value) (loc : List LVal) (w w' : World) (e : Ending) : Prop :=
 ∃ fb vl, e = .returned (.pointer (some ⟨fb, 0, none⟩)) ∧ NFr w w' A fb mc loc vl
set_option maxHeartbeats 1000000 in
set_option maxRecDepth 100000 in
theorem ma_newFrame (A : List Nat) (m : LMeth) (va vco vf : Value) (this : LVal) (args : List LVal) (ta : Option Addr) (tcap : Nat) (w w0 : World) (hv : GVals w0.cell? m va vco vf) (hnil : ta = none → args.length = 0 ∧ tcap = 0) (hrd : ∀ ad, ta = some ad → ∀ j u, (encL A args)[j]? = some u → w.cell? (ad.add j) = some u) (hl : 1 + (args.length : Int) ≤ m.locals) (hl8 : m.locals ≤ 8) :
  Calls Tryz.prog 165 #[methV m va vco vf, .agg (encV A this).toArray, .slice ta args.length tcap] w fun e w' => NewR A (methCs m va vco vf) (this :: args ++ List.replicate (m.locals.toNat - (1 + args.length)) nothV) w w' e := by
 obtain ⟨i0, hi0, hz0, hz1, hz2⟩ := info_parts infoVal
 unfold methV
 obtain ⟨hva, hvc, hvf⟩ := hv
 obtain ⟨aa, _, _, acap, rfl, _⟩ := hva
 obtain ⟨fa, _, _, fcap, rfl, _⟩ := hvf
 obtain ⟨ca, _, _, ccap, rfl, _⟩ := hvc
 have hone := encV_one A this
 have he1 : encV A this = [.int .i64 this.kind, .int .i64 this.num, objP A this.obj] := rfl
 rw [he1] at hone ⊢
 generalize hob : objP A this.obj = ob at *
 go_enter Tryz.func165, Tryz.ntmps165
 go_wp2_with fail
 generalize hW : ((w.alloc _).alloc _).alloc _ = W
 have hbel : Below w.heap.size w W := by rw [← hW]; exact ((box_below w _).alloc (by simp) _).alloc (by simp; omega) _
 have B3 : Blk W w.heap.size 63 [.int .i64 m.slot, .slice aa m.args.length acap, .int .i64 m.ret, .int .i64 m.locals, .int .i64 m.stack, .slice ca m.code.length ccap, .slice fa m.frames.length fcap] := by rw [← hW]; exact ((Blk.new w _ _).alloc _).alloc _
 have B4 : Blk W (w.heap.size + 1) 170 [.int .i64 this.kind, .int .i64 this.num, ob] := by
  rw [← hW]
  have := (Blk.new (w.alloc (.cells #[.int .i64 m.slot, .slice aa m.args.length acap, .int .i64 m.ret, .int .i64 m.locals, .int .i64 m.stack, .slice ca m.code.length ccap, .slice fa m.frames.length fcap] 63)) #[.int .i64 this.kind, .int .i64 this.num, ob] 170)
  rw [World.size_alloc] at this
  exact this.alloc _
 have B5 : Blk W (w.heap.size + 1 + 1) 239 [.int .i64 m.slot, .slice aa m.args.length acap, .int .i64 m.ret, .int .i64 m.locals, .int .i64 m.stack, .slice ca m.code.length ccap, .slice fa m.frames.length fcap, .int .i64 0, .slice none 0 0, .slice none 0 0] := by
  rw [← hW]
  have := Blk.new ((w.alloc (.cells #[.int .i64 m.slot, .slice aa m.args.length acap, .int .i64 m.ret, .int .i64 m.locals, .int .i64 m.stack, .slice ca m.code.length ccap, .slice fa m.frames.length fcap] 63)).alloc (.cells #[.int .i64 this.kind, .int .i64 this.num, ob] 170)) #[.int .i64 m.slot, .slice aa m.args.length acap, .int .i64 m.ret, .int .i64 m.locals, .int .i64 m.stack, .slice ca m.code.length ccap, .slice fa m.frames.length fcap, .int .i64 0, .slice none 0 0, .slice none 0 0] 239
  rw [World.size_alloc, World.size_alloc] at this
  exact this
 clear hW
 obtain ⟨fb, hfb⟩ : ∃ b, b = w.heap.size + 1 + 1 := ⟨_, rfl⟩
 obtain ⟨b4, hb4⟩ : ∃ b, b = w.heap.size + 1 := ⟨_, rfl⟩
 rw [← hb4] at hfb B5 B4 ⊢
 rw [← hfb] at B5 ⊢
 have N0 : NFr w W A fb (methCs m (.slice aa m.args.length acap) (.slice ca m.code.length ccap) (.slice fa m.frames.length fcap)) [] (.slice none 0 0) :=
  ⟨⟨B5, rfl, by omega, World.ownsRow_nil _ _ _ _, World.ownsRow_nil _ _ _ _, fun g hg => (by cases hg)⟩, B3, hbel, by omega⟩
 have hbf : ¬ b4 = fb := by omega
 have hbw : w.heap.size < b4 := by omega
 clear hfb hb4
 have b0 : W.cell? ⟨b4, 0, none⟩ = some (.int .i64 this.kind) := B4.cell 0
 have b1 : W.cell? ⟨b4, 1, none⟩ = some (.int .i64 this.num) := B4.cell 1
 have b2 : W.cell? ⟨b4, 2, none⟩ = some ob := B4.cell 2
 have c8' : W.cell? ⟨fb, 8, none⟩ = some (.slice none 0 0) := B5.cell 8
 have lW := hbel.size
 have hmz : Mods (fun _ => False) W W.drew := (Mods.refl _ W).drew
 obtain ⟨v3, w3, happ, hO3, hM3, hv3⟩ := app_ex (P := Tryz.prog) (W := W.drew) 173 173 170 i0 _ 3 24 Tryz.underlying173 hi0 hz0 hz1 hz2 rfl (by decide) w.heap.size (.slice none 0 0) 0 [] (World.ownsRow_nil _ _ _ _) #[.int .i64 this.kind, .int .i64 this.num, ob] rfl hone W.heap.size rfl (by unfold maxLen; omega) (by omega) lW
 have hM3' : Mods (fun k => (Value.slice none 0 0).ownBlock = some k) W w3 := ⟨hM3.os, hM3.tape, hM3.output, hM3.size, hM3.block⟩
 have hal : Below W.heap.size W (W.drew.alloc (.cells #[.int .i64 this.kind, .int .i64 this.num, ob] 170)) := ⟨rfl, rfl, rfl, by simp, fun i hi => Below.heap_alloc W.drew _ i hi⟩
 have k1 := Keeps.of_below hal
 have c8b : (W.alloc (.cells #[.int .i64 this.kind, .int .i64 this.num, ob] 170)).cell? ⟨fb, 8, none⟩ = some (.slice none 0 0) := k1 _ _ c8'
 have a0 := k1 _ _ b0
 have a1 := k1 _ _ b1
 have a2 := k1 _ _ b2
 rw [Nat.zero_add] at hO3
 obtain ⟨a3, cap3, rfl⟩ := own_form hO3
 have hwf : ∀ k, ¬ (Value.slice none 0 0).ownBlock = some k := fun k e => by cases e
 have hO3' : w3.ownsRow w.heap.size 170 3 (.slice a3 1 cap3) ([] ++ [this]).length (encL A ([] ++ [this])) := by
  have he : encL A ([] ++ [this]) = [] ++ [.int .i64 this.kind, .int .i64 this.num, ob] := by rw [← hob]; rfl
  rw [he]
  exact hO3
 obtain ⟨N1, c83, f83⟩ := N0.add (l2 := [this]) hM3' hO3' hv3 rfl
 have d0 : w3.cell? ⟨b4, 0, none⟩ = some (.int .i64 this.kind) := hM3'.cell b0 (hwf _)
 have d1 : w3.cell? ⟨b4, 1, none⟩ = some (.int .i64 this.num) := hM3'.cell b1 (hwf _)
 have d2 : w3.cell? ⟨b4, 2, none⟩ = some ob := hM3'.cell b2 (hwf _)
 have hM4 : Mods (fun k => k = fb) w3 (w3.setCell ⟨fb, 8, none⟩ (.slice a3 1 cap3)) := (Mods.refl (fun k => k = fb) w3).setCell (p := ⟨fb, 8, none⟩) (fun _ => rfl) _
 have e0 := hM4.cell d0 hbf
 have e1 := hM4.cell d1 hbf
 have e2 := hM4.cell d2 hbf
 have HN1 := hide N1
 clear N0 N1 hO3 hO3' hM3 hM3' hv3 hal k1 hM4 hmz B3 B4 B5
 go_cut [] (fun wx => ∃ a3 cap3, NFr w wx A fb (methCs m (.slice aa m.args.length acap) (.slice ca m.code.length ccap) (.slice fa m.frames.length fcap)) ([] ++ [this]) (.slice a3 1 cap3))
 case first =>
  refine wp_region_noPanic ?_
  refine wp_region_held_drew (S := (fun w' => w'.cell? ⟨b4, 0, none⟩ = some (.int .i64 this.kind) ∧ w'.cell? ⟨b4, 1, none⟩ = some (.int .i64 this.num) ∧ w'.cell? ⟨b4, 2, none⟩ = some ob)) (by kernel_rfl) ?_ (fun hHeld => ?_)
  ·exact ⟨b0, b1, b2⟩
  refine take_x (some 11) 0 rfl rfl ?_
  refine take_x (some 12) 1 rfl rfl ?_
  refine take_x (some 13) 2 rfl rfl ?_
  refine take_x (some 14) 3 rfl rfl ?_
  refine take_x (some 16) 5 rfl rfl ?_
  refine wpAnyH_ready (rs := [4, 6]) (by kernel_rfl) (by simp) ?_
  refine AllReadyH.cons rfl (fun K hK => ?_) (AllReadyH.cons rfl (fun K hK => ?_) AllReadyH.nil)
  ·go_simp
   refine hK.out _ _ ⟨b0, b1, b2⟩ (fun hHeld => ?_)
   clear hK K
   try simp only [Act.put, List.setIfInBounds_toArray, List.set_cons_zero, List.set_cons_succ]
   refine wpAnyH_ready (rs := [6]) (by kernel_rfl) (by simp) ?_
   refine AllReadyH.cons rfl (fun K hK => ?_) AllReadyH.nil
   go_simp
   refine hK.out _ _ ⟨a0, a1, a2⟩ (fun hHeld => ?_)
   clear hK K
   try simp only [Act.put, List.setIfInBounds_toArray, List.set_cons_zero, List.set_cons_succ]
   refine wpAnyH_ready (rs := [7]) (by kernel_rfl) (by simp) ?_
   refine AllReadyH.cons rfl (fun K hK => ?_) AllReadyH.nil
   refine wp_append_run (.tmp 15) (.tmp 17) 173 rfl _ _ rfl rfl happ ?_
   go_simp
   refine hK.out _ _ ⟨d0, d1, d2⟩ (fun hHeld => ?_)
   clear hK K
   try simp only [Act.put, List.setIfInBounds_toArray, List.set_cons_zero, List.set_cons_succ]
   refine take_x (some 19) 8 rfl rfl ?_
   refine take_x (some 20) 9 rfl rfl ?_
   refine wpAnyH_ready (rs := [10]) (by kernel_rfl) (by simp) ?_
   refine AllReadyH.cons rfl (fun K hK => ?_) AllReadyH.nil
   go_simp
   refine hK.out _ _ ⟨e0, e1, e2⟩ (fun hHeld => ?_)
   clear hK K
   try simp only [Act.put, List.setIfInBounds_toArray, List.set_cons_zero, List.set_cons_succ]
   refine wpAnyH_done (by kernel_rfl) ?_ _
   refine NoPanic.normal ?_
   clear hHeld happ c8b c8' f83
   go_wp2_with fail
   go_meet
   case rel => exact ⟨_, _, unhide HN1⟩
  ·go_simp
   refine hK.out _ _ ⟨a0, a1, a2⟩ (fun hHeld => ?_)
   clear hK K
   try simp only [Act.put, List.setIfInBounds_toArray, List.set_cons_zero, List.set_cons_succ]
   refine wpAnyH_ready (rs := [4]) (by kernel_rfl) (by simp) ?_
   refine AllReadyH.cons rfl (fun K hK => ?_) AllReadyH.nil
   go_simp
   refine hK.out _ _ ⟨a0, a1, a2⟩ (fun hHeld => ?_)
   clear hK K
   try simp only [Act.put, List.setIfInBounds_toArray, List.set_cons_zero, List.set_cons_succ]
   refine wpAnyH_ready (rs := [7]) (by kernel_rfl) (by simp) ?_
   refine AllReadyH.cons rfl (fun K hK => ?_) AllReadyH.nil
   refine wp_append_run (.tmp 15) (.tmp 17) 173 rfl _ _ rfl rfl happ ?_
   go_simp
   refine hK.out _ _ ⟨d0, d1, d2⟩ (fun hHeld => ?_)
   clear hK K
   try simp only [Act.put, List.setIfInBounds_toArray, List.set_cons_zero, List.set_cons_succ]
   refine take_x (some 19) 8 rfl rfl ?_
   refine take_x (some 20) 9 rfl rfl ?_
   refine wpAnyH_ready (rs := [10]) (by kernel_rfl) (by simp) ?_
   refine AllReadyH.cons rfl (fun K hK => ?_) AllReadyH.nil
   go_simp
   refine hK.out _ _ ⟨e0, e1, e2⟩ (fun hHeld => ?_)
   clear hK K
   try simp only [Act.put, List.setIfInBounds_toArray, List.set_cons_zero, List.set_cons_succ]
   refine wpAnyH_done (by kernel_rfl) ?_ _
   refine NoPanic.normal ?_
   clear hHeld happ c8b c8' f83
   go_wp2_with fail
   go_meet
   case rel => exact ⟨_, _, unhide HN1⟩
 case rest =>
  clear HN1 e0 e1 e2 d0 d1 d2 a0 a1 a2 b0 b1 b2 c83 happ c8b c8' f83 hbel lW
  obtain ⟨a3, cap3, N1⟩ := hcut
  generalize wc = V1 at *
  have c81 := N1.fr.c7.2.1
  have hrd1 : ∀ ad, ta = some ad → ∀ j u, (encL A args)[j]? = some u → V1.cell? (ad.add j) = some u := fun ad e j u hu => Keeps.of_below N1.bel _ _ (hrd ad e j u hu)
  go_wp2_with (refine wpList_append_sl rfl (.tmp 25) (.tmp 26) 173 rfl w.heap.size 170 i0 _ 3 24 Tryz.underlying173 hi0 hz0 hz1 hz2 rfl (by decide) (.slice a3 1 cap3) 1 _ rfl N1.fr.lo ta args.length tcap (encL A args) rfl (encL_len A args) hnil hrd1 (encL_one A args) (by unfold maxLen; omega) (by omega) N1.bel.size ?_; intro v5 w5 hown5 hgr5 hat5; obtain ⟨a5, cap5, rfl⟩ := own_form hown5; obtain ⟨N2, c85, f85⟩ := N1.add (l2 := args) ((Mods.refl _ V1).grown hgr5 (fun k e _ => e)) (by rw [encL_app, List.length_append]; exact hown5) (hat5.imp id (fun e => ⟨_, Nat.le_refl _, e⟩)) rfl)
  generalize w5.setCell _ _ = V2 at *
  have HN2 : Hid (NFr w V2 A fb (methCs m (.slice aa m.args.length acap) (.slice ca m.code.length ccap) (.slice fa m.frames.length fcap)) (this :: args ++ List.replicate 0 nothV) (.slice a5 (1 + args.length) cap5)) := by
   show NFr _ _ _ _ _ _ _
   rw [List.replicate_zero, List.append_nil]
   exact N2
  clear N1 N2 c85 f85 hgr5 hat5 hown5 c81 hrd1
  go_loopw [] (fun wr => ∃ (k : Nat) (vl : Value), 1 + args.length + k ≤ m.locals.toNat ∧ NFr w wr A fb (methCs m (.slice aa m.args.length acap) (.slice ca m.code.length ccap) (.slice fa m.frames.length fcap)) (this :: args ++ List.replicate k nothV) vl) (fun wr => m.locals.toNat - slLen (wr.cell? ⟨fb, 8, none⟩))
  case atStart => exact ⟨0, _, by omega, unhide HN2⟩
  case round =>
   obtain ⟨k, vl, hk, N⟩ := hrel
   obtain ⟨L, hL⟩ : ∃ L, L = this :: args ++ List.replicate k nothV := ⟨_, rfl⟩
   have hLl : L.length = 1 + args.length + k := by rw [hL]; simp; omega
   have HL := hide hL
   rw [← hL] at N
   clear hL
   obtain ⟨ra, rcap, rfl⟩ := own_form N.fr.lo
   have c8 := N.fr.c7.2.1
   have q3 : wr.cell? ⟨w.heap.size, 3, none⟩ = some (.int .i64 m.locals) := N.b3.cell 3
   have HLN := hide hLl
   by_cases hlt : 1 + args.length + k < m.locals.toNat
   ·have hq : (L.length : Int) < m.locals := by omega
    clear hLl
    go_wp2_with fail
    refine wp_region_noPanic ?_
    refine wp_region_held_drew (S := (fun w' => w'.cell? ⟨fb, 8, none⟩ = some (.slice ra L.length rcap) ∧ w'.cell? ⟨w.heap.size, 3, none⟩ = some (.int .i64 m.locals))) (by kernel_rfl) ?_ (fun hHeld => ?_)
    ·exact ⟨c8, q3⟩
    refine take_x (some 30) 0 rfl rfl ?_
    refine take_x (some 31) 1 rfl rfl ?_
    refine take_x (some 32) 2 rfl rfl ?_
    refine take_x (some 33) 3 rfl rfl ?_
    refine take_x (some 34) 4 rfl rfl ?_
    refine take_x (some 35) 5 rfl rfl ?_
    refine take_x (some 36) 6 rfl rfl ?_
    refine take_x (some 37) 7 rfl rfl ?_
    refine wpAnyH_done (by kernel_rfl) ?_ _
    refine NoPanic.normal ?_
    go_wp2_with fail
    refine wp_region_noPanic ?_
    refine wp_region_held_drew (S := (fun _ => True)) (by kernel_rfl) ?_ (fun hHeld => ?_)
    ·exact trivial
    refine take_x (some 38) 0 rfl rfl ?_
    refine take_x (some 39) 1 rfl rfl ?_
    refine take_x (some 40) 2 rfl rfl ?_
    refine take_x (some 41) 3 rfl rfl ?_
    refine wpAnyH_ready (rs := [4, 5]) (by kernel_rfl) (by simp) ?_
    refine AllReadyH.cons rfl (fun K hK => ?_) (AllReadyH.cons rfl (fun K hK => ?_) AllReadyH.nil)
    ·go_simp
     refine hK.out _ _ trivial (fun hHeld => ?_)
     clear hK K
     try simp only [Act.put, List.setIfInBounds_toArray, List.set_cons_zero, List.set_cons_succ]
     refine wpAnyH_ready (rs := [5]) (by kernel_rfl) (by simp) ?_
     refine AllReadyH.cons rfl (fun K hK => ?_) AllReadyH.nil
     go_simp
     refine (ma_nothing _).mono ?_
     rintro e w2 ⟨rfl, hb2⟩
     have hb2' : Below wr.heap.size wr w2 := ⟨hb2.os, hb2.tape, hb2.output, hb2.size, hb2.block⟩
     have N2 := N.keep hb2'
     obtain ⟨v6, w6, happ6, hO6, hM6, hv6⟩ := app_ex (P := Tryz.prog) (W := w2) 173 173 170 i0 _ 3 24 Tryz.underlying173 hi0 hz0 hz1 hz2 rfl (by decide) w.heap.size _ _ _ N2.fr.lo #[.int .i64 2, .int .i64 0, .pointer none] rfl (fun v hv => by simp only [List.mem_cons, List.not_mem_nil, or_false] at hv; rcases hv with rfl | rfl | rfl <;> rfl) w2.heap.size rfl (by have := unhide HLN; unfold maxLen; omega) (by have := unhide HLN; omega) N2.bel.size
     obtain ⟨a6, cap6, rfl⟩ := own_form hO6
     obtain ⟨N6, c86, f86⟩ := N2.add (l2 := [nothV]) hM6 (by rw [encL_app, List.length_append]; exact hO6) hv6 rfl
     have c82 := N2.fr.c7.2.1
     have c82a := (N2.fr.blk.alloc (.cells #[.int .i64 2, .int .i64 0, .pointer none] 170)).cell 8
     rw [← N2.fr.blk.cell, c82] at c82a
     have HN6 := hide N6
     clear N2 N6 hO6 hM6 hv6 hb2'
     go_wp2_with fail
     refine hK.out _ _ trivial (fun hHeld => ?_)
     clear hK K
     try simp only [Act.put, List.setIfInBounds_toArray, List.set_cons_zero, List.set_cons_succ]
     refine wpAnyH_ready (rs := [6]) (by kernel_rfl) (by simp) ?_
     refine AllReadyH.cons rfl (fun K hK => ?_) AllReadyH.nil
     go_simp
     refine hK.out _ _ trivial (fun hHeld => ?_)
     clear hK K
     try simp only [Act.put, List.setIfInBounds_toArray, List.set_cons_zero, List.set_cons_succ]
     refine wpAnyH_ready (rs := [7]) (by kernel_rfl) (by simp) ?_
     refine AllReadyH.cons rfl (fun K hK => ?_) AllReadyH.nil
     refine wp_append_run (.tmp 42) (.tmp 44) 173 rfl _ _ rfl rfl happ6 ?_
     go_simp
     refine hK.out _ _ trivial (fun hHeld => ?_)
     clear hK K
     try simp only [Act.put, List.setIfInBounds_toArray, List.set_cons_zero, List.set_cons_succ]
     refine take_x (some 46) 8 rfl rfl ?_
     refine take_x (some 47) 9 rfl rfl ?_
     refine wpAnyH_ready (rs := [10]) (by kernel_rfl) (by simp) ?_
     refine AllReadyH.cons rfl (fun K hK => ?_) AllReadyH.nil
     go_simp
     refine hK.out _ _ trivial (fun hHeld => ?_)
     clear hK K
     try simp only [Act.put, List.setIfInBounds_toArray, List.set_cons_zero, List.set_cons_succ]
     refine wpAnyH_done (by kernel_rfl) ?_ _
     refine NoPanic.normal ?_
     have N6 := unhide HN6
     have c8z := N6.fr.c7.2.1
     generalize w6.setCell _ _ = V6 at *
     have HX : Hid (∃ (k : Nat) (vl : Value), 1 + args.length + k ≤ m.locals.toNat ∧ NFr w V6 A fb (methCs m (.slice aa m.args.length acap) (.slice ca m.code.length ccap) (.slice fa m.frames.length fcap)) (this :: args ++ List.replicate k nothV) vl) := by
      refine ⟨k + 1, .slice a6 (L.length + 1) cap6, by omega, ?_⟩
      have he : this :: args ++ List.replicate (k + 1) nothV = L ++ [nothV] := by rw [unhide HL, List.replicate_succ']; simp
      rw [he]; exact N6
     have HY : Hid (m.locals.toNat - slLen (V6.cell? ⟨fb, 8, none⟩) < m.locals.toNat - slLen (wr.cell? ⟨fb, 8, none⟩)) := by
      show _ < _
      rw [c8z, c8]
      have := unhide HLN
      simp only [slLen]
      omega
     clear happ6 N6 c8z HN6
     go_wp2_with fail
     exact ⟨unhide HX, unhide HY⟩
    ·go_simp
     refine (ma_nothing _).mono ?_
     rintro e w2 ⟨rfl, hb2⟩
     have hb2' : Below wr.heap.size wr w2 := ⟨hb2.os, hb2.tape, hb2.output, hb2.size, hb2.block⟩
     have N2 := N.keep hb2'
     obtain ⟨v6, w6, happ6, hO6, hM6, hv6⟩ := app_ex (P := Tryz.prog) (W := w2) 173 173 170 i0 _ 3 24 Tryz.underlying173 hi0 hz0 hz1 hz2 rfl (by decide) w.heap.size _ _ _ N2.fr.lo #[.int .i64 2, .int .i64 0, .pointer none] rfl (fun v hv => by simp only [List.mem_cons, List.not_mem_nil, or_false] at hv; rcases hv with rfl | rfl | rfl <;> rfl) w2.heap.size rfl (by have := unhide HLN; unfold maxLen; omega) (by have := unhide HLN; omega) N2.bel.size
     obtain ⟨a6, cap6, rfl⟩ := own_form hO6
     obtain ⟨N6, c86, f86⟩ := N2.add (l2 := [nothV]) hM6 (by rw [encL_app, List.length_append]; exact hO6) hv6 rfl
     have c82 := N2.fr.c7.2.1
     have c82a := (N2.fr.blk.alloc (.cells #[.int .i64 2, .int .i64 0, .pointer none] 170)).cell 8
     rw [← N2.fr.blk.cell, c82] at c82a
     have HN6 := hide N6
     clear N2 N6 hO6 hM6 hv6 hb2'
     go_wp2_with fail
     refine hK.out _ _ trivial (fun hHeld => ?_)
     clear hK K
     try simp only [Act.put, List.setIfInBounds_toArray, List.set_cons_zero, List.set_cons_succ]
     refine wpAnyH_ready (rs := [4, 6]) (by kernel_rfl) (by simp) ?_
     refine AllReadyH.cons rfl (fun K hK => ?_) (AllReadyH.cons rfl (fun K hK => ?_) AllReadyH.nil)
     ·go_simp
      refine hK.out _ _ trivial (fun hHeld => ?_)
      clear hK K
      try simp only [Act.put, List.setIfInBounds_toArray, List.set_cons_zero, List.set_cons_succ]
      refine wpAnyH_ready (rs := [6]) (by kernel_rfl) (by simp) ?_
      refine AllReadyH.cons rfl (fun K hK => ?_) AllReadyH.nil
      go_simp
      refine hK.out _ _ trivial (fun hHeld => ?_)
      clear hK K
      try simp only [Act.put, List.setIfInBounds_toArray, List.set_cons_zero, List.set_cons_succ]
      refine wpAnyH_ready (rs := [7]) (by kernel_rfl) (by simp) ?_
      refine AllReadyH.cons rfl (fun K hK => ?_) AllReadyH.nil
      refine wp_append_run (.tmp 42) (.tmp 44) 173 rfl _ _ rfl rfl happ6 ?_
      go_simp
      refine hK.out _ _ trivial (fun hHeld => ?_)
      clear hK K
      try simp only [Act.put, List.setIfInBounds_toArray, List.set_cons_zero, List.set_cons_succ]
      refine take_x (some 46) 8 rfl rfl ?_
      refine take_x (some 47) 9 rfl rfl ?_
      refine wpAnyH_ready (rs := [10]) (by kernel_rfl) (by simp) ?_
      refine AllReadyH.cons rfl (fun K hK => ?_) AllReadyH.nil
      go_simp
      refine hK.out _ _ trivial (fun hHeld => ?_)
      clear hK K
      try simp only [Act.put, List.setIfInBounds_toArray, List.set_cons_zero, List.set_cons_succ]
      refine wpAnyH_done (by kernel_rfl) ?_ _
      refine NoPanic.normal ?_
      have N6 := unhide HN6
      have c8z := N6.fr.c7.2.1
      generalize w6.setCell _ _ = V6 at *
      have HX : Hid (∃ (k : Nat) (vl : Value), 1 + args.length + k ≤ m.locals.toNat ∧ NFr w V6 A fb (methCs m (.slice aa m.args.length acap) (.slice ca m.code.length ccap) (.slice fa m.frames.length fcap)) (this :: args ++ List.replicate k nothV) vl) := by
       refine ⟨k + 1, .slice a6 (L.length + 1) cap6, by omega, ?_⟩
       have he : this :: args ++ List.replicate (k + 1) nothV = L ++ [nothV] := by rw [unhide HL, List.replicate_succ']; simp
       rw [he]; exact N6
      have HY : Hid (m.locals.toNat - slLen (V6.cell? ⟨fb, 8, none⟩) < m.locals.toNat - slLen (wr.cell? ⟨fb, 8, none⟩)) := by
       show _ < _
       rw [c8z, c8]
       have := unhide HLN
       simp only [slLen]
       omega
      clear happ6 N6 c8z HN6
      go_wp2_with fail
      exact ⟨unhide HX, unhide HY⟩
     ·go_simp
      refine hK.out _ _ trivial (fun hHeld => ?_)
      clear hK K
      try simp only [Act.put, List.setIfInBounds_toArray, List.set_cons_zero, List.set_cons_succ]
      refine wpAnyH_ready (rs := [4]) (by kernel_rfl) (by simp) ?_
      refine AllReadyH.cons rfl (fun K hK => ?_) AllReadyH.nil
      go_simp
      refine hK.out _ _ trivial (fun hHeld => ?_)
      clear hK K
      try simp only [Act.put, List.setIfInBounds_toArray, List.set_cons_zero, List.set_cons_succ]
      refine wpAnyH_ready (rs := [7]) (by kernel_rfl) (by simp) ?_
      refine AllReadyH.cons rfl (fun K hK => ?_) AllReadyH.nil
      refine wp_append_run (.tmp 42) (.tmp 44) 173 rfl _ _ rfl rfl happ6 ?_
      go_simp
      refine hK.out _ _ trivial (fun hHeld => ?_)
      clear hK K
      try simp only [Act.put, List.setIfInBounds_toArray, List.set_cons_zero, List.set_cons_succ]
      refine take_x (some 46) 8 rfl rfl ?_
      refine take_x (some 47) 9 rfl rfl ?_
      refine wpAnyH_ready (rs := [10]) (by kernel_rfl) (by simp) ?_
      refine AllReadyH.cons rfl (fun K hK => ?_) AllReadyH.nil
      go_simp
      refine hK.out _ _ trivial (fun hHeld => ?_)
      clear hK K
      try simp only [Act.put, List.setIfInBounds_toArray, List.set_cons_zero, List.set_cons_succ]
      refine wpAnyH_done (by kernel_rfl) ?_ _
      refine NoPanic.normal ?_
      have N6 := unhide HN6
      have c8z := N6.fr.c7.2.1
      generalize w6.setCell _ _ = V6 at *
      have HX : Hid (∃ (k : Nat) (vl : Value), 1 + args.length + k ≤ m.locals.toNat ∧ NFr w V6 A fb (methCs m (.slice aa m.args.length acap) (.slice ca m.code.length ccap) (.slice fa m.frames.length fcap)) (this :: args ++ List.replicate k nothV) vl) := by
       refine ⟨k + 1, .slice a6 (L.length + 1) cap6, by omega, ?_⟩
       have he : this :: args ++ List.replicate (k + 1) nothV = L ++ [nothV] := by rw [unhide HL, List.replicate_succ']; simp
       rw [he]; exact N6
      have HY : Hid (m.locals.toNat - slLen (V6.cell? ⟨fb, 8, none⟩) < m.locals.toNat - slLen (wr.cell? ⟨fb, 8, none⟩)) := by
       show _ < _
       rw [c8z, c8]
       have := unhide HLN
       simp only [slLen]
       omega
      clear happ6 N6 c8z HN6
      go_wp2_with fail
      exact ⟨unhide HX, unhide HY⟩
   ·have hq : ¬ (L.length : Int) < m.locals := by omega
    have HN : Hid (NewR A (methCs m (.slice aa m.args.length acap) (.slice ca m.code.length ccap) (.slice fa m.frames.length fcap)) (this :: args ++ List.replicate (m.locals.toNat - (1 + args.length)) nothV) w wr.drew (.returned (.pointer (some ⟨fb, 0, none⟩)))) := by
     have hke : m.locals.toNat - (1 + args.length) = k := by omega
     rw [hke, ← unhide HL]
     exact ⟨fb, _, rfl, N.keep (Below.refl _ _).drew⟩
    clear hLl N
    go_wp2_with fail
    refine wp_region_noPanic ?_
    refine wp_region_held_drew (S := (fun w' => w'.cell? ⟨fb, 8, none⟩ = some (.slice ra L.length rcap) ∧ w'.cell? ⟨w.heap.size, 3, none⟩ = some (.int .i64 m.locals))) (by kernel_rfl) ?_ (fun hHeld => ?_)
    ·exact ⟨c8, q3⟩
    refine take_x (some 30) 0 rfl rfl ?_
    refine take_x (some 31) 1 rfl rfl ?_
    refine take_x (some 32) 2 rfl rfl ?_
    refine take_x (some 33) 3 rfl rfl ?_
    refine take_x (some 34) 4 rfl rfl ?_
    refine take_x (some 35) 5 rfl rfl ?_
    refine take_x (some 36) 6 rfl rfl ?_
    refine take_x (some 37) 7 rfl rfl ?_
    refine wpAnyH_done (by kernel_rfl) ?_ _
    refine NoPanic.normal ?_
    go_wp2_with fail
    go_ret
    have hn := unhide HN
    rw [List.cons_append] at hn
    exact hn
end Go.Proofs.YtiiokkllmchohaaGreat
/- The machine: create. -/
namespace Go.Proofs.YtiiokkllmchohaaGreat
open Go.RowKit Go.Shelf
attribute [local go_sem ↓] Go.wp_at_zero Go.wp_at_succ
attribute [local go_sem] frz_drew

def firstV (t : Int) : LVal := if t = 0 then numbV 0 else nullV
theorem firstC_enc (A : List Nat) (t : Int) : firstC t = encV A (firstV t) := by
 unfold firstC firstV
 split <;> rfl
theorem tv_ne_ob : 170 ≠ 234 := by decide
theorem firstC_form (t : Int) : ∃ kd, firstC t = [.int .i64 kd, .int .i64 0, .pointer none] := by
 unfold firstC
 split
 ·exact ⟨0, rfl⟩
 ·exact ⟨1, rfl⟩
theorem own_tne {w : World} {B C : Nat} {e d : TypeId} {sz sy : Nat} {v u : Value} {n m : Nat} {xs ys : List Value} (h : w.ownsRow B e sz v n xs) (k : w.ownsRow C d sy u m ys) (he : e ≠ d) (g : Nat) (hg : v.ownBlock = some g) : u.ownBlock ≠ some g := fun hu => by
 obtain ⟨cur, hc⟩ := own_blk h hg
 obtain ⟨cur', hc'⟩ := own_blk k hu
 exact he (hc.uniq hc')
structure ObA (w V : World) (A : List Nat) (b : Nat) (c : Int) (v : Value) (l : List LVal) : Prop where
 blk : Blk V b 234 [.int .i64 c, v]
 row : V.ownsRow w.heap.size 170 3 v l.length (encL A l)
 new : w.heap.size ≤ b
theorem ObA.add {w V W U : World} {A : List Nat} {b : Nat} {c : Int} {v v' : Value} {l l2 : List LVal} (h : ObA w V A b c v l) (hM : Mods (fun k => v.ownBlock = some k) V W) (hO : W.ownsRow w.heap.size 170 3 v' (l ++ l2).length (encL A (l ++ l2))) (hU : U = W.setCell ⟨b, 1, none⟩ v') :
  ObA w U A b c v' (l ++ l2) ∧ Mods (fun k => k = b ∨ v.ownBlock = some k) V U ∧ W.cell? ⟨b, 1, none⟩ = some v ∧ W.frozen? ⟨b, 1, none⟩ = false := by
 subst hU
 have hbk := h.blk.mods hM (own_ne h.row h.blk tv_ne_ob)
 have hM4 : Mods (fun k => k = b) W (W.setCell ⟨b, 1, none⟩ v') := (Mods.refl (fun k => k = b) W).setCell (p := ⟨b, 1, none⟩) (fun _ => rfl) _
 refine ⟨⟨hbk.setCell 1 v', own_mods hO hM4 (fun g hg e => own_ne hO hbk tv_ne_ob (e ▸ hg)), h.new⟩, ?_, hbk.cell 1, hbk.frozen 1⟩
 exact (hM.mono (fun k _ e => .inr e)).trans hM4 (fun k _ e => .inl e)
theorem ObA.mods {S : Nat → Prop} {w V U : World} {A : List Nat} {b : Nat} {c : Int} {v : Value} {l : List LVal} (h : ObA w V A b c v l) (hM : Mods S V U) (hS : ∀ k, w.heap.size ≤ k → k < V.heap.size → ¬ S k) : ObA w U A b c v l :=
 ⟨h.blk.mods hM (hS b h.new h.blk.lt), own_mods h.row hM (fun g hg => hS g (h.row.lt g hg).1 (h.row.lt g hg).2), h.new⟩
def CrR (A : List Nat) (c : Int) (fl : List Int) (mb : Nat) (mcs : List Value) (w w' : World) (e : Ending) : Prop :=
 ∃ b v, e = .returned (.pointer (some ⟨b, 0, none⟩)) ∧ ObA w w' A b c v (fl.map firstV) ∧ Blk w' mb 172 mcs ∧ Mods (fun k => k = mb) w w'
set_option maxHeartbeats 1000000 in
set_option maxRecDepth 100000 in
theorem ma_create (p : List LClass) (vp : Value) (c : Int) (w0 w : World) (mb : Nat) (fuel : Int) (ask : Bool) (vr : Value) (n : Nat) (A : List Nat) (told : LVal) (vpr : Value) (steps : Nat) (hp : RProg w0 vp p) (hb0 : Below w0.heap.size w0 w) (hmb : w0.heap.size ≤ mb) (hB : Blk w mb 172 (machC vp fuel ask vr n A told vpr steps)) (hs : SupOk p p.length) (hz : szProg p ≤ 4194304) (c0 : 0 ≤ c) (c1 : c < (p.length : Int)) (hn : n ≤ 4194304) :
  Calls Tryz.prog 112 #[.pointer (some ⟨mb, 0, none⟩), .int .i64 c] w fun e w' => CrR A c (fieldsOf p c) mb (machC vp fuel ask vr (n + 1) A told vpr steps) w w' e := by
 obtain ⟨i0, hi0, hz0, hz1, hz2⟩ := info_parts infoVal
 have HP := hide hp
 obtain ⟨pa, _, _, pcap, rfl, _⟩ := hp
 have c4 : w.cell? ⟨mb, 4, none⟩ = some (.int .i64 (n : Int)) := hB.cell 4
 have f4 := hB.frozen 4
 have hB1 := hB.setCell 4 (.int .i64 ((n : Int) + 1))
 have hM1 : Mods (fun k => k = mb) w (w.setCell ⟨mb, 4, none⟩ (.int .i64 ((n : Int) + 1))) := (Mods.refl (fun k => k = mb) w).setCell (p := ⟨mb, 4, none⟩) (fun _ => rfl) _
 have hlt := hB.lt
 have hmc : (machC (.slice pa p.length pcap) fuel ask vr n A told vpr steps).set 4 (.int .i64 ((n : Int) + 1)) = machC (.slice pa p.length pcap) fuel ask vr (n + 1) A told vpr steps := rfl
 rw [hmc] at hB1
 have hB2 := hB1.alloc (.cells #[.int .i64 c, .slice none 0 0] 234)
 have k0 : ((w.setCell ⟨mb, 4, none⟩ (.int .i64 ((n : Int) + 1))).alloc (.cells #[.int .i64 c, .slice none 0 0] 234)).cell? ⟨mb, 0, none⟩ = some (.slice pa p.length pcap) := hB2.cell 0
 have hM2 := hM1.alloc (.cells #[.int .i64 c, .slice none 0 0] 234)
 have hsz1 : (w.setCell ⟨mb, 4, none⟩ (.int .i64 ((n : Int) + 1))).heap.size = w.heap.size := by simp
 have O2 := Blk.new (w.setCell ⟨mb, 4, none⟩ (.int .i64 ((n : Int) + 1))) #[.int .i64 c, .slice none 0 0] 234
 rw [hsz1] at O2
 go_enter Tryz.func112, Tryz.ntmps112
 go_wp2_with fail
 clear hsz1 hmc f4 c4 k0 hB hM1
 generalize (w.setCell _ _).alloc _ = W at *
 have hbW : Below w0.heap.size w0 W := hb0.trans (hM2.below hb0.size (fun k hk e => by omega))
 refine (code_fields p hs hz (c + 1).toNat c _ W (prog_keep (Keeps.of_below hbW) (unhide HP)) (by omega) c1 (Nat.le_refl _)).mono ?_
 rintro e w1 ⟨v', rfl, hown, hb1⟩
 obtain ⟨fa, fcap, rfl⟩ := own_form hown
 have hfl : (fieldsOf p c).length ≤ 4194304 := by
  obtain ⟨cn, rfl⟩ : ∃ cn : Nat, c = (cn : Int) := ⟨c.toNat, by omega⟩
  exact Nat.le_trans (fieldsOf_sz p hs (by omega)) hz
 have hW1 := hb1.size
 have lW := O2.lt
 have O0 : ObA w w1 A w.heap.size c (.slice none 0 0) [] := ⟨O2.below hb1 O2.lt, World.ownsRow_nil _ _ _ _, Nat.le_refl _⟩
 have M1 := hB2.below hb1 hB2.lt
 have MM := hM2.trans (bnone (S := fun k => k = mb) hb1) (fun _ _ e => e)
 clear hB1 hB2 hM2 O2 hb1
 generalize hF : fieldsOf p c = F at *
 have HF := hide hF
 clear hF
 have HI0 : Hid (ObA w w1 A w.heap.size c (.slice none 0 0) ((F.take 0).map firstV) ∧ w1.ownsRow W.heap.size 43 1 (.slice fa F.length fcap) F.length (F.map (Value.int .i64)) ∧ Blk w1 mb 172 (machC (.slice pa p.length pcap) fuel ask vr (n + 1) A told vpr steps) ∧ Mods (fun k => k = mb) w w1 ∧ W.heap.size ≤ w1.heap.size) := ⟨O0, hown, M1, MM, hW1⟩
 clear O0 hown M1 MM hW1
 go_wp2_with fail
 go_loopw [25] (fun i wr => ∃ (k : Nat) (v : Value), k ≤ F.length ∧ i = .int .i64 k ∧ ObA w wr A w.heap.size c v ((F.take k).map firstV) ∧ wr.ownsRow W.heap.size 43 1 (.slice fa F.length fcap) F.length (F.map (Value.int .i64)) ∧ Blk wr mb 172 (machC (.slice pa p.length pcap) fuel ask vr (n + 1) A told vpr steps) ∧ Mods (fun k => k = mb) w wr ∧ W.heap.size ≤ wr.heap.size) (fun i _ => F.length - (intOf i).toNat)
 case atStart => exact ⟨0, _, Nat.zero_le _, rfl, unhide HI0⟩
 case round =>
  obtain ⟨k, v, hk, rfl, O, hr, hMb, hM, hsw⟩ := hrel
  by_cases hlt2 : k < F.length
  ·obtain ⟨g, cap, hfe, hcap, hgb, hrd⟩ := own_read hr (by omega)
   simp only [Value.slice.injEq, true_and] at hfe
   obtain ⟨rfl, rfl⟩ := hfe
   obtain ⟨t, ht⟩ : ∃ t, F[k]? = some t := ⟨_, List.getElem?_eq_getElem hlt2⟩
   have r0 : wr.cell? ⟨g, k, none⟩ = some (.int .i64 t) := by rw [hrd _ (by omega), List.getElem?_map, ht]; rfl
   obtain ⟨L, hL⟩ : ∃ L, L = (F.take k).map firstV := ⟨_, rfl⟩
   have hLl : L.length = k := by rw [hL]; simp; omega
   have HL := hide hL
   rw [← hL] at O
   have HTK := hide ht
   clear hL ht hrd
   obtain ⟨ra, rcap, rfl⟩ := own_form O.row
   have c1 : wr.cell? ⟨w.heap.size, 1, none⟩ = some (.slice ra L.length rcap) := O.blk.cell 1
   have k0 : (0 : Int) ≤ (k : Int) := by omega
   have k1 : (k : Int) < (F.length : Int) := by omega
   obtain ⟨kd, hkd⟩ := firstC_form t
   have HKD := hide hkd
   have HLN := hide hLl
   clear hkd hLl
   go_wp2_with fail
   refine wp_region_noPanic ?_
   refine wp_region_held_drew (S := (fun _ => True)) (by kernel_rfl) ?_ (fun hHeld => ?_)
   ·exact trivial
   refine take_x (some 29) 0 rfl rfl ?_
   refine take_x (some 30) 1 rfl rfl ?_
   refine take_x (some 31) 2 rfl rfl ?_
   refine take_x (some 32) 3 rfl rfl ?_
   refine take_x (some 34) 5 rfl rfl ?_
   refine wpAnyH_ready (rs := [4, 6]) (by kernel_rfl) (by simp) ?_
   refine AllReadyH.cons rfl (fun K hK => ?_) (AllReadyH.cons rfl (fun K hK => ?_) AllReadyH.nil)
   ·go_simp
    refine hK.out _ _ trivial (fun hHeld => ?_)
    clear hK K
    try simp only [Act.put, List.setIfInBounds_toArray, List.set_cons_zero, List.set_cons_succ]
    refine wpAnyH_ready (rs := [6]) (by kernel_rfl) (by simp) ?_
    refine AllReadyH.cons rfl (fun K hK => ?_) AllReadyH.nil
    go_simp
    refine (ma_first t _).mono ?_
    rintro e w2 ⟨rfl, hb2⟩
    rw [unhide HKD]
    have hb2' : Below wr.heap.size wr w2 := ⟨hb2.os, hb2.tape, hb2.output, hb2.size, hb2.block⟩
    have hm2 := Mods.of_below hb2'
    have O2 := O.mods hm2 (fun j _ hj e => by omega)
    have hr2 := own_mods hr hm2 (fun j hj e => by have := (hr.lt j hj).2; omega)
    have hMb2 := hMb.below hb2' hMb.lt
    have hMM2 := hM.trans (bnone (S := fun k => k = mb) hb2') (fun _ _ e => e)
    obtain ⟨v6, w6, happ6, hO6, hM6, hv6⟩ := app_ex (P := Tryz.prog) (W := w2) 173 173 170 i0 _ 3 24 Tryz.underlying173 hi0 hz0 hz1 hz2 rfl (by decide) w.heap.size _ _ _ O2.row #[.int .i64 kd, .int .i64 0, .pointer none] rfl (fun v hv => by simp only [List.mem_cons, List.not_mem_nil, or_false] at hv; rcases hv with rfl | rfl | rfl <;> rfl) w2.heap.size rfl (by have := unhide HLN; unfold maxLen; omega) (by have := unhide HLN; omega) (by have := hb2'.size; omega)
    obtain ⟨a6, cap6, rfl⟩ := own_form hO6
    have hen : encL A [firstV t] = [.int .i64 kd, .int .i64 0, .pointer none] := by
     show encV A (firstV t) ++ [] = _
     rw [List.append_nil, ← firstC_enc, unhide HKD]
    obtain ⟨O6, hMU, c16, f16⟩ := O2.add (l2 := [firstV t]) hM6 (by rw [encL_app, List.length_append, hen]; exact hO6) rfl
    have c12 : w2.cell? ⟨w.heap.size, 1, none⟩ = some (.slice ra L.length rcap) := O2.blk.cell 1
    have c12a : (w2.alloc (.cells #[.int .i64 kd, .int .i64 0, .pointer none] 170)).cell? ⟨w.heap.size, 1, none⟩ = some (.slice ra L.length rcap) := (O2.blk.alloc _).cell 1
    have hr6 := own_mods hr2 hMU (fun j hj e => by
     rcases e with e | e
     ·exact own_ne hr2 O2.blk (by decide) (e ▸ hj)
     ·exact own_tne hr2 O2.row (by decide) j hj e)
    have hMb6 := hMb2.mods hMU (fun e => by
     rcases e with e | e
     ·omega
     ·have := (O2.row.lt mb e).1; omega)
    have hMM6 := hMM2.trans hMU (fun j hj e => by
     rcases e with e | e
     ·omega
     ·have := (O2.row.lt j e).1; omega)
    have HN6 := hide (And.intro O6 (And.intro hr6 (And.intro hMb6 (And.intro hMM6 (Nat.le_trans (Nat.le_trans hsw hb2'.size) hMU.size)))))
    clear O2 O6 hr2 hr6 hMb2 hMb6 hMM2 hMM6 hMU hO6 hM6 hv6 hb2' hm2 hen
    go_wp2_with fail
    refine hK.out _ _ trivial (fun hHeld => ?_)
    clear hK K
    try simp only [Act.put, List.setIfInBounds_toArray, List.set_cons_zero, List.set_cons_succ]
    refine wpAnyH_ready (rs := [7]) (by kernel_rfl) (by simp) ?_
    refine AllReadyH.cons rfl (fun K hK => ?_) AllReadyH.nil
    go_simp
    refine hK.out _ _ trivial (fun hHeld => ?_)
    clear hK K
    try simp only [Act.put, List.setIfInBounds_toArray, List.set_cons_zero, List.set_cons_succ]
    refine wpAnyH_ready (rs := [8]) (by kernel_rfl) (by simp) ?_
    refine AllReadyH.cons rfl (fun K hK => ?_) AllReadyH.nil
    refine wp_append_run (.tmp 33) (.tmp 36) 173 rfl _ _ rfl rfl happ6 ?_
    go_simp
    refine hK.out _ _ trivial (fun hHeld => ?_)
    clear hK K
    try simp only [Act.put, List.setIfInBounds_toArray, List.set_cons_zero, List.set_cons_succ]
    refine take_x (some 38) 9 rfl rfl ?_
    refine take_x (some 39) 10 rfl rfl ?_
    refine wpAnyH_ready (rs := [11]) (by kernel_rfl) (by simp) ?_
    refine AllReadyH.cons rfl (fun K hK => ?_) AllReadyH.nil
    go_simp
    refine hK.out _ _ trivial (fun hHeld => ?_)
    clear hK K
    try simp only [Act.put, List.setIfInBounds_toArray, List.set_cons_zero, List.set_cons_succ]
    refine wpAnyH_done (by kernel_rfl) ?_ _
    refine NoPanic.normal ?_
    generalize w6.setCell _ _ = V6 at *
    have hLk : L ++ [firstV t] = (F.take (k + 1)).map firstV := by
     rw [List.take_add_one, List.map_append, ← unhide HL, unhide HTK]; rfl
    rw [hLk] at HN6
    clear happ6 hLk
    go_wp2_with fail
    refine ⟨⟨k + 1, _, by omega, by go_num, unhide HN6⟩, by simp [intOf]; omega⟩
   ·go_simp
    refine (ma_first t _).mono ?_
    rintro e w2 ⟨rfl, hb2⟩
    rw [unhide HKD]
    have hb2' : Below wr.heap.size wr w2 := ⟨hb2.os, hb2.tape, hb2.output, hb2.size, hb2.block⟩
    have hm2 := Mods.of_below hb2'
    have O2 := O.mods hm2 (fun j _ hj e => by omega)
    have hr2 := own_mods hr hm2 (fun j hj e => by have := (hr.lt j hj).2; omega)
    have hMb2 := hMb.below hb2' hMb.lt
    have hMM2 := hM.trans (bnone (S := fun k => k = mb) hb2') (fun _ _ e => e)
    obtain ⟨v6, w6, happ6, hO6, hM6, hv6⟩ := app_ex (P := Tryz.prog) (W := w2) 173 173 170 i0 _ 3 24 Tryz.underlying173 hi0 hz0 hz1 hz2 rfl (by decide) w.heap.size _ _ _ O2.row #[.int .i64 kd, .int .i64 0, .pointer none] rfl (fun v hv => by simp only [List.mem_cons, List.not_mem_nil, or_false] at hv; rcases hv with rfl | rfl | rfl <;> rfl) w2.heap.size rfl (by have := unhide HLN; unfold maxLen; omega) (by have := unhide HLN; omega) (by have := hb2'.size; omega)
    obtain ⟨a6, cap6, rfl⟩ := own_form hO6
    have hen : encL A [firstV t] = [.int .i64 kd, .int .i64 0, .pointer none] := by
     show encV A (firstV t) ++ [] = _
     rw [List.append_nil, ← firstC_enc, unhide HKD]
    obtain ⟨O6, hMU, c16, f16⟩ := O2.add (l2 := [firstV t]) hM6 (by rw [encL_app, List.length_append, hen]; exact hO6) rfl
    have c12 : w2.cell? ⟨w.heap.size, 1, none⟩ = some (.slice ra L.length rcap) := O2.blk.cell 1
    have c12a : (w2.alloc (.cells #[.int .i64 kd, .int .i64 0, .pointer none] 170)).cell? ⟨w.heap.size, 1, none⟩ = some (.slice ra L.length rcap) := (O2.blk.alloc _).cell 1
    have hr6 := own_mods hr2 hMU (fun j hj e => by
     rcases e with e | e
     ·exact own_ne hr2 O2.blk (by decide) (e ▸ hj)
     ·exact own_tne hr2 O2.row (by decide) j hj e)
    have hMb6 := hMb2.mods hMU (fun e => by
     rcases e with e | e
     ·omega
     ·have := (O2.row.lt mb e).1; omega)
    have hMM6 := hMM2.trans hMU (fun j hj e => by
     rcases e with e | e
     ·omega
     ·have := (O2.row.lt j e).1; omega)
    have HN6 := hide (And.intro O6 (And.intro hr6 (And.intro hMb6 (And.intro hMM6 (Nat.le_trans (Nat.le_trans hsw hb2'.size) hMU.size)))))
    clear O2 O6 hr2 hr6 hMb2 hMb6 hMM2 hMM6 hMU hO6 hM6 hv6 hb2' hm2 hen
    go_wp2_with fail
    refine hK.out _ _ trivial (fun hHeld => ?_)
    clear hK K
    try simp only [Act.put, List.setIfInBounds_toArray, List.set_cons_zero, List.set_cons_succ]
    refine wpAnyH_ready (rs := [4, 7]) (by kernel_rfl) (by simp) ?_
    refine AllReadyH.cons rfl (fun K hK => ?_) (AllReadyH.cons rfl (fun K hK => ?_) AllReadyH.nil)
    ·go_simp
     refine hK.out _ _ trivial (fun hHeld => ?_)
     clear hK K
     try simp only [Act.put, List.setIfInBounds_toArray, List.set_cons_zero, List.set_cons_succ]
     refine wpAnyH_ready (rs := [7]) (by kernel_rfl) (by simp) ?_
     refine AllReadyH.cons rfl (fun K hK => ?_) AllReadyH.nil
     go_simp
     refine hK.out _ _ trivial (fun hHeld => ?_)
     clear hK K
     try simp only [Act.put, List.setIfInBounds_toArray, List.set_cons_zero, List.set_cons_succ]
     refine wpAnyH_ready (rs := [8]) (by kernel_rfl) (by simp) ?_
     refine AllReadyH.cons rfl (fun K hK => ?_) AllReadyH.nil
     refine wp_append_run (.tmp 33) (.tmp 36) 173 rfl _ _ rfl rfl happ6 ?_
     go_simp
     refine hK.out _ _ trivial (fun hHeld => ?_)
     clear hK K
     try simp only [Act.put, List.setIfInBounds_toArray, List.set_cons_zero, List.set_cons_succ]
     refine take_x (some 38) 9 rfl rfl ?_
     refine take_x (some 39) 10 rfl rfl ?_
     refine wpAnyH_ready (rs := [11]) (by kernel_rfl) (by simp) ?_
     refine AllReadyH.cons rfl (fun K hK => ?_) AllReadyH.nil
     go_simp
     refine hK.out _ _ trivial (fun hHeld => ?_)
     clear hK K
     try simp only [Act.put, List.setIfInBounds_toArray, List.set_cons_zero, List.set_cons_succ]
     refine wpAnyH_done (by kernel_rfl) ?_ _
     refine NoPanic.normal ?_
     generalize w6.setCell _ _ = V6 at *
     have hLk : L ++ [firstV t] = (F.take (k + 1)).map firstV := by
      rw [List.take_add_one, List.map_append, ← unhide HL, unhide HTK]; rfl
     rw [hLk] at HN6
     clear happ6 hLk
     go_wp2_with fail
     refine ⟨⟨k + 1, _, by omega, by go_num, unhide HN6⟩, by simp [intOf]; omega⟩
    ·go_simp
     refine hK.out _ _ trivial (fun hHeld => ?_)
     clear hK K
     try simp only [Act.put, List.setIfInBounds_toArray, List.set_cons_zero, List.set_cons_succ]
     refine wpAnyH_ready (rs := [4]) (by kernel_rfl) (by simp) ?_
     refine AllReadyH.cons rfl (fun K hK => ?_) AllReadyH.nil
     go_simp
     refine hK.out _ _ trivial (fun hHeld => ?_)
     clear hK K
     try simp only [Act.put, List.setIfInBounds_toArray, List.set_cons_zero, List.set_cons_succ]
     refine wpAnyH_ready (rs := [8]) (by kernel_rfl) (by simp) ?_
     refine AllReadyH.cons rfl (fun K hK => ?_) AllReadyH.nil
     refine wp_append_run (.tmp 33) (.tmp 36) 173 rfl _ _ rfl rfl happ6 ?_
     go_simp
     refine hK.out _ _ trivial (fun hHeld => ?_)
     clear hK K
     try simp only [Act.put, List.setIfInBounds_toArray, List.set_cons_zero, List.set_cons_succ]
     refine take_x (some 38) 9 rfl rfl ?_
     refine take_x (some 39) 10 rfl rfl ?_
     refine wpAnyH_ready (rs := [11]) (by kernel_rfl) (by simp) ?_
     refine AllReadyH.cons rfl (fun K hK => ?_) AllReadyH.nil
     go_simp
     refine hK.out _ _ trivial (fun hHeld => ?_)
     clear hK K
     try simp only [Act.put, List.setIfInBounds_toArray, List.set_cons_zero, List.set_cons_succ]
     refine wpAnyH_done (by kernel_rfl) ?_ _
     refine NoPanic.normal ?_
     generalize w6.setCell _ _ = V6 at *
     have hLk : L ++ [firstV t] = (F.take (k + 1)).map firstV := by
      rw [List.take_add_one, List.map_append, ← unhide HL, unhide HTK]; rfl
     rw [hLk] at HN6
     clear happ6 hLk
     go_wp2_with fail
     refine ⟨⟨k + 1, _, by omega, by go_num, unhide HN6⟩, by simp [intOf]; omega⟩
  ·obtain rfl : k = F.length := by omega
   rw [List.take_length] at O
   have HN : Hid (CrR A c (fieldsOf p c) mb (machC (.slice pa p.length pcap) fuel ask vr (n + 1) A told vpr steps) w wr (.returned (.pointer (some ⟨w.heap.size, 0, none⟩)))) := by
    show CrR _ _ _ _ _ _ _ _
    rw [unhide HF]
    exact ⟨_, _, rfl, O, hMb, hM⟩
   clear O hr hMb hM
   go_wp2_with fail
   go_ret
   exact unhide HN
end Go.Proofs.YtiiokkllmchohaaGreat
/- The machine in memory: an object more, a frame more. -/
namespace Go.Proofs.YtiiokkllmchohaaGreat
open Go.RowKit Go.Shelf

theorem machC_more (vp : Value) (fuel : Int) (ask : Bool) (vr : Value) (n : Nat) (A C : List Nat) (told : LVal) (vpr : Value) (steps : Nat) (h : okV A told) : machC vp fuel ask vr n (A ++ C) told vpr steps = machC vp fuel ask vr n A told vpr steps := by
 unfold machC
 rw [objP_more A C h]
theorem firstV_ok (A : List Nat) (t : Int) : okV A (firstV t) := fun k hk => by
 unfold firstV at hk
 split at hk <;> cases hk
section
variable {w0 w w' : World} {ρ : Nat → Nat × Nat} {mb : Nat} {vp : Value} {fuel : Int} {ask : Bool} {st : MaSt} {A : List Nat} {X : List FrX} {Y : List Value} {vr vpr : Value}
theorem MaA.lt (h : MaA w0 w ρ mb vp fuel ask st A X Y vr vpr) : mb < w.heap.size := h.mach.lt
theorem MaA.newObj (h : MaA w0 w ρ mb vp fuel ask st A X Y vr vpr) {b : Nat} {c : Int} {v : Value} {fl : List Int} (O : ObA w w' A b c v (fl.map firstV)) (hMb : Blk w' mb 172 (machC vp fuel ask vr (st.objs.length + 1) A st.told vpr st.steps)) (hM : Mods (fun k => k = mb) w w') :
  ∃ ρ', MaA w0 w' ρ' mb vp fuel ask { st with objs := st.objs ++ [⟨c, fl.map firstV⟩] } (A ++ [b]) X (Y ++ [v]) vr vpr := by
 obtain ⟨ρ', hρ⟩ : ∃ ρ' : Nat → Nat × Nat, ρ' = fun k => if w.heap.size ≤ k then (if k = b then (3, st.objs.length) else (4, st.objs.length)) else ρ k := ⟨_, rfl⟩
 have s : Same w.heap.size ρ ρ' := fun k hk => by rw [hρ]; show (if _ then _ else _) = _; rw [if_neg (by omega)]
 have hq : ∀ k, k < w.heap.size → k = mb → ∀ r, r ≠ (5, 0) → ρ k ≠ r := fun k _ e r hr e' => hr (e' ▸ e ▸ h.rmb)
 have hz := h.bel.size
 have hmb := h.lt
 have hne : ∀ g, v.ownBlock = some g → g ≠ b := fun g hg e => own_ne O.row O.blk tv_ne_ob (e ▸ hg)
 refine ⟨ρ', ?_⟩
 refine ⟨?_, h.base, (s _ hmb).trans h.rmb, own_mods h.run hM (fun g hg e => hq g (h.run.lt g hg).2 e (6, 0) (by simp) (h.rvr g hg)), h.rvr.same s (fun g hg => (h.run.lt g hg).2), own_mods h.prn hM (fun g hg e => hq g (h.prn.lt g hg).2 e (7, 0) (by simp) (h.rpr g hg)), h.rpr.same s (fun g hg => (h.prn.lt g hg).2), h.lx, fun i f x hf hx => ((h.fr i f x hf hx).mods hM s (fun k hk e => ⟨hq k hk e _ (by simp), hq k hk e _ (by simp), hq k hk e _ (by simp)⟩)).more [b], by simp [h.la], by simp [h.ly], ?_, okV_more [b] h.okt, h.bel.trans (hM.below hz (fun k hk e => by have := h.base; omega)), fun k hk => (s k (by omega)).trans (h.low k hk)⟩
 ·show Blk w' mb _ (machC vp fuel ask vr (st.objs ++ [_]).length (A ++ [b]) st.told vpr st.steps)
  rw [List.length_append, machC_more _ _ _ _ _ _ _ _ _ _ h.okt]
  exact hMb
 ·intro k o b' v' h1 h2 h3
  by_cases hk : k < st.objs.length
  ·rw [List.getElem?_append_left hk] at h1
   rw [List.getElem?_append_left (by rw [h.la]; exact hk)] at h2
   rw [List.getElem?_append_left (by rw [h.ly]; exact hk)] at h3
   exact ((h.ob k o b' v' h1 h2 h3).mods hM s (fun j hj e => ⟨hq j hj e _ (by simp), hq j hj e _ (by simp)⟩)).more [b]
  ·have hk' : k < (st.objs ++ [(⟨c, fl.map firstV⟩ : LObj)]).length := (List.getElem?_eq_some_iff.1 h1).1
   obtain rfl : k = st.objs.length := by simp at hk'; omega
   rw [List.getElem?_append_right (Nat.le_refl _), Nat.sub_self] at h1
   rw [List.getElem?_append_right (by rw [h.la]; exact Nat.le_refl _), h.la, Nat.sub_self] at h2
   rw [List.getElem?_append_right (by rw [h.ly]; exact Nat.le_refl _), h.ly, Nat.sub_self] at h3
   obtain rfl : _ = o := by simpa using h1
   obtain rfl : b = b' := by simpa using h2
   obtain rfl : v = v' := by simpa using h3
   refine ⟨O.blk, by have := O.new; omega, ?_, ?_, fun g hg => ?_, fun u hu => ?_⟩
   ·rw [encL_more A [b] (fun u hu => by obtain ⟨t, _, rfl⟩ := List.mem_map.1 hu; exact firstV_ok A t)]
    exact own_base O.row hz
   ·rw [hρ]; show (if _ then _ else _) = _; rw [if_pos O.new, if_pos rfl]
   ·rw [hρ]; show (if _ then _ else _) = _; rw [if_pos (O.row.lt g hg).1, if_neg (hne g hg)]
   ·obtain ⟨t, _, rfl⟩ := List.mem_map.1 hu; exact firstV_ok _ t
theorem tp_ne_ma : 231 ≠ 172 := by decide
theorem MaA.pushFr (h : MaA w0 w ρ mb vp fuel ask st A X Y vr vpr) {w2 w3 w4 U : World} {fb : Nat} {m : LMeth} {va vco vf : Value} {loc : List LVal} {vl vr' : Value} (hb2 : Below w.heap.size w w2) (N : NFr w2 w3 A fb (methCs m va vco vf) loc vl) (hG : GVals w0.cell? m va vco vf) (okl : ∀ v ∈ loc, okV A v)
  (hO : w4.ownsRow w0.heap.size 231 1 vr' (X.length + 1) ((X.map fun x => Value.pointer (some ⟨x.fb, 0, none⟩)) ++ [.pointer (some ⟨fb, 0, none⟩)])) (hM : Mods (fun k => vr.ownBlock = some k) w3 w4) (hv : vr'.ownBlock = vr.ownBlock ∨ ∃ k, w3.heap.size ≤ k ∧ vr'.ownBlock = some k) (hU : U = w4.setCell ⟨mb, 3, none⟩ vr') :
  ∃ ρ', MaA w0 U ρ' mb vp fuel ask { st with frames := st.frames ++ [⟨m, 0, loc, []⟩] } A (X ++ [⟨fb, methCs m va vco vf, vl, .slice none 0 0⟩]) Y vr' vpr := by
 subst hU
 have hz := h.bel.size
 have hz2 := hb2.size
 have hmb := h.lt
 have hb3 := hb2.trans (N.bel.mono hz2)
 have hz3 := hb3.size
 have lfb := N.fr.blk.lt
 have nfb := N.new
 obtain ⟨ρ', hρ⟩ : ∃ ρ' : Nat → Nat × Nat, ρ' = fun k => if w3.heap.size ≤ k then (6, 0) else if w.heap.size ≤ k then (if k = fb then (0, X.length) else (1, X.length)) else ρ k := ⟨_, rfl⟩
 have s : Same w.heap.size ρ ρ' := fun k hk => by rw [hρ]; show (if _ then _ else (if _ then _ else _)) = _; rw [if_neg (by omega), if_neg (by omega)]
 have hm3 := Mods.of_below hb3
 have hmach3 := h.mach.below hb3 hmb
 have hne3 : ¬ vr.ownBlock = some mb := own_ne h.run h.mach tp_ne_ma
 have hmach4 := hmach3.mods hM hne3
 have hM5 : Mods (fun k => k = mb) w4 (w4.setCell ⟨mb, 3, none⟩ vr') := (Mods.refl (fun k => k = mb) w4).setCell (p := ⟨mb, 3, none⟩) (fun _ => rfl) _
 have hmach5 := hmach4.setCell 3 vr'
 have hMA : Mods (fun k => w.heap.size ≤ k ∨ k = mb ∨ vr.ownBlock = some k) w (w4.setCell ⟨mb, 3, none⟩ vr') := ((hm3.mono (fun _ _ e => .inl e)).trans hM (fun _ _ e => .inr (.inr e))).trans hM5 (fun _ _ e => .inr (.inl e))
 have hq : ∀ k, k < w.heap.size → (w.heap.size ≤ k ∨ k = mb ∨ vr.ownBlock = some k) → ∀ r, r ≠ (5, 0) → r ≠ (6, 0) → ρ k ≠ r := fun k hk e r h5 h6 e' => by
  rcases e with e | e | e
  ·omega
  ·exact h5 (e' ▸ e ▸ h.rmb)
  ·exact h6 (e' ▸ h.rvr k e)
 have hMN : Mods (fun k => k = mb ∨ vr.ownBlock = some k) w3 (w4.setCell ⟨mb, 3, none⟩ vr') := (hM.mono (fun _ _ e => .inr e)).trans hM5 (fun _ _ e => .inl e)
 have hnn : ∀ k, w.heap.size ≤ k → ¬ (k = mb ∨ vr.ownBlock = some k) := fun k hk e => by
  rcases e with e | e
  ·omega
  ·have := (h.run.lt k e).2; omega
 have hFN : FrA (w4.setCell ⟨mb, 3, none⟩ vr') w2.heap.size A fb (methCs m va vco vf) 0 vl loc (.slice none 0 0) [] := N.fr.mods hMN (hnn _ (by omega)) (fun g hg => hnn g (by have := (N.fr.lo.lt g hg).1; omega)) (fun g hg => by cases hg)
 refine ⟨ρ', ?_⟩
 refine ⟨hmach5, h.base, (s _ hmb).trans h.rmb, ?_, fun g hg => ?_, own_mods h.prn hMA (fun g hg e => hq g (h.prn.lt g hg).2 e (7, 0) (by simp) (by simp) (h.rpr g hg)), h.rpr.same s (fun g hg => (h.prn.lt g hg).2), by simp [h.lx], ?_, h.la, h.ly, fun k o b v h1 h2 h3 => (h.ob k o b v h1 h2 h3).mods hMA s (fun j hj e => ⟨hq j hj e _ (by simp) (by simp), hq j hj e _ (by simp) (by simp)⟩), h.okt, ?_, fun k hk => (s k (by omega)).trans (h.low k hk)⟩
 ·rw [List.length_append, List.map_append]
  exact own_mods hO hM5 (fun g hg e => own_ne hO hmach4 tp_ne_ma (e ▸ hg))
 ·rcases hv with e | ⟨k, hk, e⟩
  ·rw [e] at hg
   exact (s g (h.run.lt g hg).2).trans (h.rvr g hg)
  ·rw [e] at hg; cases hg
   rw [hρ]; show (if _ then _ else _) = _; rw [if_pos hk]
 ·intro i f x hf hx
  by_cases hi : i < st.frames.length
  ·rw [List.getElem?_append_left hi] at hf
   rw [List.getElem?_append_left (by rw [h.lx]; exact hi)] at hx
   exact (h.fr i f x hf hx).mods hMA s (fun k hk e => ⟨hq k hk e _ (by simp) (by simp), hq k hk e _ (by simp) (by simp), hq k hk e _ (by simp) (by simp)⟩)
  ·have hi' : i < (st.frames ++ [(⟨m, 0, loc, []⟩ : MFr)]).length := (List.getElem?_eq_some_iff.1 hf).1
   obtain rfl : i = st.frames.length := by simp at hi'; omega
   rw [List.getElem?_append_right (Nat.le_refl _), Nat.sub_self] at hf
   rw [List.getElem?_append_right (by rw [h.lx]; exact Nat.le_refl _), h.lx, Nat.sub_self] at hx
   obtain rfl : _ = f := by simpa using hf
   obtain rfl : _ = x := by simpa using hx
   have p1 : w0.heap.size ≤ fb := by omega
   have p2 : ¬ w3.heap.size ≤ fb := by omega
   have p3 : w.heap.size ≤ fb := by omega
   refine ⟨⟨hFN.blk, hFN.l7, p1, own_base hFN.lo (by omega), own_base hFN.st (by omega), hFN.ne⟩, ⟨va, vco, vf, rfl, hG⟩, ?_, fun g hg => ?_, fun g hg => (by cases hg), okl, fun v hv => (by cases hv)⟩
   ·show ρ' fb = _
    rw [hρ]; show (if _ then _ else (if _ then (if _ then _ else _) else _)) = _
    rw [if_neg p2, if_pos p3, if_pos rfl, h.lx]
   ·have hgl := N.fr.lo.lt g hg
    rw [hρ]; show (if _ then _ else (if _ then (if _ then _ else _) else _)) = _
    rw [if_neg (by omega), if_pos (by omega), if_neg (fun (e : g = fb) => own_ne N.fr.lo N.fr.blk tv_ne_fr (e ▸ hg)), h.lx]
 ·refine h.bel.trans (hMA.below hz (fun k hk e => ?_))
  rcases e with e | e | e
  ·omega
  ·have := h.base; omega
  ·have := (h.run.lt k e).1; omega
end
end Go.Proofs.YtiiokkllmchohaaGreat
