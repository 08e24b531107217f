/- The machine: create. -/
import Derived.Test.YtiiokkllmchohaaGreatT18
/- MacK -/
namespace Go.Proofs.YtiiokkllmchohaaGreat
open Go.RowKit Go.Shelf
attribute [local go_sem ↓] Go.wp_at_zero Go.wp_at_succ
attribute [local go_sem] frz_drew

def firstV (t : Int) : LVal := if t = 0 then numbV 0 else nullV
theorem firstC_enc (A : List Nat) (t : Int) : firstC t = encV A (firstV t) := by
  unfold firstC firstV
  split <;> rfl
theorem tv_ne_ob : 170 ≠ 234 := by decide
theorem firstC_form (t : Int) : ∃ kd, firstC t = [.int .i64 kd, .int .i64 0, .pointer none] := by
  unfold firstC
  split
  · exact ⟨0, rfl⟩
  · exact ⟨1, rfl⟩
theorem own_tne {w : World} {B C : Nat} {e d : TypeId} {sz sy : Nat} {v u : Value} {n m : Nat} {xs ys : List Value} (h : w.ownsRow B e sz v n xs) (k : w.ownsRow C d sy u m ys) (he : e ≠ d) (g : Nat) (hg : v.ownBlock = some g) : u.ownBlock ≠ some g := fun hu => by
  obtain ⟨cur, hc⟩ := own_blk h hg
  obtain ⟨cur', hc'⟩ := own_blk k hu
  exact he (hc.uniq hc')
structure ObA (w V : World) (A : List Nat) (b : Nat) (c : Int) (v : Value) (l : List LVal) : Prop where
  blk : Blk V b 234 [.int .i64 c, v]
  row : V.ownsRow w.heap.size 170 3 v l.length (encL A l)
  new : w.heap.size ≤ b
theorem ObA.add {w V W U : World} {A : List Nat} {b : Nat} {c : Int} {v v' : Value} {l l2 : List LVal} (h : ObA w V A b c v l) (hM : Mods (fun k => v.ownBlock = some k) V W) (hO : W.ownsRow w.heap.size 170 3 v' (l ++ l2).length (encL A (l ++ l2))) (hU : U = W.setCell ⟨b, 1, none⟩ v') :
    ObA w U A b c v' (l ++ l2) ∧ Mods (fun k => k = b ∨ v.ownBlock = some k) V U ∧ W.cell? ⟨b, 1, none⟩ = some v ∧ W.frozen? ⟨b, 1, none⟩ = false := by
  subst hU
  have hbk := h.blk.mods hM (own_ne h.row h.blk tv_ne_ob)
  have hM4 : Mods (fun k => k = b) W (W.setCell ⟨b, 1, none⟩ v') := (Mods.refl (fun k => k = b) W).setCell (p := ⟨b, 1, none⟩) (fun _ => rfl) _
  refine ⟨⟨hbk.setCell 1 v', own_mods hO hM4 (fun g hg e => own_ne hO hbk tv_ne_ob (e ▸ hg)), h.new⟩, ?_, hbk.cell 1, hbk.frozen 1⟩
  exact (hM.mono (fun k _ e => .inr e)).trans hM4 (fun k _ e => .inl e)
theorem ObA.mods {S : Nat → Prop} {w V U : World} {A : List Nat} {b : Nat} {c : Int} {v : Value} {l : List LVal} (h : ObA w V A b c v l) (hM : Mods S V U) (hS : ∀ k, w.heap.size ≤ k → k < V.heap.size → ¬ S k) : ObA w U A b c v l :=
  ⟨h.blk.mods hM (hS b h.new h.blk.lt), own_mods h.row hM (fun g hg => hS g (h.row.lt g hg).1 (h.row.lt g hg).2), h.new⟩
def CrR (A : List Nat) (c : Int) (fl : List Int) (mb : Nat) (mcs : List Value) (w w' : World) (e : Ending) : Prop :=
  ∃ b v, e = .returned (.pointer (some ⟨b, 0, none⟩)) ∧ ObA w w' A b c v (fl.map firstV) ∧ Blk w' mb 172 mcs ∧ Mods (fun k => k = mb) w w'
set_option maxHeartbeats 1000000 in
set_option maxRecDepth 100000 in
theorem ma_create (p : List LClass) (vp : Value) (c : Int) (w0 w : World) (mb : Nat) (fuel : Int) (ask : Bool) (vr : Value) (n : Nat) (A : List Nat) (told : LVal) (vpr : Value) (steps : Nat) (hp : RProg w0 vp p) (hb0 : Below w0.heap.size w0 w) (hmb : w0.heap.size ≤ mb) (hB : Blk w mb 172 (machC vp fuel ask vr n A told vpr steps)) (hs : SupOk p p.length) (hz : szProg p ≤ 4194304) (c0 : 0 ≤ c) (c1 : c < (p.length : Int)) (hn : n ≤ 4194304) :
    Calls Tryz.prog 112 #[.pointer (some ⟨mb, 0, none⟩), .int .i64 c] w fun e w' => CrR A c (fieldsOf p c) mb (machC vp fuel ask vr (n + 1) A told vpr steps) w w' e := by
  obtain ⟨i0, hi0, hz0, hz1, hz2⟩ := info_parts infoVal
  have HP := hide hp
  obtain ⟨pa, _, _, pcap, rfl, _⟩ := hp
  have c4 : w.cell? ⟨mb, 4, none⟩ = some (.int .i64 (n : Int)) := hB.cell 4
  have f4 := hB.frozen 4
  have hB1 := hB.setCell 4 (.int .i64 ((n : Int) + 1))
  have hM1 : Mods (fun k => k = mb) w (w.setCell ⟨mb, 4, none⟩ (.int .i64 ((n : Int) + 1))) := (Mods.refl (fun k => k = mb) w).setCell (p := ⟨mb, 4, none⟩) (fun _ => rfl) _
  have hlt := hB.lt
  have hmc : (machC (.slice pa p.length pcap) fuel ask vr n A told vpr steps).set 4 (.int .i64 ((n : Int) + 1)) = machC (.slice pa p.length pcap) fuel ask vr (n + 1) A told vpr steps := rfl
  rw [hmc] at hB1
  have hB2 := hB1.alloc (.cells #[.int .i64 c, .slice none 0 0] 234)
  have k0 : ((w.setCell ⟨mb, 4, none⟩ (.int .i64 ((n : Int) + 1))).alloc (.cells #[.int .i64 c, .slice none 0 0] 234)).cell? ⟨mb, 0, none⟩ = some (.slice pa p.length pcap) := hB2.cell 0
  have hM2 := hM1.alloc (.cells #[.int .i64 c, .slice none 0 0] 234)
  have hsz1 : (w.setCell ⟨mb, 4, none⟩ (.int .i64 ((n : Int) + 1))).heap.size = w.heap.size := by simp
  have O2 := Blk.new (w.setCell ⟨mb, 4, none⟩ (.int .i64 ((n : Int) + 1))) #[.int .i64 c, .slice none 0 0] 234
  rw [hsz1] at O2
  go_enter Tryz.func112, Tryz.ntmps112
  go_wp2_with fail
  clear hsz1 hmc f4 c4 k0 hB hM1
  generalize (w.setCell _ _).alloc _ = W at *
  have hbW : Below w0.heap.size w0 W := hb0.trans (hM2.below hb0.size (fun k hk e => by omega))
  refine (code_fields p hs hz (c + 1).toNat c _ W (prog_keep (Keeps.of_below hbW) (unhide HP)) (by omega) c1 (Nat.le_refl _)).mono ?_
  rintro e w1 ⟨v', rfl, hown, hb1⟩
  obtain ⟨fa, fcap, rfl⟩ := own_form hown
  have hfl : (fieldsOf p c).length ≤ 4194304 := by
    obtain ⟨cn, rfl⟩ : ∃ cn : Nat, c = (cn : Int) := ⟨c.toNat, by omega⟩
    exact Nat.le_trans (fieldsOf_sz p hs (by omega)) hz
  have hW1 := hb1.size
  have lW := O2.lt
  have O0 : ObA w w1 A w.heap.size c (.slice none 0 0) [] := ⟨O2.below hb1 O2.lt, World.ownsRow_nil _ _ _ _, Nat.le_refl _⟩
  have M1 := hB2.below hb1 hB2.lt
  have MM := hM2.trans (bnone (S := fun k => k = mb) hb1) (fun _ _ e => e)
  clear hB1 hB2 hM2 O2 hb1
  generalize hF : fieldsOf p c = F at *
  have HF := hide hF
  clear hF
  have HI0 : Hid (ObA w w1 A w.heap.size c (.slice none 0 0) ((F.take 0).map firstV) ∧ w1.ownsRow W.heap.size 43 1 (.slice fa F.length fcap) F.length (F.map (Value.int .i64)) ∧ Blk w1 mb 172 (machC (.slice pa p.length pcap) fuel ask vr (n + 1) A told vpr steps) ∧ Mods (fun k => k = mb) w w1 ∧ W.heap.size ≤ w1.heap.size) := ⟨O0, hown, M1, MM, hW1⟩
  clear O0 hown M1 MM hW1
  go_wp2_with fail
  go_loopw [25] (fun i wr => ∃ (k : Nat) (v : Value), k ≤ F.length ∧ i = .int .i64 k ∧ ObA w wr A w.heap.size c v ((F.take k).map firstV) ∧ wr.ownsRow W.heap.size 43 1 (.slice fa F.length fcap) F.length (F.map (Value.int .i64)) ∧ Blk wr mb 172 (machC (.slice pa p.length pcap) fuel ask vr (n + 1) A told vpr steps) ∧ Mods (fun k => k = mb) w wr ∧ W.heap.size ≤ wr.heap.size) (fun i _ => F.length - (intOf i).toNat)
  case atStart => exact ⟨0, _, Nat.zero_le _, rfl, unhide HI0⟩
  case round =>
    obtain ⟨k, v, hk, rfl, O, hr, hMb, hM, hsw⟩ := hrel
    by_cases hlt2 : k < F.length
    · obtain ⟨g, cap, hfe, hcap, hgb, hrd⟩ := own_read hr (by omega)
      simp only [Value.slice.injEq, true_and] at hfe
      obtain ⟨rfl, rfl⟩ := hfe
      obtain ⟨t, ht⟩ : ∃ t, F[k]? = some t := ⟨_, List.getElem?_eq_getElem hlt2⟩
      have r0 : wr.cell? ⟨g, k, none⟩ = some (.int .i64 t) := by rw [hrd _ (by omega), List.getElem?_map, ht]; rfl
      obtain ⟨L, hL⟩ : ∃ L, L = (F.take k).map firstV := ⟨_, rfl⟩
      have hLl : L.length = k := by rw [hL]; simp; omega
      have HL := hide hL
      rw [← hL] at O
      have HTK := hide ht
      clear hL ht hrd
      obtain ⟨ra, rcap, rfl⟩ := own_form O.row
      have c1 : wr.cell? ⟨w.heap.size, 1, none⟩ = some (.slice ra L.length rcap) := O.blk.cell 1
      have k0 : (0 : Int) ≤ (k : Int) := by omega
      have k1 : (k : Int) < (F.length : Int) := by omega
      obtain ⟨kd, hkd⟩ := firstC_form t
      have HKD := hide hkd
      have HLN := hide hLl
      clear hkd hLl
      go_wp2_with fail
      refine wp_region_noPanic ?_
      refine wp_region_held_drew (S := (fun _ => True)) (by kernel_rfl) ?_ (fun hHeld => ?_)
      · exact trivial
      refine take_x (some 29) 0 rfl rfl ?_
      try simp only [Act.put, List.setIfInBounds_toArray, List.set_cons_zero, List.set_cons_succ]
      refine take_x (some 30) 1 rfl rfl ?_
      try simp only [Act.put, List.setIfInBounds_toArray, List.set_cons_zero, List.set_cons_succ]
      refine take_x (some 31) 2 rfl rfl ?_
      try simp only [Act.put, List.setIfInBounds_toArray, List.set_cons_zero, List.set_cons_succ]
      refine take_x (some 32) 3 rfl rfl ?_
      try simp only [Act.put, List.setIfInBounds_toArray, List.set_cons_zero, List.set_cons_succ]
      refine take_x (some 34) 5 rfl rfl ?_
      try simp only [Act.put, List.setIfInBounds_toArray, List.set_cons_zero, List.set_cons_succ]
      refine wpAnyH_ready (rs := [4, 6]) (by kernel_rfl) (by simp) ?_
      refine AllReadyH.cons rfl (fun K hK => ?_) (AllReadyH.cons rfl (fun K hK => ?_) AllReadyH.nil)
      · go_simp
        refine hK.out _ _ trivial (fun hHeld => ?_)
        clear hK K
        try simp only [Act.put, List.setIfInBounds_toArray, List.set_cons_zero, List.set_cons_succ]
        refine wpAnyH_ready (rs := [6]) (by kernel_rfl) (by simp) ?_
        refine AllReadyH.cons rfl (fun K hK => ?_) AllReadyH.nil
        go_simp
        refine (ma_first t _).mono ?_
        rintro e w2 ⟨rfl, hb2⟩
        rw [unhide HKD]
        have hb2' : Below wr.heap.size wr w2 := ⟨hb2.os, hb2.tape, hb2.output, hb2.size, hb2.block⟩
        have hm2 := Mods.of_below hb2'
        have O2 := O.mods hm2 (fun j _ hj e => by omega)
        have hr2 := own_mods hr hm2 (fun j hj e => by have := (hr.lt j hj).2; omega)
        have hMb2 := hMb.below hb2' hMb.lt
        have hMM2 := hM.trans (bnone (S := fun k => k = mb) hb2') (fun _ _ e => e)
        obtain ⟨v6, w6, happ6, hO6, hM6, hv6⟩ := app_ex (P := Tryz.prog) (W := w2) 173 173 170 i0 _ 3 24 Tryz.underlying173 hi0 hz0 hz1 hz2 rfl (by decide) w.heap.size _ _ _ O2.row #[.int .i64 kd, .int .i64 0, .pointer none] rfl (fun v hv => by simp only [List.mem_cons, List.not_mem_nil, or_false] at hv; rcases hv with rfl | rfl | rfl <;> rfl) w2.heap.size rfl (by have := unhide HLN; unfold maxLen; omega) (by have := unhide HLN; omega) (by have := hb2'.size; omega)
        obtain ⟨a6, cap6, rfl⟩ := own_form hO6
        have hen : encL A [firstV t] = [.int .i64 kd, .int .i64 0, .pointer none] := by
          show encV A (firstV t) ++ [] = _
          rw [List.append_nil, ← firstC_enc, unhide HKD]
        obtain ⟨O6, hMU, c16, f16⟩ := O2.add (l2 := [firstV t]) hM6 (by rw [encL_app, List.length_append, hen]; exact hO6) rfl
        have c12 : w2.cell? ⟨w.heap.size, 1, none⟩ = some (.slice ra L.length rcap) := O2.blk.cell 1
        have c12a : (w2.alloc (.cells #[.int .i64 kd, .int .i64 0, .pointer none] 170)).cell? ⟨w.heap.size, 1, none⟩ = some (.slice ra L.length rcap) := (O2.blk.alloc _).cell 1
        have hr6 := own_mods hr2 hMU (fun j hj e => by
          rcases e with e | e
          · exact own_ne hr2 O2.blk (by decide) (e ▸ hj)
          · exact own_tne hr2 O2.row (by decide) j hj e)
        have hMb6 := hMb2.mods hMU (fun e => by
          rcases e with e | e
          · omega
          · have := (O2.row.lt mb e).1; omega)
        have hMM6 := hMM2.trans hMU (fun j hj e => by
          rcases e with e | e
          · omega
          · have := (O2.row.lt j e).1; omega)
        have HN6 := hide (And.intro O6 (And.intro hr6 (And.intro hMb6 (And.intro hMM6 (Nat.le_trans (Nat.le_trans hsw hb2'.size) hMU.size)))))
        clear O2 O6 hr2 hr6 hMb2 hMb6 hMM2 hMM6 hMU hO6 hM6 hv6 hb2' hm2 hen
        go_wp2_with fail
        refine hK.out _ _ trivial (fun hHeld => ?_)
        clear hK K
        try simp only [Act.put, List.setIfInBounds_toArray, List.set_cons_zero, List.set_cons_succ]
        refine wpAnyH_ready (rs := [7]) (by kernel_rfl) (by simp) ?_
        refine AllReadyH.cons rfl (fun K hK => ?_) AllReadyH.nil
        go_simp
        refine hK.out _ _ trivial (fun hHeld => ?_)
        clear hK K
        try simp only [Act.put, List.setIfInBounds_toArray, List.set_cons_zero, List.set_cons_succ]
        refine wpAnyH_ready (rs := [8]) (by kernel_rfl) (by simp) ?_
        refine AllReadyH.cons rfl (fun K hK => ?_) AllReadyH.nil
        refine wp_append_run (.tmp 33) (.tmp 36) 173 rfl _ _ rfl rfl happ6 ?_
        go_simp
        refine hK.out _ _ trivial (fun hHeld => ?_)
        clear hK K
        try simp only [Act.put, List.setIfInBounds_toArray, List.set_cons_zero, List.set_cons_succ]
        refine take_x (some 38) 9 rfl rfl ?_
        try simp only [Act.put, List.setIfInBounds_toArray, List.set_cons_zero, List.set_cons_succ]
        refine take_x (some 39) 10 rfl rfl ?_
        try simp only [Act.put, List.setIfInBounds_toArray, List.set_cons_zero, List.set_cons_succ]
        refine wpAnyH_ready (rs := [11]) (by kernel_rfl) (by simp) ?_
        refine AllReadyH.cons rfl (fun K hK => ?_) AllReadyH.nil
        go_simp
        refine hK.out _ _ trivial (fun hHeld => ?_)
        clear hK K
        try simp only [Act.put, List.setIfInBounds_toArray, List.set_cons_zero, List.set_cons_succ]
        refine wpAnyH_done (by kernel_rfl) ?_ _
        refine NoPanic.normal ?_
        generalize w6.setCell _ _ = V6 at *
        have hLk : L ++ [firstV t] = (F.take (k + 1)).map firstV := by
          rw [List.take_add_one, List.map_append, ← unhide HL, unhide HTK]; rfl
        rw [hLk] at HN6
        clear happ6 hLk
        go_wp2_with fail
        refine ⟨⟨k + 1, _, by omega, by go_num, unhide HN6⟩, by simp [intOf]; omega⟩
      · go_simp
        refine (ma_first t _).mono ?_
        rintro e w2 ⟨rfl, hb2⟩
        rw [unhide HKD]
        have hb2' : Below wr.heap.size wr w2 := ⟨hb2.os, hb2.tape, hb2.output, hb2.size, hb2.block⟩
        have hm2 := Mods.of_below hb2'
        have O2 := O.mods hm2 (fun j _ hj e => by omega)
        have hr2 := own_mods hr hm2 (fun j hj e => by have := (hr.lt j hj).2; omega)
        have hMb2 := hMb.below hb2' hMb.lt
        have hMM2 := hM.trans (bnone (S := fun k => k = mb) hb2') (fun _ _ e => e)
        obtain ⟨v6, w6, happ6, hO6, hM6, hv6⟩ := app_ex (P := Tryz.prog) (W := w2) 173 173 170 i0 _ 3 24 Tryz.underlying173 hi0 hz0 hz1 hz2 rfl (by decide) w.heap.size _ _ _ O2.row #[.int .i64 kd, .int .i64 0, .pointer none] rfl (fun v hv => by simp only [List.mem_cons, List.not_mem_nil, or_false] at hv; rcases hv with rfl | rfl | rfl <;> rfl) w2.heap.size rfl (by have := unhide HLN; unfold maxLen; omega) (by have := unhide HLN; omega) (by have := hb2'.size; omega)
        obtain ⟨a6, cap6, rfl⟩ := own_form hO6
        have hen : encL A [firstV t] = [.int .i64 kd, .int .i64 0, .pointer none] := by
          show encV A (firstV t) ++ [] = _
          rw [List.append_nil, ← firstC_enc, unhide HKD]
        obtain ⟨O6, hMU, c16, f16⟩ := O2.add (l2 := [firstV t]) hM6 (by rw [encL_app, List.length_append, hen]; exact hO6) rfl
        have c12 : w2.cell? ⟨w.heap.size, 1, none⟩ = some (.slice ra L.length rcap) := O2.blk.cell 1
        have c12a : (w2.alloc (.cells #[.int .i64 kd, .int .i64 0, .pointer none] 170)).cell? ⟨w.heap.size, 1, none⟩ = some (.slice ra L.length rcap) := (O2.blk.alloc _).cell 1
        have hr6 := own_mods hr2 hMU (fun j hj e => by
          rcases e with e | e
          · exact own_ne hr2 O2.blk (by decide) (e ▸ hj)
          · exact own_tne hr2 O2.row (by decide) j hj e)
        have hMb6 := hMb2.mods hMU (fun e => by
          rcases e with e | e
          · omega
          · have := (O2.row.lt mb e).1; omega)
        have hMM6 := hMM2.trans hMU (fun j hj e => by
          rcases e with e | e
          · omega
          · have := (O2.row.lt j e).1; omega)
        have HN6 := hide (And.intro O6 (And.intro hr6 (And.intro hMb6 (And.intro hMM6 (Nat.le_trans (Nat.le_trans hsw hb2'.size) hMU.size)))))
        clear O2 O6 hr2 hr6 hMb2 hMb6 hMM2 hMM6 hMU hO6 hM6 hv6 hb2' hm2 hen
        go_wp2_with fail
        refine hK.out _ _ trivial (fun hHeld => ?_)
        clear hK K
        try simp only [Act.put, List.setIfInBounds_toArray, List.set_cons_zero, List.set_cons_succ]
        refine wpAnyH_ready (rs := [4, 7]) (by kernel_rfl) (by simp) ?_
        refine AllReadyH.cons rfl (fun K hK => ?_) (AllReadyH.cons rfl (fun K hK => ?_) AllReadyH.nil)
        · go_simp
          refine hK.out _ _ trivial (fun hHeld => ?_)
          clear hK K
          try simp only [Act.put, List.setIfInBounds_toArray, List.set_cons_zero, List.set_cons_succ]
          refine wpAnyH_ready (rs := [7]) (by kernel_rfl) (by simp) ?_
          refine AllReadyH.cons rfl (fun K hK => ?_) AllReadyH.nil
          go_simp
          refine hK.out _ _ trivial (fun hHeld => ?_)
          clear hK K
          try simp only [Act.put, List.setIfInBounds_toArray, List.set_cons_zero, List.set_cons_succ]
          refine wpAnyH_ready (rs := [8]) (by kernel_rfl) (by simp) ?_
          refine AllReadyH.cons rfl (fun K hK => ?_) AllReadyH.nil
          refine wp_append_run (.tmp 33) (.tmp 36) 173 rfl _ _ rfl rfl happ6 ?_
          go_simp
          refine hK.out _ _ trivial (fun hHeld => ?_)
          clear hK K
          try simp only [Act.put, List.setIfInBounds_toArray, List.set_cons_zero, List.set_cons_succ]
          refine take_x (some 38) 9 rfl rfl ?_
          try simp only [Act.put, List.setIfInBounds_toArray, List.set_cons_zero, List.set_cons_succ]
          refine take_x (some 39) 10 rfl rfl ?_
          try simp only [Act.put, List.setIfInBounds_toArray, List.set_cons_zero, List.set_cons_succ]
          refine wpAnyH_ready (rs := [11]) (by kernel_rfl) (by simp) ?_
          refine AllReadyH.cons rfl (fun K hK => ?_) AllReadyH.nil
          go_simp
          refine hK.out _ _ trivial (fun hHeld => ?_)
          clear hK K
          try simp only [Act.put, List.setIfInBounds_toArray, List.set_cons_zero, List.set_cons_succ]
          refine wpAnyH_done (by kernel_rfl) ?_ _
          refine NoPanic.normal ?_
          generalize w6.setCell _ _ = V6 at *
          have hLk : L ++ [firstV t] = (F.take (k + 1)).map firstV := by
            rw [List.take_add_one, List.map_append, ← unhide HL, unhide HTK]; rfl
          rw [hLk] at HN6
          clear happ6 hLk
          go_wp2_with fail
          refine ⟨⟨k + 1, _, by omega, by go_num, unhide HN6⟩, by simp [intOf]; omega⟩
        · go_simp
          refine hK.out _ _ trivial (fun hHeld => ?_)
          clear hK K
          try simp only [Act.put, List.setIfInBounds_toArray, List.set_cons_zero, List.set_cons_succ]
          refine wpAnyH_ready (rs := [4]) (by kernel_rfl) (by simp) ?_
          refine AllReadyH.cons rfl (fun K hK => ?_) AllReadyH.nil
          go_simp
          refine hK.out _ _ trivial (fun hHeld => ?_)
          clear hK K
          try simp only [Act.put, List.setIfInBounds_toArray, List.set_cons_zero, List.set_cons_succ]
          refine wpAnyH_ready (rs := [8]) (by kernel_rfl) (by simp) ?_
          refine AllReadyH.cons rfl (fun K hK => ?_) AllReadyH.nil
          refine wp_append_run (.tmp 33) (.tmp 36) 173 rfl _ _ rfl rfl happ6 ?_
          go_simp
          refine hK.out _ _ trivial (fun hHeld => ?_)
          clear hK K
          try simp only [Act.put, List.setIfInBounds_toArray, List.set_cons_zero, List.set_cons_succ]
          refine take_x (some 38) 9 rfl rfl ?_
          try simp only [Act.put, List.setIfInBounds_toArray, List.set_cons_zero, List.set_cons_succ]
          refine take_x (some 39) 10 rfl rfl ?_
          try simp only [Act.put, List.setIfInBounds_toArray, List.set_cons_zero, List.set_cons_succ]
          refine wpAnyH_ready (rs := [11]) (by kernel_rfl) (by simp) ?_
          refine AllReadyH.cons rfl (fun K hK => ?_) AllReadyH.nil
          go_simp
          refine hK.out _ _ trivial (fun hHeld => ?_)
          clear hK K
          try simp only [Act.put, List.setIfInBounds_toArray, List.set_cons_zero, List.set_cons_succ]
          refine wpAnyH_done (by kernel_rfl) ?_ _
          refine NoPanic.normal ?_
          generalize w6.setCell _ _ = V6 at *
          have hLk : L ++ [firstV t] = (F.take (k + 1)).map firstV := by
            rw [List.take_add_one, List.map_append, ← unhide HL, unhide HTK]; rfl
          rw [hLk] at HN6
          clear happ6 hLk
          go_wp2_with fail
          refine ⟨⟨k + 1, _, by omega, by go_num, unhide HN6⟩, by simp [intOf]; omega⟩
    · obtain rfl : k = F.length := by omega
      rw [List.take_length] at O
      have HN : Hid (CrR A c (fieldsOf p c) mb (machC (.slice pa p.length pcap) fuel ask vr (n + 1) A told vpr steps) w wr (.returned (.pointer (some ⟨w.heap.size, 0, none⟩)))) := by
        show CrR _ _ _ _ _ _ _ _
        rw [unhide HF]
        exact ⟨_, _, rfl, O, hMb, hM⟩
      clear O hr hMb hM
      go_wp2_with fail
      go_ret
      exact unhide HN
end Go.Proofs.YtiiokkllmchohaaGreat
/- The machine in memory: an object more, a frame more. -/
namespace Go.Proofs.YtiiokkllmchohaaGreat
open Go.RowKit Go.Shelf

theorem machC_more (vp : Value) (fuel : Int) (ask : Bool) (vr : Value) (n : Nat) (A C : List Nat) (told : LVal) (vpr : Value) (steps : Nat) (h : okV A told) : machC vp fuel ask vr n (A ++ C) told vpr steps = machC vp fuel ask vr n A told vpr steps := by
  unfold machC
  rw [objP_more A C h]
theorem firstV_ok (A : List Nat) (t : Int) : okV A (firstV t) := fun k hk => by
  unfold firstV at hk
  split at hk <;> cases hk
section
variable {w0 w w' : World} {ρ : Nat → Nat × Nat} {mb : Nat} {vp : Value} {fuel : Int} {ask : Bool} {st : MaSt} {A : List Nat} {X : List FrX} {Y : List Value} {vr vpr : Value}
theorem MaA.lt (h : MaA w0 w ρ mb vp fuel ask st A X Y vr vpr) : mb < w.heap.size := h.mach.lt
theorem MaA.newObj (h : MaA w0 w ρ mb vp fuel ask st A X Y vr vpr) {b : Nat} {c : Int} {v : Value} {fl : List Int} (O : ObA w w' A b c v (fl.map firstV)) (hMb : Blk w' mb 172 (machC vp fuel ask vr (st.objs.length + 1) A st.told vpr st.steps)) (hM : Mods (fun k => k = mb) w w') :
    ∃ ρ', MaA w0 w' ρ' mb vp fuel ask { st with objs := st.objs ++ [⟨c, fl.map firstV⟩] } (A ++ [b]) X (Y ++ [v]) vr vpr := by
  obtain ⟨ρ', hρ⟩ : ∃ ρ' : Nat → Nat × Nat, ρ' = fun k => if w.heap.size ≤ k then (if k = b then (3, st.objs.length) else (4, st.objs.length)) else ρ k := ⟨_, rfl⟩
  have s : Same w.heap.size ρ ρ' := fun k hk => by rw [hρ]; show (if _ then _ else _) = _; rw [if_neg (by omega)]
  have hq : ∀ k, k < w.heap.size → k = mb → ∀ r, r ≠ (5, 0) → ρ k ≠ r := fun k _ e r hr e' => hr (e' ▸ e ▸ h.rmb)
  have hz := h.bel.size
  have hmb := h.lt
  have hne : ∀ g, v.ownBlock = some g → g ≠ b := fun g hg e => own_ne O.row O.blk tv_ne_ob (e ▸ hg)
  refine ⟨ρ', ?_⟩
  refine ⟨?_, h.base, (s _ hmb).trans h.rmb, own_mods h.run hM (fun g hg e => hq g (h.run.lt g hg).2 e (6, 0) (by simp) (h.rvr g hg)), h.rvr.same s (fun g hg => (h.run.lt g hg).2), own_mods h.prn hM (fun g hg e => hq g (h.prn.lt g hg).2 e (7, 0) (by simp) (h.rpr g hg)), h.rpr.same s (fun g hg => (h.prn.lt g hg).2), h.lx, fun i f x hf hx => ((h.fr i f x hf hx).mods hM s (fun k hk e => ⟨hq k hk e _ (by simp), hq k hk e _ (by simp), hq k hk e _ (by simp)⟩)).more [b], by simp [h.la], by simp [h.ly], ?_, okV_more [b] h.okt, h.bel.trans (hM.below hz (fun k hk e => by have := h.base; omega)), fun k hk => (s k (by omega)).trans (h.low k hk)⟩
  · show Blk w' mb _ (machC vp fuel ask vr (st.objs ++ [_]).length (A ++ [b]) st.told vpr st.steps)
    rw [List.length_append, machC_more _ _ _ _ _ _ _ _ _ _ h.okt]
    exact hMb
  · intro k o b' v' h1 h2 h3
    by_cases hk : k < st.objs.length
    · rw [List.getElem?_append_left hk] at h1
      rw [List.getElem?_append_left (by rw [h.la]; exact hk)] at h2
      rw [List.getElem?_append_left (by rw [h.ly]; exact hk)] at h3
      exact ((h.ob k o b' v' h1 h2 h3).mods hM s (fun j hj e => ⟨hq j hj e _ (by simp), hq j hj e _ (by simp)⟩)).more [b]
    · have hk' : k < (st.objs ++ [(⟨c, fl.map firstV⟩ : LObj)]).length := (List.getElem?_eq_some_iff.1 h1).1
      obtain rfl : k = st.objs.length := by simp at hk'; omega
      rw [List.getElem?_append_right (Nat.le_refl _), Nat.sub_self] at h1
      rw [List.getElem?_append_right (by rw [h.la]; exact Nat.le_refl _), h.la, Nat.sub_self] at h2
      rw [List.getElem?_append_right (by rw [h.ly]; exact Nat.le_refl _), h.ly, Nat.sub_self] at h3
      obtain rfl : _ = o := by simpa using h1
      obtain rfl : b = b' := by simpa using h2
      obtain rfl : v = v' := by simpa using h3
      refine ⟨O.blk, by have := O.new; omega, ?_, ?_, fun g hg => ?_, fun u hu => ?_⟩
      · rw [encL_more A [b] (fun u hu => by obtain ⟨t, _, rfl⟩ := List.mem_map.1 hu; exact firstV_ok A t)]
        exact own_base O.row hz
      · rw [hρ]; show (if _ then _ else _) = _; rw [if_pos O.new, if_pos rfl]
      · rw [hρ]; show (if _ then _ else _) = _; rw [if_pos (O.row.lt g hg).1, if_neg (hne g hg)]
      · obtain ⟨t, _, rfl⟩ := List.mem_map.1 hu; exact firstV_ok _ t
theorem tp_ne_ma : 231 ≠ 172 := by decide
theorem MaA.pushFr (h : MaA w0 w ρ mb vp fuel ask st A X Y vr vpr) {w2 w3 w4 U : World} {fb : Nat} {m : LMeth} {va vco vf : Value} {loc : List LVal} {vl vr' : Value} (hb2 : Below w.heap.size w w2) (N : NFr w2 w3 A fb (methCs m va vco vf) loc vl) (hG : GVals w0.cell? m va vco vf) (okl : ∀ v ∈ loc, okV A v)
    (hO : w4.ownsRow w0.heap.size 231 1 vr' (X.length + 1) ((X.map fun x => Value.pointer (some ⟨x.fb, 0, none⟩)) ++ [.pointer (some ⟨fb, 0, none⟩)])) (hM : Mods (fun k => vr.ownBlock = some k) w3 w4) (hv : vr'.ownBlock = vr.ownBlock ∨ ∃ k, w3.heap.size ≤ k ∧ vr'.ownBlock = some k) (hU : U = w4.setCell ⟨mb, 3, none⟩ vr') :
    ∃ ρ', MaA w0 U ρ' mb vp fuel ask { st with frames := st.frames ++ [⟨m, 0, loc, []⟩] } A (X ++ [⟨fb, methCs m va vco vf, vl, .slice none 0 0⟩]) Y vr' vpr := by
  subst hU
  have hz := h.bel.size
  have hz2 := hb2.size
  have hmb := h.lt
  have hb3 := hb2.trans (N.bel.mono hz2)
  have hz3 := hb3.size
  have lfb := N.fr.blk.lt
  have nfb := N.new
  obtain ⟨ρ', hρ⟩ : ∃ ρ' : Nat → Nat × Nat, ρ' = fun k => if w3.heap.size ≤ k then (6, 0) else if w.heap.size ≤ k then (if k = fb then (0, X.length) else (1, X.length)) else ρ k := ⟨_, rfl⟩
  have s : Same w.heap.size ρ ρ' := fun k hk => by rw [hρ]; show (if _ then _ else (if _ then _ else _)) = _; rw [if_neg (by omega), if_neg (by omega)]
  have hm3 := Mods.of_below hb3
  have hmach3 := h.mach.below hb3 hmb
  have hne3 : ¬ vr.ownBlock = some mb := own_ne h.run h.mach tp_ne_ma
  have hmach4 := hmach3.mods hM hne3
  have hM5 : Mods (fun k => k = mb) w4 (w4.setCell ⟨mb, 3, none⟩ vr') := (Mods.refl (fun k => k = mb) w4).setCell (p := ⟨mb, 3, none⟩) (fun _ => rfl) _
  have hmach5 := hmach4.setCell 3 vr'
  have hMA : Mods (fun k => w.heap.size ≤ k ∨ k = mb ∨ vr.ownBlock = some k) w (w4.setCell ⟨mb, 3, none⟩ vr') := ((hm3.mono (fun _ _ e => .inl e)).trans hM (fun _ _ e => .inr (.inr e))).trans hM5 (fun _ _ e => .inr (.inl e))
  have hq : ∀ k, k < w.heap.size → (w.heap.size ≤ k ∨ k = mb ∨ vr.ownBlock = some k) → ∀ r, r ≠ (5, 0) → r ≠ (6, 0) → ρ k ≠ r := fun k hk e r h5 h6 e' => by
    rcases e with e | e | e
    · omega
    · exact h5 (e' ▸ e ▸ h.rmb)
    · exact h6 (e' ▸ h.rvr k e)
  have hMN : Mods (fun k => k = mb ∨ vr.ownBlock = some k) w3 (w4.setCell ⟨mb, 3, none⟩ vr') := (hM.mono (fun _ _ e => .inr e)).trans hM5 (fun _ _ e => .inl e)
  have hnn : ∀ k, w.heap.size ≤ k → ¬ (k = mb ∨ vr.ownBlock = some k) := fun k hk e => by
    rcases e with e | e
    · omega
    · have := (h.run.lt k e).2; omega
  have hFN : FrA (w4.setCell ⟨mb, 3, none⟩ vr') w2.heap.size A fb (methCs m va vco vf) 0 vl loc (.slice none 0 0) [] := N.fr.mods hMN (hnn _ (by omega)) (fun g hg => hnn g (by have := (N.fr.lo.lt g hg).1; omega)) (fun g hg => by cases hg)
  refine ⟨ρ', ?_⟩
  refine ⟨hmach5, h.base, (s _ hmb).trans h.rmb, ?_, fun g hg => ?_, own_mods h.prn hMA (fun g hg e => hq g (h.prn.lt g hg).2 e (7, 0) (by simp) (by simp) (h.rpr g hg)), h.rpr.same s (fun g hg => (h.prn.lt g hg).2), by simp [h.lx], ?_, h.la, h.ly, fun k o b v h1 h2 h3 => (h.ob k o b v h1 h2 h3).mods hMA s (fun j hj e => ⟨hq j hj e _ (by simp) (by simp), hq j hj e _ (by simp) (by simp)⟩), h.okt, ?_, fun k hk => (s k (by omega)).trans (h.low k hk)⟩
  · rw [List.length_append, List.map_append]
    exact own_mods hO hM5 (fun g hg e => own_ne hO hmach4 tp_ne_ma (e ▸ hg))
  · rcases hv with e | ⟨k, hk, e⟩
    · rw [e] at hg
      exact (s g (h.run.lt g hg).2).trans (h.rvr g hg)
    · rw [e] at hg; cases hg
      rw [hρ]; show (if _ then _ else _) = _; rw [if_pos hk]
  · intro i f x hf hx
    by_cases hi : i < st.frames.length
    · rw [List.getElem?_append_left hi] at hf
      rw [List.getElem?_append_left (by rw [h.lx]; exact hi)] at hx
      exact (h.fr i f x hf hx).mods hMA s (fun k hk e => ⟨hq k hk e _ (by simp) (by simp), hq k hk e _ (by simp) (by simp), hq k hk e _ (by simp) (by simp)⟩)
    · have hi' : i < (st.frames ++ [(⟨m, 0, loc, []⟩ : MFr)]).length := (List.getElem?_eq_some_iff.1 hf).1
      obtain rfl : i = st.frames.length := by simp at hi'; omega
      rw [List.getElem?_append_right (Nat.le_refl _), Nat.sub_self] at hf
      rw [List.getElem?_append_right (by rw [h.lx]; exact Nat.le_refl _), h.lx, Nat.sub_self] at hx
      obtain rfl : _ = f := by simpa using hf
      obtain rfl : _ = x := by simpa using hx
      have p1 : w0.heap.size ≤ fb := by omega
      have p2 : ¬ w3.heap.size ≤ fb := by omega
      have p3 : w.heap.size ≤ fb := by omega
      refine ⟨⟨hFN.blk, hFN.l7, p1, own_base hFN.lo (by omega), own_base hFN.st (by omega), hFN.ne⟩, ⟨va, vco, vf, rfl, hG⟩, ?_, fun g hg => ?_, fun g hg => (by cases hg), okl, fun v hv => (by cases hv)⟩
      · show ρ' fb = _
        rw [hρ]; show (if _ then _ else (if _ then (if _ then _ else _) else _)) = _
        rw [if_neg p2, if_pos p3, if_pos rfl, h.lx]
      · have hgl := N.fr.lo.lt g hg
        rw [hρ]; show (if _ then _ else (if _ then (if _ then _ else _) else _)) = _
        rw [if_neg (by omega), if_pos (by omega), if_neg (fun (e : g = fb) => own_ne N.fr.lo N.fr.blk tv_ne_fr (e ▸ hg)), h.lx]
  · refine h.bel.trans (hMA.below hz (fun k hk e => ?_))
    rcases e with e | e | e
    · omega
    · have := h.base; omega
    · have := (h.run.lt k e).1; omega
end
end Go.Proofs.YtiiokkllmchohaaGreat
/- The machine: begin. -/
namespace Go.Proofs.YtiiokkllmchohaaGreat
open Go.RowKit Go.Shelf
attribute [local go_sem ↓] Go.wp_at_zero Go.wp_at_succ
attribute [local go_sem] frz_drew

def MaX (w0 w : World) (mb : Nat) (vp : Value) (fuel : Int) (ask : Bool) (st : MaSt) (A : List Nat) : Prop := ∃ ρ X Y vr vpr, MaA w0 w ρ mb vp fuel ask st A X Y vr vpr
theorem infoFp : (Tryz.prog.info? 231).map (fun i => (i.zero, i.size, i.bytes)) = some (some (.pointer none), 1, 8) := by kernel_rfl
def thisV (c : Int) (k : Nat) : LVal := ⟨c + 3, 0, some k⟩
def begSt (p : List LClass) (st : MaSt) (k : Nat) (c slot : Int) (args : List LVal) : MaSt :=
  { st with frames := st.frames ++ [⟨findM p c slot, 0, thisV c k :: args ++ List.replicate ((findM p c slot).locals.toNat - (1 + args.length)) nothV, []⟩] }
def BegR (w0 : World) (mb : Nat) (vp : Value) (fuel : Int) (ask : Bool) (st : MaSt) (A : List Nat) (w' : World) (e : Ending) : Prop := e = .returned (.tuple #[]) ∧ MaX w0 w' mb vp fuel ask st A
set_option maxHeartbeats 1000000 in
set_option maxRecDepth 100000 in
theorem ma_begin (p : List LClass) (vp : Value) (w0 w : World) (ρ : Nat → Nat × Nat) (mb : Nat) (fuel : Int) (ask : Bool) (st : MaSt) (A : List Nat) (X : List FrX) (Y : List Value) (vr vpr : Value) (h : MaA w0 w ρ mb vp fuel ask st A X Y vr vpr) (hp : RProg w0 vp p) (hs : SupOk p p.length) (hz : szProg p ≤ 4194304)
    (k : Nat) (o : LObj) (ob : Nat) (ho : st.objs[k]? = some o) (hob : A[k]? = some ob) (slot : Int) (args : List LVal) (ta : Option Addr) (tcap : Nat) (c0 : 0 ≤ o.cls) (c1 : o.cls < (p.length : Int)) (hm : (methOf p o.cls slot).isSome = true) (hnil : ta = none → args.length = 0 ∧ tcap = 0) (hrd : ∀ ad, ta = some ad → ∀ j u, (encL A args)[j]? = some u → w.cell? (ad.add j) = some u) (hl : 1 + (args.length : Int) ≤ (findM p o.cls slot).locals) (hl8 : (findM p o.cls slot).locals ≤ 8) (hoa : ∀ v ∈ args, okV A v) (hX : X.length ≤ 4194304) :
    Calls Tryz.prog 111 #[.pointer (some ⟨mb, 0, none⟩), .pointer (some ⟨ob, 0, none⟩), .int .i64 slot, .slice ta args.length tcap] w fun e w' => BegR w0 mb vp fuel ask (begSt p st k o.cls slot args) A w' e := by
  obtain ⟨i0, hi0, hz0, hz1, hz2⟩ := info_parts infoFp
  have HP := hide hp
  have hzp : p.length ≤ 4194304 := Nat.le_trans (szProg_len p) hz
  obtain ⟨pa, _, _, pcap, rfl, _⟩ := hp
  have kA : k < A.length := (List.getElem?_eq_some_iff.1 hob).1
  obtain ⟨vy, hy⟩ : ∃ vy, Y[k]? = some vy := ⟨_, List.getElem?_eq_getElem (by rw [h.ly, ← h.la]; exact kA)⟩
  have hO := h.ob k o ob vy ho hob hy
  have o0 : w.cell? ⟨ob, 0, none⟩ = some (.int .i64 o.cls) := hO.blk.cell 0
  obtain ⟨ra, rcap, rfl⟩ := own_form h.run
  have n3 : w.cell? ⟨mb, 3, none⟩ = some (.slice ra X.length rcap) := h.mach.cell 3
  have hcl' : ∀ U, Mods (fun k => w.heap.size ≤ k ∨ (Value.slice ra X.length rcap).ownBlock = some k) w U → U.cell? ⟨ob, 0, none⟩ = some (.int .i64 o.cls) := fun U hU => hU.cell o0 (fun e => by
    rcases e with e | e
    · have := hO.blk.lt; dsimp only at e; omega
    · exact own_ne h.run hO.blk (by decide) e)
  have hclb : ∀ U, Below w.heap.size w U → U.cell? ⟨ob, 0, none⟩ = some (.int .i64 o.cls) := fun U hU => Keeps.of_below hU _ _ o0
  have hbd : Below w0.heap.size w0 w.drew := h.bel.drew
  have mpd : w.drew.cell? ⟨mb, 0, none⟩ = some (.slice pa p.length pcap) := h.mach.cell 0
  have hmbo : ¬ ob = mb := fun e => by
    subst e
    exact absurd (hO.blk.uniq h.mach) (by decide)
  have HTV : Hid (encV A (thisV o.cls k) = [.int .i64 (o.cls + 3), .int .i64 0, .pointer (some ⟨ob, 0, none⟩)]) := by
    show [Value.int .i64 (o.cls + 3), .int .i64 0, .pointer (some ⟨A.getD k 0, 0, none⟩)] = _
    rw [List.getD_eq_getElem?_getD, hob]; rfl
  have okn : ∀ v ∈ thisV o.cls k :: args ++ List.replicate ((findM p o.cls slot).locals.toNat - (1 + args.length)) nothV, okV A v := fun v hv => by
    rcases List.mem_append.1 hv with hv | hv
    · rcases List.mem_cons.1 hv with rfl | hv
      · intro j hj; cases hj; exact kA
      · exact hoa v hv
    · obtain rfl := List.eq_of_mem_replicate hv
      intro j hj; cases hj
  have d0 : w.drew.cell? ⟨ob, 0, none⟩ = some (.int .i64 o.cls) := o0
  clear hO hy
  go_enter Tryz.func111, Tryz.ntmps111
  go_wp2_with fail
  refine wp_region_held_drew (S := (fun w' => w'.cell? ⟨ob, 0, none⟩ = some (.int .i64 o.cls))) (by kernel_rfl) ?_ (fun hHeld => ?_)
  · exact o0
  refine take_x (some 8) 0 rfl rfl ?_
  try simp only [Act.put, List.setIfInBounds_toArray, List.set_cons_zero, List.set_cons_succ]
  refine take_x (some 9) 1 rfl rfl ?_
  try simp only [Act.put, List.setIfInBounds_toArray, List.set_cons_zero, List.set_cons_succ]
  refine take_x (some 10) 2 rfl rfl ?_
  try simp only [Act.put, List.setIfInBounds_toArray, List.set_cons_zero, List.set_cons_succ]
  refine take_x (some 11) 3 rfl rfl ?_
  try simp only [Act.put, List.setIfInBounds_toArray, List.set_cons_zero, List.set_cons_succ]
  refine take_x (some 13) 5 rfl rfl ?_
  try simp only [Act.put, List.setIfInBounds_toArray, List.set_cons_zero, List.set_cons_succ]
  refine take_x (some 14) 6 rfl rfl ?_
  try simp only [Act.put, List.setIfInBounds_toArray, List.set_cons_zero, List.set_cons_succ]
  refine take_x (some 15) 7 rfl rfl ?_
  try simp only [Act.put, List.setIfInBounds_toArray, List.set_cons_zero, List.set_cons_succ]
  refine take_x (some 16) 8 rfl rfl ?_
  try simp only [Act.put, List.setIfInBounds_toArray, List.set_cons_zero, List.set_cons_succ]
  refine take_x (some 17) 9 rfl rfl ?_
  try simp only [Act.put, List.setIfInBounds_toArray, List.set_cons_zero, List.set_cons_succ]
  refine take_x (some 18) 10 rfl rfl ?_
  try simp only [Act.put, List.setIfInBounds_toArray, List.set_cons_zero, List.set_cons_succ]
  refine take_x (some 20) 12 rfl rfl ?_
  try simp only [Act.put, List.setIfInBounds_toArray, List.set_cons_zero, List.set_cons_succ]
  refine take_x (some 22) 14 rfl rfl ?_
  try simp only [Act.put, List.setIfInBounds_toArray, List.set_cons_zero, List.set_cons_succ]
  refine wpAnyH_ready (rs := [4, 11]) (by kernel_rfl) (by simp) ?_
  refine AllReadyH.cons rfl (fun K hK => ?_) (AllReadyH.cons rfl (fun K hK => ?_) AllReadyH.nil)
  · go_simp
    refine hK.out _ _ d0 (fun hHeld => ?_)
    clear hK K
    try simp only [Act.put, List.setIfInBounds_toArray, List.set_cons_zero, List.set_cons_succ]
    refine wpAnyH_ready (rs := [11]) (by kernel_rfl) (by simp) ?_
    refine AllReadyH.cons rfl (fun K hK => ?_) AllReadyH.nil
    go_simp
    refine (ma_find p _ o.cls slot w0 _ mb (unhide HP) hbd mpd hs hz c0 c1 hm).mono ?_
    rintro e w1 ⟨va, vco, vf, rfl, hG, hb1⟩
    have hb1' : Below w.heap.size w w1 := ⟨hb1.os, hb1.tape, hb1.output, hb1.size, hb1.block⟩
    have HG := hide hG
    have HO1 := hide (hclb w1 hb1')
    have n31 := Keeps.of_below hb1' _ _ n3
    unfold methV
    go_wp2_with fail
    refine hK.out _ _ (unhide HO1) (fun hHeld => ?_)
    clear hK K
    try simp only [Act.put, List.setIfInBounds_toArray, List.set_cons_zero, List.set_cons_succ]
    refine wpAnyH_ready (rs := [13]) (by kernel_rfl) (by simp) ?_
    refine AllReadyH.cons rfl (fun K hK => ?_) AllReadyH.nil
    go_simp
    refine (ma_reference ob o.cls w1 (unhide HO1) c0 (by omega)).mono ?_
    rintro e w2 ⟨rfl, hb2⟩
    have hb2' := hb1'.trans (hb2.mono hb1'.size)
    have HO2 := hide (hclb w2 hb2')
    have n32 := Keeps.of_below hb2' _ _ n3
    go_wp2_with fail
    refine hK.out _ _ (unhide HO2) (fun hHeld => ?_)
    clear hK K
    try simp only [Act.put, List.setIfInBounds_toArray, List.set_cons_zero, List.set_cons_succ]
    refine wpAnyH_ready (rs := [15]) (by kernel_rfl) (by simp) ?_
    refine AllReadyH.cons rfl (fun K hK => ?_) AllReadyH.nil
    go_simp
    have hN0 := ma_newFrame A (findM p o.cls slot) va vco vf (thisV o.cls k) args ta tcap w2 w0 (unhide HG) hnil (fun ad e j u hu => Keeps.of_below hb2' _ _ (hrd ad e j u hu)) hl hl8
    rw [unhide HTV] at hN0
    refine hN0.mono ?_
    rintro e w3 ⟨fb, vl, rfl, N⟩
    have hb3' := hb2'.trans (N.bel.mono hb2'.size)
    have HO3 := hide (hclb w3 hb3')
    have n33 := Keeps.of_below hb3' _ _ n3
    have hrun3 := own_mods h.run (Mods.of_below hb3') (fun g hg e => by have := (h.run.lt g hg).2; omega)
    obtain ⟨v4, w4, happ, hO4, hM4, hv4⟩ := app_ex (P := Tryz.prog) (W := w3) 167 167 231 i0 _ 1 8 Tryz.underlying167 hi0 hz0 hz1 hz2 rfl (by decide) w0.heap.size _ _ _ hrun3 #[.pointer (some ⟨fb, 0, none⟩)] rfl (fun v hv => by obtain rfl := List.mem_singleton.1 hv; rfl) w3.heap.size rfl (by unfold maxLen; omega) (by omega) (Nat.le_trans h.bel.size hb3'.size)
    obtain ⟨a4, cap4, rfl⟩ := own_form hO4
    have n33a : (w3.alloc (.cells #[.pointer (some ⟨fb, 0, none⟩)] 231)).cell? ⟨mb, 3, none⟩ = some (.slice ra X.length rcap) := Keeps.of_below (hb3'.alloc hb3'.size _) _ _ n3
    have hmach4 := (h.mach.below hb3' h.lt).mods hM4 (own_ne h.run h.mach tp_ne_ma)
    have n34 : w4.cell? ⟨mb, 3, none⟩ = some (.slice ra X.length rcap) := hmach4.cell 3
    have f34 := hmach4.frozen 3
    have hMcl4 : Mods (fun k => w.heap.size ≤ k ∨ (Value.slice ra X.length rcap).ownBlock = some k) w w4 := ((Mods.of_below hb3').mono (fun _ _ e => .inl e)).trans hM4 (fun _ _ e => .inr e)
    have hcl3a := hclb _ (hb3'.alloc hb3'.size (.cells #[.pointer (some ⟨fb, 0, none⟩)] 231))
    have hcl5 : (w4.setCell ⟨mb, 3, none⟩ (.slice a4 (X.length + 1) cap4)).cell? ⟨ob, 0, none⟩ = some (.int .i64 o.cls) := ((Mods.refl (fun k => k = mb) w4).setCell (p := ⟨mb, 3, none⟩) (fun _ => rfl) _).cell (hcl' _ hMcl4) hmbo
    obtain ⟨ρ', hMA⟩ := h.pushFr hb2' N (unhide HG) okn hO4 hM4 hv4 rfl
    have HF : Hid (BegR w0 mb (.slice pa p.length pcap) fuel ask (begSt p st k o.cls slot args) A (w4.setCell ⟨mb, 3, none⟩ (.slice a4 (X.length + 1) cap4)) (.returned (.tuple #[]))) := ⟨rfl, ρ', _, _, _, _, hMA⟩
    clear hMA hO4 hM4 hv4 hrun3 N hN0 hmach4
    go_wp2_with fail
    refine hK.out _ _ (unhide HO3) (fun hHeld => ?_)
    clear hK K
    try simp only [Act.put, List.setIfInBounds_toArray, List.set_cons_zero, List.set_cons_succ]
    refine wpAnyH_ready (rs := [16]) (by kernel_rfl) (by simp) ?_
    refine AllReadyH.cons rfl (fun K hK => ?_) AllReadyH.nil
    go_simp
    refine hK.out _ _ hcl3a (fun hHeld => ?_)
    clear hK K
    try simp only [Act.put, List.setIfInBounds_toArray, List.set_cons_zero, List.set_cons_succ]
    refine wpAnyH_ready (rs := [17]) (by kernel_rfl) (by simp) ?_
    refine AllReadyH.cons rfl (fun K hK => ?_) AllReadyH.nil
    refine wp_append_run (.tmp 12) (.tmp 24) 167 rfl _ _ rfl rfl happ ?_
    go_simp
    refine hK.out _ _ (hcl' _ hMcl4) (fun hHeld => ?_)
    clear hK K
    try simp only [Act.put, List.setIfInBounds_toArray, List.set_cons_zero, List.set_cons_succ]
    refine take_x (some 26) 18 rfl rfl ?_
    try simp only [Act.put, List.setIfInBounds_toArray, List.set_cons_zero, List.set_cons_succ]
    refine take_x (some 27) 19 rfl rfl ?_
    try simp only [Act.put, List.setIfInBounds_toArray, List.set_cons_zero, List.set_cons_succ]
    refine wpAnyH_ready (rs := [20]) (by kernel_rfl) (by simp) ?_
    refine AllReadyH.cons rfl (fun K hK => ?_) AllReadyH.nil
    go_simp
    refine hK.out _ _ hcl5 (fun hHeld => ?_)
    clear hK K
    try simp only [Act.put, List.setIfInBounds_toArray, List.set_cons_zero, List.set_cons_succ]
    refine wpAnyH_done (by kernel_rfl) ?_ _
    clear happ
    go_wp2_with fail
    go_end0
    exact unhide HF
  · go_simp
    refine (ma_find p _ o.cls slot w0 _ mb (unhide HP) hbd mpd hs hz c0 c1 hm).mono ?_
    rintro e w1 ⟨va, vco, vf, rfl, hG, hb1⟩
    have hb1' : Below w.heap.size w w1 := ⟨hb1.os, hb1.tape, hb1.output, hb1.size, hb1.block⟩
    have HG := hide hG
    have HO1 := hide (hclb w1 hb1')
    have n31 := Keeps.of_below hb1' _ _ n3
    unfold methV
    go_wp2_with fail
    refine hK.out _ _ (unhide HO1) (fun hHeld => ?_)
    clear hK K
    try simp only [Act.put, List.setIfInBounds_toArray, List.set_cons_zero, List.set_cons_succ]
    refine wpAnyH_ready (rs := [4, 13]) (by kernel_rfl) (by simp) ?_
    refine AllReadyH.cons rfl (fun K hK => ?_) (AllReadyH.cons rfl (fun K hK => ?_) AllReadyH.nil)
    · have o1 := unhide HO1
      go_simp
      refine hK.out _ _ o1 (fun hHeld => ?_)
      clear hK K
      try simp only [Act.put, List.setIfInBounds_toArray, List.set_cons_zero, List.set_cons_succ]
      refine wpAnyH_ready (rs := [13]) (by kernel_rfl) (by simp) ?_
      refine AllReadyH.cons rfl (fun K hK => ?_) AllReadyH.nil
      go_simp
      refine (ma_reference ob o.cls w1 (unhide HO1) c0 (by omega)).mono ?_
      rintro e w2 ⟨rfl, hb2⟩
      have hb2' := hb1'.trans (hb2.mono hb1'.size)
      have HO2 := hide (hclb w2 hb2')
      have n32 := Keeps.of_below hb2' _ _ n3
      go_wp2_with fail
      refine hK.out _ _ (unhide HO2) (fun hHeld => ?_)
      clear hK K
      try simp only [Act.put, List.setIfInBounds_toArray, List.set_cons_zero, List.set_cons_succ]
      refine wpAnyH_ready (rs := [15]) (by kernel_rfl) (by simp) ?_
      refine AllReadyH.cons rfl (fun K hK => ?_) AllReadyH.nil
      go_simp
      have hN0 := ma_newFrame A (findM p o.cls slot) va vco vf (thisV o.cls k) args ta tcap w2 w0 (unhide HG) hnil (fun ad e j u hu => Keeps.of_below hb2' _ _ (hrd ad e j u hu)) hl hl8
      rw [unhide HTV] at hN0
      refine hN0.mono ?_
      rintro e w3 ⟨fb, vl, rfl, N⟩
      have hb3' := hb2'.trans (N.bel.mono hb2'.size)
      have HO3 := hide (hclb w3 hb3')
      have n33 := Keeps.of_below hb3' _ _ n3
      have hrun3 := own_mods h.run (Mods.of_below hb3') (fun g hg e => by have := (h.run.lt g hg).2; omega)
      obtain ⟨v4, w4, happ, hO4, hM4, hv4⟩ := app_ex (P := Tryz.prog) (W := w3) 167 167 231 i0 _ 1 8 Tryz.underlying167 hi0 hz0 hz1 hz2 rfl (by decide) w0.heap.size _ _ _ hrun3 #[.pointer (some ⟨fb, 0, none⟩)] rfl (fun v hv => by obtain rfl := List.mem_singleton.1 hv; rfl) w3.heap.size rfl (by unfold maxLen; omega) (by omega) (Nat.le_trans h.bel.size hb3'.size)
      obtain ⟨a4, cap4, rfl⟩ := own_form hO4
      have n33a : (w3.alloc (.cells #[.pointer (some ⟨fb, 0, none⟩)] 231)).cell? ⟨mb, 3, none⟩ = some (.slice ra X.length rcap) := Keeps.of_below (hb3'.alloc hb3'.size _) _ _ n3
      have hmach4 := (h.mach.below hb3' h.lt).mods hM4 (own_ne h.run h.mach tp_ne_ma)
      have n34 : w4.cell? ⟨mb, 3, none⟩ = some (.slice ra X.length rcap) := hmach4.cell 3
      have f34 := hmach4.frozen 3
      have hMcl4 : Mods (fun k => w.heap.size ≤ k ∨ (Value.slice ra X.length rcap).ownBlock = some k) w w4 := ((Mods.of_below hb3').mono (fun _ _ e => .inl e)).trans hM4 (fun _ _ e => .inr e)
      have hcl3a := hclb _ (hb3'.alloc hb3'.size (.cells #[.pointer (some ⟨fb, 0, none⟩)] 231))
      have hcl5 : (w4.setCell ⟨mb, 3, none⟩ (.slice a4 (X.length + 1) cap4)).cell? ⟨ob, 0, none⟩ = some (.int .i64 o.cls) := ((Mods.refl (fun k => k = mb) w4).setCell (p := ⟨mb, 3, none⟩) (fun _ => rfl) _).cell (hcl' _ hMcl4) hmbo
      obtain ⟨ρ', hMA⟩ := h.pushFr hb2' N (unhide HG) okn hO4 hM4 hv4 rfl
      have HF : Hid (BegR w0 mb (.slice pa p.length pcap) fuel ask (begSt p st k o.cls slot args) A (w4.setCell ⟨mb, 3, none⟩ (.slice a4 (X.length + 1) cap4)) (.returned (.tuple #[]))) := ⟨rfl, ρ', _, _, _, _, hMA⟩
      clear hMA hO4 hM4 hv4 hrun3 N hN0 hmach4
      go_wp2_with fail
      refine hK.out _ _ (unhide HO3) (fun hHeld => ?_)
      clear hK K
      try simp only [Act.put, List.setIfInBounds_toArray, List.set_cons_zero, List.set_cons_succ]
      refine wpAnyH_ready (rs := [16]) (by kernel_rfl) (by simp) ?_
      refine AllReadyH.cons rfl (fun K hK => ?_) AllReadyH.nil
      go_simp
      refine hK.out _ _ hcl3a (fun hHeld => ?_)
      clear hK K
      try simp only [Act.put, List.setIfInBounds_toArray, List.set_cons_zero, List.set_cons_succ]
      refine wpAnyH_ready (rs := [17]) (by kernel_rfl) (by simp) ?_
      refine AllReadyH.cons rfl (fun K hK => ?_) AllReadyH.nil
      refine wp_append_run (.tmp 12) (.tmp 24) 167 rfl _ _ rfl rfl happ ?_
      go_simp
      refine hK.out _ _ (hcl' _ hMcl4) (fun hHeld => ?_)
      clear hK K
      try simp only [Act.put, List.setIfInBounds_toArray, List.set_cons_zero, List.set_cons_succ]
      refine take_x (some 26) 18 rfl rfl ?_
      try simp only [Act.put, List.setIfInBounds_toArray, List.set_cons_zero, List.set_cons_succ]
      refine take_x (some 27) 19 rfl rfl ?_
      try simp only [Act.put, List.setIfInBounds_toArray, List.set_cons_zero, List.set_cons_succ]
      refine wpAnyH_ready (rs := [20]) (by kernel_rfl) (by simp) ?_
      refine AllReadyH.cons rfl (fun K hK => ?_) AllReadyH.nil
      go_simp
      refine hK.out _ _ hcl5 (fun hHeld => ?_)
      clear hK K
      try simp only [Act.put, List.setIfInBounds_toArray, List.set_cons_zero, List.set_cons_succ]
      refine wpAnyH_done (by kernel_rfl) ?_ _
      clear happ
      go_wp2_with fail
      go_end0
      exact unhide HF
    · go_simp
      refine (ma_reference ob o.cls w1 (unhide HO1) c0 (by omega)).mono ?_
      rintro e w2 ⟨rfl, hb2⟩
      have hb2' := hb1'.trans (hb2.mono hb1'.size)
      have HO2 := hide (hclb w2 hb2')
      have n32 := Keeps.of_below hb2' _ _ n3
      go_wp2_with fail
      refine hK.out _ _ (unhide HO2) (fun hHeld => ?_)
      clear hK K
      try simp only [Act.put, List.setIfInBounds_toArray, List.set_cons_zero, List.set_cons_succ]
      refine wpAnyH_ready (rs := [4, 15]) (by kernel_rfl) (by simp) ?_
      refine AllReadyH.cons rfl (fun K hK => ?_) (AllReadyH.cons rfl (fun K hK => ?_) AllReadyH.nil)
      · have o2 := unhide HO2
        go_simp
        refine hK.out _ _ o2 (fun hHeld => ?_)
        clear hK K
        try simp only [Act.put, List.setIfInBounds_toArray, List.set_cons_zero, List.set_cons_succ]
        refine wpAnyH_ready (rs := [15]) (by kernel_rfl) (by simp) ?_
        refine AllReadyH.cons rfl (fun K hK => ?_) AllReadyH.nil
        go_simp
        have hN0 := ma_newFrame A (findM p o.cls slot) va vco vf (thisV o.cls k) args ta tcap w2 w0 (unhide HG) hnil (fun ad e j u hu => Keeps.of_below hb2' _ _ (hrd ad e j u hu)) hl hl8
        rw [unhide HTV] at hN0
        refine hN0.mono ?_
        rintro e w3 ⟨fb, vl, rfl, N⟩
        have hb3' := hb2'.trans (N.bel.mono hb2'.size)
        have HO3 := hide (hclb w3 hb3')
        have n33 := Keeps.of_below hb3' _ _ n3
        have hrun3 := own_mods h.run (Mods.of_below hb3') (fun g hg e => by have := (h.run.lt g hg).2; omega)
        obtain ⟨v4, w4, happ, hO4, hM4, hv4⟩ := app_ex (P := Tryz.prog) (W := w3) 167 167 231 i0 _ 1 8 Tryz.underlying167 hi0 hz0 hz1 hz2 rfl (by decide) w0.heap.size _ _ _ hrun3 #[.pointer (some ⟨fb, 0, none⟩)] rfl (fun v hv => by obtain rfl := List.mem_singleton.1 hv; rfl) w3.heap.size rfl (by unfold maxLen; omega) (by omega) (Nat.le_trans h.bel.size hb3'.size)
        obtain ⟨a4, cap4, rfl⟩ := own_form hO4
        have n33a : (w3.alloc (.cells #[.pointer (some ⟨fb, 0, none⟩)] 231)).cell? ⟨mb, 3, none⟩ = some (.slice ra X.length rcap) := Keeps.of_below (hb3'.alloc hb3'.size _) _ _ n3
        have hmach4 := (h.mach.below hb3' h.lt).mods hM4 (own_ne h.run h.mach tp_ne_ma)
        have n34 : w4.cell? ⟨mb, 3, none⟩ = some (.slice ra X.length rcap) := hmach4.cell 3
        have f34 := hmach4.frozen 3
        have hMcl4 : Mods (fun k => w.heap.size ≤ k ∨ (Value.slice ra X.length rcap).ownBlock = some k) w w4 := ((Mods.of_below hb3').mono (fun _ _ e => .inl e)).trans hM4 (fun _ _ e => .inr e)
        have hcl3a := hclb _ (hb3'.alloc hb3'.size (.cells #[.pointer (some ⟨fb, 0, none⟩)] 231))
        have hcl5 : (w4.setCell ⟨mb, 3, none⟩ (.slice a4 (X.length + 1) cap4)).cell? ⟨ob, 0, none⟩ = some (.int .i64 o.cls) := ((Mods.refl (fun k => k = mb) w4).setCell (p := ⟨mb, 3, none⟩) (fun _ => rfl) _).cell (hcl' _ hMcl4) hmbo
        obtain ⟨ρ', hMA⟩ := h.pushFr hb2' N (unhide HG) okn hO4 hM4 hv4 rfl
        have HF : Hid (BegR w0 mb (.slice pa p.length pcap) fuel ask (begSt p st k o.cls slot args) A (w4.setCell ⟨mb, 3, none⟩ (.slice a4 (X.length + 1) cap4)) (.returned (.tuple #[]))) := ⟨rfl, ρ', _, _, _, _, hMA⟩
        clear hMA hO4 hM4 hv4 hrun3 N hN0 hmach4
        go_wp2_with fail
        refine hK.out _ _ (unhide HO3) (fun hHeld => ?_)
        clear hK K
        try simp only [Act.put, List.setIfInBounds_toArray, List.set_cons_zero, List.set_cons_succ]
        refine wpAnyH_ready (rs := [16]) (by kernel_rfl) (by simp) ?_
        refine AllReadyH.cons rfl (fun K hK => ?_) AllReadyH.nil
        go_simp
        refine hK.out _ _ hcl3a (fun hHeld => ?_)
        clear hK K
        try simp only [Act.put, List.setIfInBounds_toArray, List.set_cons_zero, List.set_cons_succ]
        refine wpAnyH_ready (rs := [17]) (by kernel_rfl) (by simp) ?_
        refine AllReadyH.cons rfl (fun K hK => ?_) AllReadyH.nil
        refine wp_append_run (.tmp 12) (.tmp 24) 167 rfl _ _ rfl rfl happ ?_
        go_simp
        refine hK.out _ _ (hcl' _ hMcl4) (fun hHeld => ?_)
        clear hK K
        try simp only [Act.put, List.setIfInBounds_toArray, List.set_cons_zero, List.set_cons_succ]
        refine take_x (some 26) 18 rfl rfl ?_
        try simp only [Act.put, List.setIfInBounds_toArray, List.set_cons_zero, List.set_cons_succ]
        refine take_x (some 27) 19 rfl rfl ?_
        try simp only [Act.put, List.setIfInBounds_toArray, List.set_cons_zero, List.set_cons_succ]
        refine wpAnyH_ready (rs := [20]) (by kernel_rfl) (by simp) ?_
        refine AllReadyH.cons rfl (fun K hK => ?_) AllReadyH.nil
        go_simp
        refine hK.out _ _ hcl5 (fun hHeld => ?_)
        clear hK K
        try simp only [Act.put, List.setIfInBounds_toArray, List.set_cons_zero, List.set_cons_succ]
        refine wpAnyH_done (by kernel_rfl) ?_ _
        clear happ
        go_wp2_with fail
        go_end0
        exact unhide HF
      · go_simp
        have hN0 := ma_newFrame A (findM p o.cls slot) va vco vf (thisV o.cls k) args ta tcap w2 w0 (unhide HG) hnil (fun ad e j u hu => Keeps.of_below hb2' _ _ (hrd ad e j u hu)) hl hl8
        rw [unhide HTV] at hN0
        refine hN0.mono ?_
        rintro e w3 ⟨fb, vl, rfl, N⟩
        have hb3' := hb2'.trans (N.bel.mono hb2'.size)
        have HO3 := hide (hclb w3 hb3')
        have n33 := Keeps.of_below hb3' _ _ n3
        have hrun3 := own_mods h.run (Mods.of_below hb3') (fun g hg e => by have := (h.run.lt g hg).2; omega)
        obtain ⟨v4, w4, happ, hO4, hM4, hv4⟩ := app_ex (P := Tryz.prog) (W := w3) 167 167 231 i0 _ 1 8 Tryz.underlying167 hi0 hz0 hz1 hz2 rfl (by decide) w0.heap.size _ _ _ hrun3 #[.pointer (some ⟨fb, 0, none⟩)] rfl (fun v hv => by obtain rfl := List.mem_singleton.1 hv; rfl) w3.heap.size rfl (by unfold maxLen; omega) (by omega) (Nat.le_trans h.bel.size hb3'.size)
        obtain ⟨a4, cap4, rfl⟩ := own_form hO4
        have n33a : (w3.alloc (.cells #[.pointer (some ⟨fb, 0, none⟩)] 231)).cell? ⟨mb, 3, none⟩ = some (.slice ra X.length rcap) := Keeps.of_below (hb3'.alloc hb3'.size _) _ _ n3
        have hmach4 := (h.mach.below hb3' h.lt).mods hM4 (own_ne h.run h.mach tp_ne_ma)
        have n34 : w4.cell? ⟨mb, 3, none⟩ = some (.slice ra X.length rcap) := hmach4.cell 3
        have f34 := hmach4.frozen 3
        have hMcl4 : Mods (fun k => w.heap.size ≤ k ∨ (Value.slice ra X.length rcap).ownBlock = some k) w w4 := ((Mods.of_below hb3').mono (fun _ _ e => .inl e)).trans hM4 (fun _ _ e => .inr e)
        have hcl3a := hclb _ (hb3'.alloc hb3'.size (.cells #[.pointer (some ⟨fb, 0, none⟩)] 231))
        have hcl5 : (w4.setCell ⟨mb, 3, none⟩ (.slice a4 (X.length + 1) cap4)).cell? ⟨ob, 0, none⟩ = some (.int .i64 o.cls) := ((Mods.refl (fun k => k = mb) w4).setCell (p := ⟨mb, 3, none⟩) (fun _ => rfl) _).cell (hcl' _ hMcl4) hmbo
        obtain ⟨ρ', hMA⟩ := h.pushFr hb2' N (unhide HG) okn hO4 hM4 hv4 rfl
        have HF : Hid (BegR w0 mb (.slice pa p.length pcap) fuel ask (begSt p st k o.cls slot args) A (w4.setCell ⟨mb, 3, none⟩ (.slice a4 (X.length + 1) cap4)) (.returned (.tuple #[]))) := ⟨rfl, ρ', _, _, _, _, hMA⟩
        clear hMA hO4 hM4 hv4 hrun3 N hN0 hmach4
        go_wp2_with fail
        refine hK.out _ _ (unhide HO3) (fun hHeld => ?_)
        clear hK K
        try simp only [Act.put, List.setIfInBounds_toArray, List.set_cons_zero, List.set_cons_succ]
        refine wpAnyH_ready (rs := [4, 16]) (by kernel_rfl) (by simp) ?_
        refine AllReadyH.cons rfl (fun K hK => ?_) (AllReadyH.cons rfl (fun K hK => ?_) AllReadyH.nil)
        · have o3 := unhide HO3
          go_simp
          refine hK.out _ _ o3 (fun hHeld => ?_)
          clear hK K
          try simp only [Act.put, List.setIfInBounds_toArray, List.set_cons_zero, List.set_cons_succ]
          refine wpAnyH_ready (rs := [16]) (by kernel_rfl) (by simp) ?_
          refine AllReadyH.cons rfl (fun K hK => ?_) AllReadyH.nil
          go_simp
          refine hK.out _ _ hcl3a (fun hHeld => ?_)
          clear hK K
          try simp only [Act.put, List.setIfInBounds_toArray, List.set_cons_zero, List.set_cons_succ]
          refine wpAnyH_ready (rs := [17]) (by kernel_rfl) (by simp) ?_
          refine AllReadyH.cons rfl (fun K hK => ?_) AllReadyH.nil
          refine wp_append_run (.tmp 12) (.tmp 24) 167 rfl _ _ rfl rfl happ ?_
          go_simp
          refine hK.out _ _ (hcl' _ hMcl4) (fun hHeld => ?_)
          clear hK K
          try simp only [Act.put, List.setIfInBounds_toArray, List.set_cons_zero, List.set_cons_succ]
          refine take_x (some 26) 18 rfl rfl ?_
          try simp only [Act.put, List.setIfInBounds_toArray, List.set_cons_zero, List.set_cons_succ]
          refine take_x (some 27) 19 rfl rfl ?_
          try simp only [Act.put, List.setIfInBounds_toArray, List.set_cons_zero, List.set_cons_succ]
          refine wpAnyH_ready (rs := [20]) (by kernel_rfl) (by simp) ?_
          refine AllReadyH.cons rfl (fun K hK => ?_) AllReadyH.nil
          go_simp
          refine hK.out _ _ hcl5 (fun hHeld => ?_)
          clear hK K
          try simp only [Act.put, List.setIfInBounds_toArray, List.set_cons_zero, List.set_cons_succ]
          refine wpAnyH_done (by kernel_rfl) ?_ _
          clear happ
          go_wp2_with fail
          go_end0
          exact unhide HF
        · go_simp
          refine hK.out _ _ hcl3a (fun hHeld => ?_)
          clear hK K
          try simp only [Act.put, List.setIfInBounds_toArray, List.set_cons_zero, List.set_cons_succ]
          refine wpAnyH_ready (rs := [4]) (by kernel_rfl) (by simp) ?_
          refine AllReadyH.cons rfl (fun K hK => ?_) AllReadyH.nil
          go_simp
          refine hK.out _ _ hcl3a (fun hHeld => ?_)
          clear hK K
          try simp only [Act.put, List.setIfInBounds_toArray, List.set_cons_zero, List.set_cons_succ]
          refine wpAnyH_ready (rs := [17]) (by kernel_rfl) (by simp) ?_
          refine AllReadyH.cons rfl (fun K hK => ?_) AllReadyH.nil
          refine wp_append_run (.tmp 12) (.tmp 24) 167 rfl _ _ rfl rfl happ ?_
          go_simp
          refine hK.out _ _ (hcl' _ hMcl4) (fun hHeld => ?_)
          clear hK K
          try simp only [Act.put, List.setIfInBounds_toArray, List.set_cons_zero, List.set_cons_succ]
          refine take_x (some 26) 18 rfl rfl ?_
          try simp only [Act.put, List.setIfInBounds_toArray, List.set_cons_zero, List.set_cons_succ]
          refine take_x (some 27) 19 rfl rfl ?_
          try simp only [Act.put, List.setIfInBounds_toArray, List.set_cons_zero, List.set_cons_succ]
          refine wpAnyH_ready (rs := [20]) (by kernel_rfl) (by simp) ?_
          refine AllReadyH.cons rfl (fun K hK => ?_) AllReadyH.nil
          go_simp
          refine hK.out _ _ hcl5 (fun hHeld => ?_)
          clear hK K
          try simp only [Act.put, List.setIfInBounds_toArray, List.set_cons_zero, List.set_cons_succ]
          refine wpAnyH_done (by kernel_rfl) ?_ _
          clear happ
          go_wp2_with fail
          go_end0
          exact unhide HF
end Go.Proofs.YtiiokkllmchohaaGreat
