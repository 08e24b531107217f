/- The code's reader: methods. -/
import Derived.Test.YtiiokkllmchohaaGreatT19
/- ParseH -/
namespace Go.Proofs.YtiiokkllmchohaaGreat
open Go.RowKit
attribute [local go_sem ↓] Go.wp_at_zero Go.wp_at_succ

theorem cnt_some {most : Nat} {s r : List UInt8} {n : Nat} (hp : pC most s = some (n, r)) (w : World) (br : Nat) (h : CRd w br s) : Calls Tryz.prog 74 #[.pointer (some ⟨br, 0, none⟩), .int .i64 (most : Int)] w fun e w' => e = .returned (.int .i64 (n : Int)) ∧ CRd w' br r ∧ Mods (fun k => k = br) w w' :=
  (rd_count most s w br h).mono fun _ _ h => ⟨(h.1 n r hp).1, (h.1 n r hp).2, h.2.2⟩
theorem cnt_none {most : Nat} {s : List UInt8} (hp : pC most s = none) (w : World) (br : Nat) (h : CRd w br s) : Calls Tryz.prog 74 #[.pointer (some ⟨br, 0, none⟩), .int .i64 (most : Int)] w fun e w' => e = .panicked (refC 1) ∧ Mods (fun k => k = br) w w' :=
  (rd_count most s w br h).mono fun _ _ h => ⟨h.2.1 hp, h.2.2⟩
theorem num_some {s r : List UInt8} {n : Int} (hp : pN s = some (n, r)) (w : World) (br : Nat) (h : CRd w br s) : Calls Tryz.prog 135 #[.pointer (some ⟨br, 0, none⟩)] w fun e w' => e = .returned (.int .i64 n) ∧ CRd w' br r ∧ Mods (fun k => k = br) w w' :=
  (rd_number s w br h).mono fun _ _ h => ⟨(h.1 n r hp).1, (h.1 n r hp).2, h.2.2⟩
theorem num_none {s : List UInt8} (hp : pN s = none) (w : World) (br : Nat) (h : CRd w br s) : Calls Tryz.prog 135 #[.pointer (some ⟨br, 0, none⟩)] w fun e w' => e = .panicked (refC 1) ∧ Mods (fun k => k = br) w w' :=
  (rd_number s w br h).mono fun _ _ h => ⟨h.2.1 hp, h.2.2⟩
theorem kind_some {s r : List UInt8} {n : Int} (hp : pN s = some (n, r)) (w : World) (br : Nat) (h : CRd w br s) : Calls Tryz.prog 137 #[.pointer (some ⟨br, 0, none⟩)] w fun e w' => e = .returned (.int .i64 n) ∧ CRd w' br r ∧ Mods (fun k => k = br) w w' :=
  (rd_kind s w br h).mono fun _ _ h => ⟨(h.1 n r hp).1, (h.1 n r hp).2, h.2.2⟩
theorem kind_none {s : List UInt8} (hp : pN s = none) (w : World) (br : Nat) (h : CRd w br s) : Calls Tryz.prog 137 #[.pointer (some ⟨br, 0, none⟩)] w fun e w' => e = .panicked (refC 1) ∧ Mods (fun k => k = br) w w' :=
  (rd_kind s w br h).mono fun _ _ h => ⟨h.2.1 hp, h.2.2⟩
theorem types_some {n : Nat} {s r : List UInt8} {l : List Int} (hp : pL pN n s = some (l, r)) (w : World) (br : Nat) (h : CRd w br s) (hn : n ≤ 40) : Calls Tryz.prog 136 #[.int .i64 (n : Int), .func (.func 137) #[.pointer (some ⟨br, 0, none⟩)] #[]] w fun e w' =>
    ∃ a, e = .returned (.slice a l.length l.length) ∧ OwnTs w' w.heap.size w'.heap.size (.slice a l.length l.length) l ∧ CRd w' br r ∧ Mods (fun k => k = br) w w' :=
  (rd_list_type n s w br h hn).mono fun _ _ h => by
    obtain ⟨v, h1, h2, h3⟩ := h.1 l r hp
    obtain ⟨a, rfl⟩ := h3.form
    exact ⟨a, h1, h3, h2, h.2.2⟩
theorem types_none {n : Nat} {s : List UInt8} (hp : pL pN n s = none) (w : World) (br : Nat) (h : CRd w br s) (hn : n ≤ 40) : Calls Tryz.prog 136 #[.int .i64 (n : Int), .func (.func 137) #[.pointer (some ⟨br, 0, none⟩)] #[]] w fun e w' => e = .panicked (refC 1) ∧ Mods (fun k => k = br) w w' :=
  (rd_list_type n s w br h hn).mono fun _ _ h => ⟨h.2.1 hp, h.2.2⟩
theorem code_some {n : Nat} {s r : List UInt8} {l : List LIns} (hp : pL pIns n s = some (l, r)) (w : World) (br : Nat) (h : CRd w br s) (hn : n ≤ 40) : Calls Tryz.prog 193 #[.int .i64 (n : Int), .func (.func 194) #[.pointer (some ⟨br, 0, none⟩)] #[]] w fun e w' =>
    ∃ a, e = .returned (.slice a l.length l.length) ∧ OwnIs w' w.heap.size w'.heap.size (.slice a l.length l.length) l ∧ CRd w' br r ∧ Mods (fun k => k = br) w w' :=
  (rd_list_ins n s w br h hn).mono fun _ _ h => by
    obtain ⟨v, h1, h2, h3⟩ := h.1 l r hp
    obtain ⟨a, rfl⟩ := h3.form
    exact ⟨a, h1, h3, h2, h.2.2⟩
theorem code_none {n : Nat} {s : List UInt8} (hp : pL pIns n s = none) (w : World) (br : Nat) (h : CRd w br s) (hn : n ≤ 40) : Calls Tryz.prog 193 #[.int .i64 (n : Int), .func (.func 194) #[.pointer (some ⟨br, 0, none⟩)] #[]] w fun e w' => e = .panicked (refC 1) ∧ Mods (fun k => k = br) w w' :=
  (rd_list_ins n s w br h hn).mono fun _ _ h => ⟨h.2.1 hp, h.2.2⟩
theorem frs_some {n locals bb bm : Nat} {s r : List UInt8} {l : List LFrame} (hp : pL (pFrame locals) n s = some (l, r)) (w : World) (br : Nat) (h : CRd w br s) (hn : n ≤ 40) (hl : locals ≤ 40) (cb : w.cell? ⟨bb, 0, none⟩ = some (.pointer (some ⟨br, 0, none⟩))) (cm : w.cell? ⟨bm, 3, none⟩ = some (.int .i64 (locals : Int))) (hbb : bb ≠ br) (hbm : bm ≠ br) :
    Calls Tryz.prog 195 #[.int .i64 (n : Int), .func (.func 196) #[] #[.pointer (some ⟨bb, 0, none⟩), .pointer (some ⟨bm, 0, none⟩)]] w fun e w' =>
    ∃ a, e = .returned (.slice a l.length l.length) ∧ OwnFs w' w.heap.size w'.heap.size (.slice a l.length l.length) l ∧ CRd w' br r ∧ Mods (fun k => k = br) w w' :=
  (rd_list_frame n s w br locals bb bm h hn hl cb cm hbb hbm).mono fun _ _ h => by
    obtain ⟨v, h1, h2, h3⟩ := h.1 l r hp
    obtain ⟨a, rfl⟩ := h3.form
    exact ⟨a, h1, h3, h2, h.2.2⟩
theorem frs_none {n locals bb bm : Nat} {s : List UInt8} (hp : pL (pFrame locals) n s = none) (w : World) (br : Nat) (h : CRd w br s) (hn : n ≤ 40) (hl : locals ≤ 40) (cb : w.cell? ⟨bb, 0, none⟩ = some (.pointer (some ⟨br, 0, none⟩))) (cm : w.cell? ⟨bm, 3, none⟩ = some (.int .i64 (locals : Int))) (hbb : bb ≠ br) (hbm : bm ≠ br) :
    Calls Tryz.prog 195 #[.int .i64 (n : Int), .func (.func 196) #[] #[.pointer (some ⟨bb, 0, none⟩), .pointer (some ⟨bm, 0, none⟩)]] w fun e w' => e = .panicked (refC 1) ∧ Mods (fun k => k = br) w w' :=
  (rd_list_frame n s w br locals bb bm h hn hl cb cm hbb hbm).mono fun _ _ h => ⟨h.2.1 hp, h.2.2⟩

structure MSt2 (w W : World) (br : Nat) (cs : List Value) (s : List UInt8) : Prop where
  mods : Mods (fun k => k = br) w W
  size : w.heap.size + 3 ≤ W.heap.size
  bb : Blk W w.heap.size 203 [.pointer (some ⟨br, 0, none⟩)]
  b0 : Blk W (w.heap.size + 1) 63 [.int .i64 0, .slice none 0 0, .int .i64 0, .int .i64 0, .int .i64 0, .slice none 0 0, .slice none 0 0]
  b1 : Blk W (w.heap.size + 2) 63 cs
  rd : CRd W br s
  old : br < w.heap.size
theorem MSt2.call {w W W' : World} {br : Nat} {cs : List Value} {s s' : List UInt8} (h : MSt2 w W br cs s) (hm : Mods (fun k => k = br) W W') (hr : CRd W' br s') : MSt2 w W' br cs s' :=
  have ho := h.old
  ⟨h.mods.trans hm (fun _ _ e => e), Nat.le_trans h.size hm.size, h.bb.mods hm (by omega), h.b0.mods hm (by omega), h.b1.mods hm (by omega), hr, ho⟩
theorem MSt2.put {w W : World} {br : Nat} {cs : List Value} {s : List UInt8} (h : MSt2 w W br cs s) (i : Nat) (v : Value) : MSt2 w (W.setCell ⟨w.heap.size + 2, i, none⟩ v) br (cs.set i v) s :=
  have ho := h.old
  ⟨h.mods.set (by omega) v, by have := h.size; simpa [World.setCell] using this, h.bb.setCell_ne (p := ⟨w.heap.size + 2, i, none⟩) (by simp only; omega) v, h.b0.setCell_ne (p := ⟨w.heap.size + 2, i, none⟩) (by simp only; omega) v, h.b1.setCell i v, Blk.setCell_ne h.rd (p := ⟨w.heap.size + 2, i, none⟩) (by simp only; omega) v, ho⟩
theorem Mods.undrew {S : Nat → Prop} {W w' : World} (h : Mods S W.drew w') : Mods S W w' := ⟨h.os, h.tape, h.output, h.size, h.block⟩
theorem fin7 {w W : World} {br : Nat} {cs : List Value} {s : List UInt8} (h : MSt2 w W br cs s) (u v0 v1 v2 v3 v4 v5 v6 : Value) :
    Blk (put7 (W.setCell ⟨w.heap.size + 1 + 1, 6, none⟩ u) (w.heap.size + 1) v0 v1 v2 v3 v4 v5 v6) (w.heap.size + 1) 63 [v0, v1, v2, v3, v4, v5, v6] ∧ Mods (fun k => k = br) w (put7 (W.setCell ⟨w.heap.size + 1 + 1, 6, none⟩ u) (w.heap.size + 1) v0 v1 v2 v3 v4 v5 v6) ∧
    CRd (put7 (W.setCell ⟨w.heap.size + 1 + 1, 6, none⟩ u) (w.heap.size + 1) v0 v1 v2 v3 v4 v5 v6) br s ∧ (put7 (W.setCell ⟨w.heap.size + 1 + 1, 6, none⟩ u) (w.heap.size + 1) v0 v1 v2 v3 v4 v5 v6).heap.size = W.heap.size ∧
    ∀ k, k ≠ w.heap.size + 1 → k ≠ w.heap.size + 1 + 1 → (put7 (W.setCell ⟨w.heap.size + 1 + 1, 6, none⟩ u) (w.heap.size + 1) v0 v1 v2 v3 v4 v5 v6).heap[k]? = W.heap[k]? := by
  have ho := h.old
  have hp := h.put 6 u
  have hm := put7_mods (W.setCell ⟨w.heap.size + 1 + 1, 6, none⟩ u) (w.heap.size + 1) v0 v1 v2 v3 v4 v5 v6
  refine ⟨put7_blk hp.b0 v0 v1 v2 v3 v4 v5 v6, Mods.trans hp.mods hm (fun k hk e => by omega), Blk.mods hp.rd hm (by omega), by simp [put7, World.setCell], fun k k1 k2 => ?_⟩
  unfold put7
  rw [Below.heap_setCell _ _ _ _ k1, Below.heap_setCell _ _ _ _ k1, Below.heap_setCell _ _ _ _ k1, Below.heap_setCell _ _ _ _ k1, Below.heap_setCell _ _ _ _ k1, Below.heap_setCell _ _ _ _ k1, Below.heap_setCell _ _ _ _ k1, Below.heap_setCell _ _ _ _ k2]
theorem size_set (W : World) (b i : Nat) (v : Value) : (W.setCell ⟨b, i, none⟩ v).heap.size = W.heap.size := by simp [World.setCell]

set_option maxHeartbeats 4000000 in
set_option maxRecDepth 100000 in
theorem rd_method (s : List UInt8) (w : World) (br : Nat) (h : CRd w br s) : Calls Tryz.prog 139 #[.pointer (some ⟨br, 0, none⟩)] w fun e w' =>
    (∀ m r, pMeth s = some (m, r) → ∃ a b c, e = .returned (.agg #[.int .i64 m.slot, .slice a m.args.length m.args.length, .int .i64 m.ret, .int .i64 m.locals, .int .i64 m.stack, .slice b m.code.length m.code.length, .slice c m.frames.length m.frames.length]) ∧ CRd w' br r ∧
      EMe w' w.heap.size w'.heap.size [.int .i64 m.slot, .slice a m.args.length m.args.length, .int .i64 m.ret, .int .i64 m.locals, .int .i64 m.stack, .slice b m.code.length m.code.length, .slice c m.frames.length m.frames.length] m) ∧
    (pMeth s = none → e = .panicked (refC 1)) ∧ Mods (fun k => k = br) w w' := by
  have hbr := h.lt
  have T0 : Hid (MSt2 w (((w.alloc (.cells #[.pointer (some ⟨br, 0, none⟩)] 203)).alloc (.cells #[.int .i64 0, .slice none 0 0, .int .i64 0, .int .i64 0, .int .i64 0, .slice none 0 0, .slice none 0 0] 63)).alloc (.cells #[.int .i64 0, .slice none 0 0, .int .i64 0, .int .i64 0, .int .i64 0, .slice none 0 0, .slice none 0 0] 63)) br [.int .i64 0, .slice none 0 0, .int .i64 0, .int .i64 0, .int .i64 0, .slice none 0 0, .slice none 0 0] s) := by
    refine ⟨(((Mods.refl _ w).alloc _).alloc _).alloc _, by simp, ((Blk.new w _ _).alloc _).alloc _, ?_, ?_, ((Blk.alloc h _).alloc _).alloc _, hbr⟩
    · have := (Blk.new (w.alloc (.cells #[.pointer (some ⟨br, 0, none⟩)] 203)) #[.int .i64 0, .slice none 0 0, .int .i64 0, .int .i64 0, .int .i64 0, .slice none 0 0, .slice none 0 0] 63).alloc (.cells #[.int .i64 0, .slice none 0 0, .int .i64 0, .int .i64 0, .int .i64 0, .slice none 0 0, .slice none 0 0] 63)
      simpa using this
    · have := Blk.new ((w.alloc (.cells #[.pointer (some ⟨br, 0, none⟩)] 203)).alloc (.cells #[.int .i64 0, .slice none 0 0, .int .i64 0, .int .i64 0, .int .i64 0, .slice none 0 0, .slice none 0 0] 63)) #[.int .i64 0, .slice none 0 0, .int .i64 0, .int .i64 0, .int .i64 0, .slice none 0 0, .slice none 0 0] 63
      simpa using this
  go_enter Tryz.func139, Tryz.ntmps139
  go_wp2_with fail
  generalize ((w.alloc _).alloc _).alloc _ = W0 at *
  clear h
  rcases p0 : pN s with _ | ⟨a, s1⟩
  · have HN : Hid (pMeth s = none) := by show _ = _; unfold pMeth; rw [p0]; rfl
    refine Calls.mono (num_none p0 _ br (unhide T0).rd) ?_
    rintro e z ⟨rfl, hm⟩
    clear p0
    go_wp2_with fail
    refine ⟨rfl, fun m r e => ?_, fun _ => rfl, (unhide T0).mods.trans hm (fun _ _ e => e)⟩
    rw [unhide HN] at e; cases e
  have P0 := hide p0
  refine Calls.mono (num_some p0 _ br (unhide T0).rd) ?_
  rintro e w0 ⟨rfl, hR, hm⟩
  have T0a := hide ((unhide T0).call hm hR)
  clear p0 hR hm T0
  obtain ⟨⟨c0, c1, c2, c3, c4, c5, c6⟩, f0, f1, f2, f3, f4, f5, f6⟩ := blk7 (unhide T0a).b1
  have cb : w0.cell? ⟨w.heap.size, 0, none⟩ = some (.pointer (some ⟨br, 0, none⟩)) := (unhide T0a).bb.cell 0
  go_wp2_with fail
  have T0b := hide ((unhide T0a).put 0 (.int .i64 a))
  generalize w0.setCell _ _ = V0 at *
  clear c0 c1 c2 c3 c4 c5 c6 f0 f1 f2 f3 f4 f5 f6 cb T0a
  have cb : V0.cell? ⟨w.heap.size, 0, none⟩ = some (.pointer (some ⟨br, 0, none⟩)) := (unhide T0b).bb.cell 0
  refine wp_region_held_drew (S := fun w' => w'.cell? ⟨w.heap.size, 0, none⟩ = some (.pointer (some ⟨br, 0, none⟩))) (by kernel_rfl) ?_ (fun hHeld => ?_)
  · exact cb
  refine take_d (some 7) (i := 0) (v := .pointer (some ⟨br, 0, none⟩)) rfl rfl (by kernel_rfl) (by kernel_rfl) (by kernel_rfl) (fun _ _ _ h => h) (Or.inl ⟨by rfl, fun w' hSw => by (try dsimp only at hSw); go_simp⟩) (by assumption) ?_
  try simp only [Act.put, List.setIfInBounds_toArray, List.set_cons_zero, List.set_cons_succ]
  refine take_d (some 9) (i := 2) (v := .pointer (some ⟨br, 0, none⟩)) rfl rfl (by kernel_rfl) (by kernel_rfl) (by kernel_rfl) (fun _ _ _ h => h) (Or.inl ⟨by rfl, fun w' hSw => by (try dsimp only at hSw); go_simp⟩) (by assumption) ?_
  try simp only [Act.put, List.setIfInBounds_toArray, List.set_cons_zero, List.set_cons_succ]
  refine take_d (some 10) (i := 3) (v := .func (.func 137) #[.pointer (some ⟨br, 0, none⟩)] #[]) rfl rfl (by kernel_rfl) (by kernel_rfl) (by kernel_rfl) (fun _ _ _ h => h) (Or.inl ⟨by rfl, fun w' hSw => by (try dsimp only at hSw); go_simp⟩) (by assumption) ?_
  try simp only [Act.put, List.setIfInBounds_toArray, List.set_cons_zero, List.set_cons_succ]
  refine wpAnyH_ready (rs := [1]) (by kernel_rfl) (by simp) ?_
  refine AllReadyH.cons rfl (fun K hK => ?_) AllReadyH.nil
  go_simp
  rcases p1 : pC 3 s1 with _ | ⟨n1, s2⟩
  · have HN : Hid (pMeth s = none) := by show _ = _; unfold pMeth; rw [unhide P0]; simp only [Option.bind_some]; rw [p1]; rfl
    refine Calls.mono (cnt_none p1 _ br (unhide T0b).rd) ?_
    rintro e z ⟨rfl, hm⟩
    clear p1
    go_wp2_with fail
    refine ⟨rfl, fun m r e => ?_, fun _ => rfl, (unhide T0b).mods.trans hm.undrew (fun _ _ e => e)⟩
    rw [unhide HN] at e; cases e
  have P1 := hide p1
  have q1 := (pC_sound p1).1
  refine Calls.mono (cnt_some p1 _ br (unhide T0b).rd) ?_
  rintro e w1 ⟨rfl, hR, hm0⟩
  have hm := hm0.undrew
  have T1a := hide ((unhide T0b).call hm hR)
  clear p1 hR hm hm0 T0b cb
  have cb : w1.cell? ⟨w.heap.size, 0, none⟩ = some (.pointer (some ⟨br, 0, none⟩)) := (unhide T1a).bb.cell 0
  go_wp2_with fail
  refine hK.out _ _ cb (fun hHeld2 => ?_)
  clear hK K hHeld
  try simp only [Act.put, List.setIfInBounds_toArray, List.set_cons_zero, List.set_cons_succ]
  refine wpAnyH_ready (rs := [4]) (by kernel_rfl) (by simp) ?_
  refine AllReadyH.cons rfl (fun K hK => ?_) AllReadyH.nil
  go_simp
  rcases p2 : pL pN n1 s2 with _ | ⟨args, s3⟩
  · have HN : Hid (pMeth s = none) := by show _ = _; unfold pMeth; rw [unhide P0]; simp only [Option.bind_some]; rw [unhide P1]; simp only [Option.bind_some]; rw [p2]; rfl
    refine Calls.mono (types_none p2 _ br (unhide T1a).rd (by omega)) ?_
    rintro e z ⟨rfl, hm⟩
    clear p2
    go_wp2_with fail
    refine ⟨rfl, fun m r e => ?_, fun _ => rfl, (unhide T1a).mods.trans hm (fun _ _ e => e)⟩
    rw [unhide HN] at e; cases e
  skip
  have P2 := hide p2
  refine Calls.mono (types_some p2 _ br (unhide T1a).rd (by omega)) ?_
  rintro e w2 ⟨vargs, rfl, hO, hR, hm⟩
  have sz1 := (unhide T1a).size
  have Oargs := hide hO
  have LOargs := hide (Nat.le_refl w2.heap.size)
  have T2a := hide ((unhide T1a).call hm hR)
  clear p2 hR hm T1a cb hO
  obtain ⟨⟨c0, c1, c2, c3, c4, c5, c6⟩, f0, f1, f2, f3, f4, f5, f6⟩ := blk7 (unhide T2a).b1
  have cb : w2.cell? ⟨w.heap.size, 0, none⟩ = some (.pointer (some ⟨br, 0, none⟩)) := (unhide T2a).bb.cell 0
  go_wp2_with fail
  refine hK.out _ _ cb (fun hHeld3 => ?_)
  clear hK K hHeld2
  try simp only [Act.put, List.setIfInBounds_toArray, List.set_cons_zero, List.set_cons_succ]
  refine take_d (some 12) (i := 5) (v := .pointer (some ⟨w.heap.size + 2, 1, none⟩)) rfl rfl (by kernel_rfl) (by kernel_rfl) (by kernel_rfl) (fun _ _ _ h => h) (Or.inl ⟨by rfl, fun w' hSw => by (try dsimp only at hSw); go_simp⟩) (by assumption) ?_
  try simp only [Act.put, List.setIfInBounds_toArray, List.set_cons_zero, List.set_cons_succ]
  refine wpAnyH_ready (rs := [6]) (by kernel_rfl) (by simp) ?_
  refine AllReadyH.cons rfl (fun K hK => ?_) AllReadyH.nil
  go_simp
  have T2b := hide ((unhide T2a).put 1 (.slice vargs args.length args.length))
  have Oargs := hide ((unhide Oargs).set okInt (b := w.heap.size + 2) (i := 1) (u := .slice vargs args.length args.length) (by omega))
  have LOargs := hide (Nat.le_trans (unhide LOargs) (Nat.le_of_eq (size_set _ (w.heap.size + 2) 1 (.slice vargs args.length args.length)).symm))
  generalize w2.setCell _ _ = V2 at *
  have cb2 : V2.cell? ⟨w.heap.size, 0, none⟩ = some (.pointer (some ⟨br, 0, none⟩)) := (unhide T2b).bb.cell 0
  refine hK.out _ _ cb2 (fun hHeld4 => ?_)
  clear hK K hHeld3 c0 c1 c2 c3 c4 c5 c6 f0 f1 f2 f3 f4 f5 f6 cb T2a cb2
  try simp only [Act.put, List.setIfInBounds_toArray, List.set_cons_zero, List.set_cons_succ]
  refine wpAnyH_done (by kernel_rfl) ?_ _
  clear hHeld4
  have cb : V2.cell? ⟨w.heap.size, 0, none⟩ = some (.pointer (some ⟨br, 0, none⟩)) := (unhide T2b).bb.cell 0
  go_wp2_with fail
  clear cb
  rcases p3 : pN s3 with _ | ⟨d, s4⟩
  · have HN : Hid (pMeth s = none) := by show _ = _; unfold pMeth; rw [unhide P0]; simp only [Option.bind_some]; rw [unhide P1]; simp only [Option.bind_some]; rw [unhide P2]; simp only [Option.bind_some]; rw [p3]; rfl
    refine Calls.mono (kind_none p3 _ br (unhide T2b).rd) ?_
    rintro e z ⟨rfl, hm⟩
    clear p3
    go_wp2_with fail
    refine ⟨rfl, fun m r e => ?_, fun _ => rfl, (unhide T2b).mods.trans hm (fun _ _ e => e)⟩
    rw [unhide HN] at e; cases e
  have P3 := hide p3
  refine Calls.mono (kind_some p3 _ br (unhide T2b).rd) ?_
  rintro e w3 ⟨rfl, hR, hm⟩
  have Oargs := hide ((unhide Oargs).mods okInt hm (by omega) (unhide LOargs))
  have LOargs := hide (Nat.le_trans (unhide LOargs) hm.size)
  have T3a := hide ((unhide T2b).call hm hR)
  clear p3 hR hm T2b
  obtain ⟨⟨c0, c1, c2, c3, c4, c5, c6⟩, f0, f1, f2, f3, f4, f5, f6⟩ := blk7 (unhide T3a).b1
  have cb : w3.cell? ⟨w.heap.size, 0, none⟩ = some (.pointer (some ⟨br, 0, none⟩)) := (unhide T3a).bb.cell 0
  go_wp2_with fail
  have T3b := hide ((unhide T3a).put 2 (.int .i64 d))
  have Oargs := hide ((unhide Oargs).set okInt (b := w.heap.size + 2) (i := 2) (u := .int .i64 d) (by omega))
  have LOargs := hide (Nat.le_trans (unhide LOargs) (Nat.le_of_eq (size_set _ (w.heap.size + 2) 2 (.int .i64 d)).symm))
  generalize w3.setCell _ _ = V3 at *
  clear c0 c1 c2 c3 c4 c5 c6 f0 f1 f2 f3 f4 f5 f6 cb T3a
  rcases p4 : pC 8 s4 with _ | ⟨lo, s5⟩
  · have HN : Hid (pMeth s = none) := by show _ = _; unfold pMeth; rw [unhide P0]; simp only [Option.bind_some]; rw [unhide P1]; simp only [Option.bind_some]; rw [unhide P2]; simp only [Option.bind_some]; rw [unhide P3]; simp only [Option.bind_some]; rw [p4]; rfl
    refine Calls.mono (cnt_none p4 _ br (unhide T3b).rd) ?_
    rintro e z ⟨rfl, hm⟩
    clear p4
    go_wp2_with fail
    refine ⟨rfl, fun m r e => ?_, fun _ => rfl, (unhide T3b).mods.trans hm (fun _ _ e => e)⟩
    rw [unhide HN] at e; cases e
  have P4 := hide p4
  have hlo := (pC_sound p4).1
  refine Calls.mono (cnt_some p4 _ br (unhide T3b).rd) ?_
  rintro e w4 ⟨rfl, hR, hm⟩
  have Oargs := hide ((unhide Oargs).mods okInt hm (by omega) (unhide LOargs))
  have LOargs := hide (Nat.le_trans (unhide LOargs) hm.size)
  have T4a := hide ((unhide T3b).call hm hR)
  clear p4 hR hm T3b
  obtain ⟨⟨c0, c1, c2, c3, c4, c5, c6⟩, f0, f1, f2, f3, f4, f5, f6⟩ := blk7 (unhide T4a).b1
  have cb : w4.cell? ⟨w.heap.size, 0, none⟩ = some (.pointer (some ⟨br, 0, none⟩)) := (unhide T4a).bb.cell 0
  go_wp2_with fail
  have T4b := hide ((unhide T4a).put 3 (.int .i64 (lo : Int)))
  have Oargs := hide ((unhide Oargs).set okInt (b := w.heap.size + 2) (i := 3) (u := .int .i64 (lo : Int)) (by omega))
  have LOargs := hide (Nat.le_trans (unhide LOargs) (Nat.le_of_eq (size_set _ (w.heap.size + 2) 3 (.int .i64 (lo : Int))).symm))
  generalize w4.setCell _ _ = V4 at *
  clear c0 c1 c2 c3 c4 c5 c6 f0 f1 f2 f3 f4 f5 f6 cb T4a
  rcases p5 : pC 8 s5 with _ | ⟨sk, s6⟩
  · have HN : Hid (pMeth s = none) := by show _ = _; unfold pMeth; rw [unhide P0]; simp only [Option.bind_some]; rw [unhide P1]; simp only [Option.bind_some]; rw [unhide P2]; simp only [Option.bind_some]; rw [unhide P3]; simp only [Option.bind_some]; rw [unhide P4]; simp only [Option.bind_some]; rw [p5]; rfl
    refine Calls.mono (cnt_none p5 _ br (unhide T4b).rd) ?_
    rintro e z ⟨rfl, hm⟩
    clear p5
    go_wp2_with fail
    refine ⟨rfl, fun m r e => ?_, fun _ => rfl, (unhide T4b).mods.trans hm (fun _ _ e => e)⟩
    rw [unhide HN] at e; cases e
  have P5 := hide p5
  refine Calls.mono (cnt_some p5 _ br (unhide T4b).rd) ?_
  rintro e w5 ⟨rfl, hR, hm⟩
  have Oargs := hide ((unhide Oargs).mods okInt hm (by omega) (unhide LOargs))
  have LOargs := hide (Nat.le_trans (unhide LOargs) hm.size)
  have T5a := hide ((unhide T4b).call hm hR)
  clear p5 hR hm T4b
  obtain ⟨⟨c0, c1, c2, c3, c4, c5, c6⟩, f0, f1, f2, f3, f4, f5, f6⟩ := blk7 (unhide T5a).b1
  have cb : w5.cell? ⟨w.heap.size, 0, none⟩ = some (.pointer (some ⟨br, 0, none⟩)) := (unhide T5a).bb.cell 0
  go_wp2_with fail
  have T5b := hide ((unhide T5a).put 4 (.int .i64 (sk : Int)))
  have Oargs := hide ((unhide Oargs).set okInt (b := w.heap.size + 2) (i := 4) (u := .int .i64 (sk : Int)) (by omega))
  have LOargs := hide (Nat.le_trans (unhide LOargs) (Nat.le_of_eq (size_set _ (w.heap.size + 2) 4 (.int .i64 (sk : Int))).symm))
  generalize w5.setCell _ _ = V5 at *
  clear c0 c1 c2 c3 c4 c5 c6 f0 f1 f2 f3 f4 f5 f6 cb T5a
  have cb : V5.cell? ⟨w.heap.size, 0, none⟩ = some (.pointer (some ⟨br, 0, none⟩)) := (unhide T5b).bb.cell 0
  refine wp_region_held_drew (S := fun w' => w'.cell? ⟨w.heap.size, 0, none⟩ = some (.pointer (some ⟨br, 0, none⟩))) (by kernel_rfl) ?_ (fun hHeld => ?_)
  · exact cb
  refine take_d (some 22) (i := 0) (v := .pointer (some ⟨br, 0, none⟩)) rfl rfl (by kernel_rfl) (by kernel_rfl) (by kernel_rfl) (fun _ _ _ h => h) (Or.inl ⟨by rfl, fun w' hSw => by (try dsimp only at hSw); go_simp⟩) (by assumption) ?_
  try simp only [Act.put, List.setIfInBounds_toArray, List.set_cons_zero, List.set_cons_succ]
  refine take_d (some 24) (i := 2) (v := .pointer (some ⟨br, 0, none⟩)) rfl rfl (by kernel_rfl) (by kernel_rfl) (by kernel_rfl) (fun _ _ _ h => h) (Or.inl ⟨by rfl, fun w' hSw => by (try dsimp only at hSw); go_simp⟩) (by assumption) ?_
  try simp only [Act.put, List.setIfInBounds_toArray, List.set_cons_zero, List.set_cons_succ]
  refine take_d (some 25) (i := 3) (v := .func (.func 194) #[.pointer (some ⟨br, 0, none⟩)] #[]) rfl rfl (by kernel_rfl) (by kernel_rfl) (by kernel_rfl) (fun _ _ _ h => h) (Or.inl ⟨by rfl, fun w' hSw => by (try dsimp only at hSw); go_simp⟩) (by assumption) ?_
  try simp only [Act.put, List.setIfInBounds_toArray, List.set_cons_zero, List.set_cons_succ]
  refine wpAnyH_ready (rs := [1]) (by kernel_rfl) (by simp) ?_
  refine AllReadyH.cons rfl (fun K hK => ?_) AllReadyH.nil
  go_simp
  rcases p6 : pC 40 s6 with _ | ⟨n2, s7⟩
  · have HN : Hid (pMeth s = none) := by show _ = _; unfold pMeth; rw [unhide P0]; simp only [Option.bind_some]; rw [unhide P1]; simp only [Option.bind_some]; rw [unhide P2]; simp only [Option.bind_some]; rw [unhide P3]; simp only [Option.bind_some]; rw [unhide P4]; simp only [Option.bind_some]; rw [unhide P5]; simp only [Option.bind_some]; rw [p6]; rfl
    refine Calls.mono (cnt_none p6 _ br (unhide T5b).rd) ?_
    rintro e z ⟨rfl, hm⟩
    clear p6
    go_wp2_with fail
    refine ⟨rfl, fun m r e => ?_, fun _ => rfl, (unhide T5b).mods.trans hm.undrew (fun _ _ e => e)⟩
    rw [unhide HN] at e; cases e
  have P6 := hide p6
  have q6 := (pC_sound p6).1
  refine Calls.mono (cnt_some p6 _ br (unhide T5b).rd) ?_
  rintro e w6 ⟨rfl, hR, hm0⟩
  have hm := hm0.undrew
  have Oargs := hide ((unhide Oargs).mods okInt hm (by omega) (unhide LOargs))
  have LOargs := hide (Nat.le_trans (unhide LOargs) hm.size)
  have T6a := hide ((unhide T5b).call hm hR)
  clear p6 hR hm hm0 T5b cb
  have cb : w6.cell? ⟨w.heap.size, 0, none⟩ = some (.pointer (some ⟨br, 0, none⟩)) := (unhide T6a).bb.cell 0
  go_wp2_with fail
  refine hK.out _ _ cb (fun hHeld2 => ?_)
  clear hK K hHeld
  try simp only [Act.put, List.setIfInBounds_toArray, List.set_cons_zero, List.set_cons_succ]
  refine wpAnyH_ready (rs := [4]) (by kernel_rfl) (by simp) ?_
  refine AllReadyH.cons rfl (fun K hK => ?_) AllReadyH.nil
  go_simp
  rcases p7 : pL pIns n2 s7 with _ | ⟨code, s8⟩
  · have HN : Hid (pMeth s = none) := by show _ = _; unfold pMeth; rw [unhide P0]; simp only [Option.bind_some]; rw [unhide P1]; simp only [Option.bind_some]; rw [unhide P2]; simp only [Option.bind_some]; rw [unhide P3]; simp only [Option.bind_some]; rw [unhide P4]; simp only [Option.bind_some]; rw [unhide P5]; simp only [Option.bind_some]; rw [unhide P6]; simp only [Option.bind_some]; rw [p7]; rfl
    refine Calls.mono (code_none p7 _ br (unhide T6a).rd (by omega)) ?_
    rintro e z ⟨rfl, hm⟩
    clear p7
    go_wp2_with fail
    refine ⟨rfl, fun m r e => ?_, fun _ => rfl, (unhide T6a).mods.trans hm (fun _ _ e => e)⟩
    rw [unhide HN] at e; cases e
  have GOargscode := unhide LOargs
  have P7 := hide p7
  refine Calls.mono (code_some p7 _ br (unhide T6a).rd (by omega)) ?_
  rintro e w7 ⟨vcode, rfl, hO, hR, hm⟩
  have Oargs := hide ((unhide Oargs).mods okInt hm (by omega) (unhide LOargs))
  have LOargs := hide (Nat.le_trans (unhide LOargs) hm.size)
  have sz6 := (unhide T6a).size
  have Ocode := hide hO
  have LOcode := hide (Nat.le_refl w7.heap.size)
  have T7a := hide ((unhide T6a).call hm hR)
  clear p7 hR hm T6a cb hO
  obtain ⟨⟨c0, c1, c2, c3, c4, c5, c6⟩, f0, f1, f2, f3, f4, f5, f6⟩ := blk7 (unhide T7a).b1
  have cb : w7.cell? ⟨w.heap.size, 0, none⟩ = some (.pointer (some ⟨br, 0, none⟩)) := (unhide T7a).bb.cell 0
  go_wp2_with fail
  refine hK.out _ _ cb (fun hHeld3 => ?_)
  clear hK K hHeld2
  try simp only [Act.put, List.setIfInBounds_toArray, List.set_cons_zero, List.set_cons_succ]
  refine take_d (some 27) (i := 5) (v := .pointer (some ⟨w.heap.size + 2, 5, none⟩)) rfl rfl (by kernel_rfl) (by kernel_rfl) (by kernel_rfl) (fun _ _ _ h => h) (Or.inl ⟨by rfl, fun w' hSw => by (try dsimp only at hSw); go_simp⟩) (by assumption) ?_
  try simp only [Act.put, List.setIfInBounds_toArray, List.set_cons_zero, List.set_cons_succ]
  refine wpAnyH_ready (rs := [6]) (by kernel_rfl) (by simp) ?_
  refine AllReadyH.cons rfl (fun K hK => ?_) AllReadyH.nil
  go_simp
  have T7b := hide ((unhide T7a).put 5 (.slice vcode code.length code.length))
  have Oargs := hide ((unhide Oargs).set okInt (b := w.heap.size + 2) (i := 5) (u := .slice vcode code.length code.length) (by omega))
  have LOargs := hide (Nat.le_trans (unhide LOargs) (Nat.le_of_eq (size_set _ (w.heap.size + 2) 5 (.slice vcode code.length code.length)).symm))
  have Ocode := hide ((unhide Ocode).set okIns (b := w.heap.size + 2) (i := 5) (u := .slice vcode code.length code.length) (by omega))
  have LOcode := hide (Nat.le_trans (unhide LOcode) (Nat.le_of_eq (size_set _ (w.heap.size + 2) 5 (.slice vcode code.length code.length)).symm))
  generalize w7.setCell _ _ = V7 at *
  have cb2 : V7.cell? ⟨w.heap.size, 0, none⟩ = some (.pointer (some ⟨br, 0, none⟩)) := (unhide T7b).bb.cell 0
  refine hK.out _ _ cb2 (fun hHeld4 => ?_)
  clear hK K hHeld3 c0 c1 c2 c3 c4 c5 c6 f0 f1 f2 f3 f4 f5 f6 cb T7a cb2
  try simp only [Act.put, List.setIfInBounds_toArray, List.set_cons_zero, List.set_cons_succ]
  refine wpAnyH_done (by kernel_rfl) ?_ _
  clear hHeld4
  have cb : V7.cell? ⟨w.heap.size, 0, none⟩ = some (.pointer (some ⟨br, 0, none⟩)) := (unhide T7b).bb.cell 0
  go_wp2_with fail
  clear cb
  rcases p8 : pC 40 s8 with _ | ⟨n3, s9⟩
  · have HN : Hid (pMeth s = none) := by show _ = _; unfold pMeth; rw [unhide P0]; simp only [Option.bind_some]; rw [unhide P1]; simp only [Option.bind_some]; rw [unhide P2]; simp only [Option.bind_some]; rw [unhide P3]; simp only [Option.bind_some]; rw [unhide P4]; simp only [Option.bind_some]; rw [unhide P5]; simp only [Option.bind_some]; rw [unhide P6]; simp only [Option.bind_some]; rw [unhide P7]; simp only [Option.bind_some]; rw [p8]; rfl
    refine Calls.mono (cnt_none p8 _ br (unhide T7b).rd) ?_
    rintro e z ⟨rfl, hm⟩
    clear p8
    go_wp2_with fail
    refine ⟨rfl, fun m r e => ?_, fun _ => rfl, (unhide T7b).mods.trans hm (fun _ _ e => e)⟩
    rw [unhide HN] at e; cases e
  have P8 := hide p8
  have q8 := (pC_sound p8).1
  refine Calls.mono (cnt_some p8 _ br (unhide T7b).rd) ?_
  rintro e w8 ⟨rfl, hR, hm⟩
  have Oargs := hide ((unhide Oargs).mods okInt hm (by omega) (unhide LOargs))
  have LOargs := hide (Nat.le_trans (unhide LOargs) hm.size)
  have Ocode := hide ((unhide Ocode).mods okIns hm (by omega) (unhide LOcode))
  have LOcode := hide (Nat.le_trans (unhide LOcode) hm.size)
  have T8a := hide ((unhide T7b).call hm hR)
  clear p8 hR hm T7b
  go_wp2_with fail
  rcases p9 : pL (pFrame lo) n3 s9 with _ | ⟨frs, s10⟩
  · have HN : Hid (pMeth s = none) := by show _ = _; unfold pMeth; rw [unhide P0]; simp only [Option.bind_some]; rw [unhide P1]; simp only [Option.bind_some]; rw [unhide P2]; simp only [Option.bind_some]; rw [unhide P3]; simp only [Option.bind_some]; rw [unhide P4]; simp only [Option.bind_some]; rw [unhide P5]; simp only [Option.bind_some]; rw [unhide P6]; simp only [Option.bind_some]; rw [unhide P7]; simp only [Option.bind_some]; rw [unhide P8]; simp only [Option.bind_some]; rw [p9]; rfl
    refine Calls.mono (frs_none p9 _ br (unhide T8a).rd (by omega) (by omega) ((unhide T8a).bb.cell 0) ((unhide T8a).b1.cell 3) (by omega) (by omega)) ?_
    rintro e z ⟨rfl, hm⟩
    clear p9
    go_wp2_with fail
    refine ⟨rfl, fun m r e => ?_, fun _ => rfl, (unhide T8a).mods.trans hm (fun _ _ e => e)⟩
    rw [unhide HN] at e; cases e
  have HS : Hid (pMeth s = some (⟨a, args, d, (lo : Int), (sk : Int), code, frs⟩, s10)) := by show _ = _; unfold pMeth; rw [unhide P0]; simp only [Option.bind_some]; rw [unhide P1]; simp only [Option.bind_some]; rw [unhide P2]; simp only [Option.bind_some]; rw [unhide P3]; simp only [Option.bind_some]; rw [unhide P4]; simp only [Option.bind_some]; rw [unhide P5]; simp only [Option.bind_some]; rw [unhide P6]; simp only [Option.bind_some]; rw [unhide P7]; simp only [Option.bind_some]; rw [unhide P8]; simp only [Option.bind_some]; rw [p9]; rfl
  have GOargsfrs := unhide LOargs
  have GOcodefrs := unhide LOcode
  refine Calls.mono (frs_some p9 _ br (unhide T8a).rd (by omega) (by omega) ((unhide T8a).bb.cell 0) ((unhide T8a).b1.cell 3) (by omega) (by omega)) ?_
  rintro e w9 ⟨vfrs, rfl, hO, hR, hm⟩
  have Oargs := hide ((unhide Oargs).mods okInt hm (by omega) (unhide LOargs))
  have LOargs := hide (Nat.le_trans (unhide LOargs) hm.size)
  have Ocode := hide ((unhide Ocode).mods okIns hm (by omega) (unhide LOcode))
  have LOcode := hide (Nat.le_trans (unhide LOcode) hm.size)
  have szf := (unhide T8a).size
  have Ofrs := hide hO
  have T9a := hide ((unhide T8a).call hm hR)
  clear p9 hR hm T8a hO
  obtain ⟨⟨c0, c1, c2, c3, c4, c5, c6⟩, f0, f1, f2, f3, f4, f5, f6⟩ := blk7 (unhide T9a).b1
  have cb : w9.cell? ⟨w.heap.size, 0, none⟩ = some (.pointer (some ⟨br, 0, none⟩)) := (unhide T9a).bb.cell 0
  obtain ⟨⟨d0, d1, d2, d3, d4, d5, d6⟩, g0, g1, g2, g3, g4, g5, g6⟩ := blk7 (unhide T9a).b0
  go_wp2_with fail
  obtain ⟨Z0, Z1, Z2, Z3, Z4⟩ := fin7 (unhide T9a) (.slice vfrs frs.length frs.length) (.int .i64 a) (.slice vargs args.length args.length) (.int .i64 d) (.int .i64 (lo : Int)) (.int .i64 (sk : Int)) (.slice vcode code.length code.length) (.slice vfrs frs.length frs.length)
  unfold put7 at Z0 Z1 Z2 Z3 Z4
  generalize World.setCell _ _ _ = Z at Z0 Z1 Z2 Z3 Z4 ⊢
  obtain ⟨⟨z0, z1, z2, z3, z4, z5, z6⟩, _⟩ := blk7 Z0
  refine bodyPost_ret (v := .agg #[.int .i64 a, .slice vargs args.length args.length, .int .i64 d, .int .i64 (lo : Int), .int .i64 (sk : Int), .slice vcode code.length code.length, .slice vfrs frs.length frs.length]) (by simp [results, Tryz.results139, go_sem, z0, z1, z2, z3, z4, z5, z6]) rfl ⟨fun m r e => ?_, fun e => ?_, Z1⟩
  · rw [unhide HS] at e
    simp only [Option.some.injEq, Prod.mk.injEq] at e
    obtain ⟨rfl, rfl⟩ := e
    refine ⟨vargs, vcode, vfrs, rfl, Z2, _, _, _, w6.heap.size, w8.heap.size, rfl, ?_, ?_, ?_⟩
    · exact ((unhide Oargs).stay okInt (fun k p q => Z4 k (by omega) (by omega))).wide okInt (by omega) (by omega)
    · exact ((unhide Ocode).stay okIns (fun k p q => Z4 k (by omega) (by omega))).wide okIns (Nat.le_refl _) (by omega)
    · have := (unhide Ofrs).stay okFr (fun k p q => Z4 k (by omega) (by omega))
      rwa [← Z3] at this
  · rw [unhide HS] at e; cases e
end Go.Proofs.YtiiokkllmchohaaGreat
/- The code's reader: lists of methods, classes. -/
namespace Go.Proofs.YtiiokkllmchohaaGreat
open Go.RowKit
attribute [local go_sem ↓] Go.wp_at_zero Go.wp_at_succ

theorem infoMethod : (Tryz.prog.info? 63).map (fun i => (i.zero, i.size, i.bytes)) = some (some (.agg #[.int .i64 0, .slice none 0 0, .int .i64 0, .int .i64 0, .int .i64 0, .slice none 0 0, .slice none 0 0]), 7, 104) := by kernel_rfl
theorem pInfoClass : (Tryz.prog.info? 66).map (fun i => (i.zero, i.size, i.bytes)) = some (some (.agg #[.int .i64 0, .slice none 0 0, .slice none 0 0]), 3, 56) := by kernel_rfl
theorem take_set7 {cs : List Value} {i : Nat} (h : i + 7 ≤ cs.length) (v0 v1 v2 v3 v4 v5 v6 : Value) : (((((((cs.set i v0).set (i + 1) v1).set (i + 2) v2).set (i + 3) v3).set (i + 4) v4).set (i + 5) v5).set (i + 6) v6).take (i + 7) = cs.take i ++ [v0, v1, v2, v3, v4, v5, v6] := by
  rw [take_set1 (by simp; omega), take_set1 (by simp; omega), take_set1 (by simp; omega), take_set1 (by simp; omega), take_set1 (by simp; omega), take_set1 (by simp; omega), take_set1 (by omega)]; simp
theorem row7_blk {w : World} {b : Nat} {t : TypeId} {cs : List Value} (h : Blk w b t cs) (i : Nat) (v0 v1 v2 v3 v4 v5 v6 : Value) : Blk (((((((w.setCell ⟨b, i, none⟩ v0).setCell ⟨b, i + 1, none⟩ v1).setCell ⟨b, i + 2, none⟩ v2).setCell ⟨b, i + 3, none⟩ v3).setCell ⟨b, i + 4, none⟩ v4).setCell ⟨b, i + 5, none⟩ v5).setCell ⟨b, i + 6, none⟩ v6) b t (((((((cs.set i v0).set (i + 1) v1).set (i + 2) v2).set (i + 3) v3).set (i + 4) v4).set (i + 5) v5).set (i + 6) v6) ∧ Mods (fun k => k = b) w (((((((w.setCell ⟨b, i, none⟩ v0).setCell ⟨b, i + 1, none⟩ v1).setCell ⟨b, i + 2, none⟩ v2).setCell ⟨b, i + 3, none⟩ v3).setCell ⟨b, i + 4, none⟩ v4).setCell ⟨b, i + 5, none⟩ v5).setCell ⟨b, i + 6, none⟩ v6) ∧ (((((((w.setCell ⟨b, i, none⟩ v0).setCell ⟨b, i + 1, none⟩ v1).setCell ⟨b, i + 2, none⟩ v2).setCell ⟨b, i + 3, none⟩ v3).setCell ⟨b, i + 4, none⟩ v4).setCell ⟨b, i + 5, none⟩ v5).setCell ⟨b, i + 6, none⟩ v6).heap.size = w.heap.size :=
  ⟨(((((((h.setCell i v0).setCell (i + 1) v1).setCell (i + 2) v2).setCell (i + 3) v3).setCell (i + 4) v4).setCell (i + 5) v5).setCell (i + 6) v6), ((((((((Mods.refl (fun k => k = b) w).setCell (p := ⟨b, i, none⟩) (fun _ => rfl) v0).setCell (p := ⟨b, i + 1, none⟩) (fun _ => rfl) v1).setCell (p := ⟨b, i + 2, none⟩) (fun _ => rfl) v2).setCell (p := ⟨b, i + 3, none⟩) (fun _ => rfl) v3).setCell (p := ⟨b, i + 4, none⟩) (fun _ => rfl) v4).setCell (p := ⟨b, i + 5, none⟩) (fun _ => rfl) v5).setCell (p := ⟨b, i + 6, none⟩) (fun _ => rfl) v6), by simp [World.setCell]⟩

set_option maxHeartbeats 1000000 in
set_option maxRecDepth 100000 in
theorem rd_list_meth (n : Nat) (s : List UInt8) (w : World) (br : Nat) (h : CRd w br s) (hn : n ≤ 40) : Calls Tryz.prog 138 #[.int .i64 (n : Int), .func (.func 139) #[.pointer (some ⟨br, 0, none⟩)] #[]] w fun e w' =>
    (∀ l r, pL pMeth n s = some (l, r) → ∃ v, e = .returned v ∧ CRd w' br r ∧ OwnMs w' w.heap.size w'.heap.size v l) ∧ (pL pMeth n s = none → e = .panicked (refC 1)) ∧ Mods (fun k => k = br) w w' := by
  obtain ⟨i0, hi0, hz0, hz1, hz2⟩ := info_parts infoMethod
  have hbr := h.lt
  by_cases h0 : n = 0
  · subst h0
    go_enter Tryz.func138, Tryz.ntmps138
    go_wp2_with fail
    go_ret
    refine ⟨?_, ?_, Mods.refl _ _⟩
    · intro l r e
      cases e
      exact ⟨_, rfl, h, .inl ⟨rfl, rfl, Nat.le_refl _⟩⟩
    · intro e; cases e
  · have k0 : ((n : Int) == 0) = false := by simpa using h0
    have HR := hide h
    have H0 := hide h0
    clear h h0
    go_enter Tryz.func138, Tryz.ntmps138
    go_wp2_with (at_make; refine wpList_make_blk rfl (.tmp 9) (.tmp 9) 64 rfl 63 i0 (.agg #[.int .i64 0, .slice none 0 0, .int .i64 0, .int .i64 0, .int .i64 0, .slice none 0 0, .slice none 0 0]) 7 104 Tryz.underlying64 hi0 hz0 hz1 hz2 _ _ _ n rfl rfl rfl (by omega) (by omega) ?_; intro w1 hb1 hm1 hs1)
    have hst : RdL 7 EMe pMeth 63 n s br w.heap.size w w1 0 s (madeCells (Value.agg #[.int .i64 0, .slice none 0 0, .int .i64 0, .int .i64 0, .int .i64 0, .slice none 0 0, .slice none 0 0]).cells (n * 7)).toList [] := ⟨hb1, pMade_len _ _, ⟨w1.heap.size, Nat.le_refl _, by simp [OwnL]; omega⟩, rfl, Blk.mods (unhide HR) hm1 (fun f => f), hm1.mono (fun _ _ f => f.elim), by simp, Nat.le_refl _, hbr⟩
    have HST := hide hst
    generalize (madeCells (Value.agg #[.int .i64 0, .slice none 0 0, .int .i64 0, .int .i64 0, .int .i64 0, .slice none 0 0, .slice none 0 0]).cells (n * 7)).toList = cs0 at *
    clear hst hb1 hm1 hs1
    generalize hg : w.heap.size = g at *
    have HG := hide hg
    clear hg
    go_loopw [13] (fun i wr => ∃ (k : Nat) (t : List UInt8) (cs : List Value) (done : List LMeth), k ≤ n ∧ i = .int .i64 k ∧ RdL 7 EMe pMeth 63 n s br g w wr k t cs done) (fun i _ => n - (intOf i).toNat)
    case atStart => exact ⟨0, s, cs0, [], Nat.zero_le _, rfl, unhide HST⟩
    case round =>
      obtain ⟨k, t, cs, done, hk, rfl, hL⟩ := hrel
      have HL := hide hL
      clear hL
      by_cases hlt : k < n
      · have hgb : ¬ (g = br) := by have := (unhide HL).new; have := (unhide HL).old; omega
        cases hp : pMeth t with
        | none =>
          have HN := hide ((unhide HL).none hlt hp)
          go_wp2_with fail
          refine Calls.mono (rd_method t _ br (unhide HL).rd) ?_
          rintro e w2 ⟨h1, h2, hm⟩
          obtain rfl := h2 hp
          go_wp2_with fail
          refine ⟨rfl, ?_, fun _ => rfl, (unhide HL).mods.trans hm (fun _ _ e => e)⟩
          intro l r e
          rw [unhide HN] at e; cases e
        | some x =>
          obtain ⟨x, t2⟩ := x
          have HP := hide hp
          clear hp
          go_wp2_with fail
          refine Calls.mono (rd_method t _ br (unhide HL).rd) ?_
          rintro e w2 ⟨h1, h2, hm⟩
          obtain ⟨la, lb, lc, rfl, hR2, hE⟩ := h1 x t2 (unhide HP)
          have HE := hide hE
          clear hE
          have hB2 := (unhide HL).blk.mods hm hgb
          have hkl : k * 7 + 7 ≤ cs.length := by rw [(unhide HL).len]; omega
          have c0 : w2.cell? ⟨g, k * 7, none⟩ = some (cs[k * 7]'(by omega)) := by rw [hB2.cell]; exact List.getElem?_eq_getElem _
          have f0 := hB2.frozen (k * 7)
          have c1 : w2.cell? ⟨g, k * 7 + 1, none⟩ = some (cs[k * 7 + 1]'(by omega)) := by rw [hB2.cell]; exact List.getElem?_eq_getElem _
          have f1 := hB2.frozen (k * 7 + 1)
          have c2 : w2.cell? ⟨g, k * 7 + 2, none⟩ = some (cs[k * 7 + 2]'(by omega)) := by rw [hB2.cell]; exact List.getElem?_eq_getElem _
          have f2 := hB2.frozen (k * 7 + 2)
          have c3 : w2.cell? ⟨g, k * 7 + 3, none⟩ = some (cs[k * 7 + 3]'(by omega)) := by rw [hB2.cell]; exact List.getElem?_eq_getElem _
          have f3 := hB2.frozen (k * 7 + 3)
          have c4 : w2.cell? ⟨g, k * 7 + 4, none⟩ = some (cs[k * 7 + 4]'(by omega)) := by rw [hB2.cell]; exact List.getElem?_eq_getElem _
          have f4 := hB2.frozen (k * 7 + 4)
          have c5 : w2.cell? ⟨g, k * 7 + 5, none⟩ = some (cs[k * 7 + 5]'(by omega)) := by rw [hB2.cell]; exact List.getElem?_eq_getElem _
          have f5 := hB2.frozen (k * 7 + 5)
          have c6 : w2.cell? ⟨g, k * 7 + 6, none⟩ = some (cs[k * 7 + 6]'(by omega)) := by rw [hB2.cell]; exact List.getElem?_eq_getElem _
          have f6 := hB2.frozen (k * 7 + 6)
          generalize cs[k * 7]'(by omega) = u0 at *
          generalize cs[k * 7 + 1]'(by omega) = u1 at *
          generalize cs[k * 7 + 2]'(by omega) = u2 at *
          generalize cs[k * 7 + 3]'(by omega) = u3 at *
          generalize cs[k * 7 + 4]'(by omega) = u4 at *
          generalize cs[k * 7 + 5]'(by omega) = u5 at *
          generalize cs[k * 7 + 6]'(by omega) = u6 at *
          have HB2 := hide hB2
          have HM := hide hm
          have HR2 := hide hR2
          clear h1 h2 hB2 hm hR2 hgb
          go_wp2_with fail
          obtain ⟨r1, r2, r3⟩ := row7_blk (unhide HB2) (k * 7) (.int .i64 x.slot) (.slice la x.args.length x.args.length) (.int .i64 x.ret) (.int .i64 x.locals) (.int .i64 x.stack) (.slice lb x.code.length x.code.length) (.slice lc x.frames.length x.frames.length)
          refine ⟨⟨k + 1, t2, _, done ++ [x], by omega, by go_num, (unhide HL).step okMe hlt (unhide HP) (unhide HR2) (c := [.int .i64 x.slot, .slice la x.args.length x.args.length, .int .i64 x.ret, .int .i64 x.locals, .int .i64 x.stack, .slice lb x.code.length x.code.length, .slice lc x.frames.length x.frames.length]) rfl (unhide HE) (unhide HM) r1 (by simp) (by rw [Nat.succ_mul]; exact take_set7 hkl _ _ _ _ _ _ _) r2 r3⟩, by simp [intOf]; omega⟩
      · obtain rfl : k = n := by omega
        obtain ⟨e1, e2⟩ := (unhide HL).full okMe (unhide H0)
        have E1 := hide e1
        have E2 := hide e2
        clear e1 e2
        go_wp2_with fail
        go_ret
        refine ⟨?_, ?_, (unhide HL).mods⟩
        · intro l r e
          rw [unhide E1] at e
          simp only [Option.some.injEq, Prod.mk.injEq] at e
          obtain ⟨rfl, rfl⟩ := e
          refine ⟨_, rfl, (unhide HL).rd, ?_⟩
          have := unhide E2
          rwa [unhide HG] at this
        · intro e
          rw [unhide E1] at e; cases e

theorem ms_some {n : Nat} {s r : List UInt8} {l : List LMeth} (hp : pL pMeth n s = some (l, r)) (w : World) (br : Nat) (h : CRd w br s) (hn : n ≤ 40) : Calls Tryz.prog 138 #[.int .i64 (n : Int), .func (.func 139) #[.pointer (some ⟨br, 0, none⟩)] #[]] w fun e w' =>
    ∃ a, e = .returned (.slice a l.length l.length) ∧ OwnMs w' w.heap.size w'.heap.size (.slice a l.length l.length) l ∧ CRd w' br r ∧ Mods (fun k => k = br) w w' :=
  (rd_list_meth n s w br h hn).mono fun _ _ h => by
    obtain ⟨v, h1, h2, h3⟩ := h.1 l r hp
    obtain ⟨a, rfl⟩ := h3.form
    exact ⟨a, h1, h3, h2, h.2.2⟩
theorem ms_none {n : Nat} {s : List UInt8} (hp : pL pMeth n s = none) (w : World) (br : Nat) (h : CRd w br s) (hn : n ≤ 40) : Calls Tryz.prog 138 #[.int .i64 (n : Int), .func (.func 139) #[.pointer (some ⟨br, 0, none⟩)] #[]] w fun e w' => e = .panicked (refC 1) ∧ Mods (fun k => k = br) w w' :=
  (rd_list_meth n s w br h hn).mono fun _ _ h => ⟨h.2.1 hp, h.2.2⟩

structure CSt2 (w W : World) (br : Nat) (cs : List Value) (s : List UInt8) : Prop where
  mods : Mods (fun k => k = br) w W
  size : w.heap.size + 2 ≤ W.heap.size
  b0 : Blk W w.heap.size 66 [.int .i64 0, .slice none 0 0, .slice none 0 0]
  b1 : Blk W (w.heap.size + 1) 66 cs
  rd : CRd W br s
  old : br < w.heap.size
theorem CSt2.call {w W W' : World} {br : Nat} {cs : List Value} {s s' : List UInt8} (h : CSt2 w W br cs s) (hm : Mods (fun k => k = br) W W') (hr : CRd W' br s') : CSt2 w W' br cs s' :=
  have ho := h.old
  ⟨h.mods.trans hm (fun _ _ e => e), Nat.le_trans h.size hm.size, h.b0.mods hm (by omega), h.b1.mods hm (by omega), hr, ho⟩
theorem CSt2.put {w W : World} {br : Nat} {cs : List Value} {s : List UInt8} (h : CSt2 w W br cs s) (i : Nat) (v : Value) : CSt2 w (W.setCell ⟨w.heap.size + 1, i, none⟩ v) br (cs.set i v) s :=
  have ho := h.old
  ⟨h.mods.set (by omega) v, by have := h.size; simpa [World.setCell] using this, h.b0.setCell_ne (p := ⟨w.heap.size + 1, i, none⟩) (by simp only; omega) v, h.b1.setCell i v, Blk.setCell_ne h.rd (p := ⟨w.heap.size + 1, i, none⟩) (by simp only; omega) v, ho⟩

set_option maxHeartbeats 4000000 in
set_option maxRecDepth 100000 in
theorem rd_class (s : List UInt8) (w : World) (br : Nat) (h : CRd w br s) : Calls Tryz.prog 75 #[.pointer (some ⟨br, 0, none⟩)] w fun e w' =>
    (∀ x r, pClass s = some (x, r) → ∃ a b, e = .returned (.agg #[.int .i64 x.sup, .slice a x.fields.length x.fields.length, .slice b x.meths.length x.meths.length]) ∧ CRd w' br r ∧ ECl w' w.heap.size w'.heap.size [.int .i64 x.sup, .slice a x.fields.length x.fields.length, .slice b x.meths.length x.meths.length] x) ∧
    (pClass s = none → e = .panicked (refC 1)) ∧ Mods (fun k => k = br) w w' := by
  have hbr := h.lt
  have T0 : Hid (CSt2 w ((w.alloc (.cells #[.int .i64 0, .slice none 0 0, .slice none 0 0] 66)).alloc (.cells #[.int .i64 0, .slice none 0 0, .slice none 0 0] 66)) br [.int .i64 0, .slice none 0 0, .slice none 0 0] s) := by
    obtain ⟨h1, h2, h3⟩ := two_new w #[.int .i64 0, .slice none 0 0, .slice none 0 0] #[.int .i64 0, .slice none 0 0, .slice none 0 0] 66 66 (fun k => k = br)
    exact ⟨h1, by simp, h2, h3, (Blk.alloc h _).alloc _, hbr⟩
  go_enter Tryz.func75, Tryz.ntmps75
  go_wp2_with fail
  generalize (w.alloc _).alloc _ = W0 at *
  clear h
  rcases p0 : pN s with _ | ⟨a, s1⟩
  · have HN : Hid (pClass s = none) := by show _ = _; unfold pClass; rw [p0]; rfl
    refine Calls.mono (num_none p0 _ br (unhide T0).rd) ?_
    rintro e z ⟨rfl, hm⟩
    clear p0
    go_wp2_with fail
    refine ⟨rfl, fun m r e => ?_, fun _ => rfl, (unhide T0).mods.trans hm (fun _ _ e => e)⟩
    rw [unhide HN] at e; cases e
  have P0 := hide p0
  refine Calls.mono (num_some p0 _ br (unhide T0).rd) ?_
  rintro e w0 ⟨rfl, hR, hm⟩
  have T1 := hide ((unhide T0).call hm hR)
  clear p0 hR hm T0
  obtain ⟨⟨c0, c1, c2⟩, f0, f1, f2⟩ := blk3f (unhide T1).b1
  go_wp2_with fail
  have T2 := hide ((unhide T1).put 0 (.int .i64 a))
  generalize w0.setCell _ _ = V0 at *
  clear c0 c1 c2 f0 f1 f2 T1
  rcases p1 : pC 8 s1 with _ | ⟨n1, s2⟩
  · have HN : Hid (pClass s = none) := by show _ = _; unfold pClass; rw [unhide P0]; simp only [Option.bind_some]; rw [p1]; rfl
    refine Calls.mono (cnt_none p1 _ br (unhide T2).rd) ?_
    rintro e z ⟨rfl, hm⟩
    clear p1
    go_wp2_with fail
    refine ⟨rfl, fun m r e => ?_, fun _ => rfl, (unhide T2).mods.trans hm (fun _ _ e => e)⟩
    rw [unhide HN] at e; cases e
  have P1 := hide p1
  have q1 := (pC_sound p1).1
  refine Calls.mono (cnt_some p1 _ br (unhide T2).rd) ?_
  rintro e w1 ⟨rfl, hR, hm⟩
  have T3 := hide ((unhide T2).call hm hR)
  clear p1 hR hm T2
  go_wp2_with fail
  rcases p2 : pL pN n1 s2 with _ | ⟨fs, s3⟩
  · have HN : Hid (pClass s = none) := by show _ = _; unfold pClass; rw [unhide P0]; simp only [Option.bind_some]; rw [unhide P1]; simp only [Option.bind_some]; rw [p2]; rfl
    refine Calls.mono (types_none p2 _ br (unhide T3).rd (by omega)) ?_
    rintro e z ⟨rfl, hm⟩
    clear p2
    go_wp2_with fail
    refine ⟨rfl, fun m r e => ?_, fun _ => rfl, (unhide T3).mods.trans hm (fun _ _ e => e)⟩
    rw [unhide HN] at e; cases e
  have P2 := hide p2
  refine Calls.mono (types_some p2 _ br (unhide T3).rd (by omega)) ?_
  rintro e w2 ⟨vfs, rfl, hO, hR, hm⟩
  have sz1 := (unhide T3).size
  have T4 := hide ((unhide T3).call hm hR)
  have O1 := hide hO
  clear p2 hR hm T3 hO
  obtain ⟨⟨c0, c1, c2⟩, f0, f1, f2⟩ := blk3f (unhide T4).b1
  go_wp2_with fail
  have T5 := hide ((unhide T4).put 1 (.slice vfs fs.length fs.length))
  have O2 := hide ((unhide O1).set okInt (b := w.heap.size + 1) (i := 1) (u := .slice vfs fs.length fs.length) (by omega))
  have L2 := hide (Nat.le_of_eq (size_set w2 (w.heap.size + 1) 1 (.slice vfs fs.length fs.length)).symm)
  generalize w2.setCell _ _ = V2 at *
  clear c0 c1 c2 f0 f1 f2 T4 O1
  rcases p3 : pC 6 s3 with _ | ⟨n2, s4⟩
  · have HN : Hid (pClass s = none) := by show _ = _; unfold pClass; rw [unhide P0]; simp only [Option.bind_some]; rw [unhide P1]; simp only [Option.bind_some]; rw [unhide P2]; simp only [Option.bind_some]; rw [p3]; rfl
    refine Calls.mono (cnt_none p3 _ br (unhide T5).rd) ?_
    rintro e z ⟨rfl, hm⟩
    clear p3
    go_wp2_with fail
    refine ⟨rfl, fun m r e => ?_, fun _ => rfl, (unhide T5).mods.trans hm (fun _ _ e => e)⟩
    rw [unhide HN] at e; cases e
  have P3 := hide p3
  have q3 := (pC_sound p3).1
  refine Calls.mono (cnt_some p3 _ br (unhide T5).rd) ?_
  rintro e w3 ⟨rfl, hR, hm⟩
  have T6 := hide ((unhide T5).call hm hR)
  have O3 := hide ((unhide O2).mods okInt hm (by omega) (unhide L2))
  have L3 := Nat.le_trans (unhide L2) hm.size
  clear p3 hR hm T5 O2 L2
  go_wp2_with fail
  rcases p4 : pL pMeth n2 s4 with _ | ⟨ms, s5⟩
  · have HN : Hid (pClass s = none) := by show _ = _; unfold pClass; rw [unhide P0]; simp only [Option.bind_some]; rw [unhide P1]; simp only [Option.bind_some]; rw [unhide P2]; simp only [Option.bind_some]; rw [unhide P3]; simp only [Option.bind_some]; rw [p4]; rfl
    refine Calls.mono (ms_none p4 _ br (unhide T6).rd (by omega)) ?_
    rintro e z ⟨rfl, hm⟩
    clear p4
    go_wp2_with fail
    refine ⟨rfl, fun m r e => ?_, fun _ => rfl, (unhide T6).mods.trans hm (fun _ _ e => e)⟩
    rw [unhide HN] at e; cases e
  have HS : Hid (pClass s = some (⟨a, fs, ms⟩, s5)) := by show _ = _; unfold pClass; rw [unhide P0]; simp only [Option.bind_some]; rw [unhide P1]; simp only [Option.bind_some]; rw [unhide P2]; simp only [Option.bind_some]; rw [unhide P3]; simp only [Option.bind_some]; rw [p4]; rfl
  refine Calls.mono (ms_some p4 _ br (unhide T6).rd (by omega)) ?_
  rintro e w4 ⟨vms, rfl, hO, hR, hm⟩
  have sz2 := (unhide T6).size
  have T7 := hide ((unhide T6).call hm hR)
  have O4 := hide ((unhide O3).mods okInt hm (by omega) L3)
  have O5 := hide hO
  clear p4 hR hm T6 hO O3
  obtain ⟨⟨c0, c1, c2⟩, f0, f1, f2⟩ := blk3f (unhide T7).b1
  obtain ⟨⟨d0, d1, d2⟩, g0, g1, g2⟩ := blk3f (unhide T7).b0
  go_wp2_with fail
  obtain ⟨Z0, Z1, Z2, Z3, Z4⟩ := fin3 (unhide T7).b0 (unhide T7).mods (unhide T7).rd (Nat.le_refl _) (Nat.le_succ _) (by omega) hbr 2 (.slice vms ms.length ms.length) (.int .i64 a) (.slice vfs fs.length fs.length) (.slice vms ms.length ms.length)
  generalize World.setCell _ _ _ = Z at Z0 Z1 Z2 Z3 Z4 ⊢
  obtain ⟨z0, z1, z2⟩ := blk3 Z0
  refine bodyPost_ret (v := .agg #[.int .i64 a, .slice vfs fs.length fs.length, .slice vms ms.length ms.length]) (by simp [results, Tryz.results75, go_sem, z0, z1, z2]) rfl ⟨fun m r e => ?_, fun e => ?_, Z1⟩
  · rw [unhide HS] at e
    simp only [Option.some.injEq, Prod.mk.injEq] at e
    obtain ⟨rfl, rfl⟩ := e
    refine ⟨vfs, vms, rfl, Z2, _, _, w3.heap.size, rfl, ?_, ?_⟩
    · exact ((unhide O4).stay okInt (fun k p q => Z4 k (by omega) (by omega))).wide okInt (by omega) (by omega)
    · have := (unhide O5).stay okMe (fun k p q => Z4 k (by omega) (by omega))
      rwa [← Z3] at this
  · rw [unhide HS] at e; cases e

set_option maxHeartbeats 1000000 in
set_option maxRecDepth 100000 in
theorem rd_list_class (n : Nat) (s : List UInt8) (w : World) (br : Nat) (h : CRd w br s) (hn : n ≤ 40) : Calls Tryz.prog 73 #[.int .i64 (n : Int), .func (.func 75) #[.pointer (some ⟨br, 0, none⟩)] #[]] w fun e w' =>
    (∀ l r, pL pClass n s = some (l, r) → ∃ v, e = .returned v ∧ CRd w' br r ∧ OwnCs w' w.heap.size w'.heap.size v l) ∧ (pL pClass n s = none → e = .panicked (refC 1)) ∧ Mods (fun k => k = br) w w' := by
  obtain ⟨i0, hi0, hz0, hz1, hz2⟩ := info_parts pInfoClass
  have hbr := h.lt
  by_cases h0 : n = 0
  · subst h0
    go_enter Tryz.func73, Tryz.ntmps73
    go_wp2_with fail
    go_ret
    refine ⟨?_, ?_, Mods.refl _ _⟩
    · intro l r e
      cases e
      exact ⟨_, rfl, h, .inl ⟨rfl, rfl, Nat.le_refl _⟩⟩
    · intro e; cases e
  · have k0 : ((n : Int) == 0) = false := by simpa using h0
    have HR := hide h
    have H0 := hide h0
    clear h h0
    go_enter Tryz.func73, Tryz.ntmps73
    go_wp2_with (at_make; refine wpList_make_blk rfl (.tmp 9) (.tmp 9) 22 rfl 66 i0 (.agg #[.int .i64 0, .slice none 0 0, .slice none 0 0]) 3 56 Tryz.underlying22 hi0 hz0 hz1 hz2 _ _ _ n rfl rfl rfl (by omega) (by omega) ?_; intro w1 hb1 hm1 hs1)
    have hst : RdL 3 ECl pClass 66 n s br w.heap.size w w1 0 s (madeCells (Value.agg #[.int .i64 0, .slice none 0 0, .slice none 0 0]).cells (n * 3)).toList [] := ⟨hb1, pMade_len _ _, ⟨w1.heap.size, Nat.le_refl _, by simp [OwnL]; omega⟩, rfl, Blk.mods (unhide HR) hm1 (fun f => f), hm1.mono (fun _ _ f => f.elim), by simp, Nat.le_refl _, hbr⟩
    have HST := hide hst
    generalize (madeCells (Value.agg #[.int .i64 0, .slice none 0 0, .slice none 0 0]).cells (n * 3)).toList = cs0 at *
    clear hst hb1 hm1 hs1
    generalize hg : w.heap.size = g at *
    have HG := hide hg
    clear hg
    go_loopw [13] (fun i wr => ∃ (k : Nat) (t : List UInt8) (cs : List Value) (done : List LClass), k ≤ n ∧ i = .int .i64 k ∧ RdL 3 ECl pClass 66 n s br g w wr k t cs done) (fun i _ => n - (intOf i).toNat)
    case atStart => exact ⟨0, s, cs0, [], Nat.zero_le _, rfl, unhide HST⟩
    case round =>
      obtain ⟨k, t, cs, done, hk, rfl, hL⟩ := hrel
      have HL := hide hL
      clear hL
      by_cases hlt : k < n
      · have hgb : ¬ (g = br) := by have := (unhide HL).new; have := (unhide HL).old; omega
        cases hp : pClass t with
        | none =>
          have HN := hide ((unhide HL).none hlt hp)
          go_wp2_with fail
          refine Calls.mono (rd_class t _ br (unhide HL).rd) ?_
          rintro e w2 ⟨h1, h2, hm⟩
          obtain rfl := h2 hp
          go_wp2_with fail
          refine ⟨rfl, ?_, fun _ => rfl, (unhide HL).mods.trans hm (fun _ _ e => e)⟩
          intro l r e
          rw [unhide HN] at e; cases e
        | some x =>
          obtain ⟨x, t2⟩ := x
          have HP := hide hp
          clear hp
          go_wp2_with fail
          refine Calls.mono (rd_class t _ br (unhide HL).rd) ?_
          rintro e w2 ⟨h1, h2, hm⟩
          obtain ⟨la, sa, rfl, hR2, hE⟩ := h1 x t2 (unhide HP)
          have HE := hide hE
          clear hE
          have hB2 := (unhide HL).blk.mods hm hgb
          have hkl : k * 3 + 3 ≤ cs.length := by rw [(unhide HL).len]; omega
          have c0 : w2.cell? ⟨g, k * 3, none⟩ = some (cs[k * 3]'(by omega)) := by rw [hB2.cell]; exact List.getElem?_eq_getElem _
          have c1 : w2.cell? ⟨g, k * 3 + 1, none⟩ = some (cs[k * 3 + 1]'(by omega)) := by rw [hB2.cell]; exact List.getElem?_eq_getElem _
          have c2 : w2.cell? ⟨g, k * 3 + 2, none⟩ = some (cs[k * 3 + 2]'(by omega)) := by rw [hB2.cell]; exact List.getElem?_eq_getElem _
          have f0 := hB2.frozen (k * 3)
          have f1 := hB2.frozen (k * 3 + 1)
          have f2 := hB2.frozen (k * 3 + 2)
          generalize cs[k * 3]'(by omega) = u0 at *
          generalize cs[k * 3 + 1]'(by omega) = u1 at *
          generalize cs[k * 3 + 2]'(by omega) = u2 at *
          have HB2 := hide hB2
          have HM := hide hm
          have HR2 := hide hR2
          clear h1 h2 hB2 hm hR2 hgb
          go_wp2_with fail
          obtain ⟨r1, r2, r3⟩ := row3_blk (unhide HB2) (k * 3) (.int .i64 x.sup) (.slice la x.fields.length x.fields.length) (.slice sa x.meths.length x.meths.length)
          refine ⟨⟨k + 1, t2, _, done ++ [x], by omega, by go_num, (unhide HL).step okCl hlt (unhide HP) (unhide HR2) (c := [.int .i64 x.sup, .slice la x.fields.length x.fields.length, .slice sa x.meths.length x.meths.length]) rfl (unhide HE) (unhide HM) r1 (by simp) (by rw [Nat.succ_mul]; exact take_set3 hkl _ _ _) r2 r3⟩, by simp [intOf]; omega⟩
      · obtain rfl : k = n := by omega
        obtain ⟨e1, e2⟩ := (unhide HL).full okCl (unhide H0)
        have E1 := hide e1
        have E2 := hide e2
        clear e1 e2
        go_wp2_with fail
        go_ret
        refine ⟨?_, ?_, (unhide HL).mods⟩
        · intro l r e
          rw [unhide E1] at e
          simp only [Option.some.injEq, Prod.mk.injEq] at e
          obtain ⟨rfl, rfl⟩ := e
          refine ⟨_, rfl, (unhide HL).rd, ?_⟩
          have := unhide E2
          rwa [unhide HG] at this
        · intro e
          rw [unhide E1] at e; cases e
end Go.Proofs.YtiiokkllmchohaaGreat
