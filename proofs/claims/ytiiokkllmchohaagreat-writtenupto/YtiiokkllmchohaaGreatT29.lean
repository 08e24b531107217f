/- The code's reader: lists of methods, classes. -/
import Derived.Defers
import Derived.Recover
import Derived.Test.YtiiokkllmchohaaGreatT26
import Derived.Test.YtiiokkllmchohaaGreatT28
/- ParseI -/
namespace Go.Proofs.YtiiokkllmchohaaGreat
open Go.RowKit
attribute [local go_sem ↓] Go.wp_at_zero Go.wp_at_succ

theorem infoMethod : (Tryz.prog.info? 63).map (fun i => (i.zero, i.size, i.bytes)) = some (some (.agg #[.int .i64 0, .slice none 0 0, .int .i64 0, .int .i64 0, .int .i64 0, .slice none 0 0, .slice none 0 0]), 7, 104) := by kernel_rfl
theorem pInfoClass : (Tryz.prog.info? 66).map (fun i => (i.zero, i.size, i.bytes)) = some (some (.agg #[.int .i64 0, .slice none 0 0, .slice none 0 0]), 3, 56) := by kernel_rfl
theorem take_set7 {cs : List Value} {i : Nat} (h : i + 7 ≤ cs.length) (v0 v1 v2 v3 v4 v5 v6 : Value) : (((((((cs.set i v0).set (i + 1) v1).set (i + 2) v2).set (i + 3) v3).set (i + 4) v4).set (i + 5) v5).set (i + 6) v6).take (i + 7) = cs.take i ++ [v0, v1, v2, v3, v4, v5, v6] := by
  rw [take_set1 (by simp; omega), take_set1 (by simp; omega), take_set1 (by simp; omega), take_set1 (by simp; omega), take_set1 (by simp; omega), take_set1 (by simp; omega), take_set1 (by omega)]; simp
theorem row7_blk {w : World} {b : Nat} {t : TypeId} {cs : List Value} (h : Blk w b t cs) (i : Nat) (v0 v1 v2 v3 v4 v5 v6 : Value) : Blk (((((((w.setCell ⟨b, i, none⟩ v0).setCell ⟨b, i + 1, none⟩ v1).setCell ⟨b, i + 2, none⟩ v2).setCell ⟨b, i + 3, none⟩ v3).setCell ⟨b, i + 4, none⟩ v4).setCell ⟨b, i + 5, none⟩ v5).setCell ⟨b, i + 6, none⟩ v6) b t (((((((cs.set i v0).set (i + 1) v1).set (i + 2) v2).set (i + 3) v3).set (i + 4) v4).set (i + 5) v5).set (i + 6) v6) ∧ Mods (fun k => k = b) w (((((((w.setCell ⟨b, i, none⟩ v0).setCell ⟨b, i + 1, none⟩ v1).setCell ⟨b, i + 2, none⟩ v2).setCell ⟨b, i + 3, none⟩ v3).setCell ⟨b, i + 4, none⟩ v4).setCell ⟨b, i + 5, none⟩ v5).setCell ⟨b, i + 6, none⟩ v6) ∧ (((((((w.setCell ⟨b, i, none⟩ v0).setCell ⟨b, i + 1, none⟩ v1).setCell ⟨b, i + 2, none⟩ v2).setCell ⟨b, i + 3, none⟩ v3).setCell ⟨b, i + 4, none⟩ v4).setCell ⟨b, i + 5, none⟩ v5).setCell ⟨b, i + 6, none⟩ v6).heap.size = w.heap.size :=
  ⟨(((((((h.setCell i v0).setCell (i + 1) v1).setCell (i + 2) v2).setCell (i + 3) v3).setCell (i + 4) v4).setCell (i + 5) v5).setCell (i + 6) v6), ((((((((Mods.refl (fun k => k = b) w).setCell (p := ⟨b, i, none⟩) (fun _ => rfl) v0).setCell (p := ⟨b, i + 1, none⟩) (fun _ => rfl) v1).setCell (p := ⟨b, i + 2, none⟩) (fun _ => rfl) v2).setCell (p := ⟨b, i + 3, none⟩) (fun _ => rfl) v3).setCell (p := ⟨b, i + 4, none⟩) (fun _ => rfl) v4).setCell (p := ⟨b, i + 5, none⟩) (fun _ => rfl) v5).setCell (p := ⟨b, i + 6, none⟩) (fun _ => rfl) v6), by simp [World.setCell]⟩

set_option maxHeartbeats 1000000 in
set_option maxRecDepth 100000 in
theorem rd_list_meth (n : Nat) (s : List UInt8) (w : World) (br : Nat) (h : CRd w br s) (hn : n ≤ 40) : Calls Tryz.prog 138 #[.int .i64 (n : Int), .func (.func 139) #[.pointer (some ⟨br, 0, none⟩)] #[]] w fun e w' =>
    (∀ l r, pL pMeth n s = some (l, r) → ∃ v, e = .returned v ∧ CRd w' br r ∧ OwnMs w' w.heap.size w'.heap.size v l) ∧ (pL pMeth n s = none → e = .panicked (refC 1)) ∧ Mods (fun k => k = br) w w' := by
  obtain ⟨i0, hi0, hz0, hz1, hz2⟩ := info_parts infoMethod
  have hbr := h.lt
  by_cases h0 : n = 0
  · subst h0
    go_enter Tryz.func138, Tryz.ntmps138
    go_wp2_with fail
    go_ret
    refine ⟨?_, ?_, Mods.refl _ _⟩
    · intro l r e
      cases e
      exact ⟨_, rfl, h, .inl ⟨rfl, rfl, Nat.le_refl _⟩⟩
    · intro e; cases e
  · have k0 : ((n : Int) == 0) = false := by simpa using h0
    have HR := hide h
    have H0 := hide h0
    clear h h0
    go_enter Tryz.func138, Tryz.ntmps138
    go_wp2_with (at_make; refine wpList_make_blk rfl (.tmp 9) (.tmp 9) 64 rfl 63 i0 (.agg #[.int .i64 0, .slice none 0 0, .int .i64 0, .int .i64 0, .int .i64 0, .slice none 0 0, .slice none 0 0]) 7 104 Tryz.underlying64 hi0 hz0 hz1 hz2 _ _ _ n rfl rfl rfl (by omega) (by omega) ?_; intro w1 hb1 hm1 hs1)
    have hst : RdL 7 EMe pMeth 63 n s br w.heap.size w w1 0 s (madeCells (Value.agg #[.int .i64 0, .slice none 0 0, .int .i64 0, .int .i64 0, .int .i64 0, .slice none 0 0, .slice none 0 0]).cells (n * 7)).toList [] := ⟨hb1, pMade_len _ _, ⟨w1.heap.size, Nat.le_refl _, by simp [OwnL]; omega⟩, rfl, Blk.mods (unhide HR) hm1 (fun f => f), hm1.mono (fun _ _ f => f.elim), by simp, Nat.le_refl _, hbr⟩
    have HST := hide hst
    generalize (madeCells (Value.agg #[.int .i64 0, .slice none 0 0, .int .i64 0, .int .i64 0, .int .i64 0, .slice none 0 0, .slice none 0 0]).cells (n * 7)).toList = cs0 at *
    clear hst hb1 hm1 hs1
    generalize hg : w.heap.size = g at *
    have HG := hide hg
    clear hg
    go_loopw [13] (fun i wr => ∃ (k : Nat) (t : List UInt8) (cs : List Value) (done : List LMeth), k ≤ n ∧ i = .int .i64 k ∧ RdL 7 EMe pMeth 63 n s br g w wr k t cs done) (fun i _ => n - (intOf i).toNat)
    case atStart => exact ⟨0, s, cs0, [], Nat.zero_le _, rfl, unhide HST⟩
    case round =>
      obtain ⟨k, t, cs, done, hk, rfl, hL⟩ := hrel
      have HL := hide hL
      clear hL
      by_cases hlt : k < n
      · have hgb : ¬ (g = br) := by have := (unhide HL).new; have := (unhide HL).old; omega
        cases hp : pMeth t with
        | none =>
          have HN := hide ((unhide HL).none hlt hp)
          go_wp2_with fail
          refine Calls.mono (rd_method t _ br (unhide HL).rd) ?_
          rintro e w2 ⟨h1, h2, hm⟩
          obtain rfl := h2 hp
          go_wp2_with fail
          refine ⟨rfl, ?_, fun _ => rfl, (unhide HL).mods.trans hm (fun _ _ e => e)⟩
          intro l r e
          rw [unhide HN] at e; cases e
        | some x =>
          obtain ⟨x, t2⟩ := x
          have HP := hide hp
          clear hp
          go_wp2_with fail
          refine Calls.mono (rd_method t _ br (unhide HL).rd) ?_
          rintro e w2 ⟨h1, h2, hm⟩
          obtain ⟨la, lb, lc, rfl, hR2, hE⟩ := h1 x t2 (unhide HP)
          have HE := hide hE
          clear hE
          have hB2 := (unhide HL).blk.mods hm hgb
          have hkl : k * 7 + 7 ≤ cs.length := by rw [(unhide HL).len]; omega
          have c0 : w2.cell? ⟨g, k * 7, none⟩ = some (cs[k * 7]'(by omega)) := by rw [hB2.cell]; exact List.getElem?_eq_getElem _
          have f0 := hB2.frozen (k * 7)
          have c1 : w2.cell? ⟨g, k * 7 + 1, none⟩ = some (cs[k * 7 + 1]'(by omega)) := by rw [hB2.cell]; exact List.getElem?_eq_getElem _
          have f1 := hB2.frozen (k * 7 + 1)
          have c2 : w2.cell? ⟨g, k * 7 + 2, none⟩ = some (cs[k * 7 + 2]'(by omega)) := by rw [hB2.cell]; exact List.getElem?_eq_getElem _
          have f2 := hB2.frozen (k * 7 + 2)
          have c3 : w2.cell? ⟨g, k * 7 + 3, none⟩ = some (cs[k * 7 + 3]'(by omega)) := by rw [hB2.cell]; exact List.getElem?_eq_getElem _
          have f3 := hB2.frozen (k * 7 + 3)
          have c4 : w2.cell? ⟨g, k * 7 + 4, none⟩ = some (cs[k * 7 + 4]'(by omega)) := by rw [hB2.cell]; exact List.getElem?_eq_getElem _
          have f4 := hB2.frozen (k * 7 + 4)
          have c5 : w2.cell? ⟨g, k * 7 + 5, none⟩ = some (cs[k * 7 + 5]'(by omega)) := by rw [hB2.cell]; exact List.getElem?_eq_getElem _
          have f5 := hB2.frozen (k * 7 + 5)
          have c6 : w2.cell? ⟨g, k * 7 + 6, none⟩ = some (cs[k * 7 + 6]'(by omega)) := by rw [hB2.cell]; exact List.getElem?_eq_getElem _
          have f6 := hB2.frozen (k * 7 + 6)
          generalize cs[k * 7]'(by omega) = u0 at *
          generalize cs[k * 7 + 1]'(by omega) = u1 at *
          generalize cs[k * 7 + 2]'(by omega) = u2 at *
          generalize cs[k * 7 + 3]'(by omega) = u3 at *
          generalize cs[k * 7 + 4]'(by omega) = u4 at *
          generalize cs[k * 7 + 5]'(by omega) = u5 at *
          generalize cs[k * 7 + 6]'(by omega) = u6 at *
          have HB2 := hide hB2
          have HM := hide hm
          have HR2 := hide hR2
          clear h1 h2 hB2 hm hR2 hgb
          go_wp2_with fail
          obtain ⟨r1, r2, r3⟩ := row7_blk (unhide HB2) (k * 7) (.int .i64 x.slot) (.slice la x.args.length x.args.length) (.int .i64 x.ret) (.int .i64 x.locals) (.int .i64 x.stack) (.slice lb x.code.length x.code.length) (.slice lc x.frames.length x.frames.length)
          refine ⟨⟨k + 1, t2, _, done ++ [x], by omega, by go_num, (unhide HL).step okMe hlt (unhide HP) (unhide HR2) (c := [.int .i64 x.slot, .slice la x.args.length x.args.length, .int .i64 x.ret, .int .i64 x.locals, .int .i64 x.stack, .slice lb x.code.length x.code.length, .slice lc x.frames.length x.frames.length]) rfl (unhide HE) (unhide HM) r1 (by simp) (by rw [Nat.succ_mul]; exact take_set7 hkl _ _ _ _ _ _ _) r2 r3⟩, by simp [intOf]; omega⟩
      · obtain rfl : k = n := by omega
        obtain ⟨e1, e2⟩ := (unhide HL).full okMe (unhide H0)
        have E1 := hide e1
        have E2 := hide e2
        clear e1 e2
        go_wp2_with fail
        go_ret
        refine ⟨?_, ?_, (unhide HL).mods⟩
        · intro l r e
          rw [unhide E1] at e
          simp only [Option.some.injEq, Prod.mk.injEq] at e
          obtain ⟨rfl, rfl⟩ := e
          refine ⟨_, rfl, (unhide HL).rd, ?_⟩
          have := unhide E2
          rwa [unhide HG] at this
        · intro e
          rw [unhide E1] at e; cases e

theorem ms_some {n : Nat} {s r : List UInt8} {l : List LMeth} (hp : pL pMeth n s = some (l, r)) (w : World) (br : Nat) (h : CRd w br s) (hn : n ≤ 40) : Calls Tryz.prog 138 #[.int .i64 (n : Int), .func (.func 139) #[.pointer (some ⟨br, 0, none⟩)] #[]] w fun e w' =>
    ∃ a, e = .returned (.slice a l.length l.length) ∧ OwnMs w' w.heap.size w'.heap.size (.slice a l.length l.length) l ∧ CRd w' br r ∧ Mods (fun k => k = br) w w' :=
  (rd_list_meth n s w br h hn).mono fun _ _ h => by
    obtain ⟨v, h1, h2, h3⟩ := h.1 l r hp
    obtain ⟨a, rfl⟩ := h3.form
    exact ⟨a, h1, h3, h2, h.2.2⟩
theorem ms_none {n : Nat} {s : List UInt8} (hp : pL pMeth n s = none) (w : World) (br : Nat) (h : CRd w br s) (hn : n ≤ 40) : Calls Tryz.prog 138 #[.int .i64 (n : Int), .func (.func 139) #[.pointer (some ⟨br, 0, none⟩)] #[]] w fun e w' => e = .panicked (refC 1) ∧ Mods (fun k => k = br) w w' :=
  (rd_list_meth n s w br h hn).mono fun _ _ h => ⟨h.2.1 hp, h.2.2⟩

structure CSt2 (w W : World) (br : Nat) (cs : List Value) (s : List UInt8) : Prop where
  mods : Mods (fun k => k = br) w W
  size : w.heap.size + 2 ≤ W.heap.size
  b0 : Blk W w.heap.size 66 [.int .i64 0, .slice none 0 0, .slice none 0 0]
  b1 : Blk W (w.heap.size + 1) 66 cs
  rd : CRd W br s
  old : br < w.heap.size
theorem CSt2.call {w W W' : World} {br : Nat} {cs : List Value} {s s' : List UInt8} (h : CSt2 w W br cs s) (hm : Mods (fun k => k = br) W W') (hr : CRd W' br s') : CSt2 w W' br cs s' :=
  have ho := h.old
  ⟨h.mods.trans hm (fun _ _ e => e), Nat.le_trans h.size hm.size, h.b0.mods hm (by omega), h.b1.mods hm (by omega), hr, ho⟩
theorem CSt2.put {w W : World} {br : Nat} {cs : List Value} {s : List UInt8} (h : CSt2 w W br cs s) (i : Nat) (v : Value) : CSt2 w (W.setCell ⟨w.heap.size + 1, i, none⟩ v) br (cs.set i v) s :=
  have ho := h.old
  ⟨h.mods.set (by omega) v, by have := h.size; simpa [World.setCell] using this, h.b0.setCell_ne (p := ⟨w.heap.size + 1, i, none⟩) (by simp only; omega) v, h.b1.setCell i v, Blk.setCell_ne h.rd (p := ⟨w.heap.size + 1, i, none⟩) (by simp only; omega) v, ho⟩

set_option maxHeartbeats 4000000 in
set_option maxRecDepth 100000 in
theorem rd_class (s : List UInt8) (w : World) (br : Nat) (h : CRd w br s) : Calls Tryz.prog 75 #[.pointer (some ⟨br, 0, none⟩)] w fun e w' =>
    (∀ x r, pClass s = some (x, r) → ∃ a b, e = .returned (.agg #[.int .i64 x.sup, .slice a x.fields.length x.fields.length, .slice b x.meths.length x.meths.length]) ∧ CRd w' br r ∧ ECl w' w.heap.size w'.heap.size [.int .i64 x.sup, .slice a x.fields.length x.fields.length, .slice b x.meths.length x.meths.length] x) ∧
    (pClass s = none → e = .panicked (refC 1)) ∧ Mods (fun k => k = br) w w' := by
  have hbr := h.lt
  have T0 : Hid (CSt2 w ((w.alloc (.cells #[.int .i64 0, .slice none 0 0, .slice none 0 0] 66)).alloc (.cells #[.int .i64 0, .slice none 0 0, .slice none 0 0] 66)) br [.int .i64 0, .slice none 0 0, .slice none 0 0] s) := by
    obtain ⟨h1, h2, h3⟩ := two_new w #[.int .i64 0, .slice none 0 0, .slice none 0 0] #[.int .i64 0, .slice none 0 0, .slice none 0 0] 66 66 (fun k => k = br)
    exact ⟨h1, by simp, h2, h3, (Blk.alloc h _).alloc _, hbr⟩
  go_enter Tryz.func75, Tryz.ntmps75
  go_wp2_with fail
  generalize (w.alloc _).alloc _ = W0 at *
  clear h
  rcases p0 : pN s with _ | ⟨a, s1⟩
  · have HN : Hid (pClass s = none) := by show _ = _; unfold pClass; rw [p0]; rfl
    refine Calls.mono (num_none p0 _ br (unhide T0).rd) ?_
    rintro e z ⟨rfl, hm⟩
    clear p0
    go_wp2_with fail
    refine ⟨rfl, fun m r e => ?_, fun _ => rfl, (unhide T0).mods.trans hm (fun _ _ e => e)⟩
    rw [unhide HN] at e; cases e
  have P0 := hide p0
  refine Calls.mono (num_some p0 _ br (unhide T0).rd) ?_
  rintro e w0 ⟨rfl, hR, hm⟩
  have T1 := hide ((unhide T0).call hm hR)
  clear p0 hR hm T0
  obtain ⟨⟨c0, c1, c2⟩, f0, f1, f2⟩ := blk3f (unhide T1).b1
  go_wp2_with fail
  have T2 := hide ((unhide T1).put 0 (.int .i64 a))
  generalize w0.setCell _ _ = V0 at *
  clear c0 c1 c2 f0 f1 f2 T1
  rcases p1 : pC 8 s1 with _ | ⟨n1, s2⟩
  · have HN : Hid (pClass s = none) := by show _ = _; unfold pClass; rw [unhide P0]; simp only [Option.bind_some]; rw [p1]; rfl
    refine Calls.mono (cnt_none p1 _ br (unhide T2).rd) ?_
    rintro e z ⟨rfl, hm⟩
    clear p1
    go_wp2_with fail
    refine ⟨rfl, fun m r e => ?_, fun _ => rfl, (unhide T2).mods.trans hm (fun _ _ e => e)⟩
    rw [unhide HN] at e; cases e
  have P1 := hide p1
  have q1 := (pC_sound p1).1
  refine Calls.mono (cnt_some p1 _ br (unhide T2).rd) ?_
  rintro e w1 ⟨rfl, hR, hm⟩
  have T3 := hide ((unhide T2).call hm hR)
  clear p1 hR hm T2
  go_wp2_with fail
  rcases p2 : pL pN n1 s2 with _ | ⟨fs, s3⟩
  · have HN : Hid (pClass s = none) := by show _ = _; unfold pClass; rw [unhide P0]; simp only [Option.bind_some]; rw [unhide P1]; simp only [Option.bind_some]; rw [p2]; rfl
    refine Calls.mono (types_none p2 _ br (unhide T3).rd (by omega)) ?_
    rintro e z ⟨rfl, hm⟩
    clear p2
    go_wp2_with fail
    refine ⟨rfl, fun m r e => ?_, fun _ => rfl, (unhide T3).mods.trans hm (fun _ _ e => e)⟩
    rw [unhide HN] at e; cases e
  have P2 := hide p2
  refine Calls.mono (types_some p2 _ br (unhide T3).rd (by omega)) ?_
  rintro e w2 ⟨vfs, rfl, hO, hR, hm⟩
  have sz1 := (unhide T3).size
  have T4 := hide ((unhide T3).call hm hR)
  have O1 := hide hO
  clear p2 hR hm T3 hO
  obtain ⟨⟨c0, c1, c2⟩, f0, f1, f2⟩ := blk3f (unhide T4).b1
  go_wp2_with fail
  have T5 := hide ((unhide T4).put 1 (.slice vfs fs.length fs.length))
  have O2 := hide ((unhide O1).set okInt (b := w.heap.size + 1) (i := 1) (u := .slice vfs fs.length fs.length) (by omega))
  have L2 := hide (Nat.le_of_eq (size_set w2 (w.heap.size + 1) 1 (.slice vfs fs.length fs.length)).symm)
  generalize w2.setCell _ _ = V2 at *
  clear c0 c1 c2 f0 f1 f2 T4 O1
  rcases p3 : pC 6 s3 with _ | ⟨n2, s4⟩
  · have HN : Hid (pClass s = none) := by show _ = _; unfold pClass; rw [unhide P0]; simp only [Option.bind_some]; rw [unhide P1]; simp only [Option.bind_some]; rw [unhide P2]; simp only [Option.bind_some]; rw [p3]; rfl
    refine Calls.mono (cnt_none p3 _ br (unhide T5).rd) ?_
    rintro e z ⟨rfl, hm⟩
    clear p3
    go_wp2_with fail
    refine ⟨rfl, fun m r e => ?_, fun _ => rfl, (unhide T5).mods.trans hm (fun _ _ e => e)⟩
    rw [unhide HN] at e; cases e
  have P3 := hide p3
  have q3 := (pC_sound p3).1
  refine Calls.mono (cnt_some p3 _ br (unhide T5).rd) ?_
  rintro e w3 ⟨rfl, hR, hm⟩
  have T6 := hide ((unhide T5).call hm hR)
  have O3 := hide ((unhide O2).mods okInt hm (by omega) (unhide L2))
  have L3 := Nat.le_trans (unhide L2) hm.size
  clear p3 hR hm T5 O2 L2
  go_wp2_with fail
  rcases p4 : pL pMeth n2 s4 with _ | ⟨ms, s5⟩
  · have HN : Hid (pClass s = none) := by show _ = _; unfold pClass; rw [unhide P0]; simp only [Option.bind_some]; rw [unhide P1]; simp only [Option.bind_some]; rw [unhide P2]; simp only [Option.bind_some]; rw [unhide P3]; simp only [Option.bind_some]; rw [p4]; rfl
    refine Calls.mono (ms_none p4 _ br (unhide T6).rd (by omega)) ?_
    rintro e z ⟨rfl, hm⟩
    clear p4
    go_wp2_with fail
    refine ⟨rfl, fun m r e => ?_, fun _ => rfl, (unhide T6).mods.trans hm (fun _ _ e => e)⟩
    rw [unhide HN] at e; cases e
  have HS : Hid (pClass s = some (⟨a, fs, ms⟩, s5)) := by show _ = _; unfold pClass; rw [unhide P0]; simp only [Option.bind_some]; rw [unhide P1]; simp only [Option.bind_some]; rw [unhide P2]; simp only [Option.bind_some]; rw [unhide P3]; simp only [Option.bind_some]; rw [p4]; rfl
  refine Calls.mono (ms_some p4 _ br (unhide T6).rd (by omega)) ?_
  rintro e w4 ⟨vms, rfl, hO, hR, hm⟩
  have sz2 := (unhide T6).size
  have T7 := hide ((unhide T6).call hm hR)
  have O4 := hide ((unhide O3).mods okInt hm (by omega) L3)
  have O5 := hide hO
  clear p4 hR hm T6 hO O3
  obtain ⟨⟨c0, c1, c2⟩, f0, f1, f2⟩ := blk3f (unhide T7).b1
  obtain ⟨⟨d0, d1, d2⟩, g0, g1, g2⟩ := blk3f (unhide T7).b0
  go_wp2_with fail
  obtain ⟨Z0, Z1, Z2, Z3, Z4⟩ := fin3 (unhide T7).b0 (unhide T7).mods (unhide T7).rd (Nat.le_refl _) (Nat.le_succ _) (by omega) hbr 2 (.slice vms ms.length ms.length) (.int .i64 a) (.slice vfs fs.length fs.length) (.slice vms ms.length ms.length)
  generalize World.setCell _ _ _ = Z at Z0 Z1 Z2 Z3 Z4 ⊢
  obtain ⟨z0, z1, z2⟩ := blk3 Z0
  refine bodyPost_ret (v := .agg #[.int .i64 a, .slice vfs fs.length fs.length, .slice vms ms.length ms.length]) (by simp [results, Tryz.results75, go_sem, z0, z1, z2]) rfl ⟨fun m r e => ?_, fun e => ?_, Z1⟩
  · rw [unhide HS] at e
    simp only [Option.some.injEq, Prod.mk.injEq] at e
    obtain ⟨rfl, rfl⟩ := e
    refine ⟨vfs, vms, rfl, Z2, _, _, w3.heap.size, rfl, ?_, ?_⟩
    · exact ((unhide O4).stay okInt (fun k p q => Z4 k (by omega) (by omega))).wide okInt (by omega) (by omega)
    · have := (unhide O5).stay okMe (fun k p q => Z4 k (by omega) (by omega))
      rwa [← Z3] at this
  · rw [unhide HS] at e; cases e

set_option maxHeartbeats 1000000 in
set_option maxRecDepth 100000 in
theorem rd_list_class (n : Nat) (s : List UInt8) (w : World) (br : Nat) (h : CRd w br s) (hn : n ≤ 40) : Calls Tryz.prog 73 #[.int .i64 (n : Int), .func (.func 75) #[.pointer (some ⟨br, 0, none⟩)] #[]] w fun e w' =>
    (∀ l r, pL pClass n s = some (l, r) → ∃ v, e = .returned v ∧ CRd w' br r ∧ OwnCs w' w.heap.size w'.heap.size v l) ∧ (pL pClass n s = none → e = .panicked (refC 1)) ∧ Mods (fun k => k = br) w w' := by
  obtain ⟨i0, hi0, hz0, hz1, hz2⟩ := info_parts pInfoClass
  have hbr := h.lt
  by_cases h0 : n = 0
  · subst h0
    go_enter Tryz.func73, Tryz.ntmps73
    go_wp2_with fail
    go_ret
    refine ⟨?_, ?_, Mods.refl _ _⟩
    · intro l r e
      cases e
      exact ⟨_, rfl, h, .inl ⟨rfl, rfl, Nat.le_refl _⟩⟩
    · intro e; cases e
  · have k0 : ((n : Int) == 0) = false := by simpa using h0
    have HR := hide h
    have H0 := hide h0
    clear h h0
    go_enter Tryz.func73, Tryz.ntmps73
    go_wp2_with (at_make; refine wpList_make_blk rfl (.tmp 9) (.tmp 9) 22 rfl 66 i0 (.agg #[.int .i64 0, .slice none 0 0, .slice none 0 0]) 3 56 Tryz.underlying22 hi0 hz0 hz1 hz2 _ _ _ n rfl rfl rfl (by omega) (by omega) ?_; intro w1 hb1 hm1 hs1)
    have hst : RdL 3 ECl pClass 66 n s br w.heap.size w w1 0 s (madeCells (Value.agg #[.int .i64 0, .slice none 0 0, .slice none 0 0]).cells (n * 3)).toList [] := ⟨hb1, pMade_len _ _, ⟨w1.heap.size, Nat.le_refl _, by simp [OwnL]; omega⟩, rfl, Blk.mods (unhide HR) hm1 (fun f => f), hm1.mono (fun _ _ f => f.elim), by simp, Nat.le_refl _, hbr⟩
    have HST := hide hst
    generalize (madeCells (Value.agg #[.int .i64 0, .slice none 0 0, .slice none 0 0]).cells (n * 3)).toList = cs0 at *
    clear hst hb1 hm1 hs1
    generalize hg : w.heap.size = g at *
    have HG := hide hg
    clear hg
    go_loopw [13] (fun i wr => ∃ (k : Nat) (t : List UInt8) (cs : List Value) (done : List LClass), k ≤ n ∧ i = .int .i64 k ∧ RdL 3 ECl pClass 66 n s br g w wr k t cs done) (fun i _ => n - (intOf i).toNat)
    case atStart => exact ⟨0, s, cs0, [], Nat.zero_le _, rfl, unhide HST⟩
    case round =>
      obtain ⟨k, t, cs, done, hk, rfl, hL⟩ := hrel
      have HL := hide hL
      clear hL
      by_cases hlt : k < n
      · have hgb : ¬ (g = br) := by have := (unhide HL).new; have := (unhide HL).old; omega
        cases hp : pClass t with
        | none =>
          have HN := hide ((unhide HL).none hlt hp)
          go_wp2_with fail
          refine Calls.mono (rd_class t _ br (unhide HL).rd) ?_
          rintro e w2 ⟨h1, h2, hm⟩
          obtain rfl := h2 hp
          go_wp2_with fail
          refine ⟨rfl, ?_, fun _ => rfl, (unhide HL).mods.trans hm (fun _ _ e => e)⟩
          intro l r e
          rw [unhide HN] at e; cases e
        | some x =>
          obtain ⟨x, t2⟩ := x
          have HP := hide hp
          clear hp
          go_wp2_with fail
          refine Calls.mono (rd_class t _ br (unhide HL).rd) ?_
          rintro e w2 ⟨h1, h2, hm⟩
          obtain ⟨la, sa, rfl, hR2, hE⟩ := h1 x t2 (unhide HP)
          have HE := hide hE
          clear hE
          have hB2 := (unhide HL).blk.mods hm hgb
          have hkl : k * 3 + 3 ≤ cs.length := by rw [(unhide HL).len]; omega
          have c0 : w2.cell? ⟨g, k * 3, none⟩ = some (cs[k * 3]'(by omega)) := by rw [hB2.cell]; exact List.getElem?_eq_getElem _
          have c1 : w2.cell? ⟨g, k * 3 + 1, none⟩ = some (cs[k * 3 + 1]'(by omega)) := by rw [hB2.cell]; exact List.getElem?_eq_getElem _
          have c2 : w2.cell? ⟨g, k * 3 + 2, none⟩ = some (cs[k * 3 + 2]'(by omega)) := by rw [hB2.cell]; exact List.getElem?_eq_getElem _
          have f0 := hB2.frozen (k * 3)
          have f1 := hB2.frozen (k * 3 + 1)
          have f2 := hB2.frozen (k * 3 + 2)
          generalize cs[k * 3]'(by omega) = u0 at *
          generalize cs[k * 3 + 1]'(by omega) = u1 at *
          generalize cs[k * 3 + 2]'(by omega) = u2 at *
          have HB2 := hide hB2
          have HM := hide hm
          have HR2 := hide hR2
          clear h1 h2 hB2 hm hR2 hgb
          go_wp2_with fail
          obtain ⟨r1, r2, r3⟩ := row3_blk (unhide HB2) (k * 3) (.int .i64 x.sup) (.slice la x.fields.length x.fields.length) (.slice sa x.meths.length x.meths.length)
          refine ⟨⟨k + 1, t2, _, done ++ [x], by omega, by go_num, (unhide HL).step okCl hlt (unhide HP) (unhide HR2) (c := [.int .i64 x.sup, .slice la x.fields.length x.fields.length, .slice sa x.meths.length x.meths.length]) rfl (unhide HE) (unhide HM) r1 (by simp) (by rw [Nat.succ_mul]; exact take_set3 hkl _ _ _) r2 r3⟩, by simp [intOf]; omega⟩
      · obtain rfl : k = n := by omega
        obtain ⟨e1, e2⟩ := (unhide HL).full okCl (unhide H0)
        have E1 := hide e1
        have E2 := hide e2
        clear e1 e2
        go_wp2_with fail
        go_ret
        refine ⟨?_, ?_, (unhide HL).mods⟩
        · intro l r e
          rw [unhide E1] at e
          simp only [Option.some.injEq, Prod.mk.injEq] at e
          obtain ⟨rfl, rfl⟩ := e
          refine ⟨_, rfl, (unhide HL).rd, ?_⟩
          have := unhide E2
          rwa [unhide HG] at this
        · intro e
          rw [unhide E1] at e; cases e
end Go.Proofs.YtiiokkllmchohaaGreat
/- The code's reader: programs. -/
namespace Go.Proofs.YtiiokkllmchohaaGreat
open Go.RowKit
attribute [local go_sem ↓] Go.wp_at_zero Go.wp_at_succ

theorem cls_some {n : Nat} {s r : List UInt8} {l : List LClass} (hp : pL pClass n s = some (l, r)) (w : World) (br : Nat) (h : CRd w br s) (hn : n ≤ 40) : Calls Tryz.prog 73 #[.int .i64 (n : Int), .func (.func 75) #[.pointer (some ⟨br, 0, none⟩)] #[]] w fun e w' =>
    ∃ a, e = .returned (.slice a l.length l.length) ∧ OwnCs w' w.heap.size w'.heap.size (.slice a l.length l.length) l ∧ CRd w' br r ∧ Mods (fun k => k = br) w w' :=
  (rd_list_class n s w br h hn).mono fun _ _ h => by
    obtain ⟨v, h1, h2, h3⟩ := h.1 l r hp
    obtain ⟨a, rfl⟩ := h3.form
    exact ⟨a, h1, h3, h2, h.2.2⟩
theorem cls_none {n : Nat} {s : List UInt8} (hp : pL pClass n s = none) (w : World) (br : Nat) (h : CRd w br s) (hn : n ≤ 40) : Calls Tryz.prog 73 #[.int .i64 (n : Int), .func (.func 75) #[.pointer (some ⟨br, 0, none⟩)] #[]] w fun e w' => e = .panicked (refC 1) ∧ Mods (fun k => k = br) w w' :=
  (rd_list_class n s w br h hn).mono fun _ _ h => ⟨h.2.1 hp, h.2.2⟩

set_option maxHeartbeats 1000000 in
set_option maxRecDepth 100000 in
theorem code_read (s : List UInt8) (w : World) : Calls Tryz.prog 38 #[.string ⟨s.toArray⟩] w fun e w' =>
    (∀ p, pProg s = some p → ∃ a, e = .returned (.agg #[.slice a p.length p.length]) ∧ OwnCs w' w.heap.size w'.heap.size (.slice a p.length p.length) p) ∧ (pProg s = none → e = .panicked (refC 1)) ∧ Mods (fun _ => False) w w' := by
  have hm0 : Mods (fun _ => False) w ((w.alloc (.cells #[.slice none 0 0] 24)).alloc (.cells #[.string ⟨s.toArray⟩] 122)) := ((Mods.refl _ w).alloc _).alloc _
  have b0 : Blk ((w.alloc (.cells #[.slice none 0 0] 24)).alloc (.cells #[.string ⟨s.toArray⟩] 122)) w.heap.size 24 [.slice none 0 0] := (Blk.new w #[.slice none 0 0] 24).alloc _
  have hR0 : CRd ((w.alloc (.cells #[.slice none 0 0] 24)).alloc (.cells #[.string ⟨s.toArray⟩] 122)) (w.heap.size + 1) s := by
    have := Blk.new (w.alloc (.cells #[.slice none 0 0] 24)) #[.string ⟨s.toArray⟩] 122
    unfold CRd
    simpa using this
  have hs0 : w.heap.size + 2 ≤ ((w.alloc (.cells #[.slice none 0 0] 24)).alloc (.cells #[.string ⟨s.toArray⟩] 122)).heap.size := by simp
  go_enter Tryz.func38, Tryz.ntmps38
  go_wp2_with fail
  generalize (w.alloc _).alloc _ = W at *
  have M0 := hide hm0
  have B0 := hide b0
  have R0 := hide hR0
  clear hm0 b0 hR0
  rcases p0 : pC 6 s with _ | ⟨n, s1⟩
  · have HN : Hid (pProg s = none) := by show _ = _; unfold pProg; rw [p0]; rfl
    refine Calls.mono (cnt_none p0 _ (w.heap.size + 1) (unhide R0)) ?_
    rintro e z ⟨rfl, hm⟩
    clear p0
    go_wp2_with fail
    refine ⟨rfl, fun m e => ?_, fun _ => rfl, (unhide M0).trans hm (fun k hk e => by omega)⟩
    rw [unhide HN] at e; cases e
  have P0 := hide p0
  have q0 := (pC_sound p0).1
  refine Calls.mono (cnt_some p0 _ (w.heap.size + 1) (unhide R0)) ?_
  rintro e w1 ⟨rfl, hR, hm⟩
  have M1 := hide ((unhide M0).trans hm (fun k hk e => by omega))
  have B1 := hide ((unhide B0).mods hm (by omega))
  have R1 := hide hR
  have hs1 := Nat.le_trans hs0 hm.size
  clear p0 hR hm M0 B0 R0 hs0
  go_wp2_with fail
  rcases p1 : pL pClass n s1 with _ | ⟨l, r⟩
  · have HN : Hid (pProg s = none) := by show _ = _; unfold pProg; rw [unhide P0]; simp only [Option.bind_some]; rw [p1]; rfl
    refine Calls.mono (cls_none p1 _ (w.heap.size + 1) (unhide R1) (by omega)) ?_
    rintro e z ⟨rfl, hm⟩
    clear p1
    go_wp2_with fail
    refine ⟨rfl, fun m e => ?_, fun _ => rfl, (unhide M1).trans hm (fun k hk e => by omega)⟩
    rw [unhide HN] at e; cases e
  have HQ : Hid (pProg s = if r = [] then some l else none) := by show _ = _; unfold pProg; rw [unhide P0]; simp only [Option.bind_some]; rw [p1]; rfl
  refine Calls.mono (cls_some p1 _ (w.heap.size + 1) (unhide R1) (by omega)) ?_
  rintro e w2 ⟨a, rfl, hO, hR, hm⟩
  have M2 := hide ((unhide M1).trans hm (fun k hk e => by omega))
  have B2 := (unhide B1).mods hm (by omega)
  have c0 : w2.cell? ⟨w.heap.size, 0, none⟩ = some (.slice none 0 0) := B2.cell 0
  have f0 := B2.frozen 0
  have HB2 := hide B2
  have O1 := hide hO
  have hs2 := Nat.le_trans hs1 hm.size
  have hlt1 : w.heap.size < w2.heap.size := by omega
  have hlt2 : w.heap.size + 1 < w2.heap.size := by omega
  clear p1 hm M1 B1 R1 hO B2
  cases r with
  | nil =>
    have HS : Hid (pProg s = some l) := by show _ = _; rw [unhide HQ]; rfl
    have r0 : w2.cell? ⟨w.heap.size + 1, 0, none⟩ = some (.string ⟨#[]⟩) := hR.cell 0
    clear hR HQ
    go_wp2_with fail
    have Z0 := ((unhide HB2).setCell 0 (.slice a l.length l.length)).alloc (.cells #[.slice a l.length l.length] 24)
    have Z1 := ((unhide M2).set (b := w.heap.size) (i := 0) (Nat.le_refl _) (.slice a l.length l.length)).alloc (.cells #[.slice a l.length l.length] 24)
    have Z2 : OwnCs ((w2.setCell ⟨w.heap.size, 0, none⟩ (.slice a l.length l.length)).alloc (.cells #[.slice a l.length l.length] 24)) w.heap.size ((w2.setCell ⟨w.heap.size, 0, none⟩ (.slice a l.length l.length)).alloc (.cells #[.slice a l.length l.length] 24)).heap.size (.slice a l.length l.length) l := by
      refine OwnSl.wide okCl (lo := w1.heap.size) (hi := w2.heap.size) (by omega) (by simp [World.setCell]) ?_
      exact ((unhide O1).set okCl (b := w.heap.size) (i := 0) (u := .slice a l.length l.length) (by omega)).stay okCl (fun k p q => Below.heap_alloc _ _ _ (by rw [size_set]; exact q))
    generalize World.alloc _ _ = Z at Z0 Z1 Z2 ⊢
    have z0 : Z.cell? ⟨w.heap.size, 0, none⟩ = some (.slice a l.length l.length) := Z0.cell 0
    refine bodyPost_ret (v := .agg #[.slice a l.length l.length]) (by simp [results, Tryz.results38, go_sem, z0]) rfl ⟨fun p e => ?_, fun e => ?_, Z1⟩
    · rw [unhide HS] at e
      simp only [Option.some.injEq] at e
      subst e
      exact ⟨a, rfl, Z2⟩
    · rw [unhide HS] at e; cases e
  | cons b t =>
    have HS : Hid (pProg s = none) := by show _ = _; rw [unhide HQ]; rfl
    have r0 : w2.cell? ⟨w.heap.size + 1, 0, none⟩ = some (.string ⟨(b :: t).toArray⟩) := hR.cell 0
    clear hR HQ
    go_wp2_with (go_at_call 76; refine (wire_giveUp _).mono ?_; rintro e w' ⟨rfl, rfl⟩)
    refine ⟨rfl, fun m e => ?_, fun _ => rfl, (unhide M2).alloc _⟩
    rw [unhide HS] at e; cases e

set_option maxHeartbeats 400000 in
theorem dec1 (s : List UInt8) (w : World) (bs bp : Nat) (cs : w.cell? ⟨bs, 0, none⟩ = some (.string ⟨s.toArray⟩)) (hb : Blk w bp 24 [.slice none 0 0]) : Calls Tryz.prog 37 #[.pointer (some ⟨bs, 0, none⟩), .pointer (some ⟨bp, 0, none⟩)] w fun e w' =>
    (∀ p, pProg s = some p → e = .returned (.tuple #[]) ∧ ∃ a, Blk w' bp 24 [.slice a p.length p.length] ∧ OwnCs w' w.heap.size w'.heap.size (.slice a p.length p.length) p) ∧ (pProg s = none → e = .panicked (refC 1) ∧ Blk w' bp 24 [.slice none 0 0]) ∧ Mods (fun k => k = bp) w w' := by
  have hlt := hb.lt
  go_enter Tryz.func37, Tryz.ntmps37
  go_wp2_with fail
  refine Calls.mono (code_read s _) ?_
  rintro e w1 ⟨h1, h2, hm⟩
  have B1 := hb.mods hm (fun f => f)
  have c0 : w1.cell? ⟨bp, 0, none⟩ = some (.slice none 0 0) := B1.cell 0
  have f0 := B1.frozen 0
  have HB := hide B1
  have M1 := hide (hm.mono (T := fun k => k = bp) (fun _ _ f => f.elim))
  have hsz := hm.size
  clear B1 hm
  rcases hp : pProg s with _ | p
  · obtain rfl := h2 hp
    have HP := hide hp
    clear hp
    go_wp2_with fail
    refine ⟨rfl, fun p e => ?_, fun _ => ⟨rfl, unhide HB⟩, unhide M1⟩
    rw [unhide HP] at e; cases e
  · obtain ⟨a, rfl, hO⟩ := h1 p hp
    have HP := hide hp
    have O1 := hide hO
    clear hp h1 h2 hO
    go_wp2_with fail
    go_end0
    refine ⟨fun p' e => ?_, fun e => ?_, (unhide M1).setCell (p := ⟨bp, 0, none⟩) (fun _ => rfl) _⟩
    · rw [unhide HP] at e
      simp only [Option.some.injEq] at e
      subst e
      refine ⟨rfl, a, (unhide HB).setCell 0 _, ?_⟩
      have := (unhide O1).set okCl (b := bp) (i := 0) (u := .slice a p.length p.length) hlt
      rwa [← size_set w1 bp 0 (.slice a p.length p.length)] at this
    · rw [unhide HP] at e; cases e
end Go.Proofs.YtiiokkllmchohaaGreat
/- The code's Decode: giving up is caught. -/
namespace Go.Proofs.YtiiokkllmchohaaGreat
open Go.RowKit

theorem catch_idle (p : Addr) (w : World) :
    CallsD Tryz.prog 72 #[.pointer (some p)] .returning w fun e u' w' => e = .returned (.tuple #[]) ∧ u' = .returning ∧ w' = w := by
  refine callsD_of_wpS Tryz.func72 rfl fun c₀ cs hu => ?_
  apply wpS_seq
  apply wpS_region
  simp [wpOpsS, go_sem, recoverD, hu, Tryz.ntmps72, Exit.thenS, Array.replicate]
  refine wpS_of_wp ?_
  go_wp2
  cases c₀
  simp_all [bodyPostS, results, Tryz.results72]
set_option maxHeartbeats 1000000 in
set_option maxRecDepth 100000 in
theorem catch_giving (p : Addr) (why x : Int) (w : World) (hc : w.cell? p = some (.int .i64 x)) (hz : w.frozen? p = false) :
    CallsD Tryz.prog 72 #[.pointer (some p)] (.panicking (refC why)) w fun e u' w' =>
      e = .returned (.tuple #[]) ∧ u' = .panicking [{ v := .iface 119 (.agg #[.int .i64 why]), recovered := true }] ∧ w' = (w.alloc (.cells #[.int .i64 why] 119)).setCell p (.int .i64 why) := by
  refine callsD_of_wpS Tryz.func72 rfl fun c₀ cs hu => ?_
  unfold refC at hu
  have hta : ∀ W : World, (Instr.typeAssert (.iface 119 (.agg #[.int .i64 why])) 20 119 true).run Tryz.prog W = .ok (.tuple #[.agg #[.int .i64 why], .bool true]) W := fun W => by kernel_rfl
  apply wpS_seq
  apply wpS_region
  simp [wpOpsS, go_sem, recoverD, hu, Tryz.ntmps72, Exit.thenS, Array.replicate]
  refine wpS_of_wp ?_
  have hc' : ∀ o, (w.alloc o).cell? p = some (.int .i64 x) := fun o => box_keeps w o _ _ hc
  have hz' : ∀ o, (w.alloc o).frozen? p = false := fun o => by rw [World.frozen?_alloc_old _ _ _ (Nat.ne_of_lt (cell_lt hc))]; exact hz
  go_wp2_with fail
  cases c₀
  simp_all [bodyPostS, results, Tryz.results72]

set_option maxHeartbeats 1000000 in
set_option maxRecDepth 100000 in
theorem code_attempt (s : List UInt8) (w : World) (bs bp : Nat) (cs : w.cell? ⟨bs, 0, none⟩ = some (.string ⟨s.toArray⟩)) (hb : Blk w bp 24 [.slice none 0 0]) : Calls Tryz.prog 36 #[.func (.func 37) #[] #[.pointer (some ⟨bs, 0, none⟩), .pointer (some ⟨bp, 0, none⟩)]] w fun e w' =>
    (∀ p, pProg s = some p → e = .returned (.int .i64 0) ∧ ∃ a, Blk w' bp 24 [.slice a p.length p.length] ∧ OwnCs w' w.heap.size w'.heap.size (.slice a p.length p.length) p) ∧ (pProg s = none → e = .returned (.int .i64 1) ∧ Blk w' bp 24 [.slice none 0 0]) ∧ Mods (fun k => k = bp) w w' := by
  have hmf : ∀ (fn : Fn) (first cap : Array Value) (w : World), (Instr.makeFunc fn first cap).run Tryz.prog w = .ok (.func fn first cap) w := fun _ _ _ _ => rfl
  have hlt := hb.lt
  have cs1 := box_keeps w (.cells #[.int .i64 0] 26) _ _ cs
  have hb1 := hb.alloc (.cells #[.int .i64 0] 26)
  have be := Blk.new w #[.int .i64 0] 26
  have hm0 := (Mods.refl (fun k => k = bp) w).alloc (.cells #[.int .i64 0] 26)
  have hs0 : (w.alloc (.cells #[.int .i64 0] 26)).heap.size = w.heap.size + 1 := by simp
  have HS0 := hide hs0
  clear hs0
  go_enter_defers Tryz.func36, Tryz.ntmps36
  go_wp2_with fail
  generalize w.alloc _ = W at *
  refine Calls.mono (dec1 s _ bs bp cs1 hb1) ?_
  rintro e w1 ⟨h1, h2, hm⟩
  have be1 := be.mods hm (by omega)
  have c0 : w1.cell? ⟨w.heap.size, 0, none⟩ = some (.int .i64 0) := be1.cell 0
  have f0 := be1.frozen 0
  have M1 := hide (hm0.trans hm (fun _ _ e => e))
  rcases hp : pProg s with _ | p
  · obtain ⟨rfl, hB⟩ := h2 hp
    have HP := hide hp
    clear hp h1 h2
    go_wp2_with fail
    refine leaves_cons (f := 72) (args := #[.pointer (some ⟨w.heap.size, 0, none⟩)]) (by simp) (by simp [go_sem]) ?_
    refine (catch_giving ⟨w.heap.size, 0, none⟩ 1 0 _ c0 f0).mono ?_
    rintro e u' w2 ⟨rfl, rfl, rfl⟩
    have Z0 := ((be1.alloc (.cells #[.int .i64 1] 119)).setCell 0 (.int .i64 1)).cell 0
    have Z1 := (hB.alloc (.cells #[.int .i64 1] 119)).setCell_ne (p := ⟨w.heap.size, 0, none⟩) (by simp only; omega) (.int .i64 1)
    have Z2 := ((unhide M1).alloc (.cells #[.int .i64 1] 119)).set (b := w.heap.size) (i := 0) (Nat.le_refl _) (.int .i64 1)
    generalize World.setCell _ _ _ = Z at Z0 Z1 Z2 ⊢
    replace Z0 : Z.cell? ⟨w.heap.size, 0, none⟩ = some (.int .i64 1) := Z0
    clear c0 f0
    simp [Leaves, settle, results, Tryz.results36, go_sem, Z0]
    exact ⟨fun p e => (by rw [unhide HP] at e; cases e), fun _ => Z1, Z2⟩
  · obtain ⟨rfl, a, hB, hO⟩ := h1 p hp
    have HP := hide hp
    clear hp h1 h2
    go_wp2_with fail
    have Z0 := (be1.setCell 0 (.int .i64 0)).cell 0
    have Z1 := hB.setCell_ne (p := ⟨w.heap.size, 0, none⟩) (by simp only; omega) (.int .i64 0)
    have Z2 := (unhide M1).set (b := w.heap.size) (i := 0) (Nat.le_refl _) (.int .i64 0)
    have hW := unhide HS0
    have Z3 := (hO.set okCl (b := w.heap.size) (i := 0) (u := .int .i64 0) (by omega)).wide okCl (lo' := w.heap.size) (hi' := w1.heap.size) (by omega) (Nat.le_refl _)
    rw [← size_set w1 w.heap.size 0 (.int .i64 0)] at Z3
    generalize World.setCell _ _ _ = Z at Z0 Z1 Z2 Z3 ⊢
    replace Z0 : Z.cell? ⟨w.heap.size, 0, none⟩ = some (.int .i64 0) := Z0
    clear c0 f0
    refine leaves_cons (f := 72) (args := #[.pointer (some ⟨w.heap.size, 0, none⟩)]) (by simp) (by simp [go_sem]) ?_
    refine (catch_idle ⟨w.heap.size, 0, none⟩ _).mono ?_
    rintro e u' w2 ⟨rfl, rfl, rfl⟩
    simp [Leaves, settle, results, Tryz.results36, go_sem, Z0]
    refine ⟨fun p' e => ?_, fun e => ?_, Z2⟩
    · rw [unhide HP] at e
      simp only [Option.some.injEq] at e
      subst e
      exact ⟨a, Z1, Z3⟩
    · rw [unhide HP] at e; cases e
end Go.Proofs.YtiiokkllmchohaaGreat
/- The code's Check. -/
namespace Go.Proofs.YtiiokkllmchohaaGreat
open Go.RowKit Go.Shelf
attribute [local go_sem ↓] Go.wp_at_zero Go.wp_at_succ
attribute [local go_sem] frz_drew

structure ChkBox (w : World) (b0 b1 b2 : Nat) (p : List LClass) (vc : Value) (c : Int) (m : LMeth) (va vco vf : Value) : Prop where
  c0 : Blk w b0 24 [vc]
  c1 : Blk w b1 3 [.int .i64 c]
  c2 : Blk w b2 63 [.int .i64 m.slot, va, .int .i64 m.ret, .int .i64 m.locals, .int .i64 m.stack, vco, vf]
  rp : RProg w vc p
  gv : GVals w.cell? m va vco vf
theorem ChkBox.below {w w' : World} {b0 b1 b2 : Nat} {p : List LClass} {vc : Value} {c : Int} {m : LMeth} {va vco vf : Value} (h : ChkBox w b0 b1 b2 p vc c m va vco vf) (b : Below w.heap.size w w') : ChkBox w' b0 b1 b2 p vc c m va vco vf :=
  ⟨h.c0.below b h.c0.lt, h.c1.below b h.c1.lt, h.c2.below b h.c2.lt, prog_keep (Keeps.of_below b) h.rp, GVals.keep (Keeps.of_below b) h.gv⟩
set_option maxHeartbeats 1000000 in
set_option maxRecDepth 100000 in
theorem chk1 (p : List LClass) (vc : Value) (c : Int) (m : LMeth) (va vco vf : Value) (b0 b1 b2 : Nat) (w : World) (h : ChkBox w b0 b1 b2 p vc c m va vco vf) (G : Good p) (hc0 : 0 ≤ c) (hc1 : c < (p.length : Int)) (O : MethOk p c m) :
    Calls Tryz.prog 54 #[.pointer (some ⟨b0, 0, none⟩), .pointer (some ⟨b1, 0, none⟩), .pointer (some ⟨b2, 0, none⟩)] w fun e w' => MustR (passB p c m) w w' e := by
  have H := hide h
  obtain ⟨pa, _, _, pcap, rfl, _⟩ := h.rp
  obtain ⟨hva, hvc, hvf⟩ := h.gv
  obtain ⟨aa, _, _, acap, rfl, _⟩ := hva
  obtain ⟨ca, _, _, ccap, rfl, _⟩ := hvc
  obtain ⟨fa, _, _, fcap, rfl, _⟩ := hvf
  have q0 : w.cell? ⟨b0, 0, none⟩ = some (.slice pa p.length pcap) := h.c0.cell 0
  have q1 : w.cell? ⟨b1, 0, none⟩ = some (.int .i64 c) := h.c1.cell 0
  have m0 : w.cell? ⟨b2, 0, none⟩ = some (.int .i64 m.slot) := h.c2.cell 0
  have m1 : w.cell? ⟨b2, 1, none⟩ = some (.slice aa m.args.length acap) := h.c2.cell 1
  have m2 : w.cell? ⟨b2, 2, none⟩ = some (.int .i64 m.ret) := h.c2.cell 2
  have m3 : w.cell? ⟨b2, 3, none⟩ = some (.int .i64 m.locals) := h.c2.cell 3
  have m4 : w.cell? ⟨b2, 4, none⟩ = some (.int .i64 m.stack) := h.c2.cell 4
  have m5 : w.cell? ⟨b2, 5, none⟩ = some (.slice ca m.code.length ccap) := h.c2.cell 5
  have m6 : w.cell? ⟨b2, 6, none⟩ = some (.slice fa m.frames.length fcap) := h.c2.cell 6
  clear h
  go_enter Tryz.func54, Tryz.ntmps54
  go_wp2_with fail
  refine (pass_pass p _ c m _ _ _ _ (unhide H).rp hc0 hc1 (unhide H).gv G O.ok O.ins O.c40 O.fr O.f40 O.a7 O.bg).mono ?_
  rintro e w1 ⟨h1, h2, hb⟩
  cases hq : passB p c m with
  | true =>
    obtain rfl := h1 hq
    have HQ := hide hq
    clear hq h1 h2
    go_wp2_with fail
    go_end0
    exact ⟨fun _ => rfl, fun e => (by rw [unhide HQ] at e; cases e), hb⟩
  | false =>
    obtain rfl := h2 hq
    have HQ := hide hq
    clear hq h1 h2
    go_wp2_with fail
    exact ⟨rfl, fun e => (by rw [unhide HQ] at e; cases e), fun _ => rfl, hb⟩

def AttR (b : Bool) (w w' : World) (e : Ending) : Prop := e = .returned (.int .i64 (if b then 0 else 5)) ∧ Below w.heap.size w w'
set_option maxHeartbeats 1000000 in
set_option maxRecDepth 100000 in
theorem chk_attempt (p : List LClass) (vc : Value) (c : Int) (m : LMeth) (va vco vf : Value) (b0 b1 b2 : Nat) (w : World) (h : ChkBox w b0 b1 b2 p vc c m va vco vf) (G : Good p) (hc0 : 0 ≤ c) (hc1 : c < (p.length : Int)) (O : MethOk p c m) :
    Calls Tryz.prog 36 #[.func (.func 54) #[] #[.pointer (some ⟨b0, 0, none⟩), .pointer (some ⟨b1, 0, none⟩), .pointer (some ⟨b2, 0, none⟩)]] w fun e w' => AttR (passB p c m) w w' e := by
  have hmf : ∀ (fn : Fn) (first cap : Array Value) (w : World), (Instr.makeFunc fn first cap).run Tryz.prog w = .ok (.func fn first cap) w := fun _ _ _ _ => rfl
  have H1 := hide (h.below (box_below w (.cells #[.int .i64 0] 26)))
  have be := Blk.new w #[.int .i64 0] 26
  have hbw := box_below w (.cells #[.int .i64 0] 26)
  clear h
  go_enter_defers Tryz.func36, Tryz.ntmps36
  go_wp2_with fail
  generalize w.alloc _ = W at *
  refine Calls.mono (chk1 p vc c m va vco vf b0 b1 b2 _ (unhide H1) G hc0 hc1 O) ?_
  rintro e w1 ⟨h1, h2, hb⟩
  have be1 := be.below hb be.lt
  have c0 : w1.cell? ⟨w.heap.size, 0, none⟩ = some (.int .i64 0) := be1.cell 0
  have f0 := be1.frozen 0
  have hb1 := hbw.trans (hb.mono hbw.size)
  have HB := hide hb1
  cases hq : passB p c m with
  | false =>
    obtain rfl := h2 hq
    have HQ := hide hq
    clear hq h1 h2 hb hb1
    go_wp2_with fail
    refine leaves_cons (f := 72) (args := #[.pointer (some ⟨w.heap.size, 0, none⟩)]) (by simp) (by simp [go_sem]) ?_
    refine (catch_giving ⟨w.heap.size, 0, none⟩ 5 0 _ c0 f0).mono ?_
    rintro e u' w2 ⟨rfl, rfl, rfl⟩
    have Z0 := ((be1.alloc (.cells #[.int .i64 5] 119)).setCell 0 (.int .i64 5)).cell 0
    have Z2 := ((unhide HB).alloc (unhide HB).size (.cells #[.int .i64 5] 119)).setCell (p := ⟨w.heap.size, 0, none⟩) (Nat.le_refl _) (.int .i64 5)
    generalize World.setCell _ _ _ = Z at Z0 Z2 ⊢
    replace Z0 : Z.cell? ⟨w.heap.size, 0, none⟩ = some (.int .i64 5) := Z0
    clear c0 f0
    simp [Leaves, settle, results, Tryz.results36, go_sem, Z0]
    exact ⟨by rw [unhide HQ]; rfl, Z2⟩
  | true =>
    obtain rfl := h1 hq
    have HQ := hide hq
    clear hq h1 h2 hb hb1
    go_wp2_with fail
    have Z0 := (be1.setCell 0 (.int .i64 0)).cell 0
    have Z2 := (unhide HB).setCell (p := ⟨w.heap.size, 0, none⟩) (Nat.le_refl _) (.int .i64 0)
    generalize World.setCell _ _ _ = Z at Z0 Z2 ⊢
    replace Z0 : Z.cell? ⟨w.heap.size, 0, none⟩ = some (.int .i64 0) := Z0
    clear c0 f0
    refine leaves_cons (f := 72) (args := #[.pointer (some ⟨w.heap.size, 0, none⟩)]) (by simp) (by simp [go_sem]) ?_
    refine (catch_idle ⟨w.heap.size, 0, none⟩ _).mono ?_
    rintro e u' w2 ⟨rfl, rfl, rfl⟩
    simp [Leaves, settle, results, Tryz.results36, go_sem, Z0]
    exact ⟨by rw [unhide HQ]; rfl, Z2⟩
def checkI (p : List LClass) (c k : Int) : Int := if formI p = 0 then (match ownM p c k with
  | none => 4
  | some m => if passB p c m then 0 else 5) else formI p
set_option maxHeartbeats 1000000 in
set_option maxRecDepth 100000 in
theorem code_chk (p : List LClass) (vc : Value) (c k : Int) (w : World) (hp : RProg w vc p) (hwf : wfProg p) (hz : szProg p ≤ 4194304) :
    Calls Tryz.prog 23 #[.agg #[vc], .int .i64 c, .int .i64 k] w fun e w' => e = .returned (.int .i64 (checkI p c k)) ∧ Below w.heap.size w w' := by
  have hmf : ∀ (fn : Fn) (first cap : Array Value) (w : World), (Instr.makeFunc fn first cap).run Tryz.prog w = .ok (.func fn first cap) w := fun _ _ _ _ => rfl
  have HP := hide hp
  obtain ⟨pa, _, _, pcap, rfl, _⟩ := hp
  have hbel : Below w.heap.size w ((w.alloc (.cells #[.slice pa p.length pcap] 24)).alloc (.cells #[.int .i64 c] 3)) := box2_below _ _ _
  have B0 : Blk ((w.alloc (.cells #[.slice pa p.length pcap] 24)).alloc (.cells #[.int .i64 c] 3)) w.heap.size 24 [.slice pa p.length pcap] := (Blk.new w _ _).alloc _
  have B1 : Blk ((w.alloc (.cells #[.slice pa p.length pcap] 24)).alloc (.cells #[.int .i64 c] 3)) (w.heap.size + 1) 3 [.int .i64 c] := by
    have := Blk.new (w.alloc (.cells #[.slice pa p.length pcap] 24)) #[.int .i64 c] 3
    rw [World.size_alloc] at this
    exact this
  have HRP := hide (prog_keep (Keeps.of_below hbel) (unhide HP))
  go_enter Tryz.func23, Tryz.ntmps23
  go_wp2_with fail
  refine (code_find p _ c k _ (unhide HRP) hwf hz).mono ?_
  rintro e w1 ⟨h1, h2, h3, hb1⟩
  replace B0 := B0.below hb1 B0.lt
  replace B1 := B1.below hb1 B1.lt
  have hbw := hbel.trans (hb1.mono hbel.size)
  by_cases hF : formI p = 0
  · cases hm : ownM p c k with
    | none =>
      obtain rfl := h2 hF hm
      have HC : Hid (checkI p c k = 4) := by show _ = _; unfold checkI; rw [if_pos hF, hm]
      clear h1 h2 h3 hF hm
      go_wp2_with (refine wpList_store_blk aggMeth (Blk.new _ _ _) 0 zero7 rfl (by simp) zero7_one (.tmp 7) (.tmp 14) rfl rfl rfl rfl ?_; intro w3 hB3 hM3 hs3)
      go_ret
      rw [unhide HC]
      have hb3 := (box_below w1 _).trans (hM3.below (by simp) (fun k hk e => by omega))
      exact ⟨rfl, hbw.trans (hb3.mono hbw.size)⟩
    | some m =>
      obtain ⟨va, vco, vf, rfl, hv⟩ := h1 m hF hm
      obtain ⟨o0, o1, O⟩ := form_own hF hm
      have G := form_good hF hz
      have HC : Hid (checkI p c k = if passB p c m then 0 else 5) := by show _ = _; unfold checkI; rw [if_pos hF, hm]
      have HV := hide (GVals.keep (Keeps.of_below hb1) hv)
      clear h1 h2 h3 hF hm
      unfold methV
      obtain ⟨hva, hvc, hvf⟩ := hv
      obtain ⟨aa, _, _, acap, rfl, _⟩ := hva
      obtain ⟨ca, _, _, ccap, rfl, _⟩ := hvc
      obtain ⟨fa, _, _, fcap, rfl, _⟩ := hvf
      have hone : ∀ v ∈ [Value.int .i64 m.slot, .slice aa m.args.length acap, .int .i64 m.ret, .int .i64 m.locals, .int .i64 m.stack, .slice ca m.code.length ccap, .slice fa m.frames.length fcap], v.oneCell' = true := fun v hv => by
        simp only [List.mem_cons, List.not_mem_nil, or_false] at hv
        rcases hv with rfl | rfl | rfl | rfl | rfl | rfl | rfl <;> rfl
      go_wp2_with (refine wpList_store_blk aggMeth (Blk.new _ _ _) 0 _ rfl (by simp) hone (.tmp 7) (.tmp 14) rfl rfl rfl rfl ?_; intro w3 hB3 hM3 hs3)
      rw [putAt_all (by rfl)] at hB3
      have hb3 := (box_below w1 _).trans (hM3.below (by simp) (fun k hk e => by omega))
      have hbw3 := hbw.trans (hb3.mono hbw.size)
      refine (chk_attempt p _ c m _ _ _ w.heap.size (w.heap.size + 1) w1.heap.size _ ⟨B0.below hb3 B0.lt, B1.below hb3 B1.lt, hB3, prog_keep (Keeps.of_below hbw3) (unhide HP), GVals.keep (Keeps.of_below hb3) (unhide HV)⟩ G o0 o1 O).mono ?_
      rintro e w4 ⟨rfl, hb4⟩
      have HBF := hide (hbw3.trans (hb4.mono hbw3.size))
      rw [← unhide HC]
      obtain ⟨r, hr⟩ : ∃ r, r = checkI p c k := ⟨_, rfl⟩
      rw [← hr]
      have HR := hide hr
      clear hr
      go_wp2_with fail
      go_ret
      rw [← unhide HR]
      exact ⟨rfl, unhide HBF⟩
  · obtain rfl := h3 hF
    have HC : Hid (checkI p c k = formI p) := by show _ = _; unfold checkI; rw [if_neg hF]
    have hF' : (formI p != 0) = true := by simpa using hF
    clear h1 h2 h3 hF
    go_wp2_with (refine wpList_store_blk aggMeth (Blk.new _ _ _) 0 zero7 rfl (by simp) zero7_one (.tmp 7) (.tmp 14) rfl rfl rfl rfl ?_; intro w3 hB3 hM3 hs3)
    go_ret
    rw [unhide HC]
    have hb3 := (box_below w1 _).trans (hM3.below (by simp) (fun k hk e => by omega))
    exact ⟨rfl, hbw.trans (hb3.mono hbw.size)⟩
end Go.Proofs.YtiiokkllmchohaaGreat
