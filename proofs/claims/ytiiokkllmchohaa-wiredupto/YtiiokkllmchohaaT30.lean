/- The code's reader: lists of methods, classes. -/
import Derived.Test.YtiiokkllmchohaaT29
/- ParseI -/
namespace Go.Proofs.Ytiiokkllmchohaa
open Go.RowKit
attribute [local go_sem ↓] Go.wp_at_zero Go.wp_at_succ

theorem infoMethod : (Try.prog.info? 58).map (fun i => (i.zero, i.size, i.bytes)) = some (some (.agg #[.int .i64 0, .slice none 0 0, .int .i64 0, .int .i64 0, .int .i64 0, .slice none 0 0, .slice none 0 0]), 7, 104) := by kernel_rfl
theorem pInfoClass : (Try.prog.info? 34).map (fun i => (i.zero, i.size, i.bytes)) = some (some (.agg #[.int .i64 0, .slice none 0 0, .slice none 0 0]), 3, 56) := by kernel_rfl
theorem take_set7 {cs : List Value} {i : Nat} (h : i + 7 ≤ cs.length) (v0 v1 v2 v3 v4 v5 v6 : Value) : (((((((cs.set i v0).set (i + 1) v1).set (i + 2) v2).set (i + 3) v3).set (i + 4) v4).set (i + 5) v5).set (i + 6) v6).take (i + 7) = cs.take i ++ [v0, v1, v2, v3, v4, v5, v6] := by
  rw [take_set1 (by simp; omega), take_set1 (by simp; omega), take_set1 (by simp; omega), take_set1 (by simp; omega), take_set1 (by simp; omega), take_set1 (by simp; omega), take_set1 (by omega)]; simp
theorem row7_blk {w : World} {b : Nat} {t : TypeId} {cs : List Value} (h : Blk w b t cs) (i : Nat) (v0 v1 v2 v3 v4 v5 v6 : Value) : Blk (((((((w.setCell ⟨b, i, none⟩ v0).setCell ⟨b, i + 1, none⟩ v1).setCell ⟨b, i + 2, none⟩ v2).setCell ⟨b, i + 3, none⟩ v3).setCell ⟨b, i + 4, none⟩ v4).setCell ⟨b, i + 5, none⟩ v5).setCell ⟨b, i + 6, none⟩ v6) b t (((((((cs.set i v0).set (i + 1) v1).set (i + 2) v2).set (i + 3) v3).set (i + 4) v4).set (i + 5) v5).set (i + 6) v6) ∧ Mods (fun k => k = b) w (((((((w.setCell ⟨b, i, none⟩ v0).setCell ⟨b, i + 1, none⟩ v1).setCell ⟨b, i + 2, none⟩ v2).setCell ⟨b, i + 3, none⟩ v3).setCell ⟨b, i + 4, none⟩ v4).setCell ⟨b, i + 5, none⟩ v5).setCell ⟨b, i + 6, none⟩ v6) ∧ (((((((w.setCell ⟨b, i, none⟩ v0).setCell ⟨b, i + 1, none⟩ v1).setCell ⟨b, i + 2, none⟩ v2).setCell ⟨b, i + 3, none⟩ v3).setCell ⟨b, i + 4, none⟩ v4).setCell ⟨b, i + 5, none⟩ v5).setCell ⟨b, i + 6, none⟩ v6).heap.size = w.heap.size :=
  ⟨(((((((h.setCell i v0).setCell (i + 1) v1).setCell (i + 2) v2).setCell (i + 3) v3).setCell (i + 4) v4).setCell (i + 5) v5).setCell (i + 6) v6), ((((((((Mods.refl (fun k => k = b) w).setCell (p := ⟨b, i, none⟩) (fun _ => rfl) v0).setCell (p := ⟨b, i + 1, none⟩) (fun _ => rfl) v1).setCell (p := ⟨b, i + 2, none⟩) (fun _ => rfl) v2).setCell (p := ⟨b, i + 3, none⟩) (fun _ => rfl) v3).setCell (p := ⟨b, i + 4, none⟩) (fun _ => rfl) v4).setCell (p := ⟨b, i + 5, none⟩) (fun _ => rfl) v5).setCell (p := ⟨b, i + 6, none⟩) (fun _ => rfl) v6), by simp [World.setCell]⟩

set_option maxHeartbeats 1000000 in
set_option maxRecDepth 100000 in
theorem rd_list_meth (n : Nat) (s : List UInt8) (w : World) (br : Nat) (h : CRd w br s) (hn : n ≤ 40) : Calls Try.prog 62 #[.int .i64 (n : Int), .func (.func 63) #[.pointer (some ⟨br, 0, none⟩)] #[]] w fun e w' =>
    (∀ l r, pL pMeth n s = some (l, r) → ∃ v, e = .returned v ∧ CRd w' br r ∧ OwnMs w' w.heap.size w'.heap.size v l) ∧ (pL pMeth n s = none → e = .panicked (refC 1)) ∧ Mods (fun k => k = br) w w' := by
  obtain ⟨i0, hi0, hz0, hz1, hz2⟩ := info_parts infoMethod
  have hbr := h.lt
  by_cases h0 : n = 0
  · subst h0
    go_enter Try.func62, Try.ntmps62
    go_wp2_with fail
    go_ret
    refine ⟨?_, ?_, Mods.refl _ _⟩
    · intro l r e
      cases e
      exact ⟨_, rfl, h, .inl ⟨rfl, rfl, Nat.le_refl _⟩⟩
    · intro e; cases e
  · have k0 : ((n : Int) == 0) = false := by simpa using h0
    have HR := hide h
    have H0 := hide h0
    clear h h0
    go_enter Try.func62, Try.ntmps62
    go_wp2_with (at_make; refine wpList_make_blk rfl (.tmp 9) (.tmp 9) 32 rfl 58 i0 (.agg #[.int .i64 0, .slice none 0 0, .int .i64 0, .int .i64 0, .int .i64 0, .slice none 0 0, .slice none 0 0]) 7 104 Try.underlying32 hi0 hz0 hz1 hz2 _ _ _ n rfl rfl rfl (by omega) (by omega) ?_; intro w1 hb1 hm1 hs1)
    have hst : RdL 7 EMe pMeth 58 n s br w.heap.size w w1 0 s (madeCells (Value.agg #[.int .i64 0, .slice none 0 0, .int .i64 0, .int .i64 0, .int .i64 0, .slice none 0 0, .slice none 0 0]).cells (n * 7)).toList [] := ⟨hb1, pMade_len _ _, ⟨w1.heap.size, Nat.le_refl _, by simp [OwnL]; omega⟩, rfl, Blk.mods (unhide HR) hm1 (fun f => f), hm1.mono (fun _ _ f => f.elim), by simp, Nat.le_refl _, hbr⟩
    have HST := hide hst
    generalize (madeCells (Value.agg #[.int .i64 0, .slice none 0 0, .int .i64 0, .int .i64 0, .int .i64 0, .slice none 0 0, .slice none 0 0]).cells (n * 7)).toList = cs0 at *
    clear hst hb1 hm1 hs1
    generalize hg : w.heap.size = g at *
    have HG := hide hg
    clear hg
    go_loopw [13] (fun i wr => ∃ (k : Nat) (t : List UInt8) (cs : List Value) (done : List LMeth), k ≤ n ∧ i = .int .i64 k ∧ RdL 7 EMe pMeth 58 n s br g w wr k t cs done) (fun i _ => n - (intOf i).toNat)
    case atStart => exact ⟨0, s, cs0, [], Nat.zero_le _, rfl, unhide HST⟩
    case round =>
      obtain ⟨k, t, cs, done, hk, rfl, hL⟩ := hrel
      have HL := hide hL
      clear hL
      by_cases hlt : k < n
      · have hgb : ¬ (g = br) := by have := (unhide HL).new; have := (unhide HL).old; omega
        cases hp : pMeth t with
        | none =>
          have HN := hide ((unhide HL).none hlt hp)
          go_wp2_with fail
          refine Calls.mono (rd_method t _ br (unhide HL).rd) ?_
          rintro e w2 ⟨h1, h2, hm⟩
          obtain rfl := h2 hp
          go_wp2_with fail
          refine ⟨rfl, ?_, fun _ => rfl, (unhide HL).mods.trans hm (fun _ _ e => e)⟩
          intro l r e
          rw [unhide HN] at e; cases e
        | some x =>
          obtain ⟨x, t2⟩ := x
          have HP := hide hp
          clear hp
          go_wp2_with fail
          refine Calls.mono (rd_method t _ br (unhide HL).rd) ?_
          rintro e w2 ⟨h1, h2, hm⟩
          obtain ⟨la, lb, lc, rfl, hR2, hE⟩ := h1 x t2 (unhide HP)
          have HE := hide hE
          clear hE
          have hB2 := (unhide HL).blk.mods hm hgb
          have hkl : k * 7 + 7 ≤ cs.length := by rw [(unhide HL).len]; omega
          have c0 : w2.cell? ⟨g, k * 7, none⟩ = some (cs[k * 7]'(by omega)) := by rw [hB2.cell]; exact List.getElem?_eq_getElem _
          have f0 := hB2.frozen (k * 7)
          have c1 : w2.cell? ⟨g, k * 7 + 1, none⟩ = some (cs[k * 7 + 1]'(by omega)) := by rw [hB2.cell]; exact List.getElem?_eq_getElem _
          have f1 := hB2.frozen (k * 7 + 1)
          have c2 : w2.cell? ⟨g, k * 7 + 2, none⟩ = some (cs[k * 7 + 2]'(by omega)) := by rw [hB2.cell]; exact List.getElem?_eq_getElem _
          have f2 := hB2.frozen (k * 7 + 2)
          have c3 : w2.cell? ⟨g, k * 7 + 3, none⟩ = some (cs[k * 7 + 3]'(by omega)) := by rw [hB2.cell]; exact List.getElem?_eq_getElem _
          have f3 := hB2.frozen (k * 7 + 3)
          have c4 : w2.cell? ⟨g, k * 7 + 4, none⟩ = some (cs[k * 7 + 4]'(by omega)) := by rw [hB2.cell]; exact List.getElem?_eq_getElem _
          have f4 := hB2.frozen (k * 7 + 4)
          have c5 : w2.cell? ⟨g, k * 7 + 5, none⟩ = some (cs[k * 7 + 5]'(by omega)) := by rw [hB2.cell]; exact List.getElem?_eq_getElem _
          have f5 := hB2.frozen (k * 7 + 5)
          have c6 : w2.cell? ⟨g, k * 7 + 6, none⟩ = some (cs[k * 7 + 6]'(by omega)) := by rw [hB2.cell]; exact List.getElem?_eq_getElem _
          have f6 := hB2.frozen (k * 7 + 6)
          generalize cs[k * 7]'(by omega) = u0 at *
          generalize cs[k * 7 + 1]'(by omega) = u1 at *
          generalize cs[k * 7 + 2]'(by omega) = u2 at *
          generalize cs[k * 7 + 3]'(by omega) = u3 at *
          generalize cs[k * 7 + 4]'(by omega) = u4 at *
          generalize cs[k * 7 + 5]'(by omega) = u5 at *
          generalize cs[k * 7 + 6]'(by omega) = u6 at *
          have HB2 := hide hB2
          have HM := hide hm
          have HR2 := hide hR2
          clear h1 h2 hB2 hm hR2 hgb
          go_wp2_with fail
          obtain ⟨r1, r2, r3⟩ := row7_blk (unhide HB2) (k * 7) (.int .i64 x.slot) (.slice la x.args.length x.args.length) (.int .i64 x.ret) (.int .i64 x.locals) (.int .i64 x.stack) (.slice lb x.code.length x.code.length) (.slice lc x.frames.length x.frames.length)
          refine ⟨⟨k + 1, t2, _, done ++ [x], by omega, by go_num, (unhide HL).step okMe hlt (unhide HP) (unhide HR2) (c := [.int .i64 x.slot, .slice la x.args.length x.args.length, .int .i64 x.ret, .int .i64 x.locals, .int .i64 x.stack, .slice lb x.code.length x.code.length, .slice lc x.frames.length x.frames.length]) rfl (unhide HE) (unhide HM) r1 (by simp) (by rw [Nat.succ_mul]; exact take_set7 hkl _ _ _ _ _ _ _) r2 r3⟩, by simp [intOf]; omega⟩
      · obtain rfl : k = n := by omega
        obtain ⟨e1, e2⟩ := (unhide HL).full okMe (unhide H0)
        have E1 := hide e1
        have E2 := hide e2
        clear e1 e2
        go_wp2_with fail
        go_ret
        refine ⟨?_, ?_, (unhide HL).mods⟩
        · intro l r e
          rw [unhide E1] at e
          simp only [Option.some.injEq, Prod.mk.injEq] at e
          obtain ⟨rfl, rfl⟩ := e
          refine ⟨_, rfl, (unhide HL).rd, ?_⟩
          have := unhide E2
          rwa [unhide HG] at this
        · intro e
          rw [unhide E1] at e; cases e

theorem ms_some {n : Nat} {s r : List UInt8} {l : List LMeth} (hp : pL pMeth n s = some (l, r)) (w : World) (br : Nat) (h : CRd w br s) (hn : n ≤ 40) : Calls Try.prog 62 #[.int .i64 (n : Int), .func (.func 63) #[.pointer (some ⟨br, 0, none⟩)] #[]] w fun e w' =>
    ∃ a, e = .returned (.slice a l.length l.length) ∧ OwnMs w' w.heap.size w'.heap.size (.slice a l.length l.length) l ∧ CRd w' br r ∧ Mods (fun k => k = br) w w' :=
  (rd_list_meth n s w br h hn).mono fun _ _ h => by
    obtain ⟨v, h1, h2, h3⟩ := h.1 l r hp
    obtain ⟨a, rfl⟩ := h3.form
    exact ⟨a, h1, h3, h2, h.2.2⟩
theorem ms_none {n : Nat} {s : List UInt8} (hp : pL pMeth n s = none) (w : World) (br : Nat) (h : CRd w br s) (hn : n ≤ 40) : Calls Try.prog 62 #[.int .i64 (n : Int), .func (.func 63) #[.pointer (some ⟨br, 0, none⟩)] #[]] w fun e w' => e = .panicked (refC 1) ∧ Mods (fun k => k = br) w w' :=
  (rd_list_meth n s w br h hn).mono fun _ _ h => ⟨h.2.1 hp, h.2.2⟩

/-- On the way through a class: its two boxes, the reader. -/
structure CSt2 (w W : World) (br : Nat) (cs : List Value) (s : List UInt8) : Prop where
  mods : Mods (fun k => k = br) w W
  size : w.heap.size + 2 ≤ W.heap.size
  b0 : Blk W w.heap.size 34 [.int .i64 0, .slice none 0 0, .slice none 0 0]
  b1 : Blk W (w.heap.size + 1) 34 cs
  rd : CRd W br s
  old : br < w.heap.size
theorem CSt2.call {w W W' : World} {br : Nat} {cs : List Value} {s s' : List UInt8} (h : CSt2 w W br cs s) (hm : Mods (fun k => k = br) W W') (hr : CRd W' br s') : CSt2 w W' br cs s' :=
  have ho := h.old
  ⟨h.mods.trans hm (fun _ _ e => e), Nat.le_trans h.size hm.size, h.b0.mods hm (by omega), h.b1.mods hm (by omega), hr, ho⟩
theorem CSt2.put {w W : World} {br : Nat} {cs : List Value} {s : List UInt8} (h : CSt2 w W br cs s) (i : Nat) (v : Value) : CSt2 w (W.setCell ⟨w.heap.size + 1, i, none⟩ v) br (cs.set i v) s :=
  have ho := h.old
  ⟨h.mods.set (by omega) v, by have := h.size; simpa [World.setCell] using this, h.b0.setCell_ne (p := ⟨w.heap.size + 1, i, none⟩) (by simp only; omega) v, h.b1.setCell i v, Blk.setCell_ne h.rd (p := ⟨w.heap.size + 1, i, none⟩) (by simp only; omega) v, ho⟩

set_option maxHeartbeats 4000000 in
set_option maxRecDepth 100000 in
theorem rd_class (s : List UInt8) (w : World) (br : Nat) (h : CRd w br s) : Calls Try.prog 34 #[.pointer (some ⟨br, 0, none⟩)] w fun e w' =>
    (∀ x r, pClass s = some (x, r) → ∃ a b, e = .returned (.agg #[.int .i64 x.sup, .slice a x.fields.length x.fields.length, .slice b x.meths.length x.meths.length]) ∧ CRd w' br r ∧ ECl w' w.heap.size w'.heap.size [.int .i64 x.sup, .slice a x.fields.length x.fields.length, .slice b x.meths.length x.meths.length] x) ∧
    (pClass s = none → e = .panicked (refC 1)) ∧ Mods (fun k => k = br) w w' := by
  have hbr := h.lt
  have T0 : Hid (CSt2 w ((w.alloc (.cells #[.int .i64 0, .slice none 0 0, .slice none 0 0] 34)).alloc (.cells #[.int .i64 0, .slice none 0 0, .slice none 0 0] 34)) br [.int .i64 0, .slice none 0 0, .slice none 0 0] s) := by
    obtain ⟨h1, h2, h3⟩ := two_new w #[.int .i64 0, .slice none 0 0, .slice none 0 0] #[.int .i64 0, .slice none 0 0, .slice none 0 0] 34 34 (fun k => k = br)
    exact ⟨h1, by simp, h2, h3, (Blk.alloc h _).alloc _, hbr⟩
  go_enter Try.func34, Try.ntmps34
  go_wp2_with fail
  generalize (w.alloc _).alloc _ = W0 at *
  clear h
  rcases p0 : pN s with _ | ⟨a, s1⟩
  · have HN : Hid (pClass s = none) := by show _ = _; unfold pClass; rw [p0]; rfl
    refine Calls.mono (num_none p0 _ br (unhide T0).rd) ?_
    rintro e z ⟨rfl, hm⟩
    clear p0
    go_wp2_with fail
    refine ⟨rfl, fun m r e => ?_, fun _ => rfl, (unhide T0).mods.trans hm (fun _ _ e => e)⟩
    rw [unhide HN] at e; cases e
  have P0 := hide p0
  refine Calls.mono (num_some p0 _ br (unhide T0).rd) ?_
  rintro e w0 ⟨rfl, hR, hm⟩
  have T1 := hide ((unhide T0).call hm hR)
  clear p0 hR hm T0
  obtain ⟨⟨c0, c1, c2⟩, f0, f1, f2⟩ := blk3f (unhide T1).b1
  go_wp2_with fail
  have T2 := hide ((unhide T1).put 0 (.int .i64 a))
  generalize w0.setCell _ _ = V0 at *
  clear c0 c1 c2 f0 f1 f2 T1
  rcases p1 : pC 8 s1 with _ | ⟨n1, s2⟩
  · have HN : Hid (pClass s = none) := by show _ = _; unfold pClass; rw [unhide P0]; simp only [Option.bind_some]; rw [p1]; rfl
    refine Calls.mono (cnt_none p1 _ br (unhide T2).rd) ?_
    rintro e z ⟨rfl, hm⟩
    clear p1
    go_wp2_with fail
    refine ⟨rfl, fun m r e => ?_, fun _ => rfl, (unhide T2).mods.trans hm (fun _ _ e => e)⟩
    rw [unhide HN] at e; cases e
  have P1 := hide p1
  have q1 := (pC_sound p1).1
  refine Calls.mono (cnt_some p1 _ br (unhide T2).rd) ?_
  rintro e w1 ⟨rfl, hR, hm⟩
  have T3 := hide ((unhide T2).call hm hR)
  clear p1 hR hm T2
  go_wp2_with fail
  rcases p2 : pL pN n1 s2 with _ | ⟨fs, s3⟩
  · have HN : Hid (pClass s = none) := by show _ = _; unfold pClass; rw [unhide P0]; simp only [Option.bind_some]; rw [unhide P1]; simp only [Option.bind_some]; rw [p2]; rfl
    refine Calls.mono (types_none p2 _ br (unhide T3).rd (by omega)) ?_
    rintro e z ⟨rfl, hm⟩
    clear p2
    go_wp2_with fail
    refine ⟨rfl, fun m r e => ?_, fun _ => rfl, (unhide T3).mods.trans hm (fun _ _ e => e)⟩
    rw [unhide HN] at e; cases e
  have P2 := hide p2
  refine Calls.mono (types_some p2 _ br (unhide T3).rd (by omega)) ?_
  rintro e w2 ⟨vfs, rfl, hO, hR, hm⟩
  have sz1 := (unhide T3).size
  have T4 := hide ((unhide T3).call hm hR)
  have O1 := hide hO
  clear p2 hR hm T3 hO
  obtain ⟨⟨c0, c1, c2⟩, f0, f1, f2⟩ := blk3f (unhide T4).b1
  go_wp2_with fail
  have T5 := hide ((unhide T4).put 1 (.slice vfs fs.length fs.length))
  have O2 := hide ((unhide O1).set okInt (b := w.heap.size + 1) (i := 1) (u := .slice vfs fs.length fs.length) (by omega))
  have L2 := hide (Nat.le_of_eq (size_set w2 (w.heap.size + 1) 1 (.slice vfs fs.length fs.length)).symm)
  generalize w2.setCell _ _ = V2 at *
  clear c0 c1 c2 f0 f1 f2 T4 O1
  rcases p3 : pC 6 s3 with _ | ⟨n2, s4⟩
  · have HN : Hid (pClass s = none) := by show _ = _; unfold pClass; rw [unhide P0]; simp only [Option.bind_some]; rw [unhide P1]; simp only [Option.bind_some]; rw [unhide P2]; simp only [Option.bind_some]; rw [p3]; rfl
    refine Calls.mono (cnt_none p3 _ br (unhide T5).rd) ?_
    rintro e z ⟨rfl, hm⟩
    clear p3
    go_wp2_with fail
    refine ⟨rfl, fun m r e => ?_, fun _ => rfl, (unhide T5).mods.trans hm (fun _ _ e => e)⟩
    rw [unhide HN] at e; cases e
  have P3 := hide p3
  have q3 := (pC_sound p3).1
  refine Calls.mono (cnt_some p3 _ br (unhide T5).rd) ?_
  rintro e w3 ⟨rfl, hR, hm⟩
  have T6 := hide ((unhide T5).call hm hR)
  have O3 := hide ((unhide O2).mods okInt hm (by omega) (unhide L2))
  have L3 := Nat.le_trans (unhide L2) hm.size
  clear p3 hR hm T5 O2 L2
  go_wp2_with fail
  rcases p4 : pL pMeth n2 s4 with _ | ⟨ms, s5⟩
  · have HN : Hid (pClass s = none) := by show _ = _; unfold pClass; rw [unhide P0]; simp only [Option.bind_some]; rw [unhide P1]; simp only [Option.bind_some]; rw [unhide P2]; simp only [Option.bind_some]; rw [unhide P3]; simp only [Option.bind_some]; rw [p4]; rfl
    refine Calls.mono (ms_none p4 _ br (unhide T6).rd (by omega)) ?_
    rintro e z ⟨rfl, hm⟩
    clear p4
    go_wp2_with fail
    refine ⟨rfl, fun m r e => ?_, fun _ => rfl, (unhide T6).mods.trans hm (fun _ _ e => e)⟩
    rw [unhide HN] at e; cases e
  have HS : Hid (pClass s = some (⟨a, fs, ms⟩, s5)) := by show _ = _; unfold pClass; rw [unhide P0]; simp only [Option.bind_some]; rw [unhide P1]; simp only [Option.bind_some]; rw [unhide P2]; simp only [Option.bind_some]; rw [unhide P3]; simp only [Option.bind_some]; rw [p4]; rfl
  refine Calls.mono (ms_some p4 _ br (unhide T6).rd (by omega)) ?_
  rintro e w4 ⟨vms, rfl, hO, hR, hm⟩
  have sz2 := (unhide T6).size
  have T7 := hide ((unhide T6).call hm hR)
  have O4 := hide ((unhide O3).mods okInt hm (by omega) L3)
  have O5 := hide hO
  clear p4 hR hm T6 hO O3
  obtain ⟨⟨c0, c1, c2⟩, f0, f1, f2⟩ := blk3f (unhide T7).b1
  obtain ⟨⟨d0, d1, d2⟩, g0, g1, g2⟩ := blk3f (unhide T7).b0
  go_wp2_with fail
  obtain ⟨Z0, Z1, Z2, Z3, Z4⟩ := fin3 (unhide T7).b0 (unhide T7).mods (unhide T7).rd (Nat.le_refl _) (Nat.le_succ _) (by omega) hbr 2 (.slice vms ms.length ms.length) (.int .i64 a) (.slice vfs fs.length fs.length) (.slice vms ms.length ms.length)
  generalize World.setCell _ _ _ = Z at Z0 Z1 Z2 Z3 Z4 ⊢
  obtain ⟨z0, z1, z2⟩ := blk3 Z0
  refine bodyPost_ret (v := .agg #[.int .i64 a, .slice vfs fs.length fs.length, .slice vms ms.length ms.length]) (by simp [results, Try.results34, go_sem, z0, z1, z2]) rfl ⟨fun m r e => ?_, fun e => ?_, Z1⟩
  · rw [unhide HS] at e
    simp only [Option.some.injEq, Prod.mk.injEq] at e
    obtain ⟨rfl, rfl⟩ := e
    refine ⟨vfs, vms, rfl, Z2, _, _, w3.heap.size, rfl, ?_, ?_⟩
    · exact ((unhide O4).stay okInt (fun k p q => Z4 k (by omega) (by omega))).wide okInt (by omega) (by omega)
    · have := (unhide O5).stay okMe (fun k p q => Z4 k (by omega) (by omega))
      rwa [← Z3] at this
  · rw [unhide HS] at e; cases e

set_option maxHeartbeats 1000000 in
set_option maxRecDepth 100000 in
theorem rd_list_class (n : Nat) (s : List UInt8) (w : World) (br : Nat) (h : CRd w br s) (hn : n ≤ 40) : Calls Try.prog 32 #[.int .i64 (n : Int), .func (.func 34) #[.pointer (some ⟨br, 0, none⟩)] #[]] w fun e w' =>
    (∀ l r, pL pClass n s = some (l, r) → ∃ v, e = .returned v ∧ CRd w' br r ∧ OwnCs w' w.heap.size w'.heap.size v l) ∧ (pL pClass n s = none → e = .panicked (refC 1)) ∧ Mods (fun k => k = br) w w' := by
  obtain ⟨i0, hi0, hz0, hz1, hz2⟩ := info_parts pInfoClass
  have hbr := h.lt
  by_cases h0 : n = 0
  · subst h0
    go_enter Try.func32, Try.ntmps32
    go_wp2_with fail
    go_ret
    refine ⟨?_, ?_, Mods.refl _ _⟩
    · intro l r e
      cases e
      exact ⟨_, rfl, h, .inl ⟨rfl, rfl, Nat.le_refl _⟩⟩
    · intro e; cases e
  · have k0 : ((n : Int) == 0) = false := by simpa using h0
    have HR := hide h
    have H0 := hide h0
    clear h h0
    go_enter Try.func32, Try.ntmps32
    go_wp2_with (at_make; refine wpList_make_blk rfl (.tmp 9) (.tmp 9) 22 rfl 34 i0 (.agg #[.int .i64 0, .slice none 0 0, .slice none 0 0]) 3 56 Try.underlying22 hi0 hz0 hz1 hz2 _ _ _ n rfl rfl rfl (by omega) (by omega) ?_; intro w1 hb1 hm1 hs1)
    have hst : RdL 3 ECl pClass 34 n s br w.heap.size w w1 0 s (madeCells (Value.agg #[.int .i64 0, .slice none 0 0, .slice none 0 0]).cells (n * 3)).toList [] := ⟨hb1, pMade_len _ _, ⟨w1.heap.size, Nat.le_refl _, by simp [OwnL]; omega⟩, rfl, Blk.mods (unhide HR) hm1 (fun f => f), hm1.mono (fun _ _ f => f.elim), by simp, Nat.le_refl _, hbr⟩
    have HST := hide hst
    generalize (madeCells (Value.agg #[.int .i64 0, .slice none 0 0, .slice none 0 0]).cells (n * 3)).toList = cs0 at *
    clear hst hb1 hm1 hs1
    generalize hg : w.heap.size = g at *
    have HG := hide hg
    clear hg
    go_loopw [13] (fun i wr => ∃ (k : Nat) (t : List UInt8) (cs : List Value) (done : List LClass), k ≤ n ∧ i = .int .i64 k ∧ RdL 3 ECl pClass 34 n s br g w wr k t cs done) (fun i _ => n - (intOf i).toNat)
    case atStart => exact ⟨0, s, cs0, [], Nat.zero_le _, rfl, unhide HST⟩
    case round =>
      obtain ⟨k, t, cs, done, hk, rfl, hL⟩ := hrel
      have HL := hide hL
      clear hL
      by_cases hlt : k < n
      · have hgb : ¬ (g = br) := by have := (unhide HL).new; have := (unhide HL).old; omega
        cases hp : pClass t with
        | none =>
          have HN := hide ((unhide HL).none hlt hp)
          go_wp2_with fail
          refine Calls.mono (rd_class t _ br (unhide HL).rd) ?_
          rintro e w2 ⟨h1, h2, hm⟩
          obtain rfl := h2 hp
          go_wp2_with fail
          refine ⟨rfl, ?_, fun _ => rfl, (unhide HL).mods.trans hm (fun _ _ e => e)⟩
          intro l r e
          rw [unhide HN] at e; cases e
        | some x =>
          obtain ⟨x, t2⟩ := x
          have HP := hide hp
          clear hp
          go_wp2_with fail
          refine Calls.mono (rd_class t _ br (unhide HL).rd) ?_
          rintro e w2 ⟨h1, h2, hm⟩
          obtain ⟨la, sa, rfl, hR2, hE⟩ := h1 x t2 (unhide HP)
          have HE := hide hE
          clear hE
          have hB2 := (unhide HL).blk.mods hm hgb
          have hkl : k * 3 + 3 ≤ cs.length := by rw [(unhide HL).len]; omega
          have c0 : w2.cell? ⟨g, k * 3, none⟩ = some (cs[k * 3]'(by omega)) := by rw [hB2.cell]; exact List.getElem?_eq_getElem _
          have c1 : w2.cell? ⟨g, k * 3 + 1, none⟩ = some (cs[k * 3 + 1]'(by omega)) := by rw [hB2.cell]; exact List.getElem?_eq_getElem _
          have c2 : w2.cell? ⟨g, k * 3 + 2, none⟩ = some (cs[k * 3 + 2]'(by omega)) := by rw [hB2.cell]; exact List.getElem?_eq_getElem _
          have f0 := hB2.frozen (k * 3)
          have f1 := hB2.frozen (k * 3 + 1)
          have f2 := hB2.frozen (k * 3 + 2)
          generalize cs[k * 3]'(by omega) = u0 at *
          generalize cs[k * 3 + 1]'(by omega) = u1 at *
          generalize cs[k * 3 + 2]'(by omega) = u2 at *
          have HB2 := hide hB2
          have HM := hide hm
          have HR2 := hide hR2
          clear h1 h2 hB2 hm hR2 hgb
          go_wp2_with fail
          obtain ⟨r1, r2, r3⟩ := row3_blk (unhide HB2) (k * 3) (.int .i64 x.sup) (.slice la x.fields.length x.fields.length) (.slice sa x.meths.length x.meths.length)
          refine ⟨⟨k + 1, t2, _, done ++ [x], by omega, by go_num, (unhide HL).step okCl hlt (unhide HP) (unhide HR2) (c := [.int .i64 x.sup, .slice la x.fields.length x.fields.length, .slice sa x.meths.length x.meths.length]) rfl (unhide HE) (unhide HM) r1 (by simp) (by rw [Nat.succ_mul]; exact take_set3 hkl _ _ _) r2 r3⟩, by simp [intOf]; omega⟩
      · obtain rfl : k = n := by omega
        obtain ⟨e1, e2⟩ := (unhide HL).full okCl (unhide H0)
        have E1 := hide e1
        have E2 := hide e2
        clear e1 e2
        go_wp2_with fail
        go_ret
        refine ⟨?_, ?_, (unhide HL).mods⟩
        · intro l r e
          rw [unhide E1] at e
          simp only [Option.some.injEq, Prod.mk.injEq] at e
          obtain ⟨rfl, rfl⟩ := e
          refine ⟨_, rfl, (unhide HL).rd, ?_⟩
          have := unhide E2
          rwa [unhide HG] at this
        · intro e
          rw [unhide E1] at e; cases e
end Go.Proofs.Ytiiokkllmchohaa
/- The code's reader: programs. -/
namespace Go.Proofs.Ytiiokkllmchohaa
open Go.RowKit
attribute [local go_sem ↓] Go.wp_at_zero Go.wp_at_succ

theorem cls_some {n : Nat} {s r : List UInt8} {l : List LClass} (hp : pL pClass n s = some (l, r)) (w : World) (br : Nat) (h : CRd w br s) (hn : n ≤ 40) : Calls Try.prog 32 #[.int .i64 (n : Int), .func (.func 34) #[.pointer (some ⟨br, 0, none⟩)] #[]] w fun e w' =>
    ∃ a, e = .returned (.slice a l.length l.length) ∧ OwnCs w' w.heap.size w'.heap.size (.slice a l.length l.length) l ∧ CRd w' br r ∧ Mods (fun k => k = br) w w' :=
  (rd_list_class n s w br h hn).mono fun _ _ h => by
    obtain ⟨v, h1, h2, h3⟩ := h.1 l r hp
    obtain ⟨a, rfl⟩ := h3.form
    exact ⟨a, h1, h3, h2, h.2.2⟩
theorem cls_none {n : Nat} {s : List UInt8} (hp : pL pClass n s = none) (w : World) (br : Nat) (h : CRd w br s) (hn : n ≤ 40) : Calls Try.prog 32 #[.int .i64 (n : Int), .func (.func 34) #[.pointer (some ⟨br, 0, none⟩)] #[]] w fun e w' => e = .panicked (refC 1) ∧ Mods (fun k => k = br) w w' :=
  (rd_list_class n s w br h hn).mono fun _ _ h => ⟨h.2.1 hp, h.2.2⟩

set_option maxHeartbeats 1000000 in
set_option maxRecDepth 100000 in
theorem code_read (s : List UInt8) (w : World) : Calls Try.prog 14 #[.string ⟨s.toArray⟩] w fun e w' =>
    (∀ p, pProg s = some p → ∃ a, e = .returned (.agg #[.slice a p.length p.length]) ∧ OwnCs w' w.heap.size w'.heap.size (.slice a p.length p.length) p) ∧ (pProg s = none → e = .panicked (refC 1)) ∧ Mods (fun _ => False) w w' := by
  have hm0 : Mods (fun _ => False) w ((w.alloc (.cells #[.slice none 0 0] 24)).alloc (.cells #[.string ⟨s.toArray⟩] 82)) := ((Mods.refl _ w).alloc _).alloc _
  have b0 : Blk ((w.alloc (.cells #[.slice none 0 0] 24)).alloc (.cells #[.string ⟨s.toArray⟩] 82)) w.heap.size 24 [.slice none 0 0] := (Blk.new w #[.slice none 0 0] 24).alloc _
  have hR0 : CRd ((w.alloc (.cells #[.slice none 0 0] 24)).alloc (.cells #[.string ⟨s.toArray⟩] 82)) (w.heap.size + 1) s := by
    have := Blk.new (w.alloc (.cells #[.slice none 0 0] 24)) #[.string ⟨s.toArray⟩] 82
    unfold CRd
    simpa using this
  have hs0 : w.heap.size + 2 ≤ ((w.alloc (.cells #[.slice none 0 0] 24)).alloc (.cells #[.string ⟨s.toArray⟩] 82)).heap.size := by simp
  go_enter Try.func14, Try.ntmps14
  go_wp2_with fail
  generalize (w.alloc _).alloc _ = W at *
  have M0 := hide hm0
  have B0 := hide b0
  have R0 := hide hR0
  clear hm0 b0 hR0
  rcases p0 : pC 6 s with _ | ⟨n, s1⟩
  · have HN : Hid (pProg s = none) := by show _ = _; unfold pProg; rw [p0]; rfl
    refine Calls.mono (cnt_none p0 _ (w.heap.size + 1) (unhide R0)) ?_
    rintro e z ⟨rfl, hm⟩
    clear p0
    go_wp2_with fail
    refine ⟨rfl, fun m e => ?_, fun _ => rfl, (unhide M0).trans hm (fun k hk e => by omega)⟩
    rw [unhide HN] at e; cases e
  have P0 := hide p0
  have q0 := (pC_sound p0).1
  refine Calls.mono (cnt_some p0 _ (w.heap.size + 1) (unhide R0)) ?_
  rintro e w1 ⟨rfl, hR, hm⟩
  have M1 := hide ((unhide M0).trans hm (fun k hk e => by omega))
  have B1 := hide ((unhide B0).mods hm (by omega))
  have R1 := hide hR
  have hs1 := Nat.le_trans hs0 hm.size
  clear p0 hR hm M0 B0 R0 hs0
  go_wp2_with fail
  rcases p1 : pL pClass n s1 with _ | ⟨l, r⟩
  · have HN : Hid (pProg s = none) := by show _ = _; unfold pProg; rw [unhide P0]; simp only [Option.bind_some]; rw [p1]; rfl
    refine Calls.mono (cls_none p1 _ (w.heap.size + 1) (unhide R1) (by omega)) ?_
    rintro e z ⟨rfl, hm⟩
    clear p1
    go_wp2_with fail
    refine ⟨rfl, fun m e => ?_, fun _ => rfl, (unhide M1).trans hm (fun k hk e => by omega)⟩
    rw [unhide HN] at e; cases e
  have HQ : Hid (pProg s = if r = [] then some l else none) := by show _ = _; unfold pProg; rw [unhide P0]; simp only [Option.bind_some]; rw [p1]; rfl
  refine Calls.mono (cls_some p1 _ (w.heap.size + 1) (unhide R1) (by omega)) ?_
  rintro e w2 ⟨a, rfl, hO, hR, hm⟩
  have M2 := hide ((unhide M1).trans hm (fun k hk e => by omega))
  have B2 := (unhide B1).mods hm (by omega)
  have c0 : w2.cell? ⟨w.heap.size, 0, none⟩ = some (.slice none 0 0) := B2.cell 0
  have f0 := B2.frozen 0
  have HB2 := hide B2
  have O1 := hide hO
  have hs2 := Nat.le_trans hs1 hm.size
  have hlt1 : w.heap.size < w2.heap.size := by omega
  have hlt2 : w.heap.size + 1 < w2.heap.size := by omega
  clear p1 hm M1 B1 R1 hO B2
  cases r with
  | nil =>
    have HS : Hid (pProg s = some l) := by show _ = _; rw [unhide HQ]; rfl
    have r0 : w2.cell? ⟨w.heap.size + 1, 0, none⟩ = some (.string ⟨#[]⟩) := hR.cell 0
    clear hR HQ
    go_wp2_with fail
    have Z0 := ((unhide HB2).setCell 0 (.slice a l.length l.length)).alloc (.cells #[.slice a l.length l.length] 24)
    have Z1 := ((unhide M2).set (b := w.heap.size) (i := 0) (Nat.le_refl _) (.slice a l.length l.length)).alloc (.cells #[.slice a l.length l.length] 24)
    have Z2 : OwnCs ((w2.setCell ⟨w.heap.size, 0, none⟩ (.slice a l.length l.length)).alloc (.cells #[.slice a l.length l.length] 24)) w.heap.size ((w2.setCell ⟨w.heap.size, 0, none⟩ (.slice a l.length l.length)).alloc (.cells #[.slice a l.length l.length] 24)).heap.size (.slice a l.length l.length) l := by
      refine OwnSl.wide okCl (lo := w1.heap.size) (hi := w2.heap.size) (by omega) (by simp [World.setCell]) ?_
      exact ((unhide O1).set okCl (b := w.heap.size) (i := 0) (u := .slice a l.length l.length) (by omega)).stay okCl (fun k p q => Below.heap_alloc _ _ _ (by rw [size_set]; exact q))
    generalize World.alloc _ _ = Z at Z0 Z1 Z2 ⊢
    have z0 : Z.cell? ⟨w.heap.size, 0, none⟩ = some (.slice a l.length l.length) := Z0.cell 0
    refine bodyPost_ret (v := .agg #[.slice a l.length l.length]) (by simp [results, Try.results14, go_sem, z0]) rfl ⟨fun p e => ?_, fun e => ?_, Z1⟩
    · rw [unhide HS] at e
      simp only [Option.some.injEq] at e
      subst e
      exact ⟨a, rfl, Z2⟩
    · rw [unhide HS] at e; cases e
  | cons b t =>
    have HS : Hid (pProg s = none) := by show _ = _; rw [unhide HQ]; rfl
    have r0 : w2.cell? ⟨w.heap.size + 1, 0, none⟩ = some (.string ⟨(b :: t).toArray⟩) := hR.cell 0
    clear hR HQ
    go_wp2_with (go_at_call 35; refine (wire_giveUp _).mono ?_; rintro e w' ⟨rfl, rfl⟩)
    refine ⟨rfl, fun m e => ?_, fun _ => rfl, (unhide M2).alloc _⟩
    rw [unhide HS] at e; cases e

set_option maxHeartbeats 400000 in
theorem dec1 (s : List UInt8) (w : World) (bs bp : Nat) (cs : w.cell? ⟨bs, 0, none⟩ = some (.string ⟨s.toArray⟩)) (hb : Blk w bp 24 [.slice none 0 0]) : Calls Try.prog 13 #[.pointer (some ⟨bs, 0, none⟩), .pointer (some ⟨bp, 0, none⟩)] w fun e w' =>
    (∀ p, pProg s = some p → e = .returned (.tuple #[]) ∧ ∃ a, Blk w' bp 24 [.slice a p.length p.length] ∧ OwnCs w' w.heap.size w'.heap.size (.slice a p.length p.length) p) ∧ (pProg s = none → e = .panicked (refC 1) ∧ Blk w' bp 24 [.slice none 0 0]) ∧ Mods (fun k => k = bp) w w' := by
  have hlt := hb.lt
  go_enter Try.func13, Try.ntmps13
  go_wp2_with fail
  refine Calls.mono (code_read s _) ?_
  rintro e w1 ⟨h1, h2, hm⟩
  have B1 := hb.mods hm (fun f => f)
  have c0 : w1.cell? ⟨bp, 0, none⟩ = some (.slice none 0 0) := B1.cell 0
  have f0 := B1.frozen 0
  have HB := hide B1
  have M1 := hide (hm.mono (T := fun k => k = bp) (fun _ _ f => f.elim))
  have hsz := hm.size
  clear B1 hm
  rcases hp : pProg s with _ | p
  · obtain rfl := h2 hp
    have HP := hide hp
    clear hp
    go_wp2_with fail
    refine ⟨rfl, fun p e => ?_, fun _ => ⟨rfl, unhide HB⟩, unhide M1⟩
    rw [unhide HP] at e; cases e
  · obtain ⟨a, rfl, hO⟩ := h1 p hp
    have HP := hide hp
    have O1 := hide hO
    clear hp h1 h2 hO
    go_wp2_with fail
    go_end0
    refine ⟨fun p' e => ?_, fun e => ?_, (unhide M1).setCell (p := ⟨bp, 0, none⟩) (fun _ => rfl) _⟩
    · rw [unhide HP] at e
      simp only [Option.some.injEq] at e
      subst e
      refine ⟨rfl, a, (unhide HB).setCell 0 _, ?_⟩
      have := (unhide O1).set okCl (b := bp) (i := 0) (u := .slice a p.length p.length) hlt
      rwa [← size_set w1 bp 0 (.slice a p.length p.length)] at this
    · rw [unhide HP] at e; cases e
end Go.Proofs.Ytiiokkllmchohaa
