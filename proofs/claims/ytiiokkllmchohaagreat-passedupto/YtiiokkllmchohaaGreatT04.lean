/- Walk of the law's lendMethod. -/
import Derived.Test.YtiiokkllmchohaaGreatT03
namespace Go.Proofs.YtiiokkllmchohaaGreat
open Go.RowKit
attribute [local go_sem ↓] Go.wp_at_zero Go.wp_at_succ
theorem cell_far3 {b g : Nat} (h : b ≠ g) (w : World) (o i j k : Nat) (x y z : Value) : (((w.setCell ⟨g, i, none⟩ x).setCell ⟨g, j, none⟩ y).setCell ⟨g, k, none⟩ z).cell? ⟨b, o, none⟩ = w.cell? ⟨b, o, none⟩ := by
 refine World.cell?_of_block ?_
 rw [Below.heap_setCell _ _ _ _ h, Below.heap_setCell _ _ _ _ h, Below.heap_setCell _ _ _ _ h]
theorem length_le4 (l : List LFrame) : 4 * l.length ≤ (l.map szFrame).sum := by
 induction l with
 | nil => simp
 | cons f r ih => simp only [List.map_cons, List.sum_cons, List.length_cons]; unfold szFrame; unfold szFrame at ih; omega
structure LentM (w w' : World) (B bh : Nat) (cs : List Value) (m : LMeth) (vt vi vf : Value) (ts is fs : List (Nat × Nat)) (g1 gc gf : Nat) (vt' vi' vf' : Value) (ts' is' fs' : List (Nat × Nat)) (cs' : List Value) : Prop where
 hs : HS w' B bh cs' vt' vi' vf' ts' is' fs'
 rest : ∀ j, 3 ≤ j → cs'[j]? = cs[j]?
 mods : Mods (Rows3 bh vt vi vf) w w'
 vals : GVals (cellS t3 w') m (.slice (some ⟨g1, 0, none⟩) m.args.length (m.args.length + 1)) (.slice (some ⟨gc, 0, none⟩) m.code.length (m.code.length + 1)) (.slice (some ⟨gf, 0, none⟩) m.frames.length (m.frames.length + 1))
 lt : vt'.ownBlock = vt.ownBlock ∨ ∃ k, w.heap.size ≤ k ∧ vt'.ownBlock = some k
 li : vi'.ownBlock = vi.ownBlock ∨ ∃ k, w.heap.size ≤ k ∧ vi'.ownBlock = some k
 lf : vf'.ownBlock = vf.ownBlock ∨ ∃ k, w.heap.size ≤ k ∧ vf'.ownBlock = some k
 tl : ts'.length ≤ ts.length + szMeth m
 il : is'.length = is.length + 1
 fl : fs'.length = fs.length + 1

set_option maxHeartbeats 2000000 in
set_option maxRecDepth 100000 in
theorem lend_method (m : LMeth) (va vc vf0 : Value) (w : World) (B bh : Nat) (cs : List Value) (vt vi vf : Value) (ts is fs : List (Nat × Nat)) (hm : GVals (cellNo bh B w) m va vc vf0) (h : HS w B bh cs vt vi vf ts is fs)
  (hz : szMeth m ≤ 1048576) (hts : ts.length + szMeth m ≤ 16777216) (his : is.length + 1 ≤ 16777216) (hfs : fs.length + 1 ≤ 16777216) :
  Calls Tryz.prog 82 #[.pointer (some ⟨bh, 0, none⟩), .agg #[.int .i64 m.slot, va, .int .i64 m.ret, .int .i64 m.locals, .int .i64 m.stack, vc, vf0]] w fun e w' => ∃ g1 gc gf, e = .returned (.agg #[.int .i64 m.slot, .slice (some ⟨g1, 0, none⟩) m.args.length (m.args.length + 1), .int .i64 m.ret, .int .i64 m.locals, .int .i64 m.stack, .slice (some ⟨gc, 0, none⟩) m.code.length (m.code.length + 1), .slice (some ⟨gf, 0, none⟩) m.frames.length (m.frames.length + 1)]) ∧
   ∃ vt' vi' vf' ts' is' fs' cs', LentM w w' B bh cs m vt vi vf ts is fs g1 gc gf vt' vi' vf' ts' is' fs' cs' := by
 obtain ⟨iI, hI, hI0, hI1, hI2⟩ := info_parts infoIns
 obtain ⟨iJ, hJ, hJ0, hJ1, hJ2⟩ := info_parts infoInss
 obtain ⟨iF, hF, hF0, hF1, hF2⟩ := info_parts infoFrame
 obtain ⟨iG, hG, hG0, hG1, hG2⟩ := info_parts infoFrames
 obtain ⟨ha, hc, hf⟩ := hm
 have HA := hide ha
 have HC := hide hc
 have HF := hide hf
 obtain ⟨aa, _, _, acap, rfl, _⟩ := sl_open ha
 obtain ⟨ca, cb, coff, ccap, rfl, _, hca, _⟩ := sl_open hc
 obtain ⟨fa, fb, foff, fcap, rfl, _, hfa, hfr⟩ := sl_open hf
 have HFR := hide hfr
 clear ha hc hf hfr
 have hlt := h.lt
 have hle := h.le
 have HH := hide h
 clear h
 have hal : m.args.length ≤ 1048576 := by unfold szMeth at hz; omega
 have hcl : m.code.length ≤ 1048576 := by unfold szMeth at hz; omega
 have hfl : m.frames.length ≤ 1048576 := Nat.le_trans (szFrames_le m) hz
 go_enter Tryz.func82, Tryz.ntmps82
 go_wp2_with fail
 generalize hW : ((w.alloc _).alloc _).alloc _ = W
 have hmW : Mods (fun _ => False) w W := by rw [← hW]; exact (((Mods.refl _ w).alloc _).alloc _).alloc _
 have hsW : W.heap.size = w.heap.size + 3 := by rw [← hW]; simp
 have b0 : Blk W w.heap.size 63 [.int .i64 m.slot, .slice aa m.args.length acap, .int .i64 m.ret, .int .i64 m.locals, .int .i64 m.stack, .slice ca m.code.length ccap, .slice fa m.frames.length fcap] := by rw [← hW]; exact ((Blk.new _ _ _).alloc _).alloc _
 have b1 : Blk W (w.heap.size + 1) 63 [.int .i64 0, .slice none 0 0, .int .i64 0, .int .i64 0, .int .i64 0, .slice none 0 0, .slice none 0 0] := by rw [← hW]; exact (by simpa using (Blk.new (w.alloc _) _ _).alloc _)
 have b2 : Blk W (w.heap.size + 2) 63 [.int .i64 m.slot, .slice aa m.args.length acap, .int .i64 m.ret, .int .i64 m.locals, .int .i64 m.stack, .slice ca m.code.length ccap, .slice fa m.frames.length fcap] := by rw [← hW]; exact (by simpa using Blk.new ((w.alloc _).alloc _) _ _)
 clear hW
 have H1 := hide ((unhide HH).stay hmW (fun k t c _ f => f.elim))
 have HAW := hide (ints_keep ((cellNo_mods hmW (fun _ _ f => f)).trans (cellNo_le bh B W)) (unhide HA))
 refine (lend_types m.args _ W bh cs vt B ts (unhide HAW) (unhide H1).hands (unhide H1).c0 (unhide H1).t.row (unhide H1).le hlt hal (by unfold szMeth at hts; omega)).mono ?_
 rintro e w1 ⟨g1, rfl, vt1, L1⟩
 have hn1 : ∀ k, w.heap.size ≤ k → k < W.heap.size → ¬ (k = bh ∨ vt.ownBlock = some k) := fun k h1 _ hk => by
  rcases hk with hk | hk
  ·omega
  ·have := (unhide HH).t.row.lt k hk; omega
 have e0 := b0.mods L1.mods (hn1 _ (by omega) (by omega))
 have e1 := b1.mods L1.mods (hn1 _ (by omega) (by omega))
 have e2 := b2.mods L1.mods (hn1 _ (by omega) (by omega))
 have hs1 := L1.mods.size
 have H2 := hide ((unhide H1).lent hal L1)
 have HM1 := hide ((hmW.mono (T := Rows3 bh vt vi vf) (fun _ _ f => f.elim)).trans ((unhide H1).lentMods L1) (fun _ _ h => h))
 obtain ⟨ia, icap, hvi⟩ := own_form (unhide HH).i.row
 subst hvi
 obtain ⟨sa, scap, hca1, hnilc, hsrcc⟩ := code_src (code_keep ((cellNo_mods hmW (fun _ _ f => f)).trans (cellNo_mods L1.mods (fun k hk => fun hr => by
  rcases hr with hr | hr
  ·omega
  ·have := (unhide HH).t.row.lt k hr; omega))) (unhide HC))
 injection hca1 with hca2 _ hca3
 subst hca2 hca3
 have HNC := hide hnilc
 have HSC := hide hsrcc
 have p5 : w1.cell? ⟨w.heap.size, 5, none⟩ = some (.slice ca m.code.length ccap) := e0.cell 5
 have o1 : w1.cell? ⟨w.heap.size + 2, 1, none⟩ = some (.slice aa m.args.length acap) := e2.cell 1
 have o1f := e2.frozen 1
 have hbhne : bh ≠ w.heap.size + 2 := by omega
 have HL1 := hide L1
 have HN1 := hide hn1
 have B0 := hide b0
 have E0 := hide e0
 have E1 := hide e1
 have E2 := hide e2
 clear hnilc hsrcc L1 hn1 b0 b1 b2 e0 e1 e2 hmW
 obtain ⟨X1, hX1⟩ : ∃ X1, X1 = w1.setCell ⟨w.heap.size + 2, 1, none⟩ (.slice (some ⟨g1, 0, none⟩) m.args.length (m.args.length + 1)) := ⟨_, rfl⟩
 have hmX1 : Mods (fun k => k = w.heap.size + 2) w1 X1 := by rw [hX1]; exact (Mods.refl (fun k => k = w.heap.size + 2) _).setCell (p := ⟨w.heap.size + 2, 1, none⟩) (fun _ => rfl) _
 have hsX1 : X1.heap.size = w1.heap.size := by rw [hX1]; simp
 have x0 := (unhide E0).mods hmX1 (by omega)
 have x1 := (unhide E1).mods hmX1 (by omega)
 have x2 : Blk X1 (w.heap.size + 2) 63 [.int .i64 m.slot, .slice (some ⟨g1, 0, none⟩) m.args.length (m.args.length + 1), .int .i64 m.ret, .int .i64 m.locals, .int .i64 m.stack, .slice ca m.code.length ccap, .slice fa m.frames.length fcap] := by rw [hX1]; exact (unhide E2).setCell 1 _
 have H3 := hide ((unhide H2).stay hmX1 (fun k t c hb hk => by
  subst hk
  rw [hb.uniq (unhide E2)]
  decide))
 have HX0 := hide x0
 have HX1 := hide x1
 have HX2 := hide x2
 have HMX1 := hide hmX1
 have HEX1 := hide hX1
 clear x0 x1 x2 hmX1 hX1
 have hmk : ∀ w2, Blk w2 w1.heap.size 60 (madeCells (Value.agg #[.int .i64 0, .int .i64 0, .int .i64 0]).cells ((m.code.length + 1) * 3)).toList → Mods (fun _ => False) (w1.setCell ⟨w.heap.size + 2, 1, none⟩ (.slice (some ⟨g1, 0, none⟩) m.args.length (m.args.length + 1))) w2 → w2.heap.size = w1.heap.size + 1 →
   ∃ w3 ia' icap' w4, (Builtin.copy_ #[61, 61] 3 #[.slice (some ⟨w1.heap.size, 0, none⟩) (m.code.length + 1) (m.code.length + 1), .slice ca m.code.length ccap]).run Tryz.prog w2 = .ok (goInt m.code.length) w3 ∧
    (Builtin.append_ #[46, 46] 46 #[.slice ia is.length icap, .slice (some ⟨w1.heap.size + 1, 0, none⟩) 1 1]).run Tryz.prog
     ((((w3.setCell ⟨w1.heap.size, m.code.length * 3, none⟩ (.int .i64 (-77000000))).setCell ⟨w1.heap.size, m.code.length * 3 + 1, none⟩ (.int .i64 0)).setCell ⟨w1.heap.size, m.code.length * 3 + 2, none⟩ (.int .i64 0)).alloc (.cells #[.slice (some ⟨w1.heap.size, 0, none⟩) (m.code.length + 1) (m.code.length + 1)] 61)) = .ok (.slice ia' (is.length + 1) icap') w4 ∧
    w2.cell? ⟨w.heap.size, 5, none⟩ = some (.slice ca m.code.length ccap) ∧
    (∃ u0 u1 u2, w3.cell? ⟨w1.heap.size, m.code.length * 3, none⟩ = some u0 ∧ w3.cell? ⟨w1.heap.size, m.code.length * 3 + 1, none⟩ = some u1 ∧ w3.cell? ⟨w1.heap.size, m.code.length * 3 + 2, none⟩ = some u2) ∧
    (∀ i, w3.frozen? ⟨w1.heap.size, i, none⟩ = false) ∧ w3.heap.size = w1.heap.size + 1 ∧ w3.cell? ⟨w.heap.size, 5, none⟩ = some (.slice ca m.code.length ccap) ∧ w3.cell? ⟨bh, 1, none⟩ = some (.slice ia is.length icap) ∧
    w4.cell? ⟨bh, 1, none⟩ = some (.slice ia is.length icap) ∧ w4.frozen? ⟨bh, 1, none⟩ = false ∧ w4.cell? ⟨w.heap.size, 5, none⟩ = some (.slice ca m.code.length ccap) ∧ w4.cell? ⟨w.heap.size, 6, none⟩ = some (.slice fa m.frames.length fcap) ∧
    w4.cell? ⟨w.heap.size + 2, 5, none⟩ = some (.slice ca m.code.length ccap) ∧ w4.frozen? ⟨w.heap.size + 2, 5, none⟩ = false ∧ w1.heap.size + 1 ≤ w4.heap.size ∧
    ∃ X, Mid1 w w4 X B bh cs m aa ca fa acap ccap fcap vt (.slice ia is.length icap) vf ts is fs g1 vt1 w1.heap.size (.slice ia' (is.length + 1) icap') := by
  intro w2 hb2 hm2 hs2
  rw [← unhide HEX1] at hm2
  obtain ⟨w3, hcopy, hM3, hs3, ⟨c3, hc3, hc3l⟩, ia', icap', w4, happ, hM4, hbh4, hHS4, hg4, hat4⟩ := lend_code (unhide H3) m.code ca ccap (unhide HNC) (fun ad e j u hu => by
    have := unhide HSC ad e j u hu
    exact (unhide HMX1).cell (cellNo_le bh B w1 _ _ this) (fun e => by have := cellNo_lt this; omega)) hcl his (by rw [hsX1]; exact hb2) hm2 (by rw [hsX1]; exact hs2)
  rw [hsX1] at hcopy happ hs3 hc3 hg4 hHS4 hat4
  have hrowI : ∀ k, (Value.slice ia is.length icap).ownBlock = some k → B ≤ k ∧ k < w.heap.size := (unhide HH).i.row.lt
  have hnI : ∀ k, w.heap.size ≤ k → ¬ ((Value.slice ia is.length icap).ownBlock = some k) := fun k hk e => by have := hrowI k e; omega
  have hsz4 := hM4.size
  rw [hsX1] at hsz4
  have z0 := (unhide HX0).mods hM4 (hnI _ (by omega))
  have z1 := (unhide HX1).mods hM4 (hnI _ (by omega))
  have z2 := (unhide HX2).mods hM4 (hnI _ (by omega))
  have y0 := (unhide HX0).mods hM3 (fun f => f)
  have yh := (unhide H3).hands.1.mods hM3 (fun f => f)
  have x0 := (unhide HX0).mods hm2 (fun f => f)
  have c1 := (unhide H3).c1
  have hg1 : w.heap.size + 3 ≤ g1 := by have := (unhide HL1).new; omega
  have hgz := (((unhide HL1).blk.mods (unhide HMX1) (by omega)).mods hM4 (hnI _ (by omega)))
  have hsz5 : w1.heap.size + 1 ≤ w4.heap.size := by
   have := hg4.lt; omega
  refine ⟨w3, ia', icap', w4, hcopy, happ, by rw [x0.cell]; rfl, ?_, hc3.frozen, hs3, by rw [y0.cell]; rfl, by rw [yh.cell]; exact c1, by rw [hbh4.cell]; exact c1, hbh4.frozen 1, by rw [z0.cell]; rfl, by rw [z0.cell]; rfl, by rw [z2.cell]; rfl, z2.frozen 5, hsz5, _, rfl, ?_, ?_, ?_, ?_, ?_, ?_, ?_, hg1, by omega, ?_, ?_⟩
  ·have hx : ∀ i, i < (m.code.length + 1) * 3 → ∃ u, w3.cell? ⟨w1.heap.size, i, none⟩ = some u := fun i hi => ⟨c3[i]'(by omega), by rw [hc3.cell]; exact List.getElem?_eq_getElem (by omega)⟩
   obtain ⟨u0, q0⟩ := hx (m.code.length * 3) (by omega)
   obtain ⟨u1, q1⟩ := hx (m.code.length * 3 + 1) (by omega)
   obtain ⟨u2, q2⟩ := hx (m.code.length * 3 + 2) (by omega)
   exact ⟨u0, u1, u2, q0, q1, q2⟩
  ·refine hHS4.stay (S := fun k => k = w.heap.size + 2) ((Mods.refl (fun k => k = w.heap.size + 2) _).setCell (p := ⟨w.heap.size + 2, 5, none⟩) (fun _ => rfl) _) (fun k t c hb hk => ?_)
   subst hk
   rw [hb.uniq (z2.setCell_ne (p := ⟨bh, 1, none⟩) (by show w.heap.size + 2 ≠ bh; omega) _)]
   decide
  ·refine (((unhide HM1).trans (unhide HMX1) (fun i hi e => by omega)).trans hM4 (fun i hi e => .inr (.inr (.inl e)))).setCell (fun _ => .inl rfl) _ |>.setCell (fun h => by simp at h; omega) _
  ·exact (z0.setCell_ne (p := ⟨bh, 1, none⟩) (by show w.heap.size ≠ bh; omega) _).setCell_ne (p := ⟨w.heap.size + 2, 5, none⟩) (by show w.heap.size ≠ w.heap.size + 2; omega) _
  ·exact (z1.setCell_ne (p := ⟨bh, 1, none⟩) (by show w.heap.size + 1 ≠ bh; omega) _).setCell_ne (p := ⟨w.heap.size + 2, 5, none⟩) (by show w.heap.size + 1 ≠ w.heap.size + 2; omega) _
  ·exact (z2.setCell_ne (p := ⟨bh, 1, none⟩) (by show w.heap.size + 2 ≠ bh; omega) _).setCell 5 _
  ·exact (hgz.setCell_ne (p := ⟨bh, 1, none⟩) (by show g1 ≠ bh; omega) _).setCell_ne (p := ⟨w.heap.size + 2, 5, none⟩) (by show g1 ≠ w.heap.size + 2; omega) _
  ·exact (hg4.setCell_ne (p := ⟨bh, 1, none⟩) (by show w1.heap.size ≠ bh; omega) _).setCell_ne (p := ⟨w.heap.size + 2, 5, none⟩) (by show w1.heap.size ≠ w.heap.size + 2; omega) _
  ·rcases (unhide HL1).lies with h5 | ⟨k, h5, h6⟩
   ·exact .inl h5
   ·exact .inr ⟨k, by omega, h6⟩
  ·rcases hat4 with h5 | ⟨k, h5, h6⟩
   ·exact .inl h5
   ·exact .inr ⟨k, by omega, h6⟩
 have HMK := hide hmk
 clear hmk
 go_wp2_with (first
  | (at_make; refine wpList_make_blk rfl (.tmp 18) (.tmp 18) 61 rfl 60 iI (.agg #[.int .i64 0, .int .i64 0, .int .i64 0]) 3 24 Tryz.underlying61 hI hI0 hI1 hI2 _ _ _ (m.code.length + 1) rfl rfl (by omega) (by omega) (by omega) ?_; intro w2 hb2 hm2 hs2
     obtain ⟨w3, ia', icap', w4, hcopy, happ, k2, ⟨u0, u1, u2, q0, q1, q2⟩, qf, hs3, k3, k3h, k4, k4f, k45, k46, k4o, k4of, hs4, X5, hmid⟩ := unhide HMK w2 (by simpa using hb2) hm2 (by simpa using hs2)
     have HMID := hide hmid
     clear hmid hb2 hm2 hs2)
  | (at_builtin; refine wpList_append_run rfl (.tmp 34) (.tmp 36) 46 rfl _ _ rfl rfl happ ?_)
  | (at_make; refine wpList_make_blk rfl (.tmp 49) (.tmp 49) 36 rfl 42 iF (.agg #[.int .i64 0, .slice none 0 0, .slice none 0 0]) 3 56 Tryz.underlying36 hF hF0 hF1 hF2 _ _ _ (m.frames.length + 1) rfl rfl (by omega) (by omega) (by omega) ?_; intro w5 hb5 hm5 hs5
     have hb5' : Blk w5 w4.heap.size 42 (madeCells (Value.agg #[.int .i64 0, .slice none 0 0, .slice none 0 0]).cells ((m.frames.length + 1) * 3)).toList := by simpa using hb5
     have hs5' : w5.heap.size = w4.heap.size + 1 := by simpa using hs5
     rw [← (unhide HMID).eq] at hm5
     have HB5 := hide hb5'
     have HM5 := hide hm5
     clear hb5 hm5 hs5 hb5'))
 obtain ⟨ffa, ffcap, hvf⟩ := own_form (unhide HH).f.row
 subst hvf
 have HST : Hid (∃ vt2 ts2 cs2 cf, FrSt w w5 B bh cs m aa ca fa acap ccap fcap vt (.slice ia is.length icap) (.slice ffa fs.length ffcap) ts.length (.slice ia' (is.length + 1) icap') (is ++ [(w1.heap.size, m.code.length + 1)]) fs g1 w1.heap.size w4.heap.size 0 vt2 ts2 cs2 cf) := by
  have M := unhide HMID
  have hm5 := unhide HM5
  have hX5 := M.mods.size
  have hsz4 : X5.heap.size = w4.heap.size := by rw [M.eq]; simp
  refine ⟨vt1, ts ++ [(g1, m.args.length + 1)], _, _, M.hs.stay hm5 (fun _ _ _ _ f => f.elim), fun j hj => by rw [List.getElem?_set_ne (by omega), List.getElem?_set_ne (by omega)], M.mods.trans hm5 (fun _ _ f => f.elim), M.b0.mods hm5 (fun f => f), M.b1.mods hm5 (fun f => f), M.b2.mods hm5 (fun f => f), M.g.mods hm5 (fun f => f), M.c.mods hm5 (fun f => f), unhide HB5, by rw [made_len], fun j hj h => absurd h (Nat.not_lt_zero _), M.lt, M.li, by rw [List.length_append, List.length_singleton], by omega, M.newc, M.new1, fun e he => ?_, hle⟩
  obtain ⟨_, _, _, c, hb, _⟩ := (unhide HH).f.ent e he
  exact hb.lt
 clear k2 q0 q1 q2 qf hs3 k3 k3h k4 k4f k45 k46 k4o k4of
 go_loopw [8] (fun s wr => ∃ i : Nat, i ≤ m.frames.length ∧ s = .int .i64 i ∧ ∃ vt2 ts2 cs2 cf, FrSt w wr B bh cs m aa ca fa acap ccap fcap vt (.slice ia is.length icap) (.slice ffa fs.length ffcap) ts.length (.slice ia' (is.length + 1) icap') (is ++ [(w1.heap.size, m.code.length + 1)]) fs g1 w1.heap.size w4.heap.size i vt2 ts2 cs2 cf) (fun s _ => m.frames.length - (intOf s).toNat)
 case atStart => exact ⟨0, Nat.zero_le _, rfl, unhide HST⟩
 case round =>
  obtain ⟨i, hi, rfl, vt2, ts2, cs2, cf, hst⟩ := hrel
  have q6 : wr.cell? ⟨w.heap.size, 6, none⟩ = some (.slice fa m.frames.length fcap) := by rw [hst.b0.cell]; rfl
  have ST := hide hst
  clear hst
  by_cases hlt2 : i < m.frames.length
  ·obtain rfl := hfa (ne_nil_of_lt hlt2)
   have hkl := cellNo_mods (unhide ST).mods (fun k hk => (unhide HH).notOwn hk)
   obtain ⟨vl, vs, d0, d1, d2, hl, hs⟩ := (unhide HFR i hlt2).keep hkl
   have hfb : fb ≠ bh ∧ fb < B := cellNo_lt d0
   have c0 := cellNo_le bh B wr _ _ d0
   have c1 := cellNo_le bh B wr _ _ d1
   have c2 := cellNo_le bh B wr _ _ d2
   have hfz := Nat.le_trans (szFrame_le (List.getElem_mem hlt2)) hz
   have hll : m.frames[i].locals.length ≤ 1048576 := by unfold szFrame at hfz; omega
   have hsl : m.frames[i].stack.length ≤ 1048576 := by unfold szFrame at hfz; omega
   generalize hfe : m.frames[i] = f at *
   have HFE := hide hfe
   clear hfe
   have hnts : ts2.length = ts.length + 1 + 2 * i := (unhide ST).tl
   have hszb : 4 * m.frames.length + 8 ≤ szMeth m := by
    have := length_le4 m.frames
    unfold szMeth; omega
   have HL := hide hl
   have HS0 := hide hs
   obtain ⟨la, lb, loff, lcap, rfl, _⟩ := sl_open hl
   obtain ⟨sa, sb, soff, scap, rfl, _⟩ := sl_open hs
   have hii : (i : Int) < (m.frames.length : Int) := by omega
   have hiz : (0 : Int) ≤ (i : Int) := by omega
   have hi1 : (i : Int) < (m.frames.length : Int) + 1 := by omega
   have hg0 := (unhide ST).newf
   have hg1 : w.heap.size ≠ w4.heap.size := by omega
   have hg2 : fb ≠ w4.heap.size := by omega
   have SD := hide (unhide ST).drew
   clear hl hs d0 d1 d2 hkl
   go_wp2_with fail
   go_region_held3 (fun w' => w'.cell? ⟨w.heap.size, 6, none⟩ = some (.slice (some ⟨fb, foff, none⟩) m.frames.length fcap) ∧ w'.cell? ⟨fb, foff + i * 3, none⟩ = some (.int .i64 f.pc) ∧ w'.cell? ⟨fb, foff + i * 3 + 1, none⟩ = some (.slice la f.locals.length lcap) ∧ w'.cell? ⟨fb, foff + i * 3 + 2, none⟩ = some (.slice sa f.stack.length scap))
    (first | go_keep | (exact ⟨a6, a0, a1, a2⟩) | (exact ⟨z6, z0, z1, z2⟩) | (exact ⟨(cell_far3 hg1 _ _ _ _ _ _ _ _).trans z6, (cell_far3 hg2 _ _ _ _ _ _ _ _).trans z0, (cell_far3 hg2 _ _ _ _ _ _ _ _).trans z1, (cell_far3 hg2 _ _ _ _ _ _ _ _).trans z2⟩))
    (first
      | ((go_at_call_of 83 (Value.slice la f.locals.length lcap); refine (lend_types f.locals _ wr.drew bh cs2 vt2 B ts2 (ints_keep (cellNo_le bh B wr) (unhide HL)) (unhide SD).hs.hands (unhide SD).hs.c0 (unhide SD).hs.t.row (unhide SD).hs.le hlt hll (by omega)).mono ?_); rintro e w6 ⟨g6, rfl, vt6, L6⟩
         have hfar6 : ∀ k, k ≠ bh ∧ k < B → ¬ (k = bh ∨ vt2.ownBlock = some k) := fun k hk hr => by
          rcases hr with hr | hr
          ·omega
          ·have := (unhide SD).hs.t.row.lt k hr; omega
         have a6 := L6.mods.cell (p := ⟨w.heap.size, 6, none⟩) q6 ((unhide SD).far (unhide SD).b0 (by decide) (by decide))
         have a0 := L6.mods.cell (p := ⟨fb, foff + i * 3, none⟩) c0 (hfar6 _ hfb)
         have a1 := L6.mods.cell (p := ⟨fb, foff + i * 3 + 1, none⟩) c1 (hfar6 _ hfb)
         have a2 := L6.mods.cell (p := ⟨fb, foff + i * 3 + 2, none⟩) c2 (hfar6 _ hfb)
         have S6 := hide ((unhide SD).lent hll L6 (ts.length + 1) (by omega))
         have V6 := hide (ints_of_blk (T := tT) (cap := f.locals.length + 1) L6.blk (by simp) (by omega))
         have R6 := hide (ints_keep ((cellNo_mods L6.mods hfar6).trans (cellNo_le bh B w6)) (unhide HS0))
         clear L6)
      | ((go_at_call_of 83 (Value.slice sa f.stack.length scap); refine (lend_types f.stack _ w6 bh (cs2.set 0 vt6) vt6 B _ (unhide R6) (unhide S6).hs.hands (unhide S6).hs.c0 (unhide S6).hs.t.row (unhide S6).hs.le hlt hsl (by simp; omega)).mono ?_); rintro e w7 ⟨g7, rfl, vt7, L7⟩
         have hfar7 : ∀ k, k ≠ bh ∧ k < B → ¬ (k = bh ∨ vt6.ownBlock = some k) := fun k hk hr => by
          rcases hr with hr | hr
          ·omega
          ·have := (unhide S6).hs.t.row.lt k hr; omega
         have z6 := L7.mods.cell (p := ⟨w.heap.size, 6, none⟩) a6 ((unhide S6).far (unhide S6).b0 (by decide) (by decide))
         have z0 := L7.mods.cell (p := ⟨fb, foff + i * 3, none⟩) a0 (hfar7 _ hfb)
         have z1 := L7.mods.cell (p := ⟨fb, foff + i * 3 + 1, none⟩) a1 (hfar7 _ hfb)
         have z2 := L7.mods.cell (p := ⟨fb, foff + i * 3 + 2, none⟩) a2 (hfar7 _ hfb)
         have S7 := hide ((unhide S6).lent hsl L7 (ts.length + 2) (by simp; omega))
         have V7 := hide (ints_of_blk (T := tT) (cap := f.stack.length + 1) L7.blk (by simp) (by omega))
         have W7 := hide (ints_keep (cellS_mods L7.mods (fun k t c hb ht => by obtain rfl := List.mem_singleton.1 ht; exact (unhide S6).far hb (by decide) (by decide))) (unhide V6))
         obtain ⟨u0, y0⟩ := (unhide S7).cellF (i * 3) (by omega)
         obtain ⟨u1, y1⟩ := (unhide S7).cellF (i * 3 + 1) (by omega)
         obtain ⟨u2, y2⟩ := (unhide S7).cellF (i * 3 + 2) (by omega)
         have yf := (unhide S7).fb.frozen
         clear L7))
   have hfe := unhide HFE
   obtain ⟨cf', hput⟩ := (unhide S7).put hlt2 (vl := .slice (some ⟨g6, 0, none⟩) f.locals.length (f.locals.length + 1)) (vs := .slice (some ⟨g7, 0, none⟩) f.stack.length (f.stack.length + 1)) (by rw [hfe]; exact unhide W7) (by rw [hfe]; exact unhide V7) ts.length (by simp; omega)
   rw [hfe] at hput
   have HPUT := hide hput
   clear hput hfe
   go_wp2
   exact ⟨⟨i + 1, by omega, by go_num, _, _, _, _, unhide HPUT⟩, by simp [intOf]; omega⟩
  ·obtain rfl : i = m.frames.length := by omega
   obtain ⟨fa3, fcap3, w6, happ6, hbh6, hm6, hsz6, p0, p1, p2, hHS6, hvals6, hat6⟩ := (unhide ST).fin hfs hfl
   obtain ⟨u0, y0⟩ := (unhide ST).cellF (m.frames.length * 3) (by omega)
   obtain ⟨u1, y1⟩ := (unhide ST).cellF (m.frames.length * 3 + 1) (by omega)
   obtain ⟨u2, y2⟩ := (unhide ST).cellF (m.frames.length * 3 + 2) (by omega)
   have yf := (unhide ST).fb.frozen
   have hg0 := (unhide ST).newf
   have hg1 : w.heap.size ≠ w4.heap.size := by omega
   have hg2 : bh ≠ w4.heap.size := by omega
   have hhc := (unhide ST).hs.hands.1
   have k2 : wr.cell? ⟨bh, 2, none⟩ = some (.slice ffa fs.length ffcap) := by rw [hhc.cell]; exact (unhide ST).hs.c2
   have v2 : w6.cell? ⟨bh, 2, none⟩ = some (.slice ffa fs.length ffcap) := by rw [hbh6.cell]; exact (unhide ST).hs.c2
   have v2f := hbh6.frozen 2
   have v06 : w6.cell? ⟨w.heap.size, 6, none⟩ = some (.slice fa m.frames.length fcap) := by rw [p0.cell]; rfl
   have o0 : w6.cell? ⟨w.heap.size + 2, 0, none⟩ = some (.int .i64 m.slot) := by rw [p2.cell]; rfl
   have o1 : w6.cell? ⟨w.heap.size + 2, 1, none⟩ = some (.slice (some ⟨g1, 0, none⟩) m.args.length (m.args.length + 1)) := by rw [p2.cell]; rfl
   have o2 : w6.cell? ⟨w.heap.size + 2, 2, none⟩ = some (.int .i64 m.ret) := by rw [p2.cell]; rfl
   have o3 : w6.cell? ⟨w.heap.size + 2, 3, none⟩ = some (.int .i64 m.locals) := by rw [p2.cell]; rfl
   have o4 : w6.cell? ⟨w.heap.size + 2, 4, none⟩ = some (.int .i64 m.stack) := by rw [p2.cell]; rfl
   have o5 : w6.cell? ⟨w.heap.size + 2, 5, none⟩ = some (.slice (some ⟨w1.heap.size, 0, none⟩) m.code.length (m.code.length + 1)) := by rw [p2.cell]; rfl
   have o6 : w6.cell? ⟨w.heap.size + 2, 6, none⟩ = some (.slice fa m.frames.length fcap) := by rw [p2.cell]; rfl
   have of := p2.frozen
   have r0 : w6.cell? ⟨w.heap.size + 1, 0, none⟩ = some (.int .i64 0) := by rw [p1.cell]; rfl
   have r1 : w6.cell? ⟨w.heap.size + 1, 1, none⟩ = some (.slice none 0 0) := by rw [p1.cell]; rfl
   have r2 : w6.cell? ⟨w.heap.size + 1, 2, none⟩ = some (.int .i64 0) := by rw [p1.cell]; rfl
   have r3 : w6.cell? ⟨w.heap.size + 1, 3, none⟩ = some (.int .i64 0) := by rw [p1.cell]; rfl
   have r4 : w6.cell? ⟨w.heap.size + 1, 4, none⟩ = some (.int .i64 0) := by rw [p1.cell]; rfl
   have r5 : w6.cell? ⟨w.heap.size + 1, 5, none⟩ = some (.slice none 0 0) := by rw [p1.cell]; rfl
   have r6 : w6.cell? ⟨w.heap.size + 1, 6, none⟩ = some (.slice none 0 0) := by rw [p1.cell]; rfl
   have rf := p1.frozen
   have hb1 : bh ≠ w.heap.size := by omega
   have hb2 : bh ≠ w.heap.size + 1 := by omega
   have hb3 : bh ≠ w.heap.size + 2 := by omega
   have P1 := hide p1
   have P2 := hide p2
   have HM6 := hide hm6
   have HHS6 := hide hHS6
   have HV6 := hide hvals6
   have HA6 := hide hat6
   have HBH6 := hide hbh6
   clear hbh6 hm6 p0 p1 p2 hHS6 hvals6 hat6 hhc
   go_wp2_with (at_builtin; refine wpList_append_run rfl (.tmp 94) (.tmp 96) 47 rfl _ _ rfl rfl happ6 ?_)
   generalize hY : w6.setCell ⟨bh, 2, none⟩ (.slice fa3 (fs.length + 1) fcap3) = Y
   have hmY : Mods (fun k => k = bh) w6 Y := by rw [← hY]; exact (Mods.refl (fun k => k = bh) _).setCell (p := ⟨bh, 2, none⟩) (fun _ => rfl) _
   have hHSY := unhide HHS6
   rw [hY] at hHSY
   clear hY
   have P1Y := (unhide P1).mods hmY (by omega)
   have P2Y := (unhide P2).mods hmY (by omega)
   generalize hZ0 : Y.setCell ⟨w.heap.size + 1 + 1, 6, none⟩ (.slice (some ⟨w4.heap.size, 0, none⟩) m.frames.length (m.frames.length + 1)) = Z0
   have hmZ0 : Mods (fun k => k = w.heap.size + 1 ∨ k = w.heap.size + 2) Y Z0 := by rw [← hZ0]; exact (Mods.refl (fun k => k = w.heap.size + 1 ∨ k = w.heap.size + 2) _).setCell (p := ⟨w.heap.size + 2, 6, none⟩) (fun _ => .inr rfl) _
   have P1Z := P1Y.setCell_ne (p := ⟨w.heap.size + 1 + 1, 6, none⟩) (by show w.heap.size + 1 ≠ w.heap.size + 1 + 1; omega) (.slice (some ⟨w4.heap.size, 0, none⟩) m.frames.length (m.frames.length + 1))
   rw [hZ0] at P1Z
   clear hZ0
   have hBZ := ((((((P1Z.setCell 0 (.int .i64 m.slot)).setCell 1 (.slice (some ⟨g1, 0, none⟩) m.args.length (m.args.length + 1))).setCell 2 (.int .i64 m.ret)).setCell 3 (.int .i64 m.locals)).setCell 4 (.int .i64 m.stack)).setCell 5 (.slice (some ⟨w1.heap.size, 0, none⟩) m.code.length (m.code.length + 1))).setCell 6 (.slice (some ⟨w4.heap.size, 0, none⟩) m.frames.length (m.frames.length + 1))
   have hmZ := ((((((((Mods.refl (fun k => k = w.heap.size + 1 ∨ k = w.heap.size + 2) Y).trans hmZ0 (fun _ _ e => e)).setCell (p := ⟨w.heap.size + 1, 0, none⟩) (fun _ => .inl rfl) (.int .i64 m.slot)).setCell (p := ⟨w.heap.size + 1, 1, none⟩) (fun _ => .inl rfl) (.slice (some ⟨g1, 0, none⟩) m.args.length (m.args.length + 1))).setCell (p := ⟨w.heap.size + 1, 2, none⟩) (fun _ => .inl rfl) (.int .i64 m.ret)).setCell (p := ⟨w.heap.size + 1, 3, none⟩) (fun _ => .inl rfl) (.int .i64 m.locals)).setCell (p := ⟨w.heap.size + 1, 4, none⟩) (fun _ => .inl rfl) (.int .i64 m.stack)).setCell (p := ⟨w.heap.size + 1, 5, none⟩) (fun _ => .inl rfl) (.slice (some ⟨w1.heap.size, 0, none⟩) m.code.length (m.code.length + 1))).setCell (p := ⟨w.heap.size + 1, 6, none⟩) (fun _ => .inl rfl) (.slice (some ⟨w4.heap.size, 0, none⟩) m.frames.length (m.frames.length + 1))
   generalize ((((((Z0.setCell ⟨w.heap.size + 1, 0, none⟩ (.int .i64 m.slot)).setCell ⟨w.heap.size + 1, 1, none⟩ (.slice (some ⟨g1, 0, none⟩) m.args.length (m.args.length + 1))).setCell ⟨w.heap.size + 1, 2, none⟩ (.int .i64 m.ret)).setCell ⟨w.heap.size + 1, 3, none⟩ (.int .i64 m.locals)).setCell ⟨w.heap.size + 1, 4, none⟩ (.int .i64 m.stack)).setCell ⟨w.heap.size + 1, 5, none⟩ (.slice (some ⟨w1.heap.size, 0, none⟩) m.code.length (m.code.length + 1))).setCell ⟨w.heap.size + 1, 6, none⟩ (.slice (some ⟨w4.heap.size, 0, none⟩) m.frames.length (m.frames.length + 1)) = Z at hBZ hmZ ⊢
   have s0 : Z.cell? ⟨w.heap.size + 1, 0, none⟩ = some (.int .i64 m.slot) := by rw [hBZ.cell]; rfl
   have s1 : Z.cell? ⟨w.heap.size + 1, 1, none⟩ = some (.slice (some ⟨g1, 0, none⟩) m.args.length (m.args.length + 1)) := by rw [hBZ.cell]; rfl
   have s2 : Z.cell? ⟨w.heap.size + 1, 2, none⟩ = some (.int .i64 m.ret) := by rw [hBZ.cell]; rfl
   have s3 : Z.cell? ⟨w.heap.size + 1, 3, none⟩ = some (.int .i64 m.locals) := by rw [hBZ.cell]; rfl
   have s4 : Z.cell? ⟨w.heap.size + 1, 4, none⟩ = some (.int .i64 m.stack) := by rw [hBZ.cell]; rfl
   have s5 : Z.cell? ⟨w.heap.size + 1, 5, none⟩ = some (.slice (some ⟨w1.heap.size, 0, none⟩) m.code.length (m.code.length + 1)) := by rw [hBZ.cell]; rfl
   have s6 : Z.cell? ⟨w.heap.size + 1, 6, none⟩ = some (.slice (some ⟨w4.heap.size, 0, none⟩) m.frames.length (m.frames.length + 1)) := by rw [hBZ.cell]; rfl
   refine bodyPost_ret (v := .agg #[.int .i64 m.slot, .slice (some ⟨g1, 0, none⟩) m.args.length (m.args.length + 1), .int .i64 m.ret, .int .i64 m.locals, .int .i64 m.stack, .slice (some ⟨w1.heap.size, 0, none⟩) m.code.length (m.code.length + 1), .slice (some ⟨w4.heap.size, 0, none⟩) m.frames.length (m.frames.length + 1)]) (by simp [results, Tryz.results82, go_sem, s0, s1, s2, s3, s4, s5, s6]) rfl ⟨g1, w1.heap.size, w4.heap.size, rfl, vt2, .slice ia' (is.length + 1) icap', .slice fa3 (fs.length + 1) fcap3, ts2, is ++ [(w1.heap.size, m.code.length + 1)], fs ++ [(w4.heap.size, m.frames.length + 1)], cs2.set 2 (.slice fa3 (fs.length + 1) fcap3), ?_⟩
   have hne : ∀ {k t c}, Blk Y k t c → t ≠ 63 → ¬ (k = w.heap.size + 1 ∨ k = w.heap.size + 2) := fun hb ht e => by
    rcases e with rfl | rfl
    ·exact ht (hb.uniq P1Y)
    ·exact ht (hb.uniq P2Y)
   refine ⟨hHSY.stay hmZ (fun k t c hb hk => ?_), fun j hj => by rw [List.getElem?_set_ne (by omega)]; exact (unhide ST).rest j hj, ((unhide HM6).trans hmY (fun k _ e => .inl e)).trans hmZ (fun k hk e => by omega), (unhide HV6).keep ((cellS_mods hmY (fun k t c hb ht e => ?_)).trans (cellS_mods hmZ (fun k t c hb ht => hne hb ?_))), (unhide ST).lt, (unhide ST).li, unhide HA6, ?_, by rw [List.length_append]; rfl, by rw [List.length_append]; rfl⟩
   ·intro ht
    refine hne hb ?_ hk
    rcases ht with rfl | rfl | rfl | rfl | rfl | rfl | rfl <;> decide
   ·subst e
    rw [hb.uniq (unhide HBH6)] at ht
    exact absurd ht (by decide)
   ·simp only [List.mem_cons, List.not_mem_nil, or_false] at ht
    rcases ht with rfl | rfl | rfl <;> decide
   ·have := (unhide ST).tl
    have := length_le4 m.frames
    unfold szMeth; omega
end Go.Proofs.YtiiokkllmchohaaGreat
namespace Go.Proofs.YtiiokkllmchohaaGreat
open Go.RowKit
theorem infoMeth : (Tryz.prog.info? 63).map (fun i => (i.zero, i.size, i.bytes)) = some (some (.agg #[.int .i64 0, .slice none 0 0, .int .i64 0, .int .i64 0, .int .i64 0, .slice none 0 0, .slice none 0 0]), 7, 104) := by kernel_rfl
theorem infoMeths : (Tryz.prog.info? 64).map (fun i => (i.zero, i.size, i.bytes)) = some (some (.slice none 0 0), 1, 24) := by kernel_rfl
theorem infoClass : (Tryz.prog.info? 66).map (fun i => (i.zero, i.size, i.bytes)) = some (some (.agg #[.int .i64 0, .slice none 0 0, .slice none 0 0]), 3, 56) := by kernel_rfl
theorem infoClasses : (Tryz.prog.info? 22).map (fun i => (i.zero, i.size, i.bytes)) = some (some (.slice none 0 0), 1, 24) := by kernel_rfl

def cellB (n : Nat) (T : List TypeId) (w : World) (a : Addr) : Option Value := if a.block < n then cellS T w a else none
theorem cellB_le (n : Nat) (T : List TypeId) (w : World) : GLe (cellB n T w) (cellS T w) := fun p v h => by
 unfold cellB at h
 split at h
 ·exact h
 ·cases h
theorem cellS_B (T : List TypeId) (w : World) {n : Nat} (hn : w.heap.size ≤ n) : GLe (cellS T w) (cellB n T w) := fun p v h => by
 unfold cellB
 rw [if_pos (Nat.lt_of_lt_of_le (cell_lt (cellS_le T w p v h)) hn)]; exact h
theorem cellB_mods {n : Nat} {T : List TypeId} {w w' : World} {S : Nat → Prop} (m : Mods S w w') (hS : ∀ k t cs, k < n → Blk w k t cs → t ∈ T → ¬ S k) : GLe (cellB n T w) (cellB n T w') := fun p v h => by
 unfold cellB at h ⊢
 split at h
 ·rename_i hp
  rw [if_pos hp]
  obtain ⟨⟨t, cs, hb, ht⟩, h⟩ := cellS_some h
  have hn := hS _ _ _ hp hb ht
  rw [cellS_pos ⟨t, cs, hb.mods m hn, ht⟩]
  exact m.cell h hn
 ·cases h

theorem t3_t4 {t : TypeId} (h : t ∈ t3) : t ∈ t4 := by
 simp only [List.mem_cons, List.not_mem_nil, or_false] at h
 rcases h with rfl | rfl | rfl <;> decide
theorem t4_t5 {t : TypeId} (h : t ∈ t4) : t ∈ t5 := by
 simp only [List.mem_cons, List.not_mem_nil, or_false] at h
 rcases h with rfl | rfl | rfl | rfl <;> decide
def MethAt (g : Addr → Option Value) (cm : List Value) (m : LMeth) (j : Nat) : Prop :=
 ∃ va vc vf, GVals g m va vc vf ∧ cm[j * 7]? = some (.int .i64 m.slot) ∧ cm[j * 7 + 1]? = some va ∧ cm[j * 7 + 2]? = some (.int .i64 m.ret) ∧ cm[j * 7 + 3]? = some (.int .i64 m.locals) ∧ cm[j * 7 + 4]? = some (.int .i64 m.stack) ∧ cm[j * 7 + 5]? = some vc ∧ cm[j * 7 + 6]? = some vf
theorem MethAt.keep {g g' : Addr → Option Value} {cm cm' : List Value} {m : LMeth} {j : Nat} (h : MethAt g cm m j) (hg : GLe g g') (hc : ∀ k, k < j * 7 + 7 → cm'[k]? = cm[k]?) : MethAt g' cm' m j := by
 obtain ⟨va, vc, vf, h0, h1, h2, h3, h4, h5, h6, h7⟩ := h
 exact ⟨va, vc, vf, h0.keep hg, by rw [hc _ (by omega)]; exact h1, by rw [hc _ (by omega)]; exact h2, by rw [hc _ (by omega)]; exact h3, by rw [hc _ (by omega)]; exact h4, by rw [hc _ (by omega)]; exact h5, by rw [hc _ (by omega)]; exact h6, by rw [hc _ (by omega)]; exact h7⟩
def ClassAt (g : Addr → Option Value) (cl : List Value) (x : LClass) (j : Nat) : Prop :=
 ∃ vf vm, cl[j * 3]? = some (.int .i64 x.sup) ∧ cl[j * 3 + 1]? = some vf ∧ cl[j * 3 + 2]? = some vm ∧ SlAt 1 (GInt g) vf x.fields ∧ SlAt 7 (GMeth g) vm x.meths
theorem ClassAt.keep {g g' : Addr → Option Value} {cl cl' : List Value} {x : LClass} {j : Nat} (h : ClassAt g cl x j) (hg : GLe g g') (hc : ∀ k, k < j * 3 + 3 → cl'[k]? = cl[k]?) : ClassAt g' cl' x j := by
 obtain ⟨vf, vm, h0, h1, h2, h3, h4⟩ := h
 exact ⟨vf, vm, by rw [hc _ (by omega)]; exact h0, by rw [hc _ (by omega)]; exact h1, by rw [hc _ (by omega)]; exact h2, ints_keep hg h3, meths_keep hg h4⟩

def set7 (l : List Value) (k : Nat) (a b c d e f g : Value) : List Value := ((((((l.set k a).set (k + 1) b).set (k + 2) c).set (k + 3) d).set (k + 4) e).set (k + 5) f).set (k + 6) g
theorem set7_len (l : List Value) (k : Nat) (a b c d e f g : Value) : (set7 l k a b c d e f g).length = l.length := by simp [set7]
theorem set7_ne {l : List Value} {k j : Nat} {a b c d e f g : Value} (h : j < k ∨ k + 6 < j) : (set7 l k a b c d e f g)[j]? = l[j]? := by
 unfold set7
 rw [List.getElem?_set_ne (by omega), List.getElem?_set_ne (by omega), List.getElem?_set_ne (by omega), List.getElem?_set_ne (by omega), List.getElem?_set_ne (by omega), List.getElem?_set_ne (by omega), List.getElem?_set_ne (by omega)]
theorem set7_at {l : List Value} {k : Nat} {a b c d e f g : Value} (h : k + 6 < l.length) : (set7 l k a b c d e f g)[k]? = some a ∧ (set7 l k a b c d e f g)[k + 1]? = some b ∧ (set7 l k a b c d e f g)[k + 2]? = some c ∧ (set7 l k a b c d e f g)[k + 3]? = some d ∧ (set7 l k a b c d e f g)[k + 4]? = some e ∧ (set7 l k a b c d e f g)[k + 5]? = some f ∧ (set7 l k a b c d e f g)[k + 6]? = some g := by
 unfold set7
 refine ⟨?_, ?_, ?_, ?_, ?_, ?_, ?_⟩
 ·rw [List.getElem?_set_ne (by omega), List.getElem?_set_ne (by omega), List.getElem?_set_ne (by omega), List.getElem?_set_ne (by omega), List.getElem?_set_ne (by omega), List.getElem?_set_ne (by omega), List.getElem?_set_self (by omega)]
 ·rw [List.getElem?_set_ne (by omega), List.getElem?_set_ne (by omega), List.getElem?_set_ne (by omega), List.getElem?_set_ne (by omega), List.getElem?_set_ne (by omega), List.getElem?_set_self (by simp; omega)]
 ·rw [List.getElem?_set_ne (by omega), List.getElem?_set_ne (by omega), List.getElem?_set_ne (by omega), List.getElem?_set_ne (by omega), List.getElem?_set_self (by simp; omega)]
 ·rw [List.getElem?_set_ne (by omega), List.getElem?_set_ne (by omega), List.getElem?_set_ne (by omega), List.getElem?_set_self (by simp; omega)]
 ·rw [List.getElem?_set_ne (by omega), List.getElem?_set_ne (by omega), List.getElem?_set_self (by simp; omega)]
 ·rw [List.getElem?_set_ne (by omega), List.getElem?_set_self (by simp; omega)]
 ·rw [List.getElem?_set_self (by simp; omega)]
def setCells7 (w : World) (g k : Nat) (a b c d e f h : Value) : World :=
 ((((((w.setCell ⟨g, k, none⟩ a).setCell ⟨g, k + 1, none⟩ b).setCell ⟨g, k + 2, none⟩ c).setCell ⟨g, k + 3, none⟩ d).setCell ⟨g, k + 4, none⟩ e).setCell ⟨g, k + 5, none⟩ f).setCell ⟨g, k + 6, none⟩ h
theorem setCells7_blk {w : World} {g k : Nat} {t : TypeId} {cs : List Value} (hb : Blk w g t cs) (a b c d e f h : Value) : Blk (setCells7 w g k a b c d e f h) g t (set7 cs k a b c d e f h) :=
 ((((((hb.setCell k a).setCell (k + 1) b).setCell (k + 2) c).setCell (k + 3) d).setCell (k + 4) e).setCell (k + 5) f).setCell (k + 6) h
theorem setCells7_mods (w : World) (g k : Nat) (a b c d e f h : Value) : Mods (fun i => i = g) w (setCells7 w g k a b c d e f h) :=
 (((((((Mods.refl (fun i => i = g) w).setCell (p := ⟨g, k, none⟩) (fun _ => rfl) a).setCell (p := ⟨g, k + 1, none⟩) (fun _ => rfl) b).setCell (p := ⟨g, k + 2, none⟩) (fun _ => rfl) c).setCell (p := ⟨g, k + 3, none⟩) (fun _ => rfl) d).setCell (p := ⟨g, k + 4, none⟩) (fun _ => rfl) e).setCell (p := ⟨g, k + 5, none⟩) (fun _ => rfl) f).setCell (p := ⟨g, k + 6, none⟩) (fun _ => rfl) h
theorem setCells7_size (w : World) (g k : Nat) (a b c d e f h : Value) : (setCells7 w g k a b c d e f h).heap.size = w.heap.size := by simp [setCells7]
def setCells3 (w : World) (g k : Nat) (a b c : Value) : World := ((w.setCell ⟨g, k, none⟩ a).setCell ⟨g, k + 1, none⟩ b).setCell ⟨g, k + 2, none⟩ c
theorem setCells3_blk {w : World} {g k : Nat} {t : TypeId} {cs : List Value} (hb : Blk w g t cs) (a b c : Value) : Blk (setCells3 w g k a b c) g t (set3 cs k a b c) := ((hb.setCell k a).setCell (k + 1) b).setCell (k + 2) c
theorem setCells3_mods (w : World) (g k : Nat) (a b c : Value) : Mods (fun i => i = g) w (setCells3 w g k a b c) :=
 (((Mods.refl (fun i => i = g) w).setCell (p := ⟨g, k, none⟩) (fun _ => rfl) a).setCell (p := ⟨g, k + 1, none⟩) (fun _ => rfl) b).setCell (p := ⟨g, k + 2, none⟩) (fun _ => rfl) c
theorem setCells3_size (w : World) (g k : Nat) (a b c : Value) : (setCells3 w g k a b c).heap.size = w.heap.size := by simp [setCells3]

structure LSt (w wr : World) (bh : Nat) (cs0 : List Value) (p : List LClass) (vp : Value) (gl c : Nat) (vt vi vf vm : Value) (ts is fs ms : List (Nat × Nat)) (cs cl : List Value) (nb : Nat) : Prop where
 hs : HS wr w.heap.size bh cs vt vi vf ts is fs
 m : InM wr w.heap.size vm ms
 c3 : cs[3]? = some vm
 c4 : cs[4]? = some (.slice none 0 0)
 rest : ∀ j, 5 ≤ j → cs[j]? = cs0[j]?
 mods : Mods (fun k => k = bh) w wr
 b0 : Blk wr w.heap.size 24 [vp]
 b1 : Blk wr (w.heap.size + 1) 24 [.slice none 0 0]
 lb : Blk wr gl 66 cl
 ll : cl.length = (p.length + 1) * 3
 done : ∀ (j : Nat) (hj : j < p.length), j < c → ClassAt (cellS t4 wr) cl p[j] j
 tl : ts.length ≤ nb
 il : is.length ≤ nb
 fl : fs.length ≤ nb
 ml : ms.length = c
 newl : w.heap.size + 2 ≤ gl

structure MSt (w wr : World) (bh : Nat) (cs0 : List Value) (p : List LClass) (vp : Value) (gl c : Nat) (x : LClass) (vxf vxm : Value) (gx gm k : Nat) (vt vi vf vm : Value) (ts is fs ms : List (Nat × Nat)) (cs cl cm : List Value) (nb : Nat) : Prop where
 hs : HS wr w.heap.size bh cs vt vi vf ts is fs
 m : InM wr w.heap.size vm ms
 c3 : cs[3]? = some vm
 c4 : cs[4]? = some (.slice none 0 0)
 rest : ∀ j, 5 ≤ j → cs[j]? = cs0[j]?
 mods : Mods (fun k => k = bh) w wr
 b0 : Blk wr w.heap.size 24 [vp]
 b1 : Blk wr (w.heap.size + 1) 24 [.slice none 0 0]
 bx : Blk wr gx 66 [.int .i64 x.sup, vxf, vxm]
 lb : Blk wr gl 66 cl
 ll : cl.length = (p.length + 1) * 3
 done : ∀ (j : Nat) (hj : j < p.length), j < c → ClassAt (cellB gm t4 wr) cl p[j] j
 mb : Blk wr gm 63 cm
 mlen : cm.length = (x.meths.length + 1) * 7
 mdone : ∀ (j : Nat) (hj : j < x.meths.length), j < k → MethAt (cellS t3 wr) cm x.meths[j] j
 tl : ts.length ≤ nb
 il : is.length ≤ nb
 fl : fs.length ≤ nb
 ml : ms.length = c
 newl : w.heap.size + 2 ≤ gl
 newx : w.heap.size + 2 ≤ gx
 newm : w.heap.size + 2 ≤ gm
 lx : gl ≠ gx
 old : ∀ e ∈ ms, e.1 < gm

section
variable {w wr : World} {bh : Nat} {cs0 : List Value} {p : List LClass} {vp : Value} {gl c : Nat} {x : LClass} {vxf vxm : Value} {gx gm k : Nat} {vt vi vf vm : Value} {ts is fs ms : List (Nat × Nat)} {cs cl cm : List Value} {nb : Nat}

theorem MSt.rows (h : MSt w wr bh cs0 p vp gl c x vxf vxm gx gm k vt vi vf vm ts is fs ms cs cl cm nb) {i : Nat} (hi : i < w.heap.size) (hr : Rows3 bh vt vi vf i) : i = bh := by
 rcases (h.hs.rows hr).1 with e | e
 ·exact e
 ·omega
theorem MSt.call (h : MSt w wr bh cs0 p vp gl c x vxf vxm gx gm k vt vi vf vm ts is fs ms cs cl cm nb) {w' : World} {m : LMeth} {g1 gc gf : Nat} {vt' vi' vf' : Value} {ts' is' fs' : List (Nat × Nat)} {cs' : List Value}
  (L : LentM wr w' w.heap.size bh cs m vt vi vf ts is fs g1 gc gf vt' vi' vf' ts' is' fs' cs') : MSt w w' bh cs0 p vp gl c x vxf vxm gx gm k vt' vi' vf' vm ts' is' fs' ms cs' cl cm (nb + szMeth m) := by
 have h8 : 8 ≤ szMeth m := by unfold szMeth; omega
 have hn : ∀ {i t c}, Blk wr i t c → ¬ (t = 53 ∨ t = 40 ∨ t = 61 ∨ t = 36) → ¬ Rows3 bh vt vi vf i := fun hb ht => h.hs.other hb ht
 refine ⟨L.hs, h.m.mods L.mods (fun i c hb => hn hb (by decide)) (fun i c hb => hn hb (by decide)), by rw [L.rest 3 (by omega)]; exact h.c3, by rw [L.rest 4 (by omega)]; exact h.c4, fun j hj => by rw [L.rest j (by omega)]; exact h.rest j hj, h.mods.trans L.mods (fun i hi hr => h.rows hi hr), h.b0.mods L.mods (hn h.b0 (by decide)), h.b1.mods L.mods (hn h.b1 (by decide)), h.bx.mods L.mods (hn h.bx (by decide)), h.lb.mods L.mods (hn h.lb (by decide)), h.ll,
  fun j hj hjc => (h.done j hj hjc).keep (cellB_mods L.mods (fun i t c _ hb ht => h.hs.notLent hb (t4_t5 ht))) (fun _ _ => rfl), h.mb.mods L.mods (hn h.mb (by decide)), h.mlen, fun j hj hjk => (h.mdone j hj hjk).keep (cellS_mods L.mods (fun i t c hb ht => h.hs.notLent hb (t4_t5 (t3_t4 ht)))) (fun _ _ => rfl),
  ?_, ?_, ?_, h.ml, h.newl, h.newx, h.newm, h.lx, h.old⟩
 ·have := L.tl; have := h.tl; omega
 ·have := L.il; have := h.il; omega
 ·have := L.fl; have := h.fl; omega
theorem MSt.put (h : MSt w wr bh cs0 p vp gl c x vxf vxm gx gm k vt vi vf vm ts is fs ms cs cl cm nb) (hk : k < x.meths.length) {va vc vf0 : Value} (hv : GVals (cellS t3 wr) x.meths[k] va vc vf0) :
  MSt w (setCells7 wr gm (k * 7) (.int .i64 x.meths[k].slot) va (.int .i64 x.meths[k].ret) (.int .i64 x.meths[k].locals) (.int .i64 x.meths[k].stack) vc vf0) bh cs0 p vp gl c x vxf vxm gx gm (k + 1) vt vi vf vm ts is fs ms cs cl
   (set7 cm (k * 7) (.int .i64 x.meths[k].slot) va (.int .i64 x.meths[k].ret) (.int .i64 x.meths[k].locals) (.int .i64 x.meths[k].stack) vc vf0) nb := by
 have hm := setCells7_mods wr gm (k * 7) (.int .i64 x.meths[k].slot) va (.int .i64 x.meths[k].ret) (.int .i64 x.meths[k].locals) (.int .i64 x.meths[k].stack) vc vf0
 have hb := setCells7_blk (k := k * 7) h.mb (.int .i64 x.meths[k].slot) va (.int .i64 x.meths[k].ret) (.int .i64 x.meths[k].locals) (.int .i64 x.meths[k].stack) vc vf0
 have hl := h.mlen
 have hnm := h.newm
 have hne : ∀ {i t c}, Blk wr i t c → t ≠ 63 → ¬ (i = gm) := fun hb' ht e => by subst e; exact ht (hb'.uniq h.mb)
 have hge : GLe (cellS t3 wr) (cellS t3 (setCells7 wr gm (k * 7) (.int .i64 x.meths[k].slot) va (.int .i64 x.meths[k].ret) (.int .i64 x.meths[k].locals) (.int .i64 x.meths[k].stack) vc vf0)) :=
  cellS_mods hm (fun i t c hb' ht => hne hb' (fun e => by subst e; exact absurd ht (by decide)))
 refine ⟨h.hs.stay hm (fun i t c hb' hi ht => ?_), h.m.mods' hm (fun i c hb' => hne hb' (by decide)) (fun e he hi => by have := h.old e he; omega), h.c3, h.c4, h.rest, h.mods.trans hm (fun i hi e => by omega), h.b0.mods hm (hne h.b0 (by decide)), h.b1.mods hm (hne h.b1 (by decide)), h.bx.mods hm (hne h.bx (by decide)), h.lb.mods hm (hne h.lb (by decide)), h.ll,
  fun j hj hjc => (h.done j hj hjc).keep (cellB_mods hm (fun i t c hi _ _ e => by omega)) (fun _ _ => rfl), hb, by rw [set7_len]; exact hl, fun j hj hjk => ?_, h.tl, h.il, h.fl, h.ml, h.newl, h.newx, h.newm, h.lx, h.old⟩
 ·refine hne hb' ?_ hi
  rcases ht with rfl | rfl | rfl | rfl | rfl | rfl | rfl <;> decide
 ·rcases Nat.lt_or_ge j k with g | g
  ·exact (h.mdone j hj g).keep hge (fun i hi => set7_ne (by omega))
  ·obtain rfl : j = k := by omega
   obtain ⟨s0, s1, s2, s3, s4, s5, s6⟩ := set7_at (l := cm) (k := j * 7) (a := .int .i64 x.meths[j].slot) (b := va) (c := .int .i64 x.meths[j].ret) (d := .int .i64 x.meths[j].locals) (e := .int .i64 x.meths[j].stack) (f := vc) (g := vf0) (by omega)
   exact ⟨va, vc, vf0, hv.keep hge, s0, s1, s2, s3, s4, s5, s6⟩
theorem MSt.cellM (h : MSt w wr bh cs0 p vp gl c x vxf vxm gx gm k vt vi vf vm ts is fs ms cs cl cm nb) (i : Nat) (hi : i < (x.meths.length + 1) * 7) : ∃ u, wr.cell? ⟨gm, i, none⟩ = some u :=
 ⟨cm[i]'(by rw [h.mlen]; exact hi), by rw [h.mb.cell]; exact List.getElem?_eq_getElem _⟩

structure XSt (w wr : World) (bh : Nat) (cs0 : List Value) (p : List LClass) (vp : Value) (gl c : Nat) (x : LClass) (vxf vxm : Value) (gx gm : Nat) (vt vi vf vm : Value) (ts is fs ms : List (Nat × Nat)) (cs cl : List Value) (nb : Nat) : Prop where
 hs : HS wr w.heap.size bh cs vt vi vf ts is fs
 m : InM wr w.heap.size vm ms
 c3 : cs[3]? = some vm
 c4 : cs[4]? = some (.slice none 0 0)
 rest : ∀ j, 5 ≤ j → cs[j]? = cs0[j]?
 mods : Mods (fun k => k = bh) w wr
 b0 : Blk wr w.heap.size 24 [vp]
 b1 : Blk wr (w.heap.size + 1) 24 [.slice none 0 0]
 bx : Blk wr gx 66 [.int .i64 x.sup, vxf, vxm]
 lb : Blk wr gl 66 cl
 ll : cl.length = (p.length + 1) * 3
 done : ∀ (j : Nat) (hj : j < p.length), j < c → ClassAt (cellS t4 wr) cl p[j] j
 meths : SlAt 7 (GMeth (cellS t4 wr)) (.slice (some ⟨gm, 0, none⟩) x.meths.length (x.meths.length + 1)) x.meths
 tl : ts.length ≤ nb
 il : is.length ≤ nb
 fl : fs.length ≤ nb
 ml : ms.length = c + 1
 newl : w.heap.size + 2 ≤ gl
 newx : w.heap.size + 2 ≤ gx
 lx : gl ≠ gx

theorem MSt.fin {ma : Option Addr} {mcap : Nat} (h : MSt w wr bh cs0 p vp gl c x vxf vxm gx gm x.meths.length vt vi vf (.slice ma ms.length mcap) ts is fs ms cs cl cm nb) (hms : ms.length + 1 ≤ 16777216) (hml : x.meths.length ≤ 1048576) :
  ∃ ma' mcap' w6, (Builtin.append_ #[48, 48] 48 #[.slice ma ms.length mcap, .slice (some ⟨wr.heap.size, 0, none⟩) 1 1]).run Tryz.prog
    ((setCells7 wr gm (x.meths.length * 7) (.int .i64 (-77000000)) (.slice none 0 0) (.int .i64 0) (.int .i64 0) (.int .i64 0) (.slice none 0 0) (.slice none 0 0)).alloc (.cells #[.slice (some ⟨gm, 0, none⟩) (x.meths.length + 1) (x.meths.length + 1)] 64)) = .ok (.slice ma' (ms.length + 1) mcap') w6 ∧
   Blk w6 bh 53 cs ∧ wr.heap.size ≤ w6.heap.size ∧
   XSt w (w6.setCell ⟨bh, 3, none⟩ (.slice ma' (ms.length + 1) mcap')) bh cs0 p vp gl c x vxf vxm gx gm vt vi vf (.slice ma' (ms.length + 1) mcap') ts is fs (ms ++ [(gm, x.meths.length + 1)]) (cs.set 3 (.slice ma' (ms.length + 1) mcap')) cl nb := by
 obtain ⟨iM, hM, hM0, hM1, hM2⟩ := info_parts infoMeths
 have hlt := h.hs.lt
 have hle := h.hs.le
 have hlen := h.mlen
 have hnm := h.newm
 have hsz := h.mods.size
 have hmX := setCells7_mods wr gm (x.meths.length * 7) (.int .i64 (-77000000)) (.slice none 0 0) (.int .i64 0) (.int .i64 0) (.int .i64 0) (.slice none 0 0) (.slice none 0 0)
 have hbX := setCells7_blk (k := x.meths.length * 7) h.mb (.int .i64 (-77000000)) (.slice none 0 0) (.int .i64 0) (.int .i64 0) (.int .i64 0) (.slice none 0 0) (.slice none 0 0)
 have hsX := setCells7_size wr gm (x.meths.length * 7) (.int .i64 (-77000000)) (.slice none 0 0) (.int .i64 0) (.int .i64 0) (.int .i64 0) (.slice none 0 0) (.slice none 0 0)
 generalize setCells7 wr gm (x.meths.length * 7) (.int .i64 (-77000000)) (.slice none 0 0) (.int .i64 0) (.int .i64 0) (.int .i64 0) (.slice none 0 0) (.slice none 0 0) = X at hmX hbX hsX ⊢
 have hne : ∀ {i t c}, Blk wr i t c → t ≠ 63 → ¬ (i = gm) := fun hb' ht e => by subst e; exact ht (hb'.uniq h.mb)
 have hHX : HS X w.heap.size bh cs vt vi vf ts is fs := h.hs.stay hmX (fun i t c hb' hi ht => by
  refine hne hb' ?_ hi
  rcases ht with rfl | rfl | rfl | rfl | rfl | rfl | rfl <;> decide)
 have hMX : InM X w.heap.size (.slice ma ms.length mcap) ms := h.m.mods' hmX (fun i c hb' => hne hb' (by decide)) (fun e he hi => by have := h.old e he; omega)
 obtain ⟨vm6, w6, happ, hown6, hm6, hat6⟩ := app_ex (P := Tryz.prog) (W := X) 48 48 64 iM (.slice none 0 0) 1 24 Tryz.underlying48 hM hM0 hM1 hM2 rfl (by decide) w.heap.size (.slice ma ms.length mcap) ms.length (ms.map slOf) hMX.row #[.slice (some ⟨gm, 0, none⟩) (x.meths.length + 1) (x.meths.length + 1)] rfl (by simp [Value.oneCell']) wr.heap.size hsX (by unfold maxLen; omega) (by omega) (by omega)
 obtain ⟨ma', mcap', rfl⟩ := own_form hown6
 have hrow : ∀ i, (Value.slice ma ms.length mcap).ownBlock = some i → ∃ c, Blk X i 64 c := fun i e => own_blk hMX.row e
 have hnr : ∀ {i t c}, Blk X i t c → t ≠ 64 → ¬ ((Value.slice ma ms.length mcap).ownBlock = some i) := fun hb' ht e => by obtain ⟨c', hb''⟩ := hrow _ e; exact ht (hb'.uniq hb'')
 have hbh6 : Blk w6 bh 53 cs := hHX.hands.1.mods hm6 (hnr hHX.hands.1 (by decide))
 have hs6 := hm6.size
 refine ⟨ma', mcap', w6, happ, hbh6, by omega, ?_⟩
 have hmY : Mods (fun i => i = bh ∨ (Value.slice ma ms.length mcap).ownBlock = some i) X (w6.setCell ⟨bh, 3, none⟩ (.slice ma' (ms.length + 1) mcap')) := (hm6.mono (fun _ _ e => .inr e)).setCell (fun _ => .inl rfl) _
 have hbhY := hbh6.setCell 3 (.slice ma' (ms.length + 1) mcap')
 have hrowY := own_mods (S := fun i => i = bh) hown6 ((Mods.refl (fun i => i = bh) w6).setCell (p := ⟨bh, 3, none⟩) (fun _ => rfl) (.slice ma' (ms.length + 1) mcap')) (fun g e => by have := hown6.lt g e; omega)
 generalize w6.setCell ⟨bh, 3, none⟩ (.slice ma' (ms.length + 1) mcap') = Y at hmY hbhY hrowY ⊢
 have hS : ∀ {i t c}, Blk X i t c → t ≠ 53 → t ≠ 64 → ¬ (i = bh ∨ (Value.slice ma ms.length mcap).ownBlock = some i) := fun hb' h1 h2 hk => by
  rcases hk with rfl | hk
  ·exact h1 (hb'.uniq hHX.hands.1)
  ·exact hnr hb' h2 hk
 have hmove : ∀ {i t c}, Blk wr i t c → t ≠ 63 → t ≠ 53 → t ≠ 64 → Blk Y i t c := fun hb' h0 h1 h2 => (hb'.mods hmX (hne hb' h0)).mods hmY (hS (hb'.mods hmX (hne hb' h0)) h1 h2)
 have hc19 := h.hs.hands.2
 have hbYm := hbX.mods hmY (hS hbX (by decide) (by decide))
 have hge3 : GLe (cellS t3 wr) (cellS t4 Y) := (cellS_mods hmX (fun i t c hb' ht => hne hb' (fun e => by subst e; exact absurd ht (by decide)))).trans ((cellS_mods hmY (fun i t c hb' ht => hS hb' (fun e => by subst e; exact absurd ht (by decide)) (fun e => by subst e; exact absurd ht (by decide)))).trans (cellS_sub (by simp) Y))
 refine ⟨⟨⟨hbhY, by rw [List.length_set]; exact hc19⟩, by rw [List.getElem?_set_ne (by omega)]; exact h.hs.c0, by rw [List.getElem?_set_ne (by omega)]; exact h.hs.c1, by rw [List.getElem?_set_ne (by omega)]; exact h.hs.c2, hHX.t.mods hmY (fun i c hb' => hS hb' (by decide) (by decide)) (fun i c hb' => hS hb' (by decide) (by decide)), hHX.i.mods hmY (fun i c hb' => hS hb' (by decide) (by decide)) (fun i c hb' => hS hb' (by decide) (by decide)), hHX.f.mods hmY (fun i c hb' => hS hb' (by decide) (by decide)) (fun i c hb' => hS hb' (by decide) (by decide)), hlt, Nat.le_trans hHX.le hmY.size⟩,
  ?_, by rw [List.getElem?_set_self (by omega)], by rw [List.getElem?_set_ne (by omega)]; exact h.c4, fun j hj => by rw [List.getElem?_set_ne (by omega)]; exact h.rest j hj, (h.mods.trans hmX (fun i hi e => by omega)).trans hmY (fun i hi e => ?_), hmove h.b0 (by decide) (by decide) (by decide), hmove h.b1 (by decide) (by decide) (by decide), hmove h.bx (by decide) (by decide) (by decide), hmove h.lb (by decide) (by decide) (by decide), h.ll, fun j hj hjc => (h.done j hj hjc).keep ?_ (fun _ _ => rfl), ?_, h.tl, h.il, h.fl, by rw [List.length_append, List.length_singleton, h.ml], h.newl, h.newx, h.lx⟩
 ·refine ⟨by rw [List.length_append, List.map_append]; exact hrowY, fun e he => ?_, ?_⟩
  ·rcases List.mem_append.1 he with he | he
   ·obtain ⟨h1, h2, h3, c, h4, h5⟩ := hMX.ent e he
    exact ⟨h1, h2, h3, c, h4.mods hmY (hS h4 (by decide) (by decide)), h5⟩
   ·rw [List.mem_singleton] at he
    subst he
    obtain ⟨s0, s1, s2, s3, s4, s5, s6⟩ := set7_at (l := cm) (k := x.meths.length * 7) (a := .int .i64 (-77000000)) (b := .slice none 0 0) (c := .int .i64 0) (d := .int .i64 0) (e := .int .i64 0) (f := .slice none 0 0) (g := .slice none 0 0) (by omega)
    refine ⟨by show w.heap.size ≤ gm; omega, by show 1 ≤ x.meths.length + 1; omega, by show x.meths.length + 1 ≤ 1048577; omega, _, hbYm, by rw [set7_len]; exact hlen, ?_⟩
    rw [show x.meths.length + 1 - 1 = x.meths.length by omega]
    exact drop7 (by rw [set7_len]; omega) s0 s1 s2 s3 s4 s5 s6
  ·rw [List.map_append, List.nodup_append]
   refine ⟨h.m.nodup, by simp, fun a ha b hb' => ?_⟩
   obtain ⟨e, he, rfl⟩ := List.mem_map.1 ha
   have : b = gm := by simpa using hb'
   have := h.old e he
   omega
 ·rcases e with e | e
  ·exact e
  ·have := hMX.row.lt i e; omega
 ·exact ((cellB_mods hmX (fun i t c hi _ _ e => by omega)).trans (cellB_mods hmY (fun i t c hi hb' ht => hS hb' (fun e => by subst e; exact absurd ht (by decide)) (fun e => by subst e; exact absurd ht (by decide))))).trans (cellB_le gm t4 Y)
 ·refine ⟨_, gm, 0, _, rfl, by omega, ⟨fun _ => rfl, .inr (.inl rfl)⟩, fun j y hj => ?_⟩
  obtain ⟨hj1, rfl⟩ := List.getElem?_eq_some_iff.1 hj
  obtain ⟨va, vc, vf0, f0, f1, f2, f3, f4, f5, f6, f7⟩ := h.mdone j hj1 hj1
  have hcell : ∀ r, r < 7 → cellS t4 Y ⟨gm, 0 + j * 7 + r, none⟩ = cm[j * 7 + r]? := fun r hr => by rw [cellS_blk hbYm (by simp), Nat.zero_add, set7_ne (by omega)]
  exact ⟨va, vc, vf0, f0.keep hge3, (hcell 0 (by omega)).trans f1, (hcell 1 (by omega)).trans f2, (hcell 2 (by omega)).trans f3, (hcell 3 (by omega)).trans f4, (hcell 4 (by omega)).trans f5, (hcell 5 (by omega)).trans f6, (hcell 6 (by omega)).trans f7⟩
end
end Go.Proofs.YtiiokkllmchohaaGreat
