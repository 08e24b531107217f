/- The law's lend: what its loops over classes and methods keep. -/
import Derived.Test.YtiiokkllmchohaaT05
/- LendF -/
namespace Go.Proofs.Ytiiokkllmchohaa
open Go.RowKit

theorem infoMeth : (Try.prog.info? 58).map (fun i => (i.zero, i.size, i.bytes)) = some (some (.agg #[.int .i64 0, .slice none 0 0, .int .i64 0, .int .i64 0, .int .i64 0, .slice none 0 0, .slice none 0 0]), 7, 104) := by kernel_rfl
theorem infoMeths : (Try.prog.info? 32).map (fun i => (i.zero, i.size, i.bytes)) = some (some (.slice none 0 0), 1, 24) := by kernel_rfl
theorem infoClass : (Try.prog.info? 34).map (fun i => (i.zero, i.size, i.bytes)) = some (some (.agg #[.int .i64 0, .slice none 0 0, .slice none 0 0]), 3, 56) := by kernel_rfl
theorem infoClasses : (Try.prog.info? 22).map (fun i => (i.zero, i.size, i.bytes)) = some (some (.slice none 0 0), 1, 24) := by kernel_rfl

/-- The cells of such blocks below n. -/
def cellB (n : Nat) (T : List TypeId) (w : World) (a : Addr) : Option Value := if a.block < n then cellS T w a else none
theorem cellB_le (n : Nat) (T : List TypeId) (w : World) : GLe (cellB n T w) (cellS T w) := fun p v h => by
  unfold cellB at h
  split at h
  · exact h
  · cases h
theorem cellS_B (T : List TypeId) (w : World) {n : Nat} (hn : w.heap.size ≤ n) : GLe (cellS T w) (cellB n T w) := fun p v h => by
  unfold cellB
  rw [if_pos (Nat.lt_of_lt_of_le (cell_lt (cellS_le T w p v h)) hn)]; exact h
theorem cellB_mods {n : Nat} {T : List TypeId} {w w' : World} {S : Nat → Prop} (m : Mods S w w') (hS : ∀ k t cs, k < n → Blk w k t cs → t ∈ T → ¬ S k) : GLe (cellB n T w) (cellB n T w') := fun p v h => by
  unfold cellB at h ⊢
  split at h
  · rename_i hp
    rw [if_pos hp]
    obtain ⟨⟨t, cs, hb, ht⟩, h⟩ := cellS_some h
    have hn := hS _ _ _ hp hb ht
    rw [cellS_pos ⟨t, cs, hb.mods m hn, ht⟩]
    exact m.cell h hn
  · cases h

theorem t3_t4 {t : TypeId} (h : t ∈ t3) : t ∈ t4 := by
  simp only [List.mem_cons, List.not_mem_nil, or_false] at h
  rcases h with rfl | rfl | rfl <;> decide
theorem t4_t5 {t : TypeId} (h : t ∈ t4) : t ∈ t5 := by
  simp only [List.mem_cons, List.not_mem_nil, or_false] at h
  rcases h with rfl | rfl | rfl | rfl <;> decide
/-- Method j lies in the cells cm. -/
def MethAt (g : Addr → Option Value) (cm : List Value) (m : LMeth) (j : Nat) : Prop :=
  ∃ va vc vf, GVals g m va vc vf ∧ cm[j * 7]? = some (.int .i64 m.slot) ∧ cm[j * 7 + 1]? = some va ∧ cm[j * 7 + 2]? = some (.int .i64 m.ret) ∧ cm[j * 7 + 3]? = some (.int .i64 m.locals) ∧ cm[j * 7 + 4]? = some (.int .i64 m.stack) ∧ cm[j * 7 + 5]? = some vc ∧ cm[j * 7 + 6]? = some vf
theorem MethAt.keep {g g' : Addr → Option Value} {cm cm' : List Value} {m : LMeth} {j : Nat} (h : MethAt g cm m j) (hg : GLe g g') (hc : ∀ k, k < j * 7 + 7 → cm'[k]? = cm[k]?) : MethAt g' cm' m j := by
  obtain ⟨va, vc, vf, h0, h1, h2, h3, h4, h5, h6, h7⟩ := h
  exact ⟨va, vc, vf, h0.keep hg, by rw [hc _ (by omega)]; exact h1, by rw [hc _ (by omega)]; exact h2, by rw [hc _ (by omega)]; exact h3, by rw [hc _ (by omega)]; exact h4, by rw [hc _ (by omega)]; exact h5, by rw [hc _ (by omega)]; exact h6, by rw [hc _ (by omega)]; exact h7⟩
/-- Class j lies in the cells cl. -/
def ClassAt (g : Addr → Option Value) (cl : List Value) (x : LClass) (j : Nat) : Prop :=
  ∃ vf vm, cl[j * 3]? = some (.int .i64 x.sup) ∧ cl[j * 3 + 1]? = some vf ∧ cl[j * 3 + 2]? = some vm ∧ SlAt 1 (GInt g) vf x.fields ∧ SlAt 7 (GMeth g) vm x.meths
theorem ClassAt.keep {g g' : Addr → Option Value} {cl cl' : List Value} {x : LClass} {j : Nat} (h : ClassAt g cl x j) (hg : GLe g g') (hc : ∀ k, k < j * 3 + 3 → cl'[k]? = cl[k]?) : ClassAt g' cl' x j := by
  obtain ⟨vf, vm, h0, h1, h2, h3, h4⟩ := h
  exact ⟨vf, vm, by rw [hc _ (by omega)]; exact h0, by rw [hc _ (by omega)]; exact h1, by rw [hc _ (by omega)]; exact h2, ints_keep hg h3, meths_keep hg h4⟩

/-- Seven cells stored side by side. -/
def set7 (l : List Value) (k : Nat) (a b c d e f g : Value) : List Value := ((((((l.set k a).set (k + 1) b).set (k + 2) c).set (k + 3) d).set (k + 4) e).set (k + 5) f).set (k + 6) g
theorem set7_len (l : List Value) (k : Nat) (a b c d e f g : Value) : (set7 l k a b c d e f g).length = l.length := by simp [set7]
theorem set7_ne {l : List Value} {k j : Nat} {a b c d e f g : Value} (h : j < k ∨ k + 6 < j) : (set7 l k a b c d e f g)[j]? = l[j]? := by
  unfold set7
  rw [List.getElem?_set_ne (by omega), List.getElem?_set_ne (by omega), List.getElem?_set_ne (by omega), List.getElem?_set_ne (by omega), List.getElem?_set_ne (by omega), List.getElem?_set_ne (by omega), List.getElem?_set_ne (by omega)]
theorem set7_at {l : List Value} {k : Nat} {a b c d e f g : Value} (h : k + 6 < l.length) : (set7 l k a b c d e f g)[k]? = some a ∧ (set7 l k a b c d e f g)[k + 1]? = some b ∧ (set7 l k a b c d e f g)[k + 2]? = some c ∧ (set7 l k a b c d e f g)[k + 3]? = some d ∧ (set7 l k a b c d e f g)[k + 4]? = some e ∧ (set7 l k a b c d e f g)[k + 5]? = some f ∧ (set7 l k a b c d e f g)[k + 6]? = some g := by
  unfold set7
  refine ⟨?_, ?_, ?_, ?_, ?_, ?_, ?_⟩
  · rw [List.getElem?_set_ne (by omega), List.getElem?_set_ne (by omega), List.getElem?_set_ne (by omega), List.getElem?_set_ne (by omega), List.getElem?_set_ne (by omega), List.getElem?_set_ne (by omega), List.getElem?_set_self (by omega)]
  · rw [List.getElem?_set_ne (by omega), List.getElem?_set_ne (by omega), List.getElem?_set_ne (by omega), List.getElem?_set_ne (by omega), List.getElem?_set_ne (by omega), List.getElem?_set_self (by simp; omega)]
  · rw [List.getElem?_set_ne (by omega), List.getElem?_set_ne (by omega), List.getElem?_set_ne (by omega), List.getElem?_set_ne (by omega), List.getElem?_set_self (by simp; omega)]
  · rw [List.getElem?_set_ne (by omega), List.getElem?_set_ne (by omega), List.getElem?_set_ne (by omega), List.getElem?_set_self (by simp; omega)]
  · rw [List.getElem?_set_ne (by omega), List.getElem?_set_ne (by omega), List.getElem?_set_self (by simp; omega)]
  · rw [List.getElem?_set_ne (by omega), List.getElem?_set_self (by simp; omega)]
  · rw [List.getElem?_set_self (by simp; omega)]
/-- The seven stores in memory. -/
def setCells7 (w : World) (g k : Nat) (a b c d e f h : Value) : World :=
  ((((((w.setCell ⟨g, k, none⟩ a).setCell ⟨g, k + 1, none⟩ b).setCell ⟨g, k + 2, none⟩ c).setCell ⟨g, k + 3, none⟩ d).setCell ⟨g, k + 4, none⟩ e).setCell ⟨g, k + 5, none⟩ f).setCell ⟨g, k + 6, none⟩ h
theorem setCells7_blk {w : World} {g k : Nat} {t : TypeId} {cs : List Value} (hb : Blk w g t cs) (a b c d e f h : Value) : Blk (setCells7 w g k a b c d e f h) g t (set7 cs k a b c d e f h) :=
  ((((((hb.setCell k a).setCell (k + 1) b).setCell (k + 2) c).setCell (k + 3) d).setCell (k + 4) e).setCell (k + 5) f).setCell (k + 6) h
theorem setCells7_mods (w : World) (g k : Nat) (a b c d e f h : Value) : Mods (fun i => i = g) w (setCells7 w g k a b c d e f h) :=
  (((((((Mods.refl (fun i => i = g) w).setCell (p := ⟨g, k, none⟩) (fun _ => rfl) a).setCell (p := ⟨g, k + 1, none⟩) (fun _ => rfl) b).setCell (p := ⟨g, k + 2, none⟩) (fun _ => rfl) c).setCell (p := ⟨g, k + 3, none⟩) (fun _ => rfl) d).setCell (p := ⟨g, k + 4, none⟩) (fun _ => rfl) e).setCell (p := ⟨g, k + 5, none⟩) (fun _ => rfl) f).setCell (p := ⟨g, k + 6, none⟩) (fun _ => rfl) h
theorem setCells7_size (w : World) (g k : Nat) (a b c d e f h : Value) : (setCells7 w g k a b c d e f h).heap.size = w.heap.size := by simp [setCells7]
/-- Three stores in memory. -/
def setCells3 (w : World) (g k : Nat) (a b c : Value) : World := ((w.setCell ⟨g, k, none⟩ a).setCell ⟨g, k + 1, none⟩ b).setCell ⟨g, k + 2, none⟩ c
theorem setCells3_blk {w : World} {g k : Nat} {t : TypeId} {cs : List Value} (hb : Blk w g t cs) (a b c : Value) : Blk (setCells3 w g k a b c) g t (set3 cs k a b c) := ((hb.setCell k a).setCell (k + 1) b).setCell (k + 2) c
theorem setCells3_mods (w : World) (g k : Nat) (a b c : Value) : Mods (fun i => i = g) w (setCells3 w g k a b c) :=
  (((Mods.refl (fun i => i = g) w).setCell (p := ⟨g, k, none⟩) (fun _ => rfl) a).setCell (p := ⟨g, k + 1, none⟩) (fun _ => rfl) b).setCell (p := ⟨g, k + 2, none⟩) (fun _ => rfl) c
theorem setCells3_size (w : World) (g k : Nat) (a b c : Value) : (setCells3 w g k a b c).heap.size = w.heap.size := by simp [setCells3]

/-- Behind c classes (w: where the lending began; gl: the new row of classes). -/
structure LSt (w wr : World) (bh : Nat) (cs0 : List Value) (p : List LClass) (vp : Value) (gl c : Nat) (vt vi vf vm : Value) (ts is fs ms : List (Nat × Nat)) (cs cl : List Value) (nb : Nat) : Prop where
  hs : HS wr w.heap.size bh cs vt vi vf ts is fs
  m : InM wr w.heap.size vm ms
  c3 : cs[3]? = some vm
  c4 : cs[4]? = some (.slice none 0 0)
  rest : ∀ j, 5 ≤ j → cs[j]? = cs0[j]?
  mods : Mods (fun k => k = bh) w wr
  b0 : Blk wr w.heap.size 24 [vp]
  b1 : Blk wr (w.heap.size + 1) 24 [.slice none 0 0]
  lb : Blk wr gl 34 cl
  ll : cl.length = (p.length + 1) * 3
  done : ∀ (j : Nat) (hj : j < p.length), j < c → ClassAt (cellS t4 wr) cl p[j] j
  tl : ts.length ≤ nb
  il : is.length ≤ nb
  fl : fs.length ≤ nb
  ml : ms.length = c
  newl : w.heap.size + 2 ≤ gl

/-- Within class c, behind k methods (gm: the new row of methods; gx: the block of the class's copy). -/
structure MSt (w wr : World) (bh : Nat) (cs0 : List Value) (p : List LClass) (vp : Value) (gl c : Nat) (x : LClass) (vxf vxm : Value) (gx gm k : Nat) (vt vi vf vm : Value) (ts is fs ms : List (Nat × Nat)) (cs cl cm : List Value) (nb : Nat) : Prop where
  hs : HS wr w.heap.size bh cs vt vi vf ts is fs
  m : InM wr w.heap.size vm ms
  c3 : cs[3]? = some vm
  c4 : cs[4]? = some (.slice none 0 0)
  rest : ∀ j, 5 ≤ j → cs[j]? = cs0[j]?
  mods : Mods (fun k => k = bh) w wr
  b0 : Blk wr w.heap.size 24 [vp]
  b1 : Blk wr (w.heap.size + 1) 24 [.slice none 0 0]
  bx : Blk wr gx 34 [.int .i64 x.sup, vxf, vxm]
  lb : Blk wr gl 34 cl
  ll : cl.length = (p.length + 1) * 3
  done : ∀ (j : Nat) (hj : j < p.length), j < c → ClassAt (cellB gm t4 wr) cl p[j] j
  mb : Blk wr gm 58 cm
  mlen : cm.length = (x.meths.length + 1) * 7
  mdone : ∀ (j : Nat) (hj : j < x.meths.length), j < k → MethAt (cellS t3 wr) cm x.meths[j] j
  tl : ts.length ≤ nb
  il : is.length ≤ nb
  fl : fs.length ≤ nb
  ml : ms.length = c
  newl : w.heap.size + 2 ≤ gl
  newx : w.heap.size + 2 ≤ gx
  newm : w.heap.size + 2 ≤ gm
  lx : gl ≠ gx
  old : ∀ e ∈ ms, e.1 < gm

section
variable {w wr : World} {bh : Nat} {cs0 : List Value} {p : List LClass} {vp : Value} {gl c : Nat} {x : LClass} {vxf vxm : Value} {gx gm k : Nat} {vt vi vf vm : Value} {ts is fs ms : List (Nat × Nat)} {cs cl cm : List Value} {nb : Nat}

theorem MSt.rows (h : MSt w wr bh cs0 p vp gl c x vxf vxm gx gm k vt vi vf vm ts is fs ms cs cl cm nb) {i : Nat} (hi : i < w.heap.size) (hr : Rows3 bh vt vi vf i) : i = bh := by
  rcases (h.hs.rows hr).1 with e | e
  · exact e
  · omega
/-- A method is lent. -/
theorem MSt.call (h : MSt w wr bh cs0 p vp gl c x vxf vxm gx gm k vt vi vf vm ts is fs ms cs cl cm nb) {w' : World} {m : LMeth} {g1 gc gf : Nat} {vt' vi' vf' : Value} {ts' is' fs' : List (Nat × Nat)} {cs' : List Value}
    (L : LentM wr w' w.heap.size bh cs m vt vi vf ts is fs g1 gc gf vt' vi' vf' ts' is' fs' cs') : MSt w w' bh cs0 p vp gl c x vxf vxm gx gm k vt' vi' vf' vm ts' is' fs' ms cs' cl cm (nb + szMeth m) := by
  have h8 : 8 ≤ szMeth m := by unfold szMeth; omega
  have hn : ∀ {i t c}, Blk wr i t c → ¬ (t = 44 ∨ t = 31 ∨ t = 55 ∨ t = 56) → ¬ Rows3 bh vt vi vf i := fun hb ht => h.hs.other hb ht
  refine ⟨L.hs, h.m.mods L.mods (fun i c hb => hn hb (by decide)) (fun i c hb => hn hb (by decide)), by rw [L.rest 3 (by omega)]; exact h.c3, by rw [L.rest 4 (by omega)]; exact h.c4, fun j hj => by rw [L.rest j (by omega)]; exact h.rest j hj, h.mods.trans L.mods (fun i hi hr => h.rows hi hr), h.b0.mods L.mods (hn h.b0 (by decide)), h.b1.mods L.mods (hn h.b1 (by decide)), h.bx.mods L.mods (hn h.bx (by decide)), h.lb.mods L.mods (hn h.lb (by decide)), h.ll,
    fun j hj hjc => (h.done j hj hjc).keep (cellB_mods L.mods (fun i t c _ hb ht => h.hs.notLent hb (t4_t5 ht))) (fun _ _ => rfl), h.mb.mods L.mods (hn h.mb (by decide)), h.mlen, fun j hj hjk => (h.mdone j hj hjk).keep (cellS_mods L.mods (fun i t c hb ht => h.hs.notLent hb (t4_t5 (t3_t4 ht)))) (fun _ _ => rfl),
    ?_, ?_, ?_, h.ml, h.newl, h.newx, h.newm, h.lx, h.old⟩
  · have := L.tl; have := h.tl; omega
  · have := L.il; have := h.il; omega
  · have := L.fl; have := h.fl; omega
/-- It is put into the row. -/
theorem MSt.put (h : MSt w wr bh cs0 p vp gl c x vxf vxm gx gm k vt vi vf vm ts is fs ms cs cl cm nb) (hk : k < x.meths.length) {va vc vf0 : Value} (hv : GVals (cellS t3 wr) x.meths[k] va vc vf0) :
    MSt w (setCells7 wr gm (k * 7) (.int .i64 x.meths[k].slot) va (.int .i64 x.meths[k].ret) (.int .i64 x.meths[k].locals) (.int .i64 x.meths[k].stack) vc vf0) bh cs0 p vp gl c x vxf vxm gx gm (k + 1) vt vi vf vm ts is fs ms cs cl
      (set7 cm (k * 7) (.int .i64 x.meths[k].slot) va (.int .i64 x.meths[k].ret) (.int .i64 x.meths[k].locals) (.int .i64 x.meths[k].stack) vc vf0) nb := by
  have hm := setCells7_mods wr gm (k * 7) (.int .i64 x.meths[k].slot) va (.int .i64 x.meths[k].ret) (.int .i64 x.meths[k].locals) (.int .i64 x.meths[k].stack) vc vf0
  have hb := setCells7_blk (k := k * 7) h.mb (.int .i64 x.meths[k].slot) va (.int .i64 x.meths[k].ret) (.int .i64 x.meths[k].locals) (.int .i64 x.meths[k].stack) vc vf0
  have hl := h.mlen
  have hnm := h.newm
  have hne : ∀ {i t c}, Blk wr i t c → t ≠ 58 → ¬ (i = gm) := fun hb' ht e => by subst e; exact ht (hb'.uniq h.mb)
  have hge : GLe (cellS t3 wr) (cellS t3 (setCells7 wr gm (k * 7) (.int .i64 x.meths[k].slot) va (.int .i64 x.meths[k].ret) (.int .i64 x.meths[k].locals) (.int .i64 x.meths[k].stack) vc vf0)) :=
    cellS_mods hm (fun i t c hb' ht => hne hb' (fun e => by subst e; exact absurd ht (by decide)))
  refine ⟨h.hs.stay hm (fun i t c hb' hi ht => ?_), h.m.mods' hm (fun i c hb' => hne hb' (by decide)) (fun e he hi => by have := h.old e he; omega), h.c3, h.c4, h.rest, h.mods.trans hm (fun i hi e => by omega), h.b0.mods hm (hne h.b0 (by decide)), h.b1.mods hm (hne h.b1 (by decide)), h.bx.mods hm (hne h.bx (by decide)), h.lb.mods hm (hne h.lb (by decide)), h.ll,
    fun j hj hjc => (h.done j hj hjc).keep (cellB_mods hm (fun i t c hi _ _ e => by omega)) (fun _ _ => rfl), hb, by rw [set7_len]; exact hl, fun j hj hjk => ?_, h.tl, h.il, h.fl, h.ml, h.newl, h.newx, h.newm, h.lx, h.old⟩
  · refine hne hb' ?_ hi
    rcases ht with rfl | rfl | rfl | rfl | rfl | rfl | rfl <;> decide
  · rcases Nat.lt_or_ge j k with g | g
    · exact (h.mdone j hj g).keep hge (fun i hi => set7_ne (by omega))
    · obtain rfl : j = k := by omega
      obtain ⟨s0, s1, s2, s3, s4, s5, s6⟩ := set7_at (l := cm) (k := j * 7) (a := .int .i64 x.meths[j].slot) (b := va) (c := .int .i64 x.meths[j].ret) (d := .int .i64 x.meths[j].locals) (e := .int .i64 x.meths[j].stack) (f := vc) (g := vf0) (by omega)
      exact ⟨va, vc, vf0, hv.keep hge, s0, s1, s2, s3, s4, s5, s6⟩
theorem MSt.cellM (h : MSt w wr bh cs0 p vp gl c x vxf vxm gx gm k vt vi vf vm ts is fs ms cs cl cm nb) (i : Nat) (hi : i < (x.meths.length + 1) * 7) : ∃ u, wr.cell? ⟨gm, i, none⟩ = some u :=
  ⟨cm[i]'(by rw [h.mlen]; exact hi), by rw [h.mb.cell]; exact List.getElem?_eq_getElem _⟩

/-- Behind the methods of class c: they lie in the hands' row; the class is about to be put. -/
structure XSt (w wr : World) (bh : Nat) (cs0 : List Value) (p : List LClass) (vp : Value) (gl c : Nat) (x : LClass) (vxf vxm : Value) (gx gm : Nat) (vt vi vf vm : Value) (ts is fs ms : List (Nat × Nat)) (cs cl : List Value) (nb : Nat) : Prop where
  hs : HS wr w.heap.size bh cs vt vi vf ts is fs
  m : InM wr w.heap.size vm ms
  c3 : cs[3]? = some vm
  c4 : cs[4]? = some (.slice none 0 0)
  rest : ∀ j, 5 ≤ j → cs[j]? = cs0[j]?
  mods : Mods (fun k => k = bh) w wr
  b0 : Blk wr w.heap.size 24 [vp]
  b1 : Blk wr (w.heap.size + 1) 24 [.slice none 0 0]
  bx : Blk wr gx 34 [.int .i64 x.sup, vxf, vxm]
  lb : Blk wr gl 34 cl
  ll : cl.length = (p.length + 1) * 3
  done : ∀ (j : Nat) (hj : j < p.length), j < c → ClassAt (cellS t4 wr) cl p[j] j
  meths : SlAt 7 (GMeth (cellS t4 wr)) (.slice (some ⟨gm, 0, none⟩) x.meths.length (x.meths.length + 1)) x.meths
  tl : ts.length ≤ nb
  il : is.length ≤ nb
  fl : fs.length ≤ nb
  ml : ms.length = c + 1
  newl : w.heap.size + 2 ≤ gl
  newx : w.heap.size + 2 ≤ gx
  lx : gl ≠ gx

/-- The owner's mark behind the methods; the list is put into the hands' row. -/
theorem MSt.fin {ma : Option Addr} {mcap : Nat} (h : MSt w wr bh cs0 p vp gl c x vxf vxm gx gm x.meths.length vt vi vf (.slice ma ms.length mcap) ts is fs ms cs cl cm nb) (hms : ms.length + 1 ≤ 16777216) (hml : x.meths.length ≤ 1048576) :
    ∃ ma' mcap' w6, (Builtin.append_ #[39, 39] 39 #[.slice ma ms.length mcap, .slice (some ⟨wr.heap.size, 0, none⟩) 1 1]).run Try.prog
        ((setCells7 wr gm (x.meths.length * 7) (.int .i64 (-77000000)) (.slice none 0 0) (.int .i64 0) (.int .i64 0) (.int .i64 0) (.slice none 0 0) (.slice none 0 0)).alloc (.cells #[.slice (some ⟨gm, 0, none⟩) (x.meths.length + 1) (x.meths.length + 1)] 32)) = .ok (.slice ma' (ms.length + 1) mcap') w6 ∧
      Blk w6 bh 44 cs ∧ wr.heap.size ≤ w6.heap.size ∧
      XSt w (w6.setCell ⟨bh, 3, none⟩ (.slice ma' (ms.length + 1) mcap')) bh cs0 p vp gl c x vxf vxm gx gm vt vi vf (.slice ma' (ms.length + 1) mcap') ts is fs (ms ++ [(gm, x.meths.length + 1)]) (cs.set 3 (.slice ma' (ms.length + 1) mcap')) cl nb := by
  obtain ⟨iM, hM, hM0, hM1, hM2⟩ := info_parts infoMeths
  have hlt := h.hs.lt
  have hle := h.hs.le
  have hlen := h.mlen
  have hnm := h.newm
  have hsz := h.mods.size
  have hmX := setCells7_mods wr gm (x.meths.length * 7) (.int .i64 (-77000000)) (.slice none 0 0) (.int .i64 0) (.int .i64 0) (.int .i64 0) (.slice none 0 0) (.slice none 0 0)
  have hbX := setCells7_blk (k := x.meths.length * 7) h.mb (.int .i64 (-77000000)) (.slice none 0 0) (.int .i64 0) (.int .i64 0) (.int .i64 0) (.slice none 0 0) (.slice none 0 0)
  have hsX := setCells7_size wr gm (x.meths.length * 7) (.int .i64 (-77000000)) (.slice none 0 0) (.int .i64 0) (.int .i64 0) (.int .i64 0) (.slice none 0 0) (.slice none 0 0)
  generalize setCells7 wr gm (x.meths.length * 7) (.int .i64 (-77000000)) (.slice none 0 0) (.int .i64 0) (.int .i64 0) (.int .i64 0) (.slice none 0 0) (.slice none 0 0) = X at hmX hbX hsX ⊢
  have hne : ∀ {i t c}, Blk wr i t c → t ≠ 58 → ¬ (i = gm) := fun hb' ht e => by subst e; exact ht (hb'.uniq h.mb)
  have hHX : HS X w.heap.size bh cs vt vi vf ts is fs := h.hs.stay hmX (fun i t c hb' hi ht => by
    refine hne hb' ?_ hi
    rcases ht with rfl | rfl | rfl | rfl | rfl | rfl | rfl <;> decide)
  have hMX : InM X w.heap.size (.slice ma ms.length mcap) ms := h.m.mods' hmX (fun i c hb' => hne hb' (by decide)) (fun e he hi => by have := h.old e he; omega)
  obtain ⟨vm6, w6, happ, hown6, hm6, hat6⟩ := app_ex (P := Try.prog) (W := X) 39 39 32 iM (.slice none 0 0) 1 24 Try.underlying39 hM hM0 hM1 hM2 rfl (by decide) w.heap.size (.slice ma ms.length mcap) ms.length (ms.map slOf) hMX.row #[.slice (some ⟨gm, 0, none⟩) (x.meths.length + 1) (x.meths.length + 1)] rfl (by simp [Value.oneCell']) wr.heap.size hsX (by unfold maxLen; omega) (by omega) (by omega)
  obtain ⟨ma', mcap', rfl⟩ := own_form hown6
  have hrow : ∀ i, (Value.slice ma ms.length mcap).ownBlock = some i → ∃ c, Blk X i 32 c := fun i e => own_blk hMX.row e
  have hnr : ∀ {i t c}, Blk X i t c → t ≠ 32 → ¬ ((Value.slice ma ms.length mcap).ownBlock = some i) := fun hb' ht e => by obtain ⟨c', hb''⟩ := hrow _ e; exact ht (hb'.uniq hb'')
  have hbh6 : Blk w6 bh 44 cs := hHX.hands.1.mods hm6 (hnr hHX.hands.1 (by decide))
  have hs6 := hm6.size
  refine ⟨ma', mcap', w6, happ, hbh6, by omega, ?_⟩
  have hmY : Mods (fun i => i = bh ∨ (Value.slice ma ms.length mcap).ownBlock = some i) X (w6.setCell ⟨bh, 3, none⟩ (.slice ma' (ms.length + 1) mcap')) := (hm6.mono (fun _ _ e => .inr e)).setCell (fun _ => .inl rfl) _
  have hbhY := hbh6.setCell 3 (.slice ma' (ms.length + 1) mcap')
  have hrowY := own_mods (S := fun i => i = bh) hown6 ((Mods.refl (fun i => i = bh) w6).setCell (p := ⟨bh, 3, none⟩) (fun _ => rfl) (.slice ma' (ms.length + 1) mcap')) (fun g e => by have := hown6.lt g e; omega)
  generalize w6.setCell ⟨bh, 3, none⟩ (.slice ma' (ms.length + 1) mcap') = Y at hmY hbhY hrowY ⊢
  have hS : ∀ {i t c}, Blk X i t c → t ≠ 44 → t ≠ 32 → ¬ (i = bh ∨ (Value.slice ma ms.length mcap).ownBlock = some i) := fun hb' h1 h2 hk => by
    rcases hk with rfl | hk
    · exact h1 (hb'.uniq hHX.hands.1)
    · exact hnr hb' h2 hk
  have hmove : ∀ {i t c}, Blk wr i t c → t ≠ 58 → t ≠ 44 → t ≠ 32 → Blk Y i t c := fun hb' h0 h1 h2 => (hb'.mods hmX (hne hb' h0)).mods hmY (hS (hb'.mods hmX (hne hb' h0)) h1 h2)
  have hc19 := h.hs.hands.2
  have hbYm := hbX.mods hmY (hS hbX (by decide) (by decide))
  have hge3 : GLe (cellS t3 wr) (cellS t4 Y) := (cellS_mods hmX (fun i t c hb' ht => hne hb' (fun e => by subst e; exact absurd ht (by decide)))).trans ((cellS_mods hmY (fun i t c hb' ht => hS hb' (fun e => by subst e; exact absurd ht (by decide)) (fun e => by subst e; exact absurd ht (by decide)))).trans (cellS_sub (by simp) Y))
  refine ⟨⟨⟨hbhY, by rw [List.length_set]; exact hc19⟩, by rw [List.getElem?_set_ne (by omega)]; exact h.hs.c0, by rw [List.getElem?_set_ne (by omega)]; exact h.hs.c1, by rw [List.getElem?_set_ne (by omega)]; exact h.hs.c2, hHX.t.mods hmY (fun i c hb' => hS hb' (by decide) (by decide)) (fun i c hb' => hS hb' (by decide) (by decide)), hHX.i.mods hmY (fun i c hb' => hS hb' (by decide) (by decide)) (fun i c hb' => hS hb' (by decide) (by decide)), hHX.f.mods hmY (fun i c hb' => hS hb' (by decide) (by decide)) (fun i c hb' => hS hb' (by decide) (by decide)), hlt, Nat.le_trans hHX.le hmY.size⟩,
    ?_, by rw [List.getElem?_set_self (by omega)], by rw [List.getElem?_set_ne (by omega)]; exact h.c4, fun j hj => by rw [List.getElem?_set_ne (by omega)]; exact h.rest j hj, (h.mods.trans hmX (fun i hi e => by omega)).trans hmY (fun i hi e => ?_), hmove h.b0 (by decide) (by decide) (by decide), hmove h.b1 (by decide) (by decide) (by decide), hmove h.bx (by decide) (by decide) (by decide), hmove h.lb (by decide) (by decide) (by decide), h.ll, fun j hj hjc => (h.done j hj hjc).keep ?_ (fun _ _ => rfl), ?_, h.tl, h.il, h.fl, by rw [List.length_append, List.length_singleton, h.ml], h.newl, h.newx, h.lx⟩
  · refine ⟨by rw [List.length_append, List.map_append]; exact hrowY, fun e he => ?_, ?_⟩
    · rcases List.mem_append.1 he with he | he
      · obtain ⟨h1, h2, h3, c, h4, h5⟩ := hMX.ent e he
        exact ⟨h1, h2, h3, c, h4.mods hmY (hS h4 (by decide) (by decide)), h5⟩
      · rw [List.mem_singleton] at he
        subst he
        obtain ⟨s0, s1, s2, s3, s4, s5, s6⟩ := set7_at (l := cm) (k := x.meths.length * 7) (a := .int .i64 (-77000000)) (b := .slice none 0 0) (c := .int .i64 0) (d := .int .i64 0) (e := .int .i64 0) (f := .slice none 0 0) (g := .slice none 0 0) (by omega)
        refine ⟨by show w.heap.size ≤ gm; omega, by show 1 ≤ x.meths.length + 1; omega, by show x.meths.length + 1 ≤ 1048577; omega, _, hbYm, by rw [set7_len]; exact hlen, ?_⟩
        rw [show x.meths.length + 1 - 1 = x.meths.length by omega]
        exact drop7 (by rw [set7_len]; omega) s0 s1 s2 s3 s4 s5 s6
    · rw [List.map_append, List.nodup_append]
      refine ⟨h.m.nodup, by simp, fun a ha b hb' => ?_⟩
      obtain ⟨e, he, rfl⟩ := List.mem_map.1 ha
      have : b = gm := by simpa using hb'
      have := h.old e he
      omega
  · rcases e with e | e
    · exact e
    · have := hMX.row.lt i e; omega
  · exact ((cellB_mods hmX (fun i t c hi _ _ e => by omega)).trans (cellB_mods hmY (fun i t c hi hb' ht => hS hb' (fun e => by subst e; exact absurd ht (by decide)) (fun e => by subst e; exact absurd ht (by decide))))).trans (cellB_le gm t4 Y)
  · refine ⟨_, gm, 0, _, rfl, by omega, ⟨fun _ => rfl, .inr (.inl rfl)⟩, fun j y hj => ?_⟩
    obtain ⟨hj1, rfl⟩ := List.getElem?_eq_some_iff.1 hj
    obtain ⟨va, vc, vf0, f0, f1, f2, f3, f4, f5, f6, f7⟩ := h.mdone j hj1 hj1
    have hcell : ∀ r, r < 7 → cellS t4 Y ⟨gm, 0 + j * 7 + r, none⟩ = cm[j * 7 + r]? := fun r hr => by rw [cellS_blk hbYm (by simp), Nat.zero_add, set7_ne (by omega)]
    exact ⟨va, vc, vf0, f0.keep hge3, (hcell 0 (by omega)).trans f1, (hcell 1 (by omega)).trans f2, (hcell 2 (by omega)).trans f3, (hcell 3 (by omega)).trans f4, (hcell 4 (by omega)).trans f5, (hcell 5 (by omega)).trans f6, (hcell 6 (by omega)).trans f7⟩
end
end Go.Proofs.Ytiiokkllmchohaa
/- The law's lend: the class is put; the end. -/
namespace Go.Proofs.Ytiiokkllmchohaa
open Go.RowKit

section
variable {w wr : World} {bh : Nat} {cs0 : List Value} {p : List LClass} {vp : Value} {gl c : Nat} {x : LClass} {vxf vxm : Value} {gx gm k : Nat} {vt vi vf vm : Value} {ts is fs ms : List (Nat × Nat)} {cs cl cm : List Value} {nb : Nat}

theorem XSt.far (h : XSt w wr bh cs0 p vp gl c x vxf vxm gx gm vt vi vf vm ts is fs ms cs cl nb) {i : Nat} {t : TypeId} {c' : List Value} (hb : Blk wr i t c') (h1 : t ≠ 44) (h2 : t ≠ 31) : ¬ (i = bh ∨ vt.ownBlock = some i) := fun hk => by
  rcases hk with rfl | hk
  · exact h1 (hb.uniq h.hs.hands.1)
  · obtain ⟨c', hb'⟩ := own_blk h.hs.t.row hk
    exact h2 (hb.uniq hb')
theorem XSt.drew (h : XSt w wr bh cs0 p vp gl c x vxf vxm gx gm vt vi vf vm ts is fs ms cs cl nb) : XSt w wr.drew bh cs0 p vp gl c x vxf vxm gx gm vt vi vf vm ts is fs ms cs cl nb := by
  have hm : Mods (fun _ => False) wr wr.drew := (Mods.refl _ _).drew
  exact ⟨h.hs.stay hm (fun _ _ _ _ f => f.elim), h.m.mods hm (fun _ _ _ f => f) (fun _ _ _ f => f), h.c3, h.c4, h.rest, h.mods.drew, h.b0, h.b1, h.bx, h.lb, h.ll, fun j hj hjc => (h.done j hj hjc).keep (cellS_mods hm (fun _ _ _ _ _ f => f)) (fun _ _ => rfl), meths_keep (cellS_mods hm (fun _ _ _ _ _ f => f)) h.meths, h.tl, h.il, h.fl, h.ml, h.newl, h.newx, h.lx⟩
theorem XSt.lent (h : XSt w wr bh cs0 p vp gl c x vxf vxm gx gm vt vi vf vm ts is fs ms cs cl nb) {l : List Int} {w' : World} {g : Nat} {vt' : Value} (hl : l.length ≤ 1048576) (L : LentT wr w' bh cs vt w.heap.size ts l g vt') :
    XSt w w' bh cs0 p vp gl c x vxf vxm gx gm vt' vi vf vm (ts ++ [(g, l.length + 1)]) is fs ms (cs.set 0 vt') cl (nb + 1) := by
  have h4 : ∀ {i t c'}, Blk wr i t c' → t ∈ t4 → ¬ (i = bh ∨ vt.ownBlock = some i) := fun hb ht => h.far hb (fun e => by subst e; exact absurd ht (by decide)) (fun e => by subst e; exact absurd ht (by decide))
  refine ⟨h.hs.lent hl L, h.m.mods L.mods (fun i c hb => h.far hb (by decide) (by decide)) (fun i c hb => h.far hb (by decide) (by decide)), by rw [List.getElem?_set_ne (by omega)]; exact h.c3, by rw [List.getElem?_set_ne (by omega)]; exact h.c4, fun j hj => by rw [List.getElem?_set_ne (by omega)]; exact h.rest j hj, h.mods.trans L.mods (fun i hi hr => ?_), h.b0.mods L.mods (h.far h.b0 (by decide) (by decide)), h.b1.mods L.mods (h.far h.b1 (by decide) (by decide)), h.bx.mods L.mods (h.far h.bx (by decide) (by decide)), h.lb.mods L.mods (h.far h.lb (by decide) (by decide)), h.ll,
    fun j hj hjc => (h.done j hj hjc).keep (cellS_mods L.mods (fun i t c hb ht => h4 hb ht)) (fun _ _ => rfl), meths_keep (cellS_mods L.mods (fun i t c hb ht => h4 hb ht)) h.meths, ?_, ?_, ?_, h.ml, h.newl, h.newx, h.lx⟩
  · rcases hr with hr | hr
    · exact hr
    · have := h.hs.t.row.lt i hr; omega
  · rw [List.length_append, List.length_singleton]; have := h.tl; omega
  · have := h.il; omega
  · have := h.fl; omega
theorem XSt.cellL (h : XSt w wr bh cs0 p vp gl c x vxf vxm gx gm vt vi vf vm ts is fs ms cs cl nb) (i : Nat) (hi : i < (p.length + 1) * 3) : ∃ u, wr.cell? ⟨gl, i, none⟩ = some u :=
  ⟨cl[i]'(by rw [h.ll]; exact hi), by rw [h.lb.cell]; exact List.getElem?_eq_getElem _⟩
/-- The class is put into the row of classes. -/
theorem XSt.put (h : XSt w wr bh cs0 p vp gl c x vxf vxm gx gm vt vi vf vm ts is fs ms cs cl nb) (hc : c < p.length) (hx : p[c] = x) {vf0 : Value} (hf : SlAt 1 (GInt (cellS tT wr)) vf0 x.fields) :
    LSt w (setCells3 wr gl (c * 3) (.int .i64 x.sup) vf0 (.slice (some ⟨gm, 0, none⟩) x.meths.length (x.meths.length + 1))) bh cs0 p vp gl (c + 1) vt vi vf vm ts is fs ms cs (set3 cl (c * 3) (.int .i64 x.sup) vf0 (.slice (some ⟨gm, 0, none⟩) x.meths.length (x.meths.length + 1))) nb := by
  have hm := setCells3_mods wr gl (c * 3) (.int .i64 x.sup) vf0 (.slice (some ⟨gm, 0, none⟩) x.meths.length (x.meths.length + 1))
  have hb := setCells3_blk (k := c * 3) h.lb (.int .i64 x.sup) vf0 (.slice (some ⟨gm, 0, none⟩) x.meths.length (x.meths.length + 1))
  have hl := h.ll
  have hnl := h.newl
  have hne : ∀ {i t c}, Blk wr i t c → t ≠ 34 → ¬ (i = gl) := fun hb' ht e => by subst e; exact ht (hb'.uniq h.lb)
  have hge : GLe (cellS t4 wr) (cellS t4 (setCells3 wr gl (c * 3) (.int .i64 x.sup) vf0 (.slice (some ⟨gm, 0, none⟩) x.meths.length (x.meths.length + 1)))) :=
    cellS_mods hm (fun i t c hb' ht => hne hb' (fun e => by subst e; exact absurd ht (by decide)))
  refine ⟨h.hs.stay hm (fun i t c hb' hi ht => ?_), h.m.mods hm (fun i c hb' => hne hb' (by decide)) (fun i c hb' => hne hb' (by decide)), h.c3, h.c4, h.rest, h.mods.trans hm (fun i hi e => by omega), h.b0.mods hm (hne h.b0 (by decide)), h.b1.mods hm (hne h.b1 (by decide)), hb, by rw [set3_len]; exact hl, fun j hj hjc => ?_, h.tl, h.il, h.fl, h.ml, h.newl⟩
  · refine hne hb' ?_ hi
    rcases ht with rfl | rfl | rfl | rfl | rfl | rfl | rfl <;> decide
  · rcases Nat.lt_or_ge j c with g | g
    · exact (h.done j hj g).keep hge (fun i hi => set3_ne (by omega))
    · obtain rfl : j = c := by omega
      rw [hx]
      exact ⟨vf0, _, set3_0 (by omega), set3_1 (by omega), set3_2 (by omega), ints_keep ((cellS_sub (by simp) wr).trans hge) hf, meths_keep hge h.meths⟩
theorem LSt.cellL (h : LSt w wr bh cs0 p vp gl c vt vi vf vm ts is fs ms cs cl nb) (i : Nat) (hi : i < (p.length + 1) * 3) : ∃ u, wr.cell? ⟨gl, i, none⟩ = some u :=
  ⟨cl[i]'(by rw [h.ll]; exact hi), by rw [h.lb.cell]; exact List.getElem?_eq_getElem _⟩
/-- A class is begun: its copy in block gx, its new row of methods in block gm. -/
theorem LSt.begin (h : LSt w wr bh cs0 p vp gl c vt vi vf vm ts is fs ms cs cl nb) {w2 : World} {vxf vxm : Value} (hx : Blk w2 gx 34 [.int .i64 x.sup, vxf, vxm]) (hxn : wr.heap.size ≤ gx)
    (hmb : Blk w2 gm 58 cm) (hmn : wr.heap.size ≤ gm) (hml : cm.length = (x.meths.length + 1) * 7) (hm : Mods (fun _ => False) wr w2) : MSt w w2 bh cs0 p vp gl c x vxf vxm gx gm 0 vt vi vf vm ts is fs ms cs cl cm nb := by
  have hsz := h.b1.lt
  have hl := h.lb.lt
  refine ⟨h.hs.stay hm (fun _ _ _ _ f => f.elim), h.m.mods hm (fun _ _ _ f => f) (fun _ _ _ f => f), h.c3, h.c4, h.rest, h.mods.trans hm (fun _ _ f => f.elim), h.b0.mods hm (fun f => f), h.b1.mods hm (fun f => f), hx, h.lb.mods hm (fun f => f), h.ll, fun j hj hjc => (h.done j hj hjc).keep ((cellS_B t4 wr hmn).trans (cellB_mods hm (fun _ _ _ _ _ _ f => f))) (fun _ _ => rfl), hmb, hml, fun j _ hj => absurd hj (Nat.not_lt_zero j), h.tl, h.il, h.fl, h.ml, h.newl, by omega, by omega, by omega, fun e he => ?_⟩
  obtain ⟨_, _, _, c, hb, _⟩ := h.m.ent e he
  have := hb.lt
  omega

/-- What lending a program leaves in the hands. -/
structure LentP (w w' : World) (bh : Nat) (cs0 : List Value) (p : List LClass) (gl : Nat) (vt vi vf vm vc : Value) (ts is fs ms ks : List (Nat × Nat)) (cs : List Value) : Prop where
  hs : HS w' w.heap.size bh cs vt vi vf ts is fs
  m : InM w' w.heap.size vm ms
  c : InC w' w.heap.size vc ks
  c3 : cs[3]? = some vm
  c4 : cs[4]? = some vc
  rest : ∀ j, 5 ≤ j → cs[j]? = cs0[j]?
  mods : Mods (fun k => k = bh) w w'
  prog : SlAt 3 (GClass (cellS t5 w')) (.slice (some ⟨gl, 0, none⟩) p.length (p.length + 1)) p

/-- The end: the owner's mark behind the classes; the list is put into the hands' row. -/
theorem LSt.fin (h : LSt w wr bh cs0 p vp gl p.length vt vi vf vm ts is fs ms cs cl nb) (hpl : p.length ≤ 1048576) :
    ∃ ca ccap w6, (Builtin.append_ #[40, 40] 40 #[.slice none 0 0, .slice (some ⟨wr.heap.size, 0, none⟩) 1 1]).run Try.prog
        ((setCells3 wr gl (p.length * 3) (.int .i64 (-77000000)) (.slice none 0 0) (.slice none 0 0)).alloc (.cells #[.slice (some ⟨gl, 0, none⟩) (p.length + 1) (p.length + 1)] 22)) = .ok (.slice ca 1 ccap) w6 ∧
      Blk w6 bh 44 cs ∧ Blk w6 (w.heap.size + 1) 24 [.slice none 0 0] ∧ wr.heap.size ≤ w6.heap.size ∧
      (∀ w7, Mods (fun i => i = w.heap.size + 1) (w6.setCell ⟨bh, 4, none⟩ (.slice ca 1 ccap)) w7 → LentP w w7 bh cs0 p gl vt vi vf vm (.slice ca 1 ccap) ts is fs ms [(gl, p.length + 1)] (cs.set 4 (.slice ca 1 ccap))) := by
  obtain ⟨iC, hC, hC0, hC1, hC2⟩ := info_parts infoClasses
  have hlt := h.hs.lt
  have hle := h.hs.le
  have hlen := h.ll
  have hnl := h.newl
  have hsz := h.mods.size
  have hmX := setCells3_mods wr gl (p.length * 3) (.int .i64 (-77000000)) (.slice none 0 0) (.slice none 0 0)
  have hbX := setCells3_blk (k := p.length * 3) h.lb (.int .i64 (-77000000)) (.slice none 0 0) (.slice none 0 0)
  have hsX := setCells3_size wr gl (p.length * 3) (.int .i64 (-77000000)) (.slice none 0 0) (.slice none 0 0)
  generalize setCells3 wr gl (p.length * 3) (.int .i64 (-77000000)) (.slice none 0 0) (.slice none 0 0) = X at hmX hbX hsX ⊢
  have hne : ∀ {i t c}, Blk wr i t c → t ≠ 34 → ¬ (i = gl) := fun hb' ht e => by subst e; exact ht (hb'.uniq h.lb)
  have hHX : HS X w.heap.size bh cs vt vi vf ts is fs := h.hs.stay hmX (fun i t c hb' hi ht => by
    refine hne hb' ?_ hi
    rcases ht with rfl | rfl | rfl | rfl | rfl | rfl | rfl <;> decide)
  obtain ⟨vc6, w6, happ, hown6, hm6, hat6⟩ := app_ex (P := Try.prog) (W := X) 40 40 22 iC (.slice none 0 0) 1 24 Try.underlying40 hC hC0 hC1 hC2 rfl (by decide) w.heap.size (.slice none 0 0) 0 [] (World.ownsRow_nil _ _ _ _) #[.slice (some ⟨gl, 0, none⟩) (p.length + 1) (p.length + 1)] rfl (by simp [Value.oneCell']) wr.heap.size hsX (by unfold maxLen; omega) (by omega) (by omega)
  have hm6' : Mods (fun _ => False) X w6 := hm6.mono (fun i _ e => by cases e)
  obtain ⟨ca, ccap, rfl⟩ := own_form hown6
  have hbh6 : Blk w6 bh 44 cs := hHX.hands.1.mods hm6' (fun f => f)
  have hs6 := hm6.size
  have hb16 : Blk w6 (w.heap.size + 1) 24 [.slice none 0 0] := (h.b1.mods hmX (hne h.b1 (by decide))).mods hm6' (fun f => f)
  refine ⟨ca, ccap, w6, happ, hbh6, hb16, by omega, fun w7 hm7 => ?_⟩
  have hmY : Mods (fun i => i = bh) X (w6.setCell ⟨bh, 4, none⟩ (.slice ca 1 ccap)) := (hm6'.mono (T := fun i => i = bh) (fun _ _ f => f.elim)).setCell (p := ⟨bh, 4, none⟩) (fun _ => rfl) _
  have hbhY := hbh6.setCell 4 (.slice ca 1 ccap)
  have hrowY := own_mods (S := fun i => i = bh) hown6 ((Mods.refl (fun i => i = bh) w6).setCell (p := ⟨bh, 4, none⟩) (fun _ => rfl) (.slice ca 1 ccap)) (fun g e => by have := hown6.lt g e; omega)
  have hb1Y := hb16.setCell_ne (p := ⟨bh, 4, none⟩) (by show w.heap.size + 1 ≠ bh; omega) (.slice ca 1 ccap)
  generalize w6.setCell ⟨bh, 4, none⟩ (.slice ca 1 ccap) = Y at hmY hbhY hrowY hb1Y hm7
  have hS : ∀ {i t c}, Blk X i t c → t ≠ 44 → ¬ (i = bh) := fun hb' h1 hk => by subst hk; exact h1 (hb'.uniq hHX.hands.1)
  have hS7 : ∀ {i t c}, Blk Y i t c → t ≠ 24 → ¬ (i = w.heap.size + 1) := fun hb' h1 hk => by subst hk; exact h1 (hb'.uniq hb1Y)
  have hc19 := h.hs.hands.2
  have hmove : ∀ {i t c}, Blk wr i t c → t ≠ 34 → t ≠ 44 → t ≠ 24 → Blk w7 i t c := fun hb' h0 h1 h2 => ((hb'.mods hmX (hne hb' h0)).mods hmY (hS (hb'.mods hmX (hne hb' h0)) h1)).mods hm7 (hS7 ((hb'.mods hmX (hne hb' h0)).mods hmY (hS (hb'.mods hmX (hne hb' h0)) h1)) h2)
  have hbY := hbX.mods hmY (hS hbX (by decide))
  have hb7 := hbY.mods hm7 (hS7 hbY (by decide))
  have hge : GLe (cellS t4 wr) (cellS t5 w7) := (cellS_mods hmX (fun i t c hb' ht => hne hb' (fun e => by subst e; exact absurd ht (by decide)))).trans ((cellS_mods hmY (fun i t c hb' ht => hS hb' (fun e => by subst e; exact absurd ht (by decide)))).trans ((cellS_mods hm7 (fun i t c hb' ht => hS7 hb' (fun e => by subst e; exact absurd ht (by decide)))).trans (cellS_sub (fun t ht => t4_t5 ht) w7)))
  have hY : HS Y w.heap.size bh (cs.set 4 (.slice ca 1 ccap)) vt vi vf ts is fs := ⟨⟨hbhY, by rw [List.length_set]; exact hc19⟩, by rw [List.getElem?_set_ne (by omega)]; exact h.hs.c0, by rw [List.getElem?_set_ne (by omega)]; exact h.hs.c1, by rw [List.getElem?_set_ne (by omega)]; exact h.hs.c2, hHX.t.mods hmY (fun i c hb' => hS hb' (by decide)) (fun i c hb' => hS hb' (by decide)), hHX.i.mods hmY (fun i c hb' => hS hb' (by decide)) (fun i c hb' => hS hb' (by decide)), hHX.f.mods hmY (fun i c hb' => hS hb' (by decide)) (fun i c hb' => hS hb' (by decide)), hlt, Nat.le_trans hHX.le hmY.size⟩
  refine ⟨hY.stay hm7 (fun i t c hb' hi ht => ?_), ((h.m.mods hmX (fun i c hb' => hne hb' (by decide)) (fun i c hb' => hne hb' (by decide))).mods hmY (fun i c hb' => hS hb' (by decide)) (fun i c hb' => hS hb' (by decide))).mods hm7 (fun i c hb' => hS7 hb' (by decide)) (fun i c hb' => hS7 hb' (by decide)), ?_, by rw [List.getElem?_set_ne (by omega)]; exact h.c3, by rw [List.getElem?_set_self (by omega)], fun j hj => by rw [List.getElem?_set_ne (by omega)]; exact h.rest j hj, ((h.mods.trans hmX (fun i hi e => by omega)).trans hmY (fun i hi e => e)).trans hm7 (fun i hi e => by omega), ?_⟩
  · refine hS7 hb' ?_ hi
    rcases ht with rfl | rfl | rfl | rfl | rfl | rfl | rfl <;> decide
  · refine ⟨own_mods hrowY hm7 (fun g e => ?_), fun e he => ?_, by simp⟩
    · obtain ⟨c', hb'⟩ := own_blk hrowY e
      exact hS7 hb' (by decide)
    · rw [List.mem_singleton] at he
      subst he
      refine ⟨by show w.heap.size ≤ gl; omega, by show 1 ≤ p.length + 1; omega, by show p.length + 1 ≤ 1048577; omega, _, hb7, by rw [set3_len]; exact hlen, ?_⟩
      rw [show p.length + 1 - 1 = p.length by omega]
      exact drop3 (by rw [set3_len]; omega) (set3_0 (by omega)) (set3_1 (by omega)) (set3_2 (by omega))
  · refine ⟨_, gl, 0, _, rfl, by omega, ⟨fun _ => rfl, .inr (.inl rfl)⟩, fun j y hj => ?_⟩
    obtain ⟨hj1, rfl⟩ := List.getElem?_eq_some_iff.1 hj
    obtain ⟨vf0, vm0, f0, f1, f2, f3, f4⟩ := h.done j hj1 hj1
    have hcell : ∀ r, r < 3 → cellS t5 w7 ⟨gl, 0 + j * 3 + r, none⟩ = cl[j * 3 + r]? := fun r hr => by rw [cellS_blk hb7 (by simp), Nat.zero_add, set3_ne (by omega)]
    exact ⟨vf0, vm0, (hcell 0 (by omega)).trans f0, (hcell 1 (by omega)).trans f1, (hcell 2 (by omega)).trans f2, ints_keep hge f3, meths_keep hge f4⟩
end
end Go.Proofs.Ytiiokkllmchohaa
