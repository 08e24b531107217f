/- What is read out of bytes is no greater than twice the bytes. -/
import Derived.Test.YtiiokkllmchohaaT06
import Derived.Test.YtiiokkllmchohaaT22
import Derived.Test.YtiiokkllmchohaaT25
import Derived.Test.YtiiokkllmchohaaT26
/- RdSz -/
namespace Go.Proofs.Ytiiokkllmchohaa
open Go.RowKit

section
variable {s : List UInt8}
theorem rdU_adv : ∀ (f i v u : Nat), (rdU s f i v u).2.2 = false → i + 1 ≤ (rdU s f i v u).2.1
  | 0, i, v, u, h => by simp [rdU] at h
  | f + 1, i, v, u, h => by
    rw [rdU] at h ⊢
    rcases hx : s[i]? with _ | c
    · rw [hx] at h; simp at h
    · rw [hx] at h
      simp only at h ⊢
      split at h
      · rename_i hc; rw [if_pos hc]; exact Nat.le_refl _
      · rename_i hc
        rw [if_neg hc]
        have := rdU_adv f _ _ _ h
        omega
theorem rdN_adv {i : Nat} {bad : Bool} (h : (rdN s i bad).2.2 = false) : bad = false ∧ i + 1 ≤ (rdN s i bad).2.1 := by
  cases bad with
  | true => simp [rdN] at h
  | false => exact ⟨rfl, rdU_adv _ _ _ _ h⟩
theorem rdM_adv {i : Nat} {bad : Bool} (h : (rdM s i bad).2.2 = false) : bad = false ∧ i + 1 ≤ (rdM s i bad).2.1 := by
  unfold rdM at h ⊢
  split at h
  · cases h
  · rename_i hc
    rw [if_neg hc]
    exact rdN_adv h
theorem rdTs_adv : ∀ (n i : Nat) (bad : Bool), (rdTs s n i bad).2.2 = false → bad = false ∧ i + (rdTs s n i bad).1.length ≤ (rdTs s n i bad).2.1
  | 0, i, bad, h => ⟨h, by simp [rdTs]⟩
  | n + 1, i, true, h => by simp [rdTs] at h
  | n + 1, i, false, h => by
    rw [rdTs_succ] at h ⊢
    obtain ⟨h1, h2⟩ := rdTs_adv n _ _ h
    obtain ⟨_, h3⟩ := rdN_adv h1
    refine ⟨rfl, ?_⟩
    simp only [List.length_cons]
    omega
theorem rdL_adv {α : Type} {g : Nat → α × Nat × Bool} {f : α → Nat} (hg : ∀ i, (g i).2.2 = false → 2 * i + f (g i).1 ≤ 2 * (g i).2.1) : ∀ (n i : Nat) (bad : Bool), (rdL g n i bad).2.2 = false → bad = false ∧ 2 * i + ((rdL g n i bad).1.map f).sum ≤ 2 * (rdL g n i bad).2.1
  | 0, i, bad, h => ⟨h, by simp [rdL]⟩
  | n + 1, i, true, h => by simp [rdL] at h
  | n + 1, i, false, h => by
    rw [rdL_succ] at h ⊢
    obtain ⟨h1, h2⟩ := rdL_adv hg n _ _ h
    have h3 := hg i h1
    refine ⟨rfl, ?_⟩
    simp only [List.map_cons, List.sum_cons]
    omega
theorem rdI_adv (i : Nat) (h : (rdI s i).2.2 = false) : 2 * i + 6 ≤ 2 * (rdI s i).2.1 := by
  unfold rdI at h ⊢
  simp only at h ⊢
  obtain ⟨h1, a1⟩ := rdN_adv h
  obtain ⟨h2, a2⟩ := rdN_adv h1
  obtain ⟨_, a3⟩ := rdN_adv h2
  omega
theorem rdFr_adv (n i : Nat) (h : (rdFr s n i).2.2 = false) : 2 * i + szFrame (rdFr s n i).1 ≤ 2 * (rdFr s n i).2.1 := by
  unfold rdFr at h ⊢
  simp only at h ⊢
  obtain ⟨h1, a1⟩ := rdTs_adv _ _ _ h
  obtain ⟨h2, a2⟩ := rdM_adv h1
  obtain ⟨h3, a3⟩ := rdTs_adv _ _ _ h2
  obtain ⟨_, a4⟩ := rdN_adv h3
  unfold szFrame
  simp only
  omega
theorem rdMt_adv (i : Nat) (h : (rdMt s i).2.2 = false) : 2 * i + szMeth (rdMt s i).1 ≤ 2 * (rdMt s i).2.1 := by
  unfold rdMt at h ⊢
  simp only at h ⊢
  obtain ⟨h1, a1⟩ := rdL_adv (f := szFrame) (rdFr_adv _) _ _ _ h
  obtain ⟨h2, a2⟩ := rdM_adv h1
  obtain ⟨h3, a3⟩ := rdL_adv (f := fun _ => 6) rdI_adv _ _ _ h2
  obtain ⟨h4, a4⟩ := rdM_adv h3
  obtain ⟨h5, a5⟩ := rdN_adv h4
  obtain ⟨h6, a6⟩ := rdM_adv h5
  obtain ⟨h7, a7⟩ := rdN_adv h6
  obtain ⟨h8, a8⟩ := rdTs_adv _ _ _ h7
  obtain ⟨h9, a9⟩ := rdM_adv h8
  obtain ⟨_, a10⟩ := rdN_adv h9
  simp only [List.map_const', List.sum_replicate_nat] at a3
  unfold szMeth
  simp only
  omega
theorem rdCl_adv (i : Nat) (h : (rdCl s i).2.2 = false) : 2 * i + szClass (rdCl s i).1 ≤ 2 * (rdCl s i).2.1 := by
  unfold rdCl at h ⊢
  simp only at h ⊢
  obtain ⟨h1, a1⟩ := rdL_adv (f := szMeth) rdMt_adv _ _ _ h
  obtain ⟨h2, a2⟩ := rdM_adv h1
  obtain ⟨h3, a3⟩ := rdTs_adv _ _ _ h2
  obtain ⟨h4, a4⟩ := rdM_adv h3
  obtain ⟨_, a5⟩ := rdN_adv h4
  unfold szClass
  simp only
  omega
theorem rdP_sz (h : (rdP s).2.2 = false) : szProg (rdP s).1 ≤ 2 * s.length := by
  have hl := rdP_le s
  unfold rdP at h hl ⊢
  simp only at h hl ⊢
  obtain ⟨h1, a1⟩ := rdL_adv (f := szClass) rdCl_adv _ _ _ h
  obtain ⟨_, a2⟩ := rdM_adv h1
  unfold szProg
  omega
end
end Go.Proofs.Ytiiokkllmchohaa
/- The document's answer reads a program: on the way. -/
namespace Go.Proofs.Ytiiokkllmchohaa
open Go.RowKit

/-- The result's box, the reader, the program's box; the classes that were read so far. -/
structure DSt (s : List UInt8) (w W : World) (i : Nat) (bad : Bool) (pv : Value) (cl : List LClass) (cells : List Value) (G : Addr → Option Value) : Prop where
  mods : Mods (fun _ => False) w W
  size : w.heap.size + 3 ≤ W.heap.size
  b0 : Blk W w.heap.size 24 [.slice none 0 0]
  rd : RdAt W (w.heap.size + 1) s i bad
  b2 : Blk W (w.heap.size + 2) 24 [pv]
  le : i ≤ s.length
  row : W.ownsRow (w.heap.size + 3) 34 3 pv cl.length cells
  cls : ∀ (j : Nat) (x : LClass), cl[j]? = some x → ClassAt G cells x j
/-- Within a class: its box is block N; the done classes lie below. -/
structure DX (s : List UInt8) (w W : World) (N i : Nat) (bad : Bool) (pv : Value) (cl : List LClass) (cells xc : List Value) : Prop where
  st : DSt s w W i bad pv cl cells (cellB N t4 W)
  bx : Blk W N 34 xc
  n3 : w.heap.size + 3 ≤ N
  old : ∀ k, pv.ownBlock = some k → k < N
/-- With its fields and the methods that were read so far. -/
structure DM (s : List UInt8) (w W : World) (N i : Nat) (bad : Bool) (pv : Value) (cl : List LClass) (cells : List Value) (sup : Int) (vf : Value) (fields : List Int) (vm : Value) (ml : List LMeth) (mc : List Value) : Prop where
  dx : DX s w W N i bad pv cl cells [.int .i64 sup, vf, vm]
  fl : SlAt 1 (GInt (cellS tT W)) vf fields
  row : W.ownsRow (N + 1) 58 7 vm ml.length mc
  mth : ∀ (j : Nat) (m : LMeth), ml[j]? = some m → MethAt (cellS t3 W) mc m j
section
variable {s : List UInt8} {w W W' : World} {N i i' : Nat} {bad bad' : Bool} {pv : Value} {cl : List LClass} {cells xc : List Value} {G : Addr → Option Value}
theorem DSt.call (h : DSt s w W i bad pv cl cells G) {G' : Addr → Option Value} (hG : GLe G G') (hm : Mods (fun k => k = w.heap.size + 1) W W') (hr : RdAt W' (w.heap.size + 1) s i' bad') (hl : i' ≤ s.length) : DSt s w W' i' bad' pv cl cells G' :=
  ⟨h.mods.trans hm (fun k hk e => by omega), Nat.le_trans h.size hm.size, h.b0.mods hm (by omega), hr, h.b2.mods hm (by omega), hl, own_mods h.row hm (fun g e f => by have := (h.row.lt g e).1; omega), fun j x hj => (h.cls j x hj).keep hG (fun _ _ => rfl)⟩
theorem DSt.far (h : DSt s w W i bad pv cl cells G) {G' : Addr → Option Value} (hG : GLe G G') {S : Nat → Prop} (hm : Mods S W W') (hS : ∀ k, S k → w.heap.size + 3 ≤ k ∧ ¬ pv.ownBlock = some k) : DSt s w W' i bad pv cl cells G' :=
  ⟨h.mods.trans hm (fun k hk e => by have := hS k e; omega), Nat.le_trans h.size hm.size, h.b0.mods hm (fun e => by have := hS _ e; omega), Blk.mods h.rd hm (fun e => by have := hS _ e; omega), h.b2.mods hm (fun e => by have := hS _ e; omega), h.le, own_mods h.row hm (fun g e f => (hS g f).2 e), fun j x hj => (h.cls j x hj).keep hG (fun _ _ => rfl)⟩
theorem DX.start (h : DSt s w W i bad pv cl cells (cellS t4 W)) (cs : Array Value) : DX s w (W.alloc (.cells cs 34)) W.heap.size i bad pv cl cells cs.toList := by
  have hm := (Mods.refl (fun _ => False) W).alloc (.cells cs 34)
  refine ⟨h.far ?_ hm (fun _ f => f.elim), Blk.new W cs 34, h.size, fun k hk => (h.row.lt k hk).2⟩
  exact (cellS_B t4 W (Nat.le_refl _)).trans (cellB_mods hm (fun _ _ _ _ _ _ f => f))
theorem DX.call (h : DX s w W N i bad pv cl cells xc) (hm : Mods (fun k => k = w.heap.size + 1) W W') (hr : RdAt W' (w.heap.size + 1) s i' bad') (hl : i' ≤ s.length) : DX s w W' N i' bad' pv cl cells xc :=
  have hn := h.n3
  ⟨h.st.call (cellB_mods hm (fun k t c _ hb ht e => by
      subst e
      have := hb.uniq h.st.rd
      subst this
      exact absurd ht (by decide))) hm hr hl, h.bx.mods hm (by omega), hn, h.old⟩
/-- A change in blocks behind the class's box, or of it. -/
theorem DX.far (h : DX s w W N i bad pv cl cells xc) {S : Nat → Prop} (hm : Mods S W W') (hS : ∀ k, S k → N < k) : DX s w W' N i bad pv cl cells xc :=
  have hn := h.n3
  ⟨h.st.far (cellB_mods hm (fun k t c hk _ _ e => by have := hS k e; omega)) hm (fun k e => ⟨by have := hS k e; omega, fun f => by have := hS k e; have := h.old k f; omega⟩), h.bx.mods hm (fun e => by have := hS _ e; omega), hn, h.old⟩
theorem DX.put (h : DX s w W N i bad pv cl cells xc) (j : Nat) (v : Value) : DX s w (W.setCell ⟨N, j, none⟩ v) N i bad pv cl cells (xc.set j v) :=
  have hn := h.n3
  have hm := setMods W N j v
  ⟨h.st.far (cellB_mods hm (fun k t c hk _ _ e => by omega)) hm (fun k e => ⟨by omega, fun f => by have := h.old k f; omega⟩), h.bx.setCell j v, hn, h.old⟩
theorem DX.keepT (h : DX s w W N i bad pv cl cells xc) {T : List TypeId} (hT : 94 ∉ T) (hm : Mods (fun k => k = w.heap.size + 1) W W') : GLe (cellS T W) (cellS T W') :=
  keepS hm (fun _k e => ⟨_, _, e ▸ h.st.rd, hT⟩)
theorem DX.keepPut (h : DX s w W N i bad pv cl cells xc) {T : List TypeId} (hT : 34 ∉ T) (j : Nat) (v : Value) : GLe (cellS T W) (cellS T (W.setCell ⟨N, j, none⟩ v)) :=
  keepS (setMods W N j v) (fun _k e => ⟨_, _, e ▸ h.bx, hT⟩)
variable {sup : Int} {vf vm : Value} {fields : List Int} {ml : List LMeth} {mc : List Value}
theorem DM.call (h : DM s w W N i bad pv cl cells sup vf fields vm ml mc) (hm : Mods (fun k => k = w.heap.size + 1) W W') (hr : RdAt W' (w.heap.size + 1) s i' bad') (hl : i' ≤ s.length) : DM s w W' N i' bad' pv cl cells sup vf fields vm ml mc :=
  ⟨h.dx.call hm hr hl, ints_keep (h.dx.keepT (by decide) hm) h.fl, own_mods h.row hm (fun g e f => by have := (h.row.lt g e).1; have := h.dx.n3; omega), fun j m hj => (h.mth j m hj).keep (h.dx.keepT (by decide) hm) (fun _ _ => rfl)⟩
theorem DM.idle (h : DM s w W N i bad pv cl cells sup vf fields vm ml mc) (hm : Mods (fun _ => False) W W') : DM s w W' N i bad pv cl cells sup vf fields vm ml mc :=
  ⟨h.dx.far hm (fun _ f => f.elim), ints_keep (keepS hm (fun _ f => f.elim)) h.fl, own_mods h.row hm (fun _ _ f => f), fun j m hj => (h.mth j m hj).keep (keepS hm (fun _ f => f.elim)) (fun _ _ => rfl)⟩
/-- A method more. -/
theorem DM.app (h : DM s w W N i bad pv cl cells sup vf fields vm ml mc) {m : LMeth} {va vc vfr v' : Value} (hv : GVals (cellS t3 W) m va vc vfr) (hown : W'.ownsRow (N + 1) 58 7 v' (ml.length + 1) (mc ++ [.int .i64 m.slot, va, .int .i64 m.ret, .int .i64 m.locals, .int .i64 m.stack, vc, vfr])) (hm : Mods (fun k => vm.ownBlock = some k) W W') :
    DM s w (W'.setCell ⟨N, 2, none⟩ v') N i bad pv cl cells sup vf fields v' (ml ++ [m]) (mc ++ [.int .i64 m.slot, va, .int .i64 m.ret, .int .i64 m.locals, .int .i64 m.stack, vc, vfr]) := by
  have hx := h.dx.far hm (fun k e => by have := (h.row.lt k e).1; omega)
  have hk : ∀ {T : List TypeId}, 58 ∉ T → 34 ∉ T → GLe (cellS T W) (cellS T (W'.setCell ⟨N, 2, none⟩ v')) := fun h1 h2 => (keepS hm (fun k e => by obtain ⟨c, hc⟩ := own_blk h.row e; exact ⟨_, _, hc, h1⟩)).trans (hx.keepPut h2 2 v')
  have hcl : mc.length = ml.length * 7 := h.row.1
  refine ⟨hx.put 2 v', ints_keep (hk (by decide) (by decide)) h.fl, ?_, fun j x hj => ?_⟩
  · rw [List.length_append]
    exact own_mods (S := fun k => k = N) hown (setMods W' N 2 v') (fun g e f => by have := (hown.lt g e).1; omega)
  · rcases Nat.lt_or_ge j ml.length with hlt | hge
    · rw [List.getElem?_append_left hlt] at hj
      refine (h.mth j x hj).keep (hk (by decide) (by decide)) (fun k hk => ?_)
      rw [List.getElem?_append_left (by omega)]
    · rw [List.getElem?_append_right hge] at hj
      have hj0 : j - ml.length = 0 := by
        rcases Nat.eq_zero_or_pos (j - ml.length) with e | e
        · exact e
        · rw [List.getElem?_eq_none (by simp; omega)] at hj; cases hj
      rw [hj0] at hj
      simp at hj
      subst hj
      have hjl : j = ml.length := by omega
      refine ⟨va, vc, vfr, hv.keep (hk (by decide) (by decide)), ?_, ?_, ?_, ?_, ?_, ?_, ?_⟩ <;> rw [List.getElem?_append_right (by omega), hcl, hjl]
      · simp
      · rw [show ml.length * 7 + 1 - ml.length * 7 = 1 by omega]; rfl
      · rw [show ml.length * 7 + 2 - ml.length * 7 = 2 by omega]; rfl
      · rw [show ml.length * 7 + 3 - ml.length * 7 = 3 by omega]; rfl
      · rw [show ml.length * 7 + 4 - ml.length * 7 = 4 by omega]; rfl
      · rw [show ml.length * 7 + 5 - ml.length * 7 = 5 by omega]; rfl
      · rw [show ml.length * 7 + 6 - ml.length * 7 = 6 by omega]; rfl
theorem own_methsS {base : Nat} {v : Value} (h : W.ownsRow base 58 7 v ml.length mc) (hf : ∀ (j : Nat) (m : LMeth), ml[j]? = some m → MethAt (cellS t3 W) mc m j) : SlAt 7 (GMeth (cellS t4 W)) v ml := by
  have hle : GLe (cellS t3 W) (cellS t4 W) := cellS_sub (fun t => t3_t4) W
  rcases h.2 with ⟨rfl, h0⟩ | ⟨g, cap, cur, rfl, hb, hg, hnc, hcm, hcs, htk⟩
  · obtain rfl : ml = [] := List.eq_nil_of_length_eq_zero h0
    exact ⟨none, 0, 0, 0, rfl, Nat.le_refl _, ⟨fun e => absurd rfl e, .inl ⟨rfl, rfl⟩⟩, fun j x hj => by simp at hj⟩
  · have hB : Blk W g 58 cur.toList := by unfold Blk; simpa using hg
    refine ⟨some ⟨g, 0, none⟩, g, 0, cap, rfl, hnc, ⟨fun _ => rfl, .inr (.inl rfl)⟩, fun j x hj => ?_⟩
    obtain ⟨va, vc, vf, f0, f1, f2, f3, f4, f5, f6, f7⟩ := hf j x hj
    have hget : ∀ (k : Nat) (u : Value), mc[k]? = some u → cellS t4 W ⟨g, k, none⟩ = some u := fun k u hk => by
      rw [cellS_blk hB (by simp)]
      rw [← htk, List.getElem?_take] at hk
      split at hk
      · exact hk
      · cases hk
    exact ⟨va, vc, vf, f0.keep hle, by rw [Nat.zero_add]; exact hget _ _ f1, by rw [Nat.zero_add]; exact hget _ _ f2, by rw [Nat.zero_add]; exact hget _ _ f3, by rw [Nat.zero_add]; exact hget _ _ f4, by rw [Nat.zero_add]; exact hget _ _ f5, by rw [Nat.zero_add]; exact hget _ _ f6, by rw [Nat.zero_add]; exact hget _ _ f7⟩
/-- A class more. -/
theorem DM.fin (h : DM s w W N i bad pv cl cells sup vf fields vm ml mc) {v' : Value} (hown : W'.ownsRow (w.heap.size + 3) 34 3 v' (cl.length + 1) (cells ++ [.int .i64 sup, vf, vm])) (hm : Mods (fun k => pv.ownBlock = some k) W W') :
    DSt s w (W'.setCell ⟨w.heap.size + 2, 0, none⟩ v') i bad v' (cl ++ [⟨sup, fields, ml⟩]) (cells ++ [.int .i64 sup, vf, vm]) (cellS t4 (W'.setCell ⟨w.heap.size + 2, 0, none⟩ v')) := by
  have hst := h.dx.st
  have hr := fun k e => (hst.row.lt k e).1
  have b2' := hst.b2.mods hm (fun e => by have := hr _ e; omega)
  have hm2 := setMods W' (w.heap.size + 2) 0 v'
  have hk : ∀ {T : List TypeId}, 34 ∉ T → 24 ∉ T → GLe (cellS T W) (cellS T (W'.setCell ⟨w.heap.size + 2, 0, none⟩ v')) := fun h1 h2 => (keepS hm (fun k e => by obtain ⟨c, hc⟩ := own_blk hst.row e; exact ⟨_, _, hc, h1⟩)).trans (keepS hm2 (fun k e => ⟨_, _, e ▸ b2', h2⟩))
  have hcl : cells.length = cl.length * 3 := hst.row.1
  refine ⟨(hst.mods.trans hm (fun k hk e => by have := hr k e; omega)).trans hm2 (fun k hk e => by omega), by have := hst.size; have := hm.size; have := hm2.size; omega, (hst.b0.mods hm (fun e => by have := hr _ e; omega)).mods hm2 (by omega), Blk.mods (Blk.mods hst.rd hm (fun e => by have := hr _ e; omega)) hm2 (by omega), b2'.setCell 0 v', hst.le, ?_, fun j x hj => ?_⟩
  · rw [List.length_append]
    exact own_mods (S := fun k => k = w.heap.size + 2) hown hm2 (fun g e f => by have := (hown.lt g e).1; omega)
  · rcases Nat.lt_or_ge j cl.length with hlt | hge
    · rw [List.getElem?_append_left hlt] at hj
      refine (hst.cls j x hj).keep ((cellB_le N t4 W).trans (hk (by decide) (by decide))) (fun k hk => ?_)
      rw [List.getElem?_append_left (by omega)]
    · rw [List.getElem?_append_right hge] at hj
      have hj0 : j - cl.length = 0 := by
        rcases Nat.eq_zero_or_pos (j - cl.length) with e | e
        · exact e
        · rw [List.getElem?_eq_none (by simp; omega)] at hj; cases hj
      rw [hj0] at hj
      simp at hj
      subst hj
      have hjl : j = cl.length := by omega
      refine ⟨vf, vm, ?_, ?_, ?_, ints_keep ((cellS_sub (by simp) W).trans (hk (T := t4) (by decide) (by decide))) h.fl, meths_keep (hk (by decide) (by decide)) (own_methsS h.row h.mth)⟩ <;> rw [List.getElem?_append_right (by omega), hcl, hjl]
      · simp
      · rw [show cl.length * 3 + 1 - cl.length * 3 = 1 by omega]; rfl
      · rw [show cl.length * 3 + 2 - cl.length * 3 = 2 by omega]; rfl
theorem DSt.prog (h : DSt s w W i bad pv cl cells (cellS t4 W)) : SlAt 3 (GClass (cellS t5 W)) pv cl := by
  have hle : GLe (cellS t4 W) (cellS t5 W) := cellS_sub (fun t => t4_t5) W
  rcases h.row.2 with ⟨rfl, h0⟩ | ⟨g, cap, cur, rfl, hb, hg, hnc, hcm, hcs, htk⟩
  · obtain rfl : cl = [] := List.eq_nil_of_length_eq_zero h0
    exact ⟨none, 0, 0, 0, rfl, Nat.le_refl _, ⟨fun e => absurd rfl e, .inl ⟨rfl, rfl⟩⟩, fun j x hj => by simp at hj⟩
  · have hB : Blk W g 34 cur.toList := by unfold Blk; simpa using hg
    refine ⟨some ⟨g, 0, none⟩, g, 0, cap, rfl, hnc, ⟨fun _ => rfl, .inr (.inl rfl)⟩, fun j x hj => ?_⟩
    obtain ⟨vf, vm, f0, f1, f2, f3, f4⟩ := h.cls j x hj
    have hget : ∀ (k : Nat) (u : Value), cells[k]? = some u → cellS t5 W ⟨g, k, none⟩ = some u := fun k u hk => by
      rw [cellS_blk hB (by simp)]
      rw [← htk, List.getElem?_take] at hk
      split at hk
      · exact hk
      · cases hk
    exact ⟨vf, vm, by rw [Nat.zero_add]; exact hget _ _ f0, by rw [Nat.zero_add]; exact hget _ _ f1, by rw [Nat.zero_add]; exact hget _ _ f2, ints_keep hle f3, meths_keep hle f4⟩
end
end Go.Proofs.Ytiiokkllmchohaa
/- The document's answer reads a program. -/
namespace Go.Proofs.Ytiiokkllmchohaa
open Go.RowKit
attribute [local go_sem ↓] Go.wp_at_zero Go.wp_at_succ

theorem rdCl_succ {s : List UInt8} {n i : Nat} {x : LClass} {t : Nat × Bool} (h : rdCl s i = (x, t)) : rdL (rdCl s) (n + 1) i false = (x :: (rdL (rdCl s) n t.1 t.2).1, (rdL (rdCl s) n t.1 t.2).2) := by rw [rdL_succ, h]
set_option maxHeartbeats 4000000 in
set_option maxRecDepth 100000 in
theorem ref_decode (s : List UInt8) (w : World) (hs : s.length ≤ 1073741824) (hz : (rdP s).2.2 = false → szProg (rdP s).1 ≤ 4194304) :
    Calls Try.prog 20 #[.string ⟨s.toArray⟩] w fun e w' =>
      (∀ p, decI s = some p → ∃ v, e = .returned (.tuple #[.agg #[v], .int .i64 0]) ∧ RProg w' v p) ∧ (decI s = none → e = .returned (.tuple #[.agg #[.slice none 0 0], .int .i64 1])) ∧ Below w.heap.size w w' := by
  obtain ⟨iM, hM, hM0, hM1, hM2⟩ := info_parts infoMeth
  obtain ⟨iC, hC, hC0, hC1, hC2⟩ := info_parts infoClass
  obtain ⟨n, hn⟩ : ∃ n, n = rdM s 0 false := ⟨_, rfl⟩
  obtain ⟨R, hR⟩ : ∃ R, R = rdP s := ⟨_, rfl⟩
  have n40 := rdM_40 s 0 false
  rw [← hn] at n40
  have e1 : n.2.1 ≤ s.length := by rw [hn]; exact rdM_le _ (Nat.zero_le _)
  obtain ⟨nn, hnn⟩ := Int.eq_ofNat_of_zero_le n40.1
  have HR : Hid (R = rdL (rdCl s) nn n.2.1 n.2.2) := by
    show _ = _
    rw [hR]
    unfold rdP
    simp only
    rw [← hn, hnn]
    rfl
  have HRP := hide hR
  have Hn := hide hn
  have Hnn := hide hnn
  have nn40 : nn ≤ 40 := by omega
  have S0 : Hid (DSt s w (((w.alloc (.cells #[.slice none 0 0] 24)).alloc (.cells #[.string ⟨s.toArray⟩, .int .i64 0, .bool false] 94)).alloc (.cells #[.slice none 0 0] 24)) 0 false (.slice none 0 0) [] [] (fun _ => none)) := by
    refine ⟨(((Mods.refl _ w).alloc _).alloc _).alloc _, by simp, ((Blk.new w _ _).alloc _).alloc _, ?_, ?_, Nat.zero_le _, World.ownsRow_nil _ _ _ _, fun j x hj => by simp at hj⟩
    · show Blk _ _ _ _
      have := (Blk.new (w.alloc (.cells #[.slice none 0 0] 24)) #[.string ⟨s.toArray⟩, .int .i64 0, .bool false] 94).alloc (.cells #[.slice none 0 0] 24)
      rw [show (w.alloc (.cells #[.slice none 0 0] 24)).heap.size = w.heap.size + 1 by simp] at this
      exact this
    · have := Blk.new ((w.alloc (.cells #[.slice none 0 0] 24)).alloc (.cells #[.string ⟨s.toArray⟩, .int .i64 0, .bool false] 94)) #[.slice none 0 0] 24
      simpa using this
  clear hn hR hnn n40
  go_enter Try.func20, Try.ntmps20
  go_wp2_with fail
  generalize ((w.alloc _).alloc _).alloc _ = W0 at *
  refine Calls.mono (ref_many s 0 false (w.heap.size + 1) _ (unhide S0).rd hs (Nat.zero_le _)) ?_
  rintro e w1 ⟨rfl, hR, hm⟩
  rw [← unhide Hn] at *
  have S1 : Hid (DSt s w w1 n.2.1 n.2.2 (.slice none 0 0) [] [] (cellS t4 w1)) := (unhide S0).call (fun _ _ h => by cases h) hm hR e1
  clear hR hm S0
  rw [unhide Hnn]
  go_wp2_with fail
  go_loopw [7] (fun s7 wr => ∃ (c j : Nat) (q : Bool) (cl : List LClass) (cells : List Value) (pa : Option Addr) (pcap : Nat), c ≤ nn ∧ s7 = .int .i64 c ∧ cl.length = c ∧ R = (cl ++ (rdL (rdCl s) (nn - c) j q).1, (rdL (rdCl s) (nn - c) j q).2) ∧
      DSt s w wr j q (.slice pa cl.length pcap) cl cells (cellS t4 wr)) (fun s7 _ => nn - (intOf s7).toNat)
  case atStart => exact ⟨0, n.2.1, n.2.2, [], [], none, 0, Nat.zero_le _, rfl, rfl, by rw [unhide HR]; rfl, unhide S1⟩
  case round =>
    obtain ⟨c, j, q, cl, cells, pa, pcap, hc, rfl, hcl, hRe, hD⟩ := hrel
    have HD := hide hD
    have HRE := hide hRe
    have HCL := hide hcl
    have d2 : wr.cell? ⟨w.heap.size + 1, 2, none⟩ = some (.bool q) := hD.rd.cell 2
    clear hD hRe hcl S1
    by_cases hgo : c < nn ∧ q = false
    · obtain ⟨hlt, rfl⟩ := hgo
      have hlt' : (c : Int) < (nn : Int) := by omega
      have hX := (unhide HD).size
      have T0 := hide (DX.start (unhide HD) #[.int .i64 0, .slice none 0 0, .slice none 0 0])
      have hj := (unhide HD).le
      obtain ⟨p1, hp1⟩ : ∃ p, p = rdN s j false := ⟨_, rfl⟩
      obtain ⟨p2, hp2⟩ : ∃ p, p = rdM s p1.2.1 p1.2.2 := ⟨_, rfl⟩
      obtain ⟨p3, hp3⟩ : ∃ p, p = rdTs s p2.1.toNat p2.2.1 p2.2.2 := ⟨_, rfl⟩
      obtain ⟨p4, hp4⟩ : ∃ p, p = rdM s p3.2.1 p3.2.2 := ⟨_, rfl⟩
      obtain ⟨p5, hp5⟩ : ∃ p, p = rdL (rdMt s) p4.1.toNat p4.2.1 p4.2.2 := ⟨_, rfl⟩
      have HI : Hid (rdCl s j = (⟨p1.1, p3.1, p5.1⟩, p5.2)) := by show _ = _; rw [hp5, hp4, hp3, hp2, hp1]; rfl
      have j1 : p1.2.1 ≤ s.length := by rw [hp1]; exact rdN_le _ hj
      have j2 : p2.2.1 ≤ s.length := by rw [hp2]; exact rdM_le _ j1
      have j3 : p3.2.1 ≤ s.length := by rw [hp3]; exact rdTs_le _ _ _ j2
      have j4 : p4.2.1 ≤ s.length := by rw [hp4]; exact rdM_le _ j3
      have p240 := rdM_40 s p1.2.1 p1.2.2
      rw [← hp2] at p240
      have p440 := rdM_40 s p3.2.1 p3.2.2
      rw [← hp4] at p440
      obtain ⟨fn, hfn⟩ := Int.eq_ofNat_of_zero_le p240.1
      obtain ⟨mn, hmn⟩ := Int.eq_ofNat_of_zero_le p440.1
      have fn40 : fn ≤ 40 := by omega
      have mn40 : mn ≤ 40 := by omega
      have HP1 := hide hp1
      have HP2 := hide hp2
      have HP3 : Hid (p3 = rdTs s fn p2.2.1 p2.2.2) := by show _ = _; rw [hp3, hfn]; rfl
      have HP4 := hide hp4
      have HP5 : Hid (p5 = rdL (rdMt s) mn p4.2.1 p4.2.2) := by show _ = _; rw [hp5, hmn]; rfl
      have HFN := hide hfn
      have HMN := hide hmn
      clear hp1 hp2 hp3 hp4 hp5 hfn hmn p240 p440
      go_wp2_with fail
      obtain ⟨wo, rfl⟩ : ∃ wo : World, wo = wr := ⟨_, rfl⟩
      generalize wo.alloc _ = Z0 at *
      clear d2
      refine Calls.mono (ref_rd s j false (w.heap.size + 1) _ (unhide T0).st.rd hs hj) ?_
      rintro e z1 ⟨rfl, hR, hm⟩
      rw [← unhide HP1] at *
      have T1 := hide ((unhide T0).call hm hR j1)
      obtain ⟨⟨u0, u1, u2⟩, v0, v1, v2⟩ := blk3g (unhide T1).bx
      clear hR hm T0
      go_wp2_with fail
      have T2 := hide ((unhide T1).put 0 (.int .i64 p1.1))
      generalize z1.setCell _ _ = Z1 at *
      clear u0 u1 u2 v0 v1 v2 T1
      refine Calls.mono (ref_many s p1.2.1 p1.2.2 (w.heap.size + 1) _ (unhide T2).st.rd hs j1) ?_
      rintro e z2 ⟨rfl, hR, hm⟩
      rw [← unhide HP2] at *
      have T3 := hide ((unhide T2).call hm hR j2)
      clear hR hm T2
      rw [unhide HFN]
      go_wp2_with fail
      refine Calls.mono (ref_rdtypes s fn p2.2.1 p2.2.2 (w.heap.size + 1) _ (unhide T3).st.rd hs j2 fn40) ?_
      rintro e z3 ⟨vl, rfl, hrow, hR, hm⟩
      rw [← unhide HP3] at *
      obtain ⟨la, lc, rfl⟩ := own_form hrow
      have T4 := hide ((unhide T3).call hm hR j3)
      have L4 := hide (own_intsS rfl hrow)
      obtain ⟨⟨u0, u1, u2⟩, v0, v1, v2⟩ := blk3g (unhide T4).bx
      clear hR hm T3 hrow
      go_wp2_with fail
      have T5 := hide ((unhide T4).put 1 (.slice la p3.1.length lc))
      have L5 := hide (ints_keep ((unhide T4).keepPut (T := tT) (by decide) 1 (.slice la p3.1.length lc)) (unhide L4))
      generalize z3.setCell _ _ = Z3 at *
      clear u0 u1 u2 v0 v1 v2 T4 L4
      refine Calls.mono (ref_many s p3.2.1 p3.2.2 (w.heap.size + 1) _ (unhide T5).st.rd hs j3) ?_
      rintro e z4 ⟨rfl, hR, hm⟩
      rw [← unhide HP4] at *
      have T6 : Hid (DM s w z4 wo.heap.size p4.2.1 p4.2.2 (.slice pa cl.length pcap) cl cells p1.1 (.slice la p3.1.length lc) p3.1 (.slice none 0 0) [] []) :=
        ⟨(unhide T5).call hm hR j4, ints_keep ((unhide T5).keepT (by decide) hm) (unhide L5), World.ownsRow_nil _ _ _ _, fun j m hj => by simp at hj⟩
      clear hR hm T5 L5
      rw [unhide HMN]
      go_wp2_with fail
      go_loopw [10] (fun s10 wr => ∃ (k o : Nat) (u : Bool) (ml : List LMeth) (mc : List Value) (va : Option Addr) (vcap : Nat), k ≤ mn ∧ s10 = .int .i64 k ∧ ml.length = k ∧ p5 = (ml ++ (rdL (rdMt s) (mn - k) o u).1, (rdL (rdMt s) (mn - k) o u).2) ∧
          DM s w wr wo.heap.size o u (.slice pa cl.length pcap) cl cells p1.1 (.slice la p3.1.length lc) p3.1 (.slice va ml.length vcap) ml mc) (fun s10 _ => mn - (intOf s10).toNat)
      case atStart => exact ⟨0, p4.2.1, p4.2.2, [], [], none, 0, Nat.zero_le _, rfl, rfl, by rw [unhide HP5]; rfl, unhide T6⟩
      case round =>
        obtain ⟨k, o, u, ml, mc, va, vcap, hk, rfl, hml, hpe, hDM⟩ := hrel
        have HM := hide hDM
        have HPE := hide hpe
        have HML := hide hml
        have d2 : wr.cell? ⟨w.heap.size + 1, 2, none⟩ = some (.bool u) := hDM.dx.st.rd.cell 2
        clear hDM hpe hml T6
        by_cases hgo : k < mn ∧ u = false
        · obtain ⟨hkt, rfl⟩ := hgo
          have hkt' : (k : Int) < (mn : Int) := by omega
          have ho := (unhide HM).dx.st.le
          go_wp2_with fail
          refine Calls.mono (ref_rmethod s o (w.heap.size + 1) _ (unhide HM).dx.st.rd hs ho) ?_
          rintro e y1 ⟨aa, ca, fa, ac, cc, fc, rfl, hv, hR, hm⟩
          have hml40 : ml.length ≤ 40 := by have := unhide HML; omega
          have hole := rdMt_le s ho
          obtain ⟨m, hme⟩ : ∃ m, m = (rdMt s o).1 := ⟨_, rfl⟩
          obtain ⟨t, hte⟩ : ∃ t, t = (rdMt s o).2 := ⟨_, rfl⟩
          rw [← hme] at hv ⊢
          rw [← hte] at hR hole
          have HME : Hid (rdMt s o = (m, t)) := by show _ = _; rw [hme, hte]
          clear hme hte
          have U1 := (unhide HM).call hm hR hole
          have U2 := U1.idle ((Mods.refl (fun _ => False) y1).alloc (.cells #[.int .i64 m.slot, .slice aa m.args.length ac, .int .i64 m.ret, .int .i64 m.locals, .int .i64 m.stack, .slice ca m.code.length cc, .slice fa m.frames.length fc] 58))
          have V2 : GVals (cellS t3 (y1.alloc (.cells #[.int .i64 m.slot, .slice aa m.args.length ac, .int .i64 m.ret, .int .i64 m.locals, .int .i64 m.stack, .slice ca m.code.length cc, .slice fa m.frames.length fc] 58))) m (.slice aa m.args.length ac) (.slice ca m.code.length cc) (.slice fa m.frames.length fc) := GVals.keep (keepS ((Mods.refl (fun _ => False) y1).alloc _) (fun _ f => f.elim)) hv
          have hN := U1.dx.bx.lt
          obtain ⟨⟨x0, x1, x2⟩, xf0, xf1, xf2⟩ := blk3g U1.dx.bx
          obtain ⟨v', y3, happ, hown3, hm3, hat3⟩ := app_ex (P := Try.prog) (W := y1.alloc (.cells #[.int .i64 m.slot, .slice aa m.args.length ac, .int .i64 m.ret, .int .i64 m.locals, .int .i64 m.stack, .slice ca m.code.length cc, .slice fa m.frames.length fc] 58)) 32 32 58 iM (.agg #[.int .i64 0, .slice none 0 0, .int .i64 0, .int .i64 0, .int .i64 0, .slice none 0 0, .slice none 0 0]) 7 104 Try.underlying32 hM hM0 hM1 hM2 rfl (by decide) (wo.heap.size + 1) (.slice va ml.length vcap) ml.length mc U2.row #[.int .i64 m.slot, .slice aa m.args.length ac, .int .i64 m.ret, .int .i64 m.locals, .int .i64 m.stack, .slice ca m.code.length cc, .slice fa m.frames.length fc] rfl (by simp [Value.oneCell']) (y1.heap.size + 1) (by simp) (by unfold maxLen; omega) (by omega) (by simp; omega)
          obtain ⟨va2, vcap2, rfl⟩ := own_form hown3
          have U3 := U2.dx.far hm3 (fun k e => by have := (U2.row.lt k e).1; omega)
          obtain ⟨⟨q0, q1, q2⟩, qf0, qf1, qf2⟩ := blk3g U3.bx
          have U4 := hide (U2.app V2 hown3 hm3)
          clear d2 hR hm hv U1 U2 V2 U3 hown3 hm3 hat3
          go_wp2_with (at_builtin; refine wpList_append_run rfl (.tmp 59) (.tmp 61) 32 rfl _ _ rfl rfl happ ?_)
          refine ⟨⟨k + 1, t.1, t.2, ml ++ [m], _, va2, vcap2, by omega, by go_num, by rw [List.length_append, unhide HML]; rfl, ?_, by rw [List.length_append]; exact unhide U4⟩, by simp [intOf]; omega⟩
          rw [unhide HPE, (by omega : mn - k = (mn - (k + 1)) + 1), rdL_succ, unhide HME]
          simp
        · have hp2 : p5 = (ml, o, u) := by
            rw [unhide HPE]
            rcases Nat.lt_or_ge k mn with g | g
            · have : u = true := by cases u <;> simp_all
              rw [this, rdL_bad]; simp
            · rw [(by omega : mn - k = 0)]; simp [rdL]
          have hsplit : (k < mn ∧ u = true) ∨ ¬ k < mn := by
            rcases Nat.lt_or_ge k mn with g | g
            · exact .inl ⟨g, by cases u <;> simp_all⟩
            · exact .inr (by omega)
          subst hp2
          clear hgo HPE HP5
          have DMx := unhide HM
          obtain ⟨⟨x0, x1, x2⟩, xf0, xf1, xf2⟩ := blk3g DMx.dx.bx
          have b2 : wr.cell? ⟨w.heap.size + 2, 0, none⟩ = some (.slice pa cl.length pcap) := DMx.dx.st.b2.cell 0
          have hcl40 : cl.length ≤ 40 := by have := unhide HCL; omega
          obtain ⟨v', y3, happ, hown3, hm3, hat3⟩ := app_ex (P := Try.prog) (W := wr) 22 22 34 iC (.agg #[.int .i64 0, .slice none 0 0, .slice none 0 0]) 3 56 Try.underlying22 hC hC0 hC1 hC2 rfl (by decide) (w.heap.size + 3) (.slice pa cl.length pcap) cl.length cells DMx.dx.st.row #[.int .i64 p1.1, .slice la p3.1.length lc, .slice va ml.length vcap] rfl (by simp [Value.oneCell']) wr.heap.size rfl (by unfold maxLen; omega) (by omega) DMx.dx.st.size
          obtain ⟨pa2, pcap2, rfl⟩ := own_form hown3
          have b2' := DMx.dx.st.b2.mods hm3 (fun e => by have := (DMx.dx.st.row.lt _ e).1; omega)
          have b20 : y3.cell? ⟨w.heap.size + 2, 0, none⟩ = some (.slice pa cl.length pcap) := b2'.cell 0
          have b2f := b2'.frozen 0
          have FIN := hide (DMx.fin hown3 hm3)
          have HPX : Hid (R = (cl ++ [⟨p1.1, p3.1, ml⟩] ++ (rdL (rdCl s) (nn - (c + 1)) o u).1, (rdL (rdCl s) (nn - (c + 1)) o u).2)) := by
            show _ = _
            rw [unhide HRE, (by omega : nn - c = (nn - (c + 1)) + 1), rdL_succ, unhide HI]
            simp
          clear DMx hown3 hm3 hat3 b2' HM
          rcases hsplit with ⟨hkt, rfl⟩ | hkt
          all_goals
            first
              | (have hkt' : (k : Int) < (mn : Int) := by omega)
              | (have hkt' : ¬ (k : Int) < (mn : Int) := by omega)
            go_wp2_with (at_builtin; refine wpList_append_run rfl (.tmp 65) (.tmp 67) 22 rfl _ _ rfl rfl happ ?_)
            refine ⟨⟨c + 1, o, _, cl ++ [⟨p1.1, p3.1, ml⟩], _, pa2, pcap2, by omega, by go_num, by rw [List.length_append, unhide HCL]; rfl, unhide HPX, by rw [List.length_append]; exact unhide FIN⟩, by simp [intOf]; omega⟩
    · have hr2 : R = (cl, j, q) := by
        rw [unhide HRE]
        rcases Nat.lt_or_ge c nn with g | g
        · have : q = true := by cases q <;> simp_all
          rw [this, rdL_bad]; simp
        · rw [(by omega : nn - c = 0)]; simp [rdL]
      have hsplit : (c < nn ∧ q = true) ∨ ¬ c < nn := by
        rcases Nat.lt_or_ge c nn with g | g
        · exact .inl ⟨g, by cases q <;> simp_all⟩
        · exact .inr (by omega)
      have hRP := unhide HRP
      rw [hr2] at hRP
      have DS := unhide HD
      have HDI : Hid (decI s = if q = false ∧ formI cl = 0 ∧ encProg cl = s then some cl else none) := by
        show _ = _
        unfold decI
        rw [← hRP]
      have hzz : q = false → szProg cl ≤ 4194304 := fun hq => by
        rw [← hRP] at hz
        exact hz hq
      have hwf : wfProg cl := by
        have := rdP_wf s
        rw [← hRP] at this
        exact this
      have HP5 := hide DS.prog
      have hmd := DS.mods
      have b0 := DS.b0
      have b00 : wr.cell? ⟨w.heap.size, 0, none⟩ = some (.slice none 0 0) := b0.cell 0
      have b0f := b0.frozen 0
      have b2 : wr.cell? ⟨w.heap.size + 2, 0, none⟩ = some (.slice pa cl.length pcap) := DS.b2.cell 0
      have hsz := DS.size
      have HMD := hide hmd
      have HB0 := hide b0
      clear hgo HRE HR hz hr2 HRP HD DS hmd b0
      cases q with
      | true =>
        have HN : Hid (decI s = none) := by show _ = _; rw [unhide HDI, if_neg (by simp)]
        rcases hsplit with ⟨hlt, _⟩ | hlt
        all_goals
          first
            | (have hlt' : (c : Int) < (nn : Int) := by omega)
            | (have hlt' : ¬ (c : Int) < (nn : Int) := by omega)
          go_wp2_with fail
          have Z0 := (unhide HB0).setCell 0 (.slice none 0 0)
          have Z1 := (unhide HMD).setCell (p := ⟨w.heap.size, 0, none⟩) (fun e => absurd e (by simp)) (.slice none 0 0)
          generalize World.setCell _ _ _ = Z at Z0 Z1 ⊢
          have z0 : Z.cell? ⟨w.heap.size, 0, none⟩ = some (.slice none 0 0) := Z0.cell 0
          refine bodyPost_ret (v := .tuple #[.agg #[.slice none 0 0], .int .i64 1]) (by simp [results, Try.results20, go_sem, z0]) rfl ⟨fun p e => ?_, fun _ => rfl, Z1.below (Nat.le_refl _) (fun _ _ f => f)⟩
          rw [unhide HN] at e; cases e
      | false =>
        have hlt : ¬ c < nn := by
          rcases hsplit with ⟨_, h⟩ | h
          · cases h
          · exact h
        have hlt' : ¬ (c : Int) < (nn : Int) := by omega
        have hzz' := hzz rfl
        clear hsplit hzz
        go_wp2_with fail
        refine Calls.mono (ref_encode cl _ wr (prog_keep (cellS_le t5 wr) (unhide HP5)) hwf hzz') ?_
        rintro e w2 ⟨rfl, hb2⟩
        have c0 := Keeps.of_below hb2 _ _ b00
        have c2 := Keeps.of_below hb2 _ _ b2
        have B2 := (unhide HB0).below hb2 (unhide HB0).lt
        have f0 := B2.frozen 0
        have HB2 := hide B2
        have HM2 := hide ((unhide HMD).trans (below_none hb2) (fun _ _ f => f))
        have HQ5 : Hid (SlAt 3 (GClass (cellS t5 w2)) (.slice pa cl.length pcap) cl) := prog_keep (cellS_mods (below_none hb2) (fun _ _ _ _ _ f => f)) (unhide HP5)
        clear b00 b2 B2 hb2 HB0 HMD HP5 d2 b0f
        by_cases hF : formI cl = 0
        · by_cases hE : encProg cl = s
          · have HS : Hid (decI s = some cl) := by show _ = _; rw [unhide HDI, if_pos ⟨trivial, hF, hE⟩]
            have hen : encodeI cl = (s, 0) := by unfold encodeI; rw [if_pos hF, hE]
            rw [hen]
            clear hen hF hE
            go_wp2_with fail
            have Z0 := (unhide HB2).setCell 0 (.slice pa cl.length pcap)
            have Z1 := (unhide HM2).setCell (p := ⟨w.heap.size, 0, none⟩) (fun e => absurd e (by simp)) (.slice pa cl.length pcap)
            have Z2 : SlAt 3 (GClass (cellS t5 (w2.setCell ⟨w.heap.size, 0, none⟩ (.slice pa cl.length pcap)))) (.slice pa cl.length pcap) cl := prog_keep (keepS (setMods w2 w.heap.size 0 (.slice pa cl.length pcap)) (fun k e => ⟨_, _, e ▸ unhide HB2, by decide⟩)) (unhide HQ5)
            generalize World.setCell _ _ _ = Z at Z0 Z1 Z2 ⊢
            have z0 : Z.cell? ⟨w.heap.size, 0, none⟩ = some (.slice pa cl.length pcap) := Z0.cell 0
            refine bodyPost_ret (v := .tuple #[.agg #[.slice pa cl.length pcap], .int .i64 0]) (by simp [results, Try.results20, go_sem, z0]) rfl ⟨fun p e => ?_, fun e => ?_, Z1.below (Nat.le_refl _) (fun _ _ f => f)⟩
            · rw [unhide HS] at e
              simp only [Option.some.injEq] at e
              subst e
              exact ⟨_, rfl, prog_keep (cellS_le t5 Z) Z2⟩
            · rw [unhide HS] at e; cases e
          · have HS : Hid (decI s = none) := by show _ = _; rw [unhide HDI, if_neg (fun h => hE h.2.2)]
            have hen : encodeI cl = (encProg cl, 0) := by unfold encodeI; rw [if_pos hF]
            rw [hen]
            clear hen hF
            generalize encProg cl = t at *
            have hne : (t == s) = false := beq_eq_false_iff_ne.2 hE
            go_wp2_with fail
            have Z0 := (unhide HB2).setCell 0 (.slice none 0 0)
            have Z1 := (unhide HM2).setCell (p := ⟨w.heap.size, 0, none⟩) (fun e => absurd e (by simp)) (.slice none 0 0)
            generalize World.setCell _ _ _ = Z at Z0 Z1 ⊢
            have z0 : Z.cell? ⟨w.heap.size, 0, none⟩ = some (.slice none 0 0) := Z0.cell 0
            refine bodyPost_ret (v := .tuple #[.agg #[.slice none 0 0], .int .i64 1]) (by simp [results, Try.results20, go_sem, z0]) rfl ⟨fun p e => ?_, fun _ => rfl, Z1.below (Nat.le_refl _) (fun _ _ f => f)⟩
            rw [unhide HS] at e; cases e
        · have HS : Hid (decI s = none) := by show _ = _; rw [unhide HDI, if_neg (fun h => hF h.2.1)]
          have hen : encodeI cl = ([], formI cl) := by unfold encodeI; rw [if_neg hF]
          rw [hen]
          clear hen
          have hF' : (formI cl != 0) = true := by simpa using hF
          generalize formI cl = fi at *
          go_wp2_with fail
          have Z0 := (unhide HB2).setCell 0 (.slice none 0 0)
          have Z1 := (unhide HM2).setCell (p := ⟨w.heap.size, 0, none⟩) (fun e => absurd e (by simp)) (.slice none 0 0)
          generalize World.setCell _ _ _ = Z at Z0 Z1 ⊢
          have z0 : Z.cell? ⟨w.heap.size, 0, none⟩ = some (.slice none 0 0) := Z0.cell 0
          refine bodyPost_ret (v := .tuple #[.agg #[.slice none 0 0], .int .i64 1]) (by simp [results, Try.results20, go_sem, z0]) rfl ⟨fun p e => ?_, fun _ => rfl, Z1.below (Nat.le_refl _) (fun _ _ f => f)⟩
          rw [unhide HS] at e; cases e
end Go.Proofs.Ytiiokkllmchohaa
