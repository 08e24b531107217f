/- The law's hands: a list that came out is written full, and kept four times, each time one longer. -/
import Derived.Test.YtiiokkllmchohaaT20
/- KeepB -/
namespace Go.Proofs.Ytiiokkllmchohaa
open Go.RowKit

theorem fillP_take {p : List Value} {sz : Nat} (h : p.length = sz) {k n : Nat} (hk : k ≤ n) : (fillP p n).take (k * sz) = fillP p k := by
  induction n with
  | zero => obtain rfl : k = 0 := by omega
            simp [fillP]
  | succ n ih =>
    rcases Nat.eq_or_lt_of_le hk with e | e
    · subst e
      rw [List.take_of_length_le (by rw [fillP_len h]; exact Nat.le_refl _)]
    · rw [fillP_succ, List.take_append_of_le_length (by rw [fillP_len h]; exact Nat.mul_le_mul_right _ (by omega))]
      exact ih (by omega)

/-- Which blocks a keeping may change. -/
def KS (bh : Nat) (cs : List Value) (lo hi k : Nat) : Prop := k = bh ∨ (∃ f, OwnAt cs f k) ∨ (lo ≤ k ∧ k < hi)
/-- What is known of the types of a kind of lists. -/
structure KTy (i : Nat) (tO : TypeId) (zI : Value) (bI : Nat) : Prop where
  lt : i < 6
  uO : Try.prog.underlying tO = some (.slice (kdO i))
  uI : Try.prog.underlying (kdO i) = some (.slice (kdI i))
  iO : ∃ x, Try.prog.info? (kdO i) = some x ∧ x.zero = some (.slice none 0 0) ∧ x.size = 1 ∧ x.bytes = 24
  iI : ∃ x, Try.prog.info? (kdI i) = some x ∧ x.zero = some zI ∧ x.size = kdZ i ∧ x.bytes = bI
  zc : zI.cells.size = kdZ i
  zp : 0 < kdZ i
  bb : bI ≤ 104
  pl : ∀ m, (kdP i m).length = kdZ i
  po : ∀ m, ∀ u ∈ kdP i m, u.oneCell' = true
theorem infoInt : (Try.prog.info? 3).map (fun i => (i.zero, i.size, i.bytes)) = some (some (.int .i64 0), 1, 8) := by kernel_rfl

/-- While a list is kept (kk times so far). -/
structure KLp (w wr : World) (bh : Nat) (cs : List Value) (n : Nat) (es : Nat → List Ent) (lo hi i : Nat) (m : Int) (L kk : Nat) (vl : Value) (cs' : List Value) (es' : Nat → List Ent) : Prop where
  inv : KInv wr bh cs' n es'
  own : wr.ownsRow lo (kdI i) (kdZ i) vl (L + kk) (fillP (kdP i m) (L + kk))
  off : ∀ g, vl.ownBlock = some g → g ≠ bh ∧ ∀ f, ¬ OwnAt cs' f g
  same : ∀ j, j < 6 → ∀ e ∈ es' j, ∀ g, e.a = some g → vl.ownBlock = some g → j = i ∧ e.m = m ∧ e.len ≤ L + kk
  mods : Mods (KS bh cs lo hi) w wr
  rows : ∀ f k, OwnAt cs' f k → OwnAt cs f k ∨ w.heap.size ≤ k
  ents : ∀ j, j < 6 → ∀ e ∈ es' j, ∀ g, e.a = some g → (∃ e0 ∈ es j, e0.a = some g) ∨ (lo ≤ g ∧ g < hi) ∨ w.heap.size ≤ g
  lies : ∀ g, vl.ownBlock = some g → (lo ≤ g ∧ g < hi) ∨ w.heap.size ≤ g
  cnt : ∀ j, j < 6 → (es' j).length ≤ (es j).length + kk
  low : lo ≤ wr.heap.size

theorem rs_push (es : Nat → List Ent) {i : Nat} (e : Ent) (f : Nat) (h7 : 7 ≤ f) :
    upd (upd (rsOf es) (7 + 2 * i) (rsOf es (7 + 2 * i) ++ [e.sl])) (8 + 2 * i) (upd (rsOf es) (7 + 2 * i) (rsOf es (7 + 2 * i) ++ [e.sl]) (8 + 2 * i) ++ [e.mv]) f = rsOf (upd es i (es i ++ [e])) f := by
  by_cases h8 : f = 8 + 2 * i
  · subst h8
    rw [upd_self, upd_ne _ _ (by omega)]
    unfold rsOf
    rw [if_neg (by omega), if_neg (by omega), show (8 + 2 * i - 8) / 2 = i by omega, upd_self, List.map_append]
    rfl
  · rw [upd_ne _ _ h8]
    by_cases h9 : f = 7 + 2 * i
    · subst h9
      rw [upd_self]
      unfold rsOf
      rw [if_pos (by omega), if_pos (by omega), show (7 + 2 * i - 7) / 2 = i by omega, upd_self, List.map_append]
      rfl
    · rw [upd_ne _ _ h9]
      unfold rsOf
      by_cases ho : f % 2 = 1
      · rw [if_pos ho, if_pos ho, upd_ne _ _ (by omega)]
      · rw [if_neg ho, if_neg ho, upd_ne _ _ (by omega)]
theorem fty_odd (i : Nat) : fty (7 + 2 * i) = kdO i := by unfold fty; rw [if_pos (by omega), show (7 + 2 * i - 7) / 2 = i by omega]
theorem fty_even (i : Nat) : fty (8 + 2 * i) = 3 := by unfold fty; rw [if_neg (by omega)]

section
variable {w wr : World} {bh : Nat} {cs : List Value} {n : Nat} {es : Nat → List Ent} {lo hi i : Nat} {m : Int} {L kk : Nat} {vl : Value} {cs' : List Value} {es' : Nat → List Ent}
/-- The list as an entry. -/
theorem KLp.entry (h : KLp w wr bh cs n es lo hi i m L kk vl cs' es') (hL : L + kk ≤ 1048576) : ∃ e : Ent, e.sl = vl ∧ e.mv = .int .i64 m ∧ e.len = L + kk ∧ e.m = m ∧ e.a = vl.ownBlock ∧ EntOk wr (kdI i) (kdZ i) (kdP i) e := by
  rcases h.own.2 with ⟨rfl, h0⟩ | ⟨g, cap, cur, rfl, hb, hg, hnc, hcm, hcz, htk⟩
  · refine ⟨⟨none, L + kk, 0, m⟩, by rw [h0]; rfl, rfl, rfl, rfl, rfl, fun _ => h0, hL, fun g hg => by cases hg⟩
  · refine ⟨⟨some g, L + kk, cap, m⟩, rfl, rfl, rfl, rfl, rfl, fun hn => (by cases hn), hL, fun g' hg' => ?_⟩
    cases hg'
    exact ⟨cur.toList, by unfold Blk; simpa using hg, htk⟩
theorem KGen.add {rs : Nat → List Value} (h : KGen w bh cs n es rs) {i : Nat} {e : Ent} (he : EntOk w (kdI i) (kdZ i) (kdP i) e) (hf : ∀ g, e.a = some g → g ≠ bh ∧ ∀ f, ¬ OwnAt cs f g) : KGen w bh cs n (upd es i (es i ++ [e])) rs := by
  refine ⟨h.hands, h.nil, h.c6, h.row, h.apart, fun j hj x hx => ?_, fun j hj x hx => ?_⟩
  · by_cases hji : j = i
    · subst hji
      rw [upd_self] at hx
      rcases List.mem_append.1 hx with hx | hx
      · exact h.ent j hj x hx
      · rw [List.mem_singleton.1 hx]; exact he
    · rw [upd_ne _ _ hji] at hx
      exact h.ent j hj x hx
  · by_cases hji : j = i
    · subst hji
      rw [upd_self] at hx
      rcases List.mem_append.1 hx with hx | hx
      · exact h.off j hj x hx
      · rw [List.mem_singleton.1 hx]; exact hf
    · rw [upd_ne _ _ hji] at hx
      exact h.off j hj x hx
theorem mem_upd {α : Type} {es : Nat → List α} {i j : Nat} {e x : α} (hx : x ∈ upd es i (es i ++ [e]) j) : x ∈ es j ∨ (j = i ∧ x = e) := by
  by_cases hji : j = i
  · subst hji
    rw [upd_self] at hx
    rcases List.mem_append.1 hx with hx | hx
    · exact .inl hx
    · exact .inr ⟨rfl, List.mem_singleton.1 hx⟩
  · rw [upd_ne _ _ hji] at hx
    exact .inl hx

/-- A round's three appends. -/
structure KRd (w wr : World) (bh : Nat) (cs : List Value) (n : Nat) (es : Nat → List Ent) (lo hi i : Nat) (m : Int) (L kk : Nat) (vl : Value) (tO : TypeId) (cs' : List Value) (rn : Nat) (ra ma ra' ma' la' : Option Addr) (rc mc rc' mc' lc' : Nat) (w1 w3 w5 : World) : Prop where
  c7 : wr.cell? ⟨bh, 7 + 2 * i, none⟩ = some (.slice ra rn rc)
  app1 : (Builtin.append_ #[tO, tO] tO #[.slice ra rn rc, .slice (some ⟨wr.heap.size, 0, none⟩) 1 1]).run Try.prog (wr.alloc (.cells #[vl] (kdO i))) = .ok (.slice ra' (rn + 1) rc') w1
  d7 : w1.cell? ⟨bh, 7 + 2 * i, none⟩ = some (.slice ra rn rc)
  f7 : w1.frozen? ⟨bh, 7 + 2 * i, none⟩ = false
  d8 : w1.cell? ⟨bh, 8 + 2 * i, none⟩ = some (.slice ma rn mc)
  app2 : (Builtin.append_ #[42, 42] 42 #[.slice ma rn mc, .slice (some ⟨w1.heap.size, 0, none⟩) 1 1]).run Try.prog ((w1.setCell ⟨bh, 7 + 2 * i, none⟩ (.slice ra' (rn + 1) rc')).alloc (.cells #[.int .i64 m] 3)) = .ok (.slice ma' (rn + 1) mc') w3
  e8 : w3.cell? ⟨bh, 8 + 2 * i, none⟩ = some (.slice ma rn mc)
  f8 : w3.frozen? ⟨bh, 8 + 2 * i, none⟩ = false
  app3 : (Builtin.append_ #[kdO i, kdO i] (kdO i) #[vl, .slice (some ⟨w3.heap.size, 0, none⟩) 1 1]).run Try.prog ((w3.setCell ⟨bh, 8 + 2 * i, none⟩ (.slice ma' (rn + 1) mc')).alloc (.cells (kdP i m).toArray (kdI i))) = .ok (.slice la' (L + kk + 1) lc') w5
  next : ∃ cs2 es2, KLp w w5 bh cs n es lo hi i m L (kk + 1) (.slice la' (L + kk + 1) lc') cs2 es2
theorem KLp.round (h : KLp w wr bh cs n es lo hi i m L kk vl cs' es') {tO : TypeId} {zI : Value} {bI : Nat} (ty : KTy i tO zI bI) (hk : kk < 4) (hL : L ≤ 1000) (hc : ∀ j, j < 6 → (es j).length ≤ 16777216) :
    ∃ rn ra ma ra' ma' la' rc mc rc' mc' lc' w1 w3 w5, KRd w wr bh cs n es lo hi i m L kk vl tO cs' rn ra ma ra' ma' la' rc mc rc' mc' lc' w1 w3 w5 := by
  have hi6 := ty.lt
  obtain ⟨e, e1, e2, e3, e4, e5, e6⟩ := h.entry (by omega)
  obtain ⟨xO, o1, o2, o3, o4⟩ := ty.iO
  obtain ⟨xI, i1, i2, i3, i4⟩ := ty.iI
  obtain ⟨xN, n1, n2, n3, n4⟩ := info_parts infoInt
  have hcnt := h.cnt i hi6
  have hci := hc i hi6
  have K0 := h.inv.add e6 (fun g hg => h.off g (e5 ▸ hg))
  obtain ⟨vr, r1, r2⟩ := h.inv.row (7 + 2 * i) (by omega) (by omega)
  obtain ⟨vm, m1, m2⟩ := h.inv.row (8 + 2 * i) (by omega) (by omega)
  obtain ⟨ra, rc, rfl⟩ := own_form r2
  obtain ⟨ma, mc, rfl⟩ := own_form m2
  have l7 : (rsOf es' (7 + 2 * i)).length = (es' i).length := by unfold rsOf; rw [if_pos (by omega), show (7 + 2 * i - 7) / 2 = i by omega, List.length_map]
  have l8 : (rsOf es' (8 + 2 * i)).length = (es' i).length := by unfold rsOf; rw [if_neg (by omega), show (8 + 2 * i - 8) / 2 = i by omega, List.length_map]
  rw [l7] at r1 r2
  rw [l8] at m1 m2
  have hvl1 : vl.oneCell' = true := by rw [← e1]; rfl
  obtain ⟨ra', rc', w1, p1, p2, p3, p4, p5, p6⟩ := K0.push (f := 7 + 2 * i) (by omega) (by omega) (tt := tO) (i0 := xO) (z := .slice none 0 0) (bytes := 24) (by rw [fty_odd]; exact ty.uO) (by rw [fty_odd]; exact o1) o2 o3 o4 rfl (by omega) vl hvl1 (by rw [l7]; omega) rfl r1
  rw [fty_odd, l7] at p1
  rw [l7] at p3 p4 p6
  have hcl := h.inv.hands.2
  have m1' : (cs'.set (7 + 2 * i) (.slice ra' ((es' i).length + 1) rc'))[8 + 2 * i]? = some (.slice ma (es' i).length mc) := by rw [List.getElem?_set_ne (by omega)]; exact m1
  have hu8 : upd (rsOf es') (7 + 2 * i) (rsOf es' (7 + 2 * i) ++ [vl]) (8 + 2 * i) = rsOf es' (8 + 2 * i) := upd_ne _ _ (by omega)
  obtain ⟨ma', mc', w3, q1, q2, q3, q4, q5, q6⟩ := p3.push (f := 8 + 2 * i) (by omega) (by omega) (tt := 42) (i0 := xN) (z := .int .i64 0) (bytes := 8) (by rw [fty_even]; exact Try.underlying42) (by rw [fty_even]; exact n1) n2 n3 n4 rfl (by omega) (.int .i64 m) rfl (by rw [hu8, l8]; omega) (H := w1.heap.size) (by simp [World.setCell]) m1'
  rw [fty_even, hu8, l8] at q1
  rw [hu8, l8] at q3 q4 q6
  -- the list's own row
  have hvb : ∀ g, vl.ownBlock = some g → g < wr.heap.size := fun g hg => (h.own.lt g hg).2
  have own1 := own_mods h.own p4 (fun g hg hk => by
    rcases hk with hk | hk
    · exact (h.off g hg).1 hk
    · exact (h.off g hg).2 (7 + 2 * i) ⟨_, r1, hk⟩)
  have off1 : ∀ g, vl.ownBlock = some g → ∀ f, ¬ OwnAt (cs'.set (7 + 2 * i) (.slice ra' ((es' i).length + 1) rc')) f g := fun g hg f hf => by
    rcases p6 f g hf with x | x
    · exact (h.off g hg).2 f x
    · have := hvb g hg; omega
  have own2 := own_mods own1 q4 (fun g hg hk => by
    rcases hk with hk | hk
    · exact (h.off g hg).1 hk
    · exact off1 g hg (8 + 2 * i) ⟨_, m1', hk⟩)
  have off2 : ∀ g, vl.ownBlock = some g → ∀ f, ¬ OwnAt ((cs'.set (7 + 2 * i) (.slice ra' ((es' i).length + 1) rc')).set (8 + 2 * i) (.slice ma' ((es' i).length + 1) mc')) f g := fun g hg f hf => by
    rcases q6 f g hf with x | x
    · exact off1 g hg f x
    · have := hvb g hg; have := p4.size; omega
  have hs4 : wr.heap.size ≤ (w3.setCell ⟨bh, 8 + 2 * i, none⟩ (.slice ma' ((es' i).length + 1) mc')).heap.size := Nat.le_trans p4.size q4.size
  have hbb : (L + kk + 1) * bI ≤ (L + kk + 1) * 104 := Nat.mul_le_mul_left _ ty.bb
  obtain ⟨v5, w5, s1, s2, s3, s4, s5⟩ := app_keep (P := Try.prog) (W := w3.setCell ⟨bh, 8 + 2 * i, none⟩ (.slice ma' ((es' i).length + 1) mc')) (kdO i) (kdO i) (kdI i) xI zI (kdZ i) bI ty.uI i1 i2 i3 i4 ty.zc ty.zp lo vl (L + kk) (fillP (kdP i m) (L + kk)) own2 (kdP i m).toArray (by simpa using ty.pl m) (by simpa using ty.po m) w3.heap.size (by simp [World.setCell]) (by unfold maxLen; omega) (by omega) (Nat.le_trans h.low hs4)
  obtain ⟨la', lc', rfl⟩ := own_form s2
  have s2' : w5.ownsRow lo (kdI i) (kdZ i) (.slice la' (L + kk + 1) lc') (L + (kk + 1)) (fillP (kdP i m) (L + (kk + 1))) := by
    rw [show L + (kk + 1) = L + kk + 1 from rfl, fillP_succ]
    exact s2
  have hgone : ∀ k, vl.ownBlock = some k → k ≠ bh := fun k hk => (h.off k hk).1
  -- the entries behind the list's own append
  have K5 : KGen w5 bh ((cs'.set (7 + 2 * i) (.slice ra' ((es' i).length + 1) rc')).set (8 + 2 * i) (.slice ma' ((es' i).length + 1) mc')) n (upd es' i (es' i ++ [e])) (rsOf (upd es' i (es' i ++ [e]))) := by
    have q3' := q3.congr (rs' := rsOf (upd es' i (es' i ++ [e]))) (fun f h7 _ => by
      have := rs_push es' (i := i) e f h7
      rw [e1, e2, hu8] at this
      exact this)
    refine ⟨⟨q3'.hands.1.mods s3 (fun hk => hgone bh hk rfl), q3'.hands.2⟩, q3'.nil, q3'.c6, fun f h7 h19 => ?_, q3'.apart, fun j hj x hx => ?_, q3'.off⟩
    · obtain ⟨u, u1, u2⟩ := q3'.row f h7 h19
      exact ⟨u, u1, own_mods u2 s3 (fun g hg hk => off2 g hk f ⟨u, u1, hg⟩)⟩
    · have hx0 := q3'.ent j hj x hx
      refine ⟨hx0.1, hx0.2.1, fun g hg => ?_⟩
      obtain ⟨c, c1, c2⟩ := hx0.2.2 g hg
      by_cases hv : vl.ownBlock = some g
      · have hsame : j = i ∧ x.m = m ∧ x.len ≤ L + kk := by
          rcases mem_upd hx with hx | ⟨hx1, hx2⟩
          · exact h.same j hj x hx g hg hv
          · exact ⟨hx1, by rw [hx2]; exact e4, by rw [hx2, e3]; exact Nat.le_refl _⟩
        obtain ⟨rfl, hxm, hxl⟩ := hsame
        obtain ⟨cur', t1, t2⟩ := s5 g c hv c1
        refine ⟨cur', t1, ?_⟩
        have e1 : cur'.take (x.len * kdZ j) = (cur'.take ((L + kk) * kdZ j)).take (x.len * kdZ j) := by rw [List.take_take, Nat.min_eq_left (Nat.mul_le_mul_right _ hxl)]
        rw [e1, t2, fillP_take (ty.pl m) hxl, hxm]
      · exact ⟨c, c1.mods s3 (fun hk => hv hk), c2⟩
  have hlies : ∀ g, (Value.slice la' (L + kk + 1) lc').ownBlock = some g → vl.ownBlock = some g ∨ (wr.heap.size ≤ g ∧ w3.heap.size ≤ g) := fun g hg => by
    rcases s4 with x | ⟨k, x1, x2⟩
    · exact .inl (x ▸ hg)
    · rw [x2] at hg
      cases hg
      have : w3.heap.size = (w3.setCell ⟨bh, 8 + 2 * i, none⟩ (.slice ma' ((es' i).length + 1) mc')).heap.size := by simp [World.setCell]
      exact .inr ⟨by omega, by omega⟩
  have hrows : ∀ f k, OwnAt ((cs'.set (7 + 2 * i) (.slice ra' ((es' i).length + 1) rc')).set (8 + 2 * i) (.slice ma' ((es' i).length + 1) mc')) f k → OwnAt cs' f k ∨ wr.heap.size ≤ k := fun f k hf => by
    rcases q6 f k hf with x | x
    · exact p6 f k x
    · have := p4.size; exact .inr (by omega)
  have hall : Mods (fun k => k = bh ∨ (∃ f, OwnAt cs' f k) ∨ vl.ownBlock = some k) wr w5 := by
    refine ((p4.mono (T := fun k => k = bh ∨ (∃ f, OwnAt cs' f k) ∨ vl.ownBlock = some k) (fun k _ hk => ?_)).trans q4 (fun k hk hS => ?_)).trans s3 (fun k _ hk => .inr (.inr hk))
    · rcases hk with hk | hk
      · exact .inl hk
      · exact .inr (.inl ⟨_, _, r1, hk⟩)
    · rcases hS with hS | hS
      · exact .inl hS
      · rcases p6 (8 + 2 * i) k ⟨_, m1', hS⟩ with x | x
        · exact .inr (.inl ⟨_, x⟩)
        · omega
  have hws := h.mods.size
  refine ⟨(es' i).length, ra, ma, ra', ma', la', rc, mc, rc', mc', lc', w1, w3, w5, ⟨by rw [h.inv.hands.1.cell, r1], p1, by rw [p2.cell, r1], p2.frozen _, by rw [p2.cell, m1], q1, by rw [q2.cell, m1'], q2.frozen _, s1, _, _, K5, s2', fun g hg => ?_, fun j hj x hx g hg hg' => ?_, h.mods.trans hall (fun k hk hS => ?_), fun f k hf => ?_, fun j hj x hx g hg => ?_, fun g hg => ?_, fun j hj => ?_, Nat.le_trans h.low (Nat.le_trans hs4 s3.size)⟩⟩
  · rcases hlies g hg with x | x
    · exact ⟨(h.off g x).1, off2 g x⟩
    · refine ⟨fun e => by have := h.inv.hands.1.lt; omega, fun f hf => ?_⟩
      have := (q3.own hf).2.2
      have : w3.heap.size = (w3.setCell ⟨bh, 8 + 2 * i, none⟩ (.slice ma' ((es' i).length + 1) mc')).heap.size := by simp [World.setCell]
      omega
  · rcases hlies g hg' with y | y
    · rcases mem_upd hx with hx | ⟨hx1, hx2⟩
      · have := h.same j hj x hx g hg y
        exact ⟨this.1, this.2.1, by omega⟩
      · exact ⟨hx1, by rw [hx2]; exact e4, by rw [hx2, e3]; omega⟩
    · rcases mem_upd hx with hx | ⟨hx1, hx2⟩
      · obtain ⟨c, c1, _⟩ := (h.inv.ent j hj x hx).2.2 g hg
        have := c1.lt; omega
      · rw [hx2, e5] at hg
        have := hvb g hg; omega
  · rcases hS with hS | ⟨f, hS⟩ | hS
    · exact .inl hS
    · rcases h.rows f k hS with x | x
      · exact .inr (.inl ⟨f, x⟩)
      · omega
    · rcases h.lies k hS with x | x
      · exact .inr (.inr x)
      · omega
  · rcases hrows f k hf with x | x
    · exact h.rows f k x
    · exact .inr (by omega)
  · rcases mem_upd hx with hx | ⟨hx1, hx2⟩
    · exact h.ents j hj x hx g hg
    · rw [hx2, e5] at hg
      exact .inr (h.lies g hg)
  · rcases hlies g hg with x | x
    · exact h.lies g x
    · exact .inr (by omega)
  · have hj' := h.cnt j hj
    by_cases hji : j = i
    · subst hji
      rw [upd_self, List.length_append, List.length_singleton]; omega
    · rw [upd_ne _ _ hji]; omega
end
end Go.Proofs.Ytiiokkllmchohaa
/- The law's hands keep a list of types. -/
namespace Go.Proofs.Ytiiokkllmchohaa
open Go.RowKit
attribute [local go_sem ↓] Go.wp_at_zero Go.wp_at_succ

/-- A list of one's own, its first k things written over. -/
def Fill (w : World) (ei : TypeId) (sz lo hi : Nat) (v : Value) (L : Nat) (p : List Value) (k : Nat) : Prop :=
  (v = .slice none 0 0 ∧ L = 0) ∨ ∃ g cur, lo ≤ g ∧ g < hi ∧ v = .slice (some ⟨g, 0, none⟩) L L ∧ Blk w g ei cur ∧ cur.length = L * sz ∧ cur.take (k * sz) = fillP p k
theorem fill_next {p cur cur' : List Value} {sz k : Nat} (hp : p.length = sz) (ht : cur.take (k * sz) = fillP p k) (hne : ∀ j, j < k * sz → cur'[j]? = cur[j]?) (hat : ∀ r, r < sz → cur'[k * sz + r]? = p[r]?) : cur'.take ((k + 1) * sz) = fillP p (k + 1) := by
  have hm : (k + 1) * sz = k * sz + sz := by rw [Nat.succ_mul]
  apply List.ext_getElem?
  intro j
  rw [List.getElem?_take, fillP_succ]
  have hfl := fillP_len hp k
  by_cases h1 : j < (k + 1) * sz
  · rw [if_pos h1]
    by_cases h2 : j < k * sz
    · rw [hne j h2, List.getElem?_append_left (by omega), ← ht, List.getElem?_take, if_pos h2]
    · rw [List.getElem?_append_right (by omega), hfl, ← hat (j - k * sz) (by omega)]
      congr 1
      omega
  · rw [if_neg h1, List.getElem?_eq_none (by rw [List.length_append, hfl, hp]; omega)]
theorem fill_next1 {x : Value} {cur : List Value} {k : Nat} (ht : cur.take (k * 1) = fillP [x] k) (hk : k < cur.length) : (cur.set k x).take ((k + 1) * 1) = fillP [x] (k + 1) := by
  refine fill_next (p := [x]) (sz := 1) rfl ht (fun j hj => List.getElem?_set_ne (by omega)) (fun r hr => ?_)
  obtain rfl : r = 0 := by omega
  rw [Nat.mul_one, Nat.add_zero, List.getElem?_set_self hk]
  rfl
theorem fill_next3 {a b c : Value} {cur : List Value} {k : Nat} (ht : cur.take (k * 3) = fillP [a, b, c] k) (hk : k * 3 + 2 < cur.length) : (set3 cur (k * 3) a b c).take ((k + 1) * 3) = fillP [a, b, c] (k + 1) := by
  refine fill_next (p := [a, b, c]) (sz := 3) rfl ht (fun j hj => set3_ne (by omega)) (fun r hr => ?_)
  match r, hr with
  | 0, _ => exact set3_0 hk
  | 1, _ => exact set3_1 hk
  | 2, _ => exact set3_2 hk
theorem fill_next7 {a b c d e f g : Value} {cur : List Value} {k : Nat} (ht : cur.take (k * 7) = fillP [a, b, c, d, e, f, g] k) (hk : k * 7 + 6 < cur.length) : (set7 cur (k * 7) a b c d e f g).take ((k + 1) * 7) = fillP [a, b, c, d, e, f, g] (k + 1) := by
  obtain ⟨h0, h1, h2, h3, h4, h5, h6⟩ := set7_at (l := cur) (k := k * 7) (a := a) (b := b) (c := c) (d := d) (e := e) (f := f) (g := g) hk
  refine fill_next (p := [a, b, c, d, e, f, g]) (sz := 7) rfl ht (fun j hj => set7_ne (by omega)) (fun r hr => ?_)
  match r, hr with
  | 0, _ => exact h0
  | 1, _ => exact h1
  | 2, _ => exact h2
  | 3, _ => exact h3
  | 4, _ => exact h4
  | 5, _ => exact h5
  | 6, _ => exact h6
theorem Fill.own {w : World} {ei : TypeId} {sz lo hi : Nat} {v : Value} {L : Nat} {p : List Value} (h : Fill w ei sz lo hi v L p L) (hp : p.length = sz) (hL : L ≤ 1000) : w.ownsRow lo ei sz v L (fillP p L) := by
  rcases h with ⟨rfl, rfl⟩ | ⟨g, cur, h1, h2, rfl, h3, h4, h5⟩
  · exact World.ownsRow_nil _ _ _ _
  · exact ⟨fillP_len hp L, .inr ⟨g, L, cur.toArray, rfl, h1, h3, Nat.le_refl _, by unfold maxLen; omega, by simpa using h4, by simpa using h5⟩⟩
theorem Fill.block {w : World} {ei : TypeId} {sz lo hi : Nat} {v : Value} {L : Nat} {p : List Value} {k : Nat} (h : Fill w ei sz lo hi v L p k) {g : Nat} (hg : v.ownBlock = some g) : lo ≤ g ∧ g < hi := by
  rcases h with ⟨rfl, rfl⟩ | ⟨g', cur, h1, h2, rfl, _⟩
  · cases hg
  · cases hg; exact ⟨h1, h2⟩
theorem Fill.start {α : Type} {t : TypeId} {sz : Nat} {R : OwnE α} (ok : OwnOk R) {w : World} {lo hi : Nat} {v : Value} {l : List α} (h : OwnSl t sz R w lo hi v l) (p : List Value) : Fill w t sz lo hi v l.length p 0 := by
  rcases h with ⟨rfl, rfl, _⟩ | ⟨_, g, cells, h1, rfl, hb, ho⟩
  · exact .inl ⟨rfl, rfl⟩
  · have := OwnL.le ok ho
    exact .inr ⟨g, cells, h1, by omega, rfl, hb, OwnL.len ho, by simp [fillP]⟩
theorem Fill.mods {w w' : World} {ei : TypeId} {sz lo hi : Nat} {v : Value} {L : Nat} {p : List Value} {k : Nat} {S : Nat → Prop} (h : Fill w ei sz lo hi v L p k) (m : Mods S w w') (hS : ∀ g, v.ownBlock = some g → ¬ S g) : Fill w' ei sz lo hi v L p k := by
  rcases h with h | ⟨g, cur, h1, h2, rfl, h3, h4⟩
  · exact .inl h
  · exact .inr ⟨g, cur, h1, h2, rfl, h3.mods m (hS g rfl), h4⟩

/-- What a keeping did. -/
structure KStep (w w' : World) (bh : Nat) (cs cs' : List Value) (es es' : Nat → List Ent) (lo hi c : Nat) : Prop where
  mods : Mods (KS bh cs lo hi) w w'
  rows : ∀ f k, OwnAt cs' f k → OwnAt cs f k ∨ w.heap.size ≤ k
  ents : ∀ j, j < 6 → ∀ e ∈ es' j, ∀ g, e.a = some g → (∃ e0 ∈ es j, e0.a = some g) ∨ (lo ≤ g ∧ g < hi) ∨ w.heap.size ≤ g
  cnt : ∀ j, j < 6 → (es' j).length ≤ (es j).length + 4 * c
theorem KStep.refl (w : World) (bh : Nat) (cs : List Value) (es : Nat → List Ent) (lo hi : Nat) : KStep w w bh cs cs es es lo hi 0 :=
  ⟨Mods.refl _ _, fun _ _ h => .inl h, fun _ _ e he g hg => .inl ⟨e, he, hg⟩, fun _ _ => by omega⟩
theorem KStep.trans {w w1 w2 : World} {bh : Nat} {cs cs1 cs2 : List Value} {es es1 es2 : Nat → List Ent} {lo hi lo1 hi1 lo2 hi2 c d : Nat} (a : KStep w w1 bh cs cs1 es es1 lo1 hi1 c) (b : KStep w1 w2 bh cs1 cs2 es1 es2 lo2 hi2 d) (h1 : lo ≤ lo1) (h2 : hi1 ≤ hi) (h3 : lo ≤ lo2) (h4 : hi2 ≤ hi) : KStep w w2 bh cs cs2 es es2 lo hi (c + d) := by
  have hs := a.mods.size
  refine ⟨(a.mods.mono (fun k _ hk => ?_)).trans b.mods (fun k hk hS => ?_), fun f k hf => ?_, fun j hj e he g hg => ?_, fun j hj => ?_⟩
  · rcases hk with hk | hk | hk
    · exact .inl hk
    · exact .inr (.inl hk)
    · exact .inr (.inr (by omega))
  · rcases hS with hS | ⟨f, hS⟩ | hS
    · exact .inl hS
    · rcases a.rows f k hS with x | x
      · exact .inr (.inl ⟨f, x⟩)
      · omega
    · exact .inr (.inr (by omega))
  · rcases b.rows f k hf with x | x
    · exact a.rows f k x
    · exact .inr (by omega)
  · rcases b.ents j hj e he g hg with ⟨e0, m0, g0⟩ | x | x
    · rcases a.ents j hj e0 m0 g g0 with x | x | x
      · exact .inl x
      · exact .inr (.inl (by omega))
      · exact .inr (.inr x)
    · exact .inr (.inl (by omega))
    · exact .inr (.inr (by omega))
  · have := a.cnt j hj; have := b.cnt j hj; omega
/-- Nothing of the hands lies in these blocks. -/
structure KFree (bh : Nat) (cs : List Value) (es : Nat → List Ent) (lo hi : Nat) : Prop where
  hb : ¬ (lo ≤ bh ∧ bh < hi)
  rows : ∀ f k, OwnAt cs f k → ¬ (lo ≤ k ∧ k < hi)
  ents : ∀ j, j < 6 → ∀ e ∈ es j, ∀ g, e.a = some g → ¬ (lo ≤ g ∧ g < hi)
theorem KFree.sub {bh : Nat} {cs : List Value} {es : Nat → List Ent} {lo hi lo' hi' : Nat} (h : KFree bh cs es lo hi) (h1 : lo ≤ lo') (h2 : hi' ≤ hi) : KFree bh cs es lo' hi' :=
  ⟨fun x => h.hb (by omega), fun f k hf x => h.rows f k hf (by omega), fun j hj e he g hg x => h.ents j hj e he g hg (by omega)⟩
theorem KFree.step {w w' : World} {bh : Nat} {cs cs' : List Value} {es es' : Nat → List Ent} {lo hi lo1 hi1 c : Nat} (h : KFree bh cs es lo hi) (s : KStep w w' bh cs cs' es es' lo1 hi1 c) (hd : ∀ k, lo ≤ k → k < hi → ¬ (lo1 ≤ k ∧ k < hi1)) (hh : hi ≤ w.heap.size) : KFree bh cs' es' lo hi := by
  refine ⟨h.hb, fun f k hf x => ?_, fun j hj e he g hg x => ?_⟩
  · rcases s.rows f k hf with y | y
    · exact h.rows f k y x
    · omega
  · rcases s.ents j hj e he g hg with ⟨e0, m0, g0⟩ | y | y
    · exact h.ents j hj e0 m0 g g0 x
    · exact hd g x.1 x.2 y
    · omega
theorem KFree.notS {bh : Nat} {cs : List Value} {es : Nat → List Ent} {lo hi lo1 hi1 : Nat} (h : KFree bh cs es lo hi) (hd : ∀ k, lo ≤ k → k < hi → ¬ (lo1 ≤ k ∧ k < hi1)) {k : Nat} (h1 : lo ≤ k) (h2 : k < hi) : ¬ KS bh cs lo1 hi1 k := fun x => by
  rcases x with x | ⟨f, x⟩ | x
  · subst x; exact h.hb ⟨h1, h2⟩
  · exact h.rows f k x ⟨h1, h2⟩
  · exact hd k h1 h2 x
theorem KGen.in_mods {w w' : World} {bh : Nat} {cs : List Value} {n : Nat} {es : Nat → List Ent} {rs : Nat → List Value} {lo hi : Nat} (h : KGen w bh cs n es rs) (f : KFree bh cs es lo hi) (m : Mods (fun k => lo ≤ k ∧ k < hi) w w') : KGen w' bh cs n es rs :=
  h.mods m f.hb f.rows f.ents
theorem KStep.fill {w w' : World} {bh : Nat} {cs : List Value} {es : Nat → List Ent} {lo hi : Nat} (m : Mods (fun k => lo ≤ k ∧ k < hi) w w') : KStep w w' bh cs cs es es lo hi 0 :=
  ⟨m.mono (fun _ _ x => .inr (.inr x)), fun _ _ h => .inl h, fun _ _ e he g hg => .inl ⟨e, he, hg⟩, fun _ _ => by omega⟩
theorem KStep.mark {w w' : World} {bh : Nat} {cs cs' : List Value} {es : Nat → List Ent} (m : Mods (fun k => k = bh) w w') (ho : ∀ f k, OwnAt cs' f k → OwnAt cs f k) (lo hi : Nat) : KStep w w' bh cs cs' es es lo hi 0 :=
  ⟨m.mono (fun _ _ x => .inl x), fun f k h => .inl (ho f k h), fun _ _ e he g hg => .inl ⟨e, he, hg⟩, fun _ _ => by omega⟩
/-- The list is full: now it is kept. -/
theorem KLp.start {w : World} {bh : Nat} {cs : List Value} {n : Nat} {es : Nat → List Ent} {lo hi i : Nat} {m : Int} {L : Nat} {v tO zI bI} (ty : KTy i tO zI bI) (h : KInv w bh cs n es) (f : KFree bh cs es lo hi) (hF : Fill w (kdI i) (kdZ i) lo hi v L (kdP i m) L) (hL : L ≤ 1000) (hlo : lo ≤ w.heap.size) : KLp w w bh cs n es lo hi i m L 0 v cs es :=
  ⟨h, hF.own (ty.pl m) hL, fun g hg => ⟨fun e => f.hb (e ▸ hF.block hg), fun f' hf => f.rows f' g hf (hF.block hg)⟩, fun j hj e he g hg hv => absurd (hF.block hv) (f.ents j hj e he g hg), Mods.refl _ _, fun _ _ h => .inl h, fun _ _ e he g hg => .inl ⟨e, he, hg⟩, fun g hg => .inl (hF.block hg), fun _ _ => by omega, hlo⟩
theorem KLp.fin {w wr : World} {bh : Nat} {cs : List Value} {n : Nat} {es : Nat → List Ent} {lo hi i : Nat} {m : Int} {L kk : Nat} {v : Value} {cs' : List Value} {es' : Nat → List Ent} (h : KLp w wr bh cs n es lo hi i m L kk v cs' es') (hk : kk ≤ 4) : KStep w wr bh cs cs' es es' lo hi 1 :=
  ⟨h.mods, h.rows, h.ents, fun j hj => by have := h.cnt j hj; omega⟩

theorem kty0 : KTy 0 36 (.int .i64 0) 8 :=
  ⟨by decide, Try.underlying36, Try.underlying31, info_parts infoTypes, info_parts infoType, rfl, by decide, by decide, fun _ => rfl, fun m u hu => by rw [List.mem_singleton.1 hu]; rfl⟩

set_option maxHeartbeats 1000000 in
set_option maxRecDepth 100000 in
theorem keep_types (l : List Int) (v : Value) (w : World) (bh : Nat) (cs : List Value) (n : Nat) (es : Nat → List Ent) (lo hi : Nat) (h : KInv w bh cs n es) (hv : OwnTs w lo hi v l) (hf : KFree bh cs es lo hi) (hhi : hi ≤ w.heap.size) (hl : l.length ≤ 1000) (hn : n ≤ 1000000) (hc : ∀ j, j < 6 → (es j).length ≤ 16777216) :
    Calls Try.prog 49 #[.pointer (some ⟨bh, 0, none⟩), v] w fun e w' => e = .returned (.tuple #[]) ∧ ∃ cs' es', KInv w' bh cs' (n + 1) es' ∧ KStep w w' bh cs cs' es es' lo hi 1 := by
  have hlohi := hv.le okInt
  have hF := hide (Fill.start okInt hv (kdP 0 (-77000001 - (n : Int))))
  obtain ⟨a, rfl⟩ := hv.form
  clear hv
  go_enter Try.func49, Try.ntmps49
  go_wp2_with fail
  refine Calls.mono (law_mark n w bh cs h.hands h.c6 (by omega)) ?_
  rintro e w1 ⟨rfl, hh1, hm1⟩
  obtain ⟨K1, ho1⟩ := h.mark (n + 1) hh1 hm1
  have S1 := hide (KStep.mark (es := es) hm1 ho1 lo hi)
  have F1 := hide ((unhide hF).mods hm1 (fun g hg e => hf.hb (e ▸ (unhide hF).block hg)))
  have fr1 : KFree bh (cs.set 6 (.int .i64 ((n + 1 : Nat) : Int))) es lo hi := hf.step (KStep.mark (es := es) hm1 ho1 0 0) (fun k _ _ x => by omega) hhi
  have hs1 := hm1.size
  have HK1 := hide K1
  have FR1 := hide fr1
  clear K1 hF hf h fr1 hh1 hm1 ho1
  generalize cs.set 6 _ = cs1 at *
  go_wp2_with fail
  generalize hM : -77000001 - (n : Int) = m at *
  go_loopw [5] (fun s5 wr => ∃ k : Nat, k ≤ l.length ∧ s5 = .int .i64 k ∧ KInv wr bh cs1 (n + 1) es ∧ Fill wr 52 1 lo hi (.slice a l.length l.length) l.length (kdP 0 m) k ∧ Mods (fun k => lo ≤ k ∧ k < hi) w1 wr) (fun s5 _ => l.length - (intOf s5).toNat)
  case atStart => exact ⟨0, Nat.zero_le _, rfl, unhide HK1, unhide F1, Mods.refl _ _⟩
  case round =>
    obtain ⟨k, hk, rfl, hK, hFl, hMo⟩ := hrel
    by_cases hlt : k < l.length
    · have hlt' : (k : Int) < (l.length : Int) := by omega
      have HK := hide hK
      have HM := hide hMo
      rcases hFl with ⟨_, h0⟩ | ⟨g, cur, g1, g2, ge, g3, g4, g5⟩
      · omega
      · simp only [Value.slice.injEq] at ge
        obtain ⟨rfl, _, _⟩ := ge
        have c0 : wr.cell? ⟨g, k, none⟩ = some (cur[k]'(by omega)) := by rw [g3.cell]; exact List.getElem?_eq_getElem _
        have f0 := g3.frozen k
        have G3 := hide (g3.setCell k (.int .i64 m))
        have G5 := hide (fill_next1 (x := .int .i64 m) g5 (by omega))
        generalize cur[k]'_ = c at *
        clear hK hMo g3 g5
        go_wp2_with fail
        have m2 : Mods (fun k => lo ≤ k ∧ k < hi) wr (wr.setCell ⟨g, k, none⟩ (.int .i64 m)) := (Mods.refl _ wr).setCell (p := ⟨g, k, none⟩) (fun _ => ⟨g1, g2⟩) _
        refine ⟨⟨k + 1, by omega, by go_num, (unhide HK).in_mods (unhide FR1) m2, .inr ⟨g, _, g1, g2, rfl, unhide G3, by rw [List.length_set]; exact g4, unhide G5⟩, (unhide HM).trans m2 (fun _ _ x => x)⟩, by simp [intOf]; omega⟩
    · have hlt' : ¬ (k : Int) < (l.length : Int) := by omega
      obtain rfl : k = l.length := by omega
      have P0 := hide (KLp.start (m := m) kty0 hK (unhide FR1) hFl hl (Nat.le_trans (Nat.le_trans hlohi hhi) (Nat.le_trans hs1 hMo.size)))
      have ST := hide ((unhide S1).trans (KStep.fill (bh := bh) (cs := cs1) (es := es) hMo) (Nat.le_refl _) (Nat.le_refl _) (Nat.le_refl _) (Nat.le_refl _))
      clear hK hFl hMo HK1 F1
      obtain ⟨wo, rfl⟩ : ∃ wo : World, wo = wr := ⟨_, rfl⟩
      go_wp2_with fail
      go_loopw [1, 6] (fun s1 s6 wr => ∃ (kk : Nat) (la : Option Addr) (lc : Nat), kk ≤ 4 ∧ s6 = .int .i64 kk ∧ s1 = .slice la (l.length + kk) lc ∧ ∃ cs' es', KLp wo wr bh cs1 (n + 1) es lo hi 0 m l.length kk (.slice la (l.length + kk) lc) cs' es') (fun _ s6 _ => 4 - (intOf s6).toNat)
      case atStart => exact ⟨0, a, l.length, by omega, rfl, rfl, cs1, es, unhide P0⟩
      case round =>
        obtain ⟨kk, la, lc, hkk, rfl, rfl, cs2, es2, hP⟩ := hrel
        by_cases h4 : kk < 4
        · have h4' : (kk : Int) < 4 := by omega
          obtain ⟨rn, ra, ma, ra', ma', la', rc, mc, rc', mc', lc', x1, x3, x5, R⟩ := hP.round kty0 h4 hl hc
          obtain ⟨r1, r2, r3, r4, r5, r6, r7, r8, r9, r10⟩ := R
          simp only [kdO, kdI, kdP, Nat.mul_zero, Nat.add_zero] at r1 r2 r3 r4 r5 r6 r7 r8 r9
          have R10 := hide r10
          clear hP r10 P0
          go_wp2_with (at_builtin; first
            | refine wpList_append_run rfl (.tmp 27) (.tmp 29) 36 rfl _ _ rfl rfl r2 ?_
            | refine wpList_append_run rfl (.tmp 37) (.tmp 39) 42 rfl _ _ rfl rfl r6 ?_
            | refine wpList_append_run rfl (.tmp 43) (.tmp 45) 31 rfl _ _ rfl rfl r9 ?_)
          obtain ⟨cs3, es3, h3⟩ := unhide R10
          refine ⟨⟨kk + 1, la', lc', by omega, by go_num, rfl, cs3, es3, h3⟩, by simp [intOf]; omega⟩
        · have h4' : ¬ (kk : Int) < 4 := by omega
          go_wp2_with fail
          go_end0
          have hst := (unhide ST).trans (hP.fin hkk) (Nat.le_refl _) (Nat.le_refl _) (Nat.le_refl _) (Nat.le_refl _)
          exact ⟨rfl, cs2, es2, hP.inv, hst⟩
end Go.Proofs.Ytiiokkllmchohaa
