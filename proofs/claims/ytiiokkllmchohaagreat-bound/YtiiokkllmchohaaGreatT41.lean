/- The law Bound: the program that it makes, as it grows. -/
import Derived.Test.YtiiokkllmchohaaGreatT35
import Derived.Test.YtiiokkllmchohaaGreatT40
/- BndA -/
namespace Go.Proofs.YtiiokkllmchohaaGreat
open Go.RowKit Go.Shelf

abbrev nilV : Value := .slice none 0 0
def numC (kb : Nat) : List Value := [.int .i64 3, nilV, .int .i64 0, .int .i64 1, .int .i64 1, .slice (some ⟨kb, 0, none⟩) 2 2, nilV]
def clsC : List (Int × Bool) → List Value → List Value
  | x :: bl, v :: ms => [.int .i64 x.1, nilV, v] ++ clsC bl ms
  | _, _ => []
theorem clsC_snoc (x : Int × Bool) (v : Value) : ∀ (bl : List (Int × Bool)) (ms : List Value), ms.length = bl.length → clsC (bl ++ [x]) (ms ++ [v]) = clsC bl ms ++ [.int .i64 x.1, nilV, v]
  | [], [], _ => rfl
  | y :: bl, u :: ms, h => by
    show [_, _, _] ++ clsC (bl ++ [x]) (ms ++ [v]) = ([_, _, _] ++ clsC bl ms) ++ _
    rw [clsC_snoc x v bl ms (by simpa using h), List.append_assoc]
  | [], _ :: _, h => by simp at h
  | _ :: _, [], h => by simp at h
theorem clsC_get (k : Nat) (hk : k < 3) : ∀ (bl : List (Int × Bool)) (ms : List Value) (j : Nat) (x : Int × Bool) (v : Value), bl[j]? = some x → ms[j]? = some v → (clsC bl ms)[j * 3 + k]? = [Value.int .i64 x.1, nilV, v][k]?
  | y :: bl, u :: ms, 0, x, v, h1, h2 => by
    cases h1; cases h2
    show ([_, _, _] ++ clsC bl ms)[0 * 3 + k]? = _
    rw [Nat.zero_mul, Nat.zero_add, List.getElem?_append_left (by simpa using hk)]
  | y :: bl, u :: ms, j + 1, x, v, h1, h2 => by
    show ([_, _, _] ++ clsC bl ms)[(j + 1) * 3 + k]? = _
    rw [List.getElem?_append_right (by simp; omega)]
    have := clsC_get k hk bl ms j x v h1 h2
    rw [← this]
    congr 1
    simp
    omega
  | [], _, _, _, _, h1, _ => by cases h1
  | _ :: _, [], _, _, _, _, h2 => by cases h2
def MtOk (w wr : World) (j : Nat) (m : Bool) (v : Value) : Prop := if m then ∃ kb, Blk wr kb 60 (codeCells (numM j).code) ∧ wr.ownsRow w.heap.size 63 7 v 1 (numC kb) else v = nilV
structure BndI (w wr : World) (bp : Nat) (vp vw : Value) (ms : List Value) (bl : List (Int × Bool)) (wl : List Int) : Prop where
  bel : Below w.heap.size w wr
  lo : w.heap.size ≤ bp
  pr : Blk wr bp 24 [vp]
  cl : wr.ownsRow w.heap.size 66 3 vp bl.length (clsC bl ms)
  wh : wr.ownsRow w.heap.size 3 1 vw wl.length (wl.map (Value.int .i64))
  ml : ms.length = bl.length
  mt : ∀ j x v, bl[j]? = some x → ms[j]? = some v → MtOk w wr j x.2 v
  ds : ∀ (i j : Nat) (u v : Value) (g : Nat), i ≠ j → ms[i]? = some u → ms[j]? = some v → u.ownBlock = some g → v.ownBlock ≠ some g
theorem infoIntB : (Tryz.prog.info? 3).map (fun i => (i.zero, i.size, i.bytes)) = some (some (.int .i64 0), 1, 8) := by kernel_rfl
theorem infoMethB : (Tryz.prog.info? 63).map (fun i => (i.zero, i.size, i.bytes)) = some (some (.agg #[.int .i64 0, nilV, .int .i64 0, .int .i64 0, .int .i64 0, nilV, nilV]), 7, 104) := by kernel_rfl
theorem infoClsB : (Tryz.prog.info? 66).map (fun i => (i.zero, i.size, i.bytes)) = some (some (.agg #[.int .i64 0, nilV, nilV]), 3, 56) := by kernel_rfl
theorem MtOk.mods {w wr wr' : World} {j : Nat} {m : Bool} {v : Value} {S : Nat → Prop} (h : MtOk w wr j m v) (hm : Mods S wr wr') (hS : ∀ k t cs, Blk wr k t cs → (t = 60 ∨ t = 63) → ¬ S k) : MtOk w wr' j m v := by
  unfold MtOk at h ⊢
  cases m with
  | false => exact h
  | true =>
    obtain ⟨kb, h1, h2⟩ := h
    refine ⟨kb, h1.mods hm (hS _ _ _ h1 (.inl rfl)), own_mods h2 hm (fun g hg => ?_)⟩
    obtain ⟨cur, hc⟩ := own_blk h2 hg
    exact hS g _ _ hc (.inr rfl)
section
variable {w wr wr' : World} {bp : Nat} {vp vw : Value} {ms : List Value} {bl : List (Int × Bool)} {wl : List Int}
theorem BndI.keep (h : BndI w wr bp vp vw ms bl wl) {S : Nat → Prop} (hm : Mods S wr wr') (hlo : ∀ k, S k → w.heap.size ≤ k) (hS : ∀ k t cs, Blk wr k t cs → S k → t = 66 ∧ vp.ownBlock ≠ some k) : BndI w wr' bp vp vw ms bl wl := by
  have hsz := h.bel.size
  refine ⟨h.bel.trans (hm.below hsz (fun k hk e => by have := hlo k e; omega)), h.lo, h.pr.mods hm (fun e => absurd (hS _ _ _ h.pr e).1 (by decide)), own_mods h.cl hm (fun g hg e => ?_), own_mods h.wh hm (fun g hg e => ?_), h.ml, fun j x v h1 h2 => (h.mt j x v h1 h2).mods hm (fun k t cs hb ht e => ?_), h.ds⟩
  · obtain ⟨cur, hc⟩ := own_blk h.cl hg
    exact (hS g _ _ hc e).2 hg
  · obtain ⟨cur, hc⟩ := own_blk h.wh hg
    exact absurd (hS g _ _ hc e).1 (by decide)
  · have := (hS k t cs hb e).1
    rcases ht with rfl | rfl
    · exact absurd this (by decide)
    · exact absurd this (by decide)
theorem BndI.newWho (h : BndI w wr bp vp vw ms bl wl) (hl : wl.length ≤ 6) (x : Int) :
    ∃ a n cap w', (Builtin.append_ #[51, 51] 51 #[vw, .slice (some ⟨wr.heap.size, 0, none⟩) 1 1]).run Tryz.prog (wr.alloc (.cells #[.int .i64 x] 3)) = .ok (.slice a n cap) w' ∧ BndI w w' bp vp (.slice a n cap) ms bl (wl ++ [x]) ∧ Mods (fun k => vw.ownBlock = some k) wr w' := by
  obtain ⟨iI, hI, hI0, hI1, hI2⟩ := info_parts infoIntB
  have hsz := h.bel.size
  obtain ⟨v', w', hr, hown, hM, hat⟩ := app_exk (P := Tryz.prog) (W := wr) 51 51 3 iI (.int .i64 0) 1 8 1 Tryz.underlying51 hI hI0 hI1 hI2 rfl (by decide) w.heap.size vw wl.length _ h.wh #[.int .i64 x] rfl
    (fun u hu => by simp only [List.mem_cons, List.not_mem_nil, or_false] at hu; subst hu; rfl) wr.heap.size rfl (by unfold maxLen; omega) (by omega) hsz
  obtain ⟨a, cap, rfl⟩ := own_form hown
  have hlo : ∀ k, vw.ownBlock = some k → w.heap.size ≤ k := fun k hk => (h.wh.lt k hk).1
  have hty : ∀ k t cs, Blk wr k t cs → vw.ownBlock = some k → t = 3 := fun k t cs hb hk => by
    obtain ⟨cur, hc⟩ := own_blk h.wh hk
    exact hb.uniq hc
  refine ⟨a, _, cap, w', hr, ⟨h.bel.trans (hM.below hsz (fun k hk e => by have := hlo k e; omega)), h.lo, h.pr.mods hM (fun e => absurd (hty _ _ _ h.pr e) (by decide)), own_mods h.cl hM (fun g hg e => ?_), ?_, h.ml, fun j x v h1 h2 => (h.mt j x v h1 h2).mods hM (fun k t cs hb ht e => ?_), h.ds⟩, hM⟩
  · obtain ⟨cur, hc⟩ := own_blk h.cl hg
    exact absurd (hty g _ _ hc e) (by decide)
  · rw [List.length_append, List.map_append]
    exact hown
  · have := hty k t cs hb e
    rcases ht with rfl | rfl
    · exact absurd this (by decide)
    · exact absurd this (by decide)
theorem BndI.newMeth (h : BndI w wr bp vp vw ms bl wl) (j : Nat) :
    ∃ a n cap w', (Builtin.append_ #[64, 64] 64 #[nilV, .slice (some ⟨wr.heap.size + 1, 0, none⟩) 1 1]).run Tryz.prog ((wr.alloc (.cells #[.int .i64 0, .int .i64 (100 + (j : Int)), .int .i64 0, .int .i64 13, .int .i64 0, .int .i64 0] 60)).alloc (.cells #[.int .i64 3, nilV, .int .i64 0, .int .i64 1, .int .i64 1, .slice (some ⟨wr.heap.size, 0, none⟩) 2 2, nilV] 63)) = .ok (.slice a n cap) w' ∧
      BndI w w' bp vp vw ms bl wl ∧ MtOk w w' j true (.slice a n cap) ∧ (∀ g, (Value.slice a n cap).ownBlock = some g → wr.heap.size ≤ g) ∧ Mods (fun _ => False) wr w' := by
  obtain ⟨iI, hI, hI0, hI1, hI2⟩ := info_parts infoMethB
  have hsz := h.bel.size
  have hown0 : (wr.alloc (.cells #[.int .i64 0, .int .i64 (100 + (j : Int)), .int .i64 0, .int .i64 13, .int .i64 0, .int .i64 0] 60)).ownsRow w.heap.size 63 7 nilV 0 [] := World.ownsRow_nil _ _ _ _
  have hBk := Blk.new wr #[.int .i64 0, .int .i64 (100 + (j : Int)), .int .i64 0, .int .i64 13, .int .i64 0, .int .i64 0] 60
  have hM0 : Mods (fun _ => False) wr (wr.alloc (.cells #[.int .i64 0, .int .i64 (100 + (j : Int)), .int .i64 0, .int .i64 13, .int .i64 0, .int .i64 0] 60)) := (Mods.refl _ wr).alloc _
  obtain ⟨v', w', hr, hown, hM, hat⟩ := app_exk (P := Tryz.prog) (W := wr.alloc (.cells #[.int .i64 0, .int .i64 (100 + (j : Int)), .int .i64 0, .int .i64 13, .int .i64 0, .int .i64 0] 60)) 64 64 63 iI (.agg #[.int .i64 0, nilV, .int .i64 0, .int .i64 0, .int .i64 0, nilV, nilV]) 7 104 1 Tryz.underlying64 hI hI0 hI1 hI2 rfl (by decide) w.heap.size nilV 0 _ hown0 #[.int .i64 3, nilV, .int .i64 0, .int .i64 1, .int .i64 1, .slice (some ⟨wr.heap.size, 0, none⟩) 2 2, nilV] rfl
    (fun u hu => by simp only [List.mem_cons, List.not_mem_nil, or_false] at hu; rcases hu with rfl | rfl | rfl | rfl | rfl | rfl | rfl <;> rfl) (wr.heap.size + 1) (by rw [World.size_alloc]) (by unfold maxLen; omega) (by omega) (by rw [World.size_alloc]; omega)
  obtain ⟨a, cap, rfl⟩ := own_form hown
  have hMn : Mods (fun _ => False) (wr.alloc (.cells #[.int .i64 0, .int .i64 (100 + (j : Int)), .int .i64 0, .int .i64 13, .int .i64 0, .int .i64 0] 60)) w' := hM.mono (fun i _ e => by cases e)
  have hMM := hM0.trans hMn (fun _ _ f => f)
  refine ⟨a, _, cap, w', hr, h.keep hMM (fun _ f => f.elim) (fun _ _ _ _ f => f.elim), ?_, fun g hg => ?_, hMM⟩
  · exact ⟨wr.heap.size, hBk.mods hMn (fun f => f), hown⟩
  · rcases hat with e | ⟨k, hk, e⟩
    · rw [e] at hg; cases hg
    · rw [e] at hg; cases hg; omega
theorem BndI.newClass (h : BndI w wr bp vp vw ms bl wl) (hl : bl.length ≤ 6) (s : Int) (m : Bool) (v : Value) (hv : v.oneCell' = true) (hmt : MtOk w wr bl.length m v) (hds : ∀ g, v.ownBlock = some g → ∀ u ∈ ms, u.ownBlock ≠ some g) :
    ∃ a n cap w', (Builtin.append_ #[22, 22] 22 #[vp, .slice (some ⟨wr.heap.size, 0, none⟩) 1 1]).run Tryz.prog (wr.alloc (.cells #[.int .i64 s, nilV, v] 66)) = .ok (.slice a n cap) w' ∧ w'.cell? ⟨bp, 0, none⟩ = some vp ∧ w'.frozen? ⟨bp, 0, none⟩ = false ∧ BndI w (w'.setCell ⟨bp, 0, none⟩ (.slice a n cap)) bp (.slice a n cap) vw (ms ++ [v]) (bl ++ [(s, m)]) wl := by
  obtain ⟨iI, hI, hI0, hI1, hI2⟩ := info_parts infoClsB
  have hsz := h.bel.size
  obtain ⟨v', w', hr, hown, hM, hat⟩ := app_exk (P := Tryz.prog) (W := wr) 22 22 66 iI (.agg #[.int .i64 0, nilV, nilV]) 3 56 1 Tryz.underlying22 hI hI0 hI1 hI2 rfl (by decide) w.heap.size vp bl.length _ h.cl #[.int .i64 s, nilV, v] rfl
    (fun u hu => by simp only [List.mem_cons, List.not_mem_nil, or_false] at hu; rcases hu with rfl | rfl | rfl <;> first | rfl | exact hv) wr.heap.size rfl (by unfold maxLen; omega) (by omega) hsz
  obtain ⟨a, cap, rfl⟩ := own_form hown
  have hlo : ∀ k, vp.ownBlock = some k → w.heap.size ≤ k := fun k hk => (h.cl.lt k hk).1
  have hty : ∀ k t cs, Blk wr k t cs → vp.ownBlock = some k → t = 66 := fun k t cs hb hk => by
    obtain ⟨cur, hc⟩ := own_blk h.cl hk
    exact hb.uniq hc
  have ep := h.pr.mods hM (fun e => absurd (hty _ _ _ h.pr e) (by decide))
  have hbel := h.bel.trans (hM.below hsz (fun k hk e => by have := hlo k e; omega))
  have hbp := h.lo
  have hMs : Mods (fun k => k = bp) w' (w'.setCell ⟨bp, 0, none⟩ (.slice a (bl.length + 1) cap)) := (Mods.refl (fun k => k = bp) w').setCell (p := ⟨bp, 0, none⟩) (fun _ => rfl) _
  have hmk : ∀ (j : Nat) (q : Bool) (u : Value), MtOk w wr j q u → MtOk w (w'.setCell ⟨bp, 0, none⟩ (.slice a (bl.length + 1) cap)) j q u := fun j q u hu => by
    refine (hu.mods hM (fun k t cs hb ht e => ?_)).mods hMs (fun k t cs hb ht e => ?_)
    · have := hty k t cs hb e
      rcases ht with rfl | rfl
      · exact absurd this (by decide)
      · exact absurd this (by decide)
    · subst e
      have := hb.uniq ep
      rcases ht with rfl | rfl
      · exact absurd this (by decide)
      · exact absurd this (by decide)
  refine ⟨a, _, cap, w', hr, ep.cell 0, ep.frozen 0, hbel.setCell (p := ⟨bp, 0, none⟩) (by dsimp only; omega) _, h.lo, ep.setCell 0 _, ?_, ?_, by rw [List.length_append, List.length_append, h.ml]; rfl, fun j x u h1 h2 => ?_, fun i j u u' g hij h1 h2 hg => ?_⟩
  · rw [clsC_snoc _ _ _ _ h.ml, List.length_append]
    refine own_mods hown hMs (fun g hg e => ?_)
    subst e
    obtain ⟨cur, hc⟩ := own_blk hown hg
    exact absurd (hc.uniq ep) (by decide)
  · refine own_mods (own_mods h.wh hM (fun g hg e => ?_)) hMs (fun g hg e => ?_)
    · obtain ⟨cur, hc⟩ := own_blk h.wh hg
      exact absurd (hty g _ _ hc e) (by decide)
    · subst e
      obtain ⟨cur, hc⟩ := own_blk h.wh hg
      exact absurd (hc.uniq h.pr) (by decide)
  · rcases Nat.lt_or_ge j bl.length with hj | hj
    · rw [List.getElem?_append_left hj] at h1
      rw [List.getElem?_append_left (by rw [h.ml]; exact hj)] at h2
      exact hmk j x.2 u (h.mt j x u h1 h2)
    · rw [List.getElem?_append_right hj] at h1
      rw [List.getElem?_append_right (by rw [h.ml]; exact hj)] at h2
      have hj0 : j - bl.length = 0 := by
        have := (List.getElem?_eq_some_iff.1 h1).1
        simp at this
        omega
      have hjj : j = bl.length := by omega
      rw [hj0] at h1
      rw [h.ml, hj0] at h2
      cases h1; cases h2
      subst hjj
      exact hmk _ _ _ hmt
  · have hsp : ∀ (k : Nat) (z : Value), (ms ++ [v])[k]? = some z → (k < ms.length ∧ ms[k]? = some z) ∨ (k = ms.length ∧ z = v) := fun k z hz => by
      rcases Nat.lt_or_ge k ms.length with hk | hk
      · rw [List.getElem?_append_left hk] at hz
        exact .inl ⟨hk, hz⟩
      · rw [List.getElem?_append_right hk] at hz
        have h0 : k - ms.length = 0 := by
          have := (List.getElem?_eq_some_iff.1 hz).1
          simp at this
          omega
        rw [h0] at hz
        cases hz
        exact .inr ⟨by omega, rfl⟩
    rcases hsp i u h1 with ⟨_, p1⟩ | ⟨p1, rfl⟩
    · rcases hsp j u' h2 with ⟨_, p2⟩ | ⟨p2, rfl⟩
      · exact h.ds i j u u' g hij p1 p2 hg
      · exact fun e => hds g e u (List.mem_of_getElem? p1) hg
    · rcases hsp j u' h2 with ⟨_, p2⟩ | ⟨p2, rfl⟩
      · exact hds g hg u' (List.mem_of_getElem? p2)
      · omega
end
end Go.Proofs.YtiiokkllmchohaaGreat
/- The law Bound: a round of its loop, in memory. -/
namespace Go.Proofs.YtiiokkllmchohaaGreat
open Go.RowKit Go.Shelf

def supOf (ps : List Int) (c : Nat) : Int := if c = 0 then -1 else if c ≤ ps.length then pickI (ps.getD (c - 1) 0) c else 0
def mineOf (os : List Int) (c : Nat) : Bool := if c = 0 then true else decide (c ≤ os.length) && (Int.tmod (os.getD (c - 1) 0) 2 == 0)
def blL (ps os : List Int) (n : Nat) : List (Int × Bool) := (List.range n).map fun j => (supOf ps j, mineOf os j)
def whL (ps os : List Int) : Nat → List Int
  | 0 => []
  | n + 1 => whL ps os n ++ [if mineOf os n then (n : Int) else (whL ps os n).getD (supOf ps n).toNat 0]
theorem blL_len (ps os : List Int) (n : Nat) : (blL ps os n).length = n := by unfold blL; simp
theorem whL_len (ps os : List Int) : ∀ n, (whL ps os n).length = n
  | 0 => rfl
  | n + 1 => by unfold whL; rw [List.length_append, whL_len ps os n]; rfl
theorem blL_succ (ps os : List Int) (n : Nat) : blL ps os (n + 1) = blL ps os n ++ [(supOf ps n, mineOf os n)] := by
  unfold blL
  rw [List.range_succ, List.map_append]; rfl
theorem blL_get {ps os : List Int} {n j : Nat} {x : Int × Bool} (h : (blL ps os n)[j]? = some x) : j < n ∧ x = (supOf ps j, mineOf os j) := by
  have hj := (List.getElem?_eq_some_iff.1 h).1
  rw [blL_len] at hj
  unfold blL at h
  rw [List.getElem?_map, List.getElem?_range hj] at h
  cases h
  exact ⟨hj, rfl⟩
theorem supOf_in (ps : List Int) {c : Nat} (h : 0 < c) : 0 ≤ supOf ps c ∧ supOf ps c < (c : Int) := by
  unfold supOf
  rw [if_neg (by omega)]
  split
  · exact pickI_in _ (by omega)
  · omega
theorem whL_get (ps os : List Int) : ∀ (n j : Nat), j < n → (whL ps os n)[j]? = some (if mineOf os j then (j : Int) else (whL ps os n).getD (supOf ps j).toNat 0) := by
  intro n
  induction n with
  | zero => intro j h; omega
  | succ n ih =>
    intro j hj
    have hpre : ∀ k, k < n → (whL ps os (n + 1)).getD k 0 = (whL ps os n).getD k 0 := fun k hk => by
      rw [List.getD_eq_getElem?_getD, List.getD_eq_getElem?_getD]
      conv => lhs; unfold whL
      rw [List.getElem?_append_left (by rw [whL_len]; exact hk)]
    have hget : ∀ m : Bool, m = mineOf os j → (if m then (j : Int) else (whL ps os (n + 1)).getD (supOf ps j).toNat 0) = (if m then (j : Int) else (whL ps os n).getD (supOf ps j).toNat 0) := fun m hm => by
      cases m with
      | true => rfl
      | false =>
        have h0 : 0 < j := by
          rcases Nat.eq_zero_or_pos j with rfl | h
          · unfold mineOf at hm; rw [if_pos rfl] at hm; cases hm
          · exact h
        have := supOf_in ps h0
        show (whL ps os (n + 1)).getD _ 0 = (whL ps os n).getD _ 0
        exact hpre _ (by omega)
    rw [hget _ rfl]
    rcases Nat.lt_or_ge j n with h | h
    · conv => lhs; unfold whL
      rw [List.getElem?_append_left (by rw [whL_len]; exact h)]
      exact ih j h
    · obtain rfl : j = n := by omega
      conv => lhs; unfold whL
      rw [List.getElem?_append_right (by rw [whL_len]; exact Nat.le_refl _), whL_len, Nat.sub_self]
      rfl
theorem bl_ok (ps os : List Int) {n : Nat} (h1 : 1 ≤ n) (h6 : n ≤ 6) : BlOk (blL ps os n) (whL ps os n) := by
  refine ⟨by rw [whL_len, blL_len], by rw [blL_len]; exact h1, by rw [blL_len]; exact h6, fun x hx => ?_, fun j x hx h => ?_, fun j x hx => ?_⟩
  · rw [(blL_get hx).2]; rfl
  · rw [(blL_get hx).2]; exact supOf_in ps h
  · rw [(blL_get hx).2]; exact whL_get ps os n j (blL_get hx).1
section
variable {w W : World} {bp bx : Nat} {vp vw : Value} {ms : List Value} {bl : List (Int × Bool)} {wl : List Int}
theorem BndI.lt (h : BndI w W bp vp vw ms bl wl) : bp < W.heap.size ∧ ∀ k, vp.ownBlock = some k → k < W.heap.size := ⟨h.pr.lt, fun k hk => (h.cl.lt k hk).2⟩
structure BndX (w W : World) (bp bx : Nat) (vp vw : Value) (ms : List Value) (bl : List (Int × Bool)) (wl : List Int) (s : Int) (v : Value) : Prop where
  i : BndI w W bp vp vw ms bl wl
  x : Blk W bx 66 [.int .i64 s, nilV, v]
  lo : w.heap.size ≤ bx
  ne : vp.ownBlock ≠ some bx
theorem BndX.start (h : BndI w W bp vp vw ms bl wl) (s : Int) : BndX w (W.alloc (.cells #[.int .i64 s, nilV, nilV] 66)) bp W.heap.size vp vw ms bl wl s nilV :=
  ⟨h.keep ((Mods.refl (fun _ => False) W).alloc _) (fun _ f => f.elim) (fun _ _ _ _ f => f.elim), Blk.new W _ _, h.bel.size, fun e => Nat.lt_irrefl _ (h.lt.2 _ e)⟩
theorem BndX.set {s : Int} {v : Value} (h : BndX w W bp bx vp vw ms bl wl s v) (k : Nat) (u : Value) {s' : Int} {v' : Value} (hk : [Value.int .i64 s, nilV, v].set k u = [.int .i64 s', nilV, v']) : BndX w (W.setCell ⟨bx, k, none⟩ u) bp bx vp vw ms bl wl s' v' := by
  have hm : Mods (fun k => k = bx) W (W.setCell ⟨bx, k, none⟩ u) := (Mods.refl (fun k => k = bx) W).setCell (p := ⟨bx, k, none⟩) (fun _ => rfl) _
  refine ⟨h.i.keep hm (fun k e => by rw [e]; exact h.lo) (fun k t cs hb e => ?_), ?_, h.lo, h.ne⟩
  · subst e
    exact ⟨hb.uniq h.x, h.ne⟩
  · have := h.x.setCell k u
    rw [hk] at this
    exact this
theorem BndX.who {s : Int} {v : Value} (h : BndX w W bp bx vp vw ms bl wl s v) (hl : wl.length ≤ 6) (z : Int) :
    ∃ a n cap w', (Builtin.append_ #[51, 51] 51 #[vw, .slice (some ⟨W.heap.size, 0, none⟩) 1 1]).run Tryz.prog (W.alloc (.cells #[.int .i64 z] 3)) = .ok (.slice a n cap) w' ∧ BndX w w' bp bx vp (.slice a n cap) ms bl (wl ++ [z]) s v := by
  obtain ⟨a, n, cap, w', hr, hi, hM⟩ := h.i.newWho hl z
  refine ⟨a, n, cap, w', hr, hi, h.x.mods hM (fun e => ?_), h.lo, h.ne⟩
  obtain ⟨cur, hc⟩ := own_blk h.i.wh e
  exact absurd (hc.uniq h.x) (by decide)
theorem BndX.meth {s : Int} {v : Value} (h : BndX w W bp bx vp vw ms bl wl s v) (j : Nat) :
    ∃ a n cap w', (Builtin.append_ #[64, 64] 64 #[nilV, .slice (some ⟨W.heap.size + 1, 0, none⟩) 1 1]).run Tryz.prog ((W.alloc (.cells #[.int .i64 0, .int .i64 (100 + (j : Int)), .int .i64 0, .int .i64 13, .int .i64 0, .int .i64 0] 60)).alloc (.cells #[.int .i64 3, nilV, .int .i64 0, .int .i64 1, .int .i64 1, .slice (some ⟨W.heap.size, 0, none⟩) 2 2, nilV] 63)) = .ok (.slice a n cap) w' ∧
      BndX w w' bp bx vp vw ms bl wl s v ∧ MtOk w w' j true (.slice a n cap) ∧ (∀ g, (Value.slice a n cap).ownBlock = some g → W.heap.size ≤ g) := by
  obtain ⟨a, n, cap, w', hr, hi, hmt, hg, hM⟩ := h.i.newMeth j
  exact ⟨a, n, cap, w', hr, ⟨hi, h.x.mods hM (fun f => f), h.lo, h.ne⟩, hmt, hg⟩
theorem MtOk.lt {w W : World} {j : Nat} {m : Bool} {v : Value} (h : MtOk w W j m v) : ∀ g, v.ownBlock = some g → g < W.heap.size := fun g hg => by
  unfold MtOk at h
  cases m with
  | false =>
    rw [if_neg (by simp)] at h
    subst h
    cases hg
  | true =>
    obtain ⟨kb, _, h2⟩ := h
    exact (h2.lt g hg).2
theorem BndI.msLt (h : BndI w W bp vp vw ms bl wl) : ∀ u ∈ ms, ∀ g, u.ownBlock = some g → g < W.heap.size := fun u hu g hg => by
  obtain ⟨j, hj⟩ := List.getElem?_of_mem hu
  have hjl := (List.getElem?_eq_some_iff.1 hj).1
  have hjb : j < bl.length := by rw [← h.ml]; exact hjl
  exact (h.mt j _ u (List.getElem?_eq_getElem hjb) hj).lt g hg
theorem MtOk.setX {s : Int} {v : Value} (h : BndX w W bp bx vp vw ms bl wl s v) {j : Nat} {m : Bool} {u : Value} (hm : MtOk w W j m u) (k : Nat) (z : Value) : MtOk w (W.setCell ⟨bx, k, none⟩ z) j m u := by
  refine hm.mods ((Mods.refl (fun k => k = bx) W).setCell (p := ⟨bx, k, none⟩) (fun _ => rfl) _) (fun k t cs hb ht e => ?_)
  subst e
  have := hb.uniq h.x
  rcases ht with rfl | rfl
  · exact absurd this (by decide)
  · exact absurd this (by decide)
theorem bnd_mine {s : Int} (h : BndX w W bp bx vp vw ms bl wl s nilV) (hb : bl.length ≤ 6) (hw : wl.length ≤ 6) (z : Int) (c : Nat) (hc : c = bl.length) :
    ∃ a1 n1 cap1 w2 a2 n2 cap2 w4 a3 n3 cap3 w6,
      (Builtin.append_ #[51, 51] 51 #[vw, .slice (some ⟨W.heap.size, 0, none⟩) 1 1]).run Tryz.prog (W.alloc (.cells #[.int .i64 z] 3)) = .ok (.slice a1 n1 cap1) w2 ∧
      w2.cell? ⟨bx, 2, none⟩ = some nilV ∧
      (Builtin.append_ #[64, 64] 64 #[nilV, .slice (some ⟨w2.heap.size + 1, 0, none⟩) 1 1]).run Tryz.prog ((w2.alloc (.cells #[.int .i64 0, .int .i64 (100 + (c : Int)), .int .i64 0, .int .i64 13, .int .i64 0, .int .i64 0] 60)).alloc (.cells #[.int .i64 3, nilV, .int .i64 0, .int .i64 1, .int .i64 1, .slice (some ⟨w2.heap.size, 0, none⟩) 2 2, nilV] 63)) = .ok (.slice a2 n2 cap2) w4 ∧
      (w4.cell? ⟨bx, 2, none⟩ = some nilV ∧ w4.frozen? ⟨bx, 2, none⟩ = false) ∧
      ((w4.setCell ⟨bx, 2, none⟩ (.slice a2 n2 cap2)).cell? ⟨bx, 0, none⟩ = some (.int .i64 s) ∧ (w4.setCell ⟨bx, 2, none⟩ (.slice a2 n2 cap2)).cell? ⟨bx, 1, none⟩ = some nilV ∧ (w4.setCell ⟨bx, 2, none⟩ (.slice a2 n2 cap2)).cell? ⟨bx, 2, none⟩ = some (.slice a2 n2 cap2) ∧ (w4.setCell ⟨bx, 2, none⟩ (.slice a2 n2 cap2)).cell? ⟨bp, 0, none⟩ = some vp) ∧
      (Builtin.append_ #[22, 22] 22 #[vp, .slice (some ⟨(w4.setCell ⟨bx, 2, none⟩ (.slice a2 n2 cap2)).heap.size, 0, none⟩) 1 1]).run Tryz.prog ((w4.setCell ⟨bx, 2, none⟩ (.slice a2 n2 cap2)).alloc (.cells #[.int .i64 s, nilV, .slice a2 n2 cap2] 66)) = .ok (.slice a3 n3 cap3) w6 ∧
      w6.cell? ⟨bp, 0, none⟩ = some vp ∧ w6.frozen? ⟨bp, 0, none⟩ = false ∧ BndI w (w6.setCell ⟨bp, 0, none⟩ (.slice a3 n3 cap3)) bp (.slice a3 n3 cap3) (.slice a1 n1 cap1) (ms ++ [.slice a2 n2 cap2]) (bl ++ [(s, true)]) (wl ++ [z]) := by
  obtain ⟨a1, n1, cap1, w2, happ1, X2⟩ := h.who hw z
  obtain ⟨a2, n2, cap2, w4, happ2, X4, hmt, hg⟩ := X2.meth c
  have X5 := X4.set 2 (.slice a2 n2 cap2) (s' := s) (v' := .slice a2 n2 cap2) rfl
  obtain ⟨a3, n3, cap3, w6, happ3, c6, f6, hF⟩ := X5.i.newClass hb s true (.slice a2 n2 cap2) rfl (by rw [← hc]; exact MtOk.setX X4 hmt 2 _) (fun g hg' u hu e => by
    have h1 := hg g hg'
    have h2 := X2.i.msLt u hu g e
    omega)
  exact ⟨a1, n1, cap1, w2, a2, n2, cap2, w4, a3, n3, cap3, w6, happ1, X2.x.cell 2, happ2, ⟨X4.x.cell 2, X4.x.frozen 2⟩, ⟨X5.x.cell 0, X5.x.cell 1, X5.x.cell 2, X5.i.pr.cell 0⟩, happ3, c6, f6, hF⟩
theorem bnd_not {s : Int} (h : BndX w W bp bx vp vw ms bl wl s nilV) (hb : bl.length ≤ 6) (hw : wl.length ≤ 6) (z : Int) :
    ∃ a1 n1 cap1 w2 a3 n3 cap3 w6,
      (Builtin.append_ #[51, 51] 51 #[vw, .slice (some ⟨W.heap.size, 0, none⟩) 1 1]).run Tryz.prog (W.alloc (.cells #[.int .i64 z] 3)) = .ok (.slice a1 n1 cap1) w2 ∧
      (w2.cell? ⟨bx, 0, none⟩ = some (.int .i64 s) ∧ w2.cell? ⟨bx, 1, none⟩ = some nilV ∧ w2.cell? ⟨bx, 2, none⟩ = some nilV ∧ w2.cell? ⟨bp, 0, none⟩ = some vp) ∧
      (Builtin.append_ #[22, 22] 22 #[vp, .slice (some ⟨w2.heap.size, 0, none⟩) 1 1]).run Tryz.prog (w2.alloc (.cells #[.int .i64 s, nilV, nilV] 66)) = .ok (.slice a3 n3 cap3) w6 ∧
      w6.cell? ⟨bp, 0, none⟩ = some vp ∧ w6.frozen? ⟨bp, 0, none⟩ = false ∧ BndI w (w6.setCell ⟨bp, 0, none⟩ (.slice a3 n3 cap3)) bp (.slice a3 n3 cap3) (.slice a1 n1 cap1) (ms ++ [nilV]) (bl ++ [(s, false)]) (wl ++ [z]) := by
  obtain ⟨a1, n1, cap1, w2, happ1, X2⟩ := h.who hw z
  obtain ⟨a3, n3, cap3, w6, happ3, c6, f6, hF⟩ := X2.i.newClass hb s false nilV rfl rfl (fun g hg' => by cases hg')
  exact ⟨a1, n1, cap1, w2, a3, n3, cap3, w6, happ1, ⟨X2.x.cell 0, X2.x.cell 1, X2.x.cell 2, X2.i.pr.cell 0⟩, happ3, c6, f6, hF⟩
end
end Go.Proofs.YtiiokkllmchohaaGreat
/- The law Bound: the program whole, with its main method. -/
namespace Go.Proofs.YtiiokkllmchohaaGreat
open Go.RowKit Go.Shelf

def mainC (kb : Nat) : List Value := [.int .i64 5, nilV, .int .i64 0, .int .i64 1, .int .i64 1, .slice (some ⟨kb, 0, none⟩) 6 6, nilV]
section
variable {w W W' : World} {bp : Nat} {vp vw : Value} {ms : List Value} {bl : List (Int × Bool)} {wl : List Int}
theorem code_blk {kb : Nat} {l : List LIns} (h : Blk W kb 60 (codeCells l)) : SlAt 3 (RIns W) (.slice (some ⟨kb, 0, none⟩) l.length l.length) l :=
  code_keep (cellS_le [60] W) (code_of_blk (rest := []) (cap := l.length) (by rw [List.append_nil]; exact h) (by simp) (Nat.le_refl _))
theorem mt_read {B : Nat} {v : Value} {l : List LMeth} {cs : List Value} (h : W.ownsRow B 63 7 v l.length cs) (hl : 0 < l.length)
    (hm : ∀ j m, l[j]? = some m → ∃ kc, (∀ i, i < 7 → cs[j * 7 + i]? = [Value.int .i64 m.slot, nilV, .int .i64 m.ret, .int .i64 m.locals, .int .i64 m.stack, kc, nilV][i]?) ∧ SlAt 3 (RIns W) kc m.code ∧ m.args = [] ∧ m.frames = []) : SlAt 7 (RMeth W) v l := by
  obtain ⟨g, cap, rfl, hc, _, hr⟩ := own_read h hl
  refine ⟨_, g, 0, cap, rfl, hc, ⟨fun _ => rfl, .inr (.inl rfl)⟩, fun j m hj => ?_⟩
  obtain ⟨kc, h1, h2, h3, h4⟩ := hm j m hj
  have hjl := (List.getElem?_eq_some_iff.1 hj).1
  have key : ∀ i, i < 7 → W.cell? ⟨g, 0 + j * 7 + i, none⟩ = [Value.int .i64 m.slot, nilV, .int .i64 m.ret, .int .i64 m.locals, .int .i64 m.stack, kc, nilV][i]? := fun i hi => by
    rw [Nat.zero_add, hr (j * 7 + i) (by omega)]
    exact h1 i hi
  refine ⟨nilV, kc, nilV, ⟨by rw [h3]; exact nil_sl 1 _, h2, by rw [h4]; exact nil_sl 3 _⟩, key 0 (by omega), key 1 (by omega), key 2 (by omega), key 3 (by omega), key 4 (by omega), key 5 (by omega), key 6 (by omega)⟩
theorem mt_num {j : Nat} {v : Value} (h : MtOk w W j true v) : SlAt 7 (RMeth W) v [numM j] := by
  obtain ⟨kb, h1, h2⟩ := h
  refine mt_read (l := [numM j]) h2 (by simp) (fun i m hi => ?_)
  match i, hi with
  | 0, hi =>
    cases hi
    exact ⟨.slice (some ⟨kb, 0, none⟩) 2 2, fun i _ => by rw [Nat.zero_mul, Nat.zero_add]; rfl, code_blk h1, rfl, rfl⟩
  | i + 1, hi => cases hi
set_option maxRecDepth 100000 in
theorem bnd_main (h : BndI w W bp vp vw ms bl wl) (hB : BlOk bl wl) {kb : Nat} {a b : Int} (hk : Blk W kb 60 (codeCells (mainM a b).code)) :
    ∃ gc ccap v0, vp = .slice (some ⟨gc, 0, none⟩) bl.length ccap ∧ gc < W.heap.size ∧ gc ≠ bp ∧ W.cell? ⟨gc, 2, none⟩ = some v0 ∧ v0 ∈ ms ∧ (∃ cur, Blk W gc 66 cur) ∧ (∀ k, v0.ownBlock = some k → ∃ cur, Blk W k 63 cur) ∧
    ∃ a' n' cap' w4, (Builtin.append_ #[64, 64] 64 #[v0, .slice (some ⟨W.heap.size, 0, none⟩) 1 1]).run Tryz.prog (W.alloc (.cells #[.int .i64 5, nilV, .int .i64 0, .int .i64 1, .int .i64 1, .slice (some ⟨kb, 0, none⟩) 6 6, nilV] 63)) = .ok (.slice a' n' cap') w4 ∧
      w4.cell? ⟨gc, 2, none⟩ = some v0 ∧ w4.frozen? ⟨gc, 2, none⟩ = false ∧ Mods (fun k => v0.ownBlock = some k) W w4 ∧ Below w.heap.size w (w4.setCell ⟨gc, 2, none⟩ (.slice a' n' cap')) ∧ RProg (w4.setCell ⟨gc, 2, none⟩ (.slice a' n' cap')) vp (boundP a b bl) ∧
      (w4.setCell ⟨gc, 2, none⟩ (.slice a' n' cap')).ownsRow w.heap.size 3 1 vw wl.length (wl.map (Value.int .i64)) := by
  have h1 := hB.one
  have hsz := h.bel.size
  obtain ⟨gc, ccap, hvp, hcc, hob, hcr⟩ := own_read h.cl (by omega)
  have hx0 := List.getElem?_eq_getElem (l := bl) (i := 0) (by omega)
  have hz := hB.zero _ hx0
  rw [hz] at hx0
  obtain ⟨v0, hm0⟩ : ∃ v, ms[0]? = some v := ⟨_, List.getElem?_eq_getElem (by rw [h.ml]; omega)⟩
  have hmt0 := h.mt 0 _ v0 hx0 hm0
  obtain ⟨kb0, hk0, how0⟩ : ∃ kb, Blk W kb 60 (codeCells (numM 0).code) ∧ W.ownsRow w.heap.size 63 7 v0 1 (numC kb) := hmt0
  obtain ⟨iI, hI, hI0, hI1, hI2⟩ := info_parts infoMethB
  obtain ⟨v', w4, hr, hown, hM, hat⟩ := app_exk (P := Tryz.prog) (W := W) 64 64 63 iI (.agg #[.int .i64 0, nilV, .int .i64 0, .int .i64 0, .int .i64 0, nilV, nilV]) 7 104 1 Tryz.underlying64 hI hI0 hI1 hI2 rfl (by decide) w.heap.size v0 1 _ how0 #[.int .i64 5, nilV, .int .i64 0, .int .i64 1, .int .i64 1, .slice (some ⟨kb, 0, none⟩) 6 6, nilV] rfl
    (fun u hu => by simp only [List.mem_cons, List.not_mem_nil, or_false] at hu; rcases hu with rfl | rfl | rfl | rfl | rfl | rfl | rfl <;> rfl) W.heap.size rfl (by unfold maxLen; omega) (by omega) hsz
  obtain ⟨a', cap', rfl⟩ := own_form hown
  obtain ⟨curc, hgB⟩ := own_blk h.cl hob
  have hgl := (h.cl.lt gc hob)
  have hgp : gc ≠ bp := fun e => by
    subst e
    exact absurd (hgB.uniq h.pr) (by decide)
  have hty : ∀ k, v0.ownBlock = some k → ∃ cur, Blk W k 63 cur := fun k hk => own_blk how0 hk
  have hng : v0.ownBlock ≠ some gc := fun e => by
    obtain ⟨cur, hc⟩ := hty gc e
    exact absurd (hc.uniq hgB) (by decide)
  have hlo : ∀ k, v0.ownBlock = some k → w.heap.size ≤ k := fun k hk => (how0.lt k hk).1
  have hg4 := hgB.mods hM hng
  have hcell0 : W.cell? ⟨gc, 2, none⟩ = some v0 := by
    rw [hcr 2 (by omega)]
    exact clsC_get 2 (by omega) bl ms 0 _ v0 hx0 hm0
  have hcell4 : w4.cell? ⟨gc, 2, none⟩ = some v0 := hM.cell hcell0 hng
  have hMs : Mods (fun k => k = gc) w4 (w4.setCell ⟨gc, 2, none⟩ (.slice a' 2 cap')) := (Mods.refl (fun k => k = gc) w4).setCell (p := ⟨gc, 2, none⟩) (fun _ => rfl) _
  have hMM : Mods (fun k => v0.ownBlock = some k ∨ k = gc) W (w4.setCell ⟨gc, 2, none⟩ (.slice a' 2 cap')) := (hM.mono (fun _ _ e => .inl e)).trans hMs (fun _ _ e => .inr e)
  have hbel : Below w.heap.size w (w4.setCell ⟨gc, 2, none⟩ (.slice a' 2 cap')) := h.bel.trans (hMM.below hsz (fun k hk e => by
    rcases e with e | e
    · have := hlo k e; omega
    · have := hgl.1; omega))
  have hmtk : ∀ (j : Nat) (q : Bool) (u : Value), MtOk w W j q u → (∀ k, u.ownBlock = some k → v0.ownBlock ≠ some k) → MtOk w (w4.setCell ⟨gc, 2, none⟩ (.slice a' 2 cap')) j q u := fun j q u hu hd => by
    unfold MtOk at hu ⊢
    cases q with
    | false => exact hu
    | true =>
      obtain ⟨kk, e1, e2⟩ := hu
      refine ⟨kk, e1.mods hMM (fun e => ?_), own_mods e2 hMM (fun g hg e => ?_)⟩
      · rcases e with e | e
        · obtain ⟨cur, hc⟩ := hty kk e
          exact absurd (hc.uniq e1) (by decide)
        · subst e
          exact absurd (hgB.uniq e1) (by decide)
      · rcases e with e | e
        · exact hd g hg e
        · subst e
          obtain ⟨cur, hc⟩ := own_blk e2 hg
          exact absurd (hc.uniq hgB) (by decide)
  refine ⟨gc, ccap, v0, hvp, hgl.2, hgp, hcell0, List.mem_of_getElem? hm0, ⟨curc, hgB⟩, hty, a', 2, cap', w4, hr, hcell4, hg4.frozen 2, hM, hbel, ?_, own_mods h.wh hMM (fun g hg e => ?_)⟩
  · subst hvp
    refine ⟨_, gc, 0, ccap, by rw [boundP_len], by rw [boundP_len]; exact hcc, ⟨fun _ => rfl, .inr (.inl rfl)⟩, fun j y hj => ?_⟩
    obtain ⟨x, hx, rfl⟩ := boundP_at hj
    have hjl := (List.getElem?_eq_some_iff.1 hx).1
    obtain ⟨vj, hvj⟩ : ∃ v, ms[j]? = some v := ⟨_, List.getElem?_eq_getElem (by rw [h.ml]; exact hjl)⟩
    have hcj : ∀ k, k < 3 → W.cell? ⟨gc, j * 3 + k, none⟩ = [Value.int .i64 x.1, nilV, vj][k]? := fun k hk => by
      rw [hcr (j * 3 + k) (by omega)]
      exact clsC_get k hk bl ms j x vj hx hvj
    have hset : ∀ k, k < 3 → (j * 3 + k ≠ 2) → ∀ u, W.cell? ⟨gc, j * 3 + k, none⟩ = some u → (w4.setCell ⟨gc, 2, none⟩ (.slice a' 2 cap')).cell? ⟨gc, 0 + j * 3 + k, none⟩ = some u := fun k hk hne u hu => by
      have h4 : w4.cell? ⟨gc, j * 3 + k, none⟩ = some u := hM.cell hu hng
      rw [Nat.zero_add]
      have hb := hg4.setCell 2 (.slice a' 2 cap')
      rw [hb.cell, List.getElem?_set_ne (by omega), ← hg4.cell]
      exact h4
    by_cases h0 : j = 0
    · subst h0
      rw [hx0] at hx
      cases hx
      rw [hm0] at hvj
      cases hvj
      refine ⟨nilV, .slice a' 2 cap', hset 0 (by omega) (by omega) _ (hcj 0 (by omega)), hset 1 (by omega) (by omega) _ (hcj 1 (by omega)), ?_, nil_sl 1 _, ?_⟩
      · have hb := hg4.setCell 2 (.slice a' 2 cap')
        show (w4.setCell ⟨gc, 2, none⟩ (.slice a' 2 cap')).cell? ⟨gc, 2, none⟩ = _
        have hlen : 2 < curc.length := by
          apply Nat.lt_of_not_le
          intro g
          have := hgB.cell 2
          rw [hcell0, List.getElem?_eq_none g] at this
          cases this
        rw [hb.cell, List.getElem?_set_self hlen]
      · have hk4 := (hk.mods hMM (fun e => by
          rcases e with e | e
          · obtain ⟨cur, hc⟩ := hty kb e
            exact absurd (hc.uniq hk) (by decide)
          · subst e
            exact absurd (hgB.uniq hk) (by decide)))
        have hk04 := (hk0.mods hMM (fun e => by
          rcases e with e | e
          · obtain ⟨cur, hc⟩ := hty kb0 e
            exact absurd (hc.uniq hk0) (by decide)
          · subst e
            exact absurd (hgB.uniq hk0) (by decide)))
        have hownF := own_mods hown hMs (fun g hg e => by
          subst e
          obtain ⟨cur, hc⟩ := own_blk hown hg
          exact absurd (hc.uniq hg4) (by decide))
        refine mt_read (l := [numM 0, mainM a b]) hownF (by simp) (fun i m hi => ?_)
        match i, hi with
        | 0, hi =>
          cases hi
          exact ⟨.slice (some ⟨kb0, 0, none⟩) 2 2, fun i hi => by
            rw [Nat.zero_mul, Nat.zero_add, List.getElem?_append_left (by unfold numC; simpa using hi)]; rfl, code_blk hk04, rfl, rfl⟩
        | 1, hi =>
          cases hi
          exact ⟨.slice (some ⟨kb, 0, none⟩) 6 6, fun i hi => by
            rw [List.getElem?_append_right (by unfold numC; simp), show 1 * 7 + i - (numC kb0).length = i by unfold numC; simp]; rfl, code_blk hk4, rfl, rfl⟩
        | i + 2, hi => cases hi
    · have hmt := h.mt j x vj hx hvj
      have hd : ∀ k, vj.ownBlock = some k → v0.ownBlock ≠ some k := fun k hk => h.ds j 0 vj v0 k h0 hvj hm0 hk
      have hmt' := hmtk j x.2 vj hmt hd
      refine ⟨nilV, vj, hset 0 (by omega) (by omega) _ (hcj 0 (by omega)), hset 1 (by omega) (by omega) _ (hcj 1 (by omega)), hset 2 (by omega) (by omega) _ (hcj 2 (by omega)), nil_sl 1 _, ?_⟩
      obtain ⟨s, q⟩ := x
      cases q with
      | true =>
        have e : methsB a b j (s, true) = [numM j] := by unfold methsB; rw [if_neg h0]; rfl
        show SlAt 7 _ vj (methsB a b j (s, true))
        rw [e]
        exact mt_num hmt'
      | false =>
        have e : methsB a b j (s, false) = [] := by unfold methsB; rw [if_neg h0]; rfl
        show SlAt 7 _ vj (methsB a b j (s, false))
        rw [e, show vj = nilV from hmt']
        exact nil_sl 7 _
  · rcases e with e | e
    · obtain ⟨cur, hc⟩ := hty g e
      obtain ⟨cur2, hc2⟩ := own_blk h.wh hg
      exact absurd (hc.uniq hc2) (by decide)
    · subst e
      obtain ⟨cur2, hc2⟩ := own_blk h.wh hg
      exact absurd (hc2.uniq hgB) (by decide)
end
end Go.Proofs.YtiiokkllmchohaaGreat
