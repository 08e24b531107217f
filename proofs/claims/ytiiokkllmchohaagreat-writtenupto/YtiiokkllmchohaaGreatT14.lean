/- The solver's pure side: what is known at each instruction, raised until nothing moves. -/
import Derived.Test.YtiiokkllmchohaaGreatT13
/- SolP -/
namespace Go.Proofs.YtiiokkllmchohaaGreat
open Go.RowKit

def zeroS : TSt := ⟨List.replicate 8 0, []⟩
theorem zeroS_ok : okS zeroS := ⟨rfl, by decide⟩
theorem zeroS_cells : stCells zeroS = zero17 := rfl
structure SvSt where
  st : List TSt
  re : List Bool
  ra : List Bool
def sv0 : SvSt := ⟨List.replicate 40 zeroS, List.replicate 40 false, List.replicate 40 false⟩
def putP (s : SvSt) (i : Nat) (g : TSt) : SvSt := ⟨s.st.set i g, s.re.set i true, s.ra.set i true⟩
def reachP (p : List LClass) (i : Nat) (g : TSt) (s : SvSt) : Option SvSt :=
  if s.re.getD i false then
    if belowS p g (s.st.getD i zeroS) then some s
    else if (s.st.getD i zeroS).stk.length = g.stk.length then some (putP s i (joinS p (s.st.getD i zeroS) g)) else none
  else some (putP s i g)
def reachAll (p : List LClass) (n : TSt) : List (Int × Bool) → SvSt → Option SvSt
  | [], s => some s
  | y :: r, s => (reachP p y.1.toNat n s).bind (reachAll p n r)
def goOnP (p : List LClass) (m : LMeth) (i : Nat) (s : SvSt) : Option SvSt := (nextS p m i (s.st.getD i zeroS)).bind fun n => reachAll p n (onwardL (insAt m i) i) s
def askP (p : List LClass) (m : LMeth) (i : Nat) (s : SvSt × Bool) : Option (SvSt × Bool) :=
  if s.1.ra.getD i false then (goOnP p m i { s.1 with ra := s.1.ra.set i false }).map fun s' => (s', true) else some s
def roundP (p : List LClass) (m : LMeth) (s : SvSt) : Nat → Option (SvSt × Bool)
  | 0 => some (s, false)
  | k + 1 => (roundP p m s k).bind (askP p m k)
def solveN (p : List LClass) (m : LMeth) : Nat → SvSt → Option (Option SvSt)
  | 0, _ => none
  | n + 1, s => match roundP p m s m.code.length with
    | none => some none
    | some (s', true) => solveN p m n s'
    | some (s', false) => some (some s')

structure SvC (s : SvSt) (css : List (List Value)) : Prop where
  l1 : s.st.length = 40
  l2 : s.re.length = 40
  l3 : s.ra.length = 40
  lc : css.length = 40
  cs : ∀ (i : Nat) (x : TSt) (c : List Value), s.st[i]? = some x → css[i]? = some c → StC x c
def svCells (vp : Value) (mc : List Value) (css : List (List Value)) (s : SvSt) : List Value := vp :: mc ++ (css.flatten ++ (s.re.map Value.bool ++ s.ra.map Value.bool))
def SvAt (w : World) (bs : Nat) (vp : Value) (mc : List Value) (s : SvSt) : Prop := ∃ css, SvC s css ∧ Blk w bs 134 (svCells vp mc css s)
theorem SvC.one {s : SvSt} {css : List (List Value)} (h : SvC s css) {i : Nat} {c : List Value} (hc : css[i]? = some c) : c.length = 17 := by
  have hi : i < css.length := (List.getElem?_eq_some_iff.1 hc).1
  have hx := List.getElem?_eq_getElem (show i < s.st.length by rw [h.l1, ← h.lc]; exact hi)
  exact (h.cs i _ c hx hc).len
theorem SvC.put {s : SvSt} {css : List (List Value)} (h : SvC s css) (i : Nat) {g : TSt} {c : List Value} (hc : StC g c) : SvC (putP s i g) (css.set i c) := by
  refine ⟨by simpa [putP] using h.l1, by simpa [putP] using h.l2, by simpa [putP] using h.l3, by simpa using h.lc, fun j x d e1 e2 => ?_⟩
  have e1' : (s.st.set i g)[j]? = some x := e1
  by_cases hij : i = j
  · subst hij
    have hi : i < s.st.length := by
      have := (List.getElem?_eq_some_iff.1 e1').1
      simpa using this
    rw [List.getElem?_set_self hi] at e1'
    rw [List.getElem?_set_self (by rw [h.lc, ← h.l1]; exact hi)] at e2
    obtain rfl := Option.some.inj e1'
    obtain rfl := Option.some.inj e2
    exact hc
  · rw [List.getElem?_set_ne hij] at e1' e2
    exact h.cs j x d e1' e2
end Go.Proofs.YtiiokkllmchohaaGreat
/- The solver's block: rows of seventeen cells, read and written. -/
namespace Go.Proofs.YtiiokkllmchohaaGreat
open Go.RowKit

theorem flt_len : ∀ (css : List (List Value)), (∀ c ∈ css, c.length = 17) → css.flatten.length = css.length * 17
  | [], _ => rfl
  | c :: r, h => by
    rw [List.flatten_cons, List.length_append, flt_len r (fun d hd => h d (by simp [hd])), h c (by simp), List.length_cons]
    omega
theorem flt_get : ∀ (css : List (List Value)), (∀ c ∈ css, c.length = 17) → ∀ (i : Nat) (c : List Value), css[i]? = some c → ∀ (j : Nat) (v : Value), c[j]? = some v → css.flatten[i * 17 + j]? = some v
  | [], _, i, c, hc, _, _, _ => by simp at hc
  | d :: r, h, 0, c, hc, j, v, hv => by
    obtain rfl : d = c := by simpa using hc
    have hj : j < d.length := (List.getElem?_eq_some_iff.1 hv).1
    rw [List.flatten_cons, Nat.zero_mul, Nat.zero_add, List.getElem?_append_left hj]
    exact hv
  | d :: r, h, i + 1, c, hc, j, v, hv => by
    have hd : d.length = 17 := h d (by simp)
    rw [List.flatten_cons, List.getElem?_append_right (by omega), hd, show (i + 1) * 17 + j - 17 = i * 17 + j by omega]
    exact flt_get r (fun e he => h e (by simp [he])) i c (by simpa using hc) j v hv
theorem flt_set : ∀ (css : List (List Value)), (∀ c ∈ css, c.length = 17) → ∀ (i : Nat) (c : List Value), c.length = 17 → i < css.length → css.flatten.take (i * 17) ++ c ++ css.flatten.drop (i * 17 + 17) = (css.set i c).flatten
  | [], _, i, _, _, hi => by simp at hi
  | d :: r, h, 0, c, hc, _ => by
    have hd : d.length = 17 := h d (by simp)
    rw [List.flatten_cons, Nat.zero_mul, List.take_zero, List.nil_append, Nat.zero_add, List.drop_append, hd, Nat.sub_self, List.drop_zero, List.drop_of_length_le (by omega), List.nil_append, List.set_cons_zero, List.flatten_cons]
  | d :: r, h, i + 1, c, hc, hi => by
    have hd : d.length = 17 := h d (by simp)
    have ih := flt_set r (fun e he => h e (by simp [he])) i c hc (by simpa using hi)
    rw [List.flatten_cons, List.take_append, List.drop_append, hd, show (i + 1) * 17 - 17 = i * 17 by omega, show (i + 1) * 17 + 17 - 17 = i * 17 + 17 by omega, List.take_of_length_le (by omega), List.drop_of_length_le (by omega), List.nil_append, List.set_cons_succ, List.flatten_cons, ← ih]
    simp
theorem SvC.all {s : SvSt} {css : List (List Value)} (h : SvC s css) : ∀ c ∈ css, c.length = 17 := fun c hc => by
  obtain ⟨i, hi, rfl⟩ := List.getElem_of_mem hc
  exact h.one (List.getElem?_eq_getElem hi)
theorem sv_state {vp : Value} {mc : List Value} {s : SvSt} {css : List (List Value)} (h : SvC s css) (hm : mc.length = 7) {i : Nat} {c : List Value} (hc : css[i]? = some c) (j : Nat) (v : Value) (hv : c[j]? = some v) : (svCells vp mc css s)[8 + i * 17 + j]? = some v := by
  have hl := flt_len css h.all
  have hi : i < css.length := (List.getElem?_eq_some_iff.1 hc).1
  have hj : j < c.length := (List.getElem?_eq_some_iff.1 hv).1
  have h17 := h.one hc
  have h40 := h.lc
  unfold svCells
  rw [List.getElem?_append_right (by simp [hm]; omega), List.length_cons, hm, show 8 + i * 17 + j - (7 + 1) = i * 17 + j by omega, List.getElem?_append_left (by omega)]
  exact flt_get css h.all i c hc j v hv
theorem sv_re {vp : Value} {mc : List Value} {s : SvSt} {css : List (List Value)} (h : SvC s css) (hm : mc.length = 7) {i : Nat} (hi : i < 40) : (svCells vp mc css s)[688 + i]? = some (.bool (s.re.getD i false)) := by
  have hl := flt_len css h.all
  have h40 := h.lc
  have h2 := h.l2
  unfold svCells
  rw [List.getElem?_append_right (by simp [hm]; omega), List.length_cons, hm, show 688 + i - (7 + 1) = 680 + i by omega, List.getElem?_append_right (by omega), hl, h40, show 680 + i - 40 * 17 = i by omega, List.getElem?_append_left (by simp; omega), List.getElem?_map, List.getD_eq_getElem?_getD, List.getElem?_eq_getElem (by omega)]
  rfl
theorem sv_ra {vp : Value} {mc : List Value} {s : SvSt} {css : List (List Value)} (h : SvC s css) (hm : mc.length = 7) {i : Nat} (hi : i < 40) : (svCells vp mc css s)[728 + i]? = some (.bool (s.ra.getD i false)) := by
  have hl := flt_len css h.all
  have h40 := h.lc
  have h2 := h.l2
  have h3 := h.l3
  unfold svCells
  rw [List.getElem?_append_right (by simp [hm]; omega), List.length_cons, hm, show 728 + i - (7 + 1) = 720 + i by omega, List.getElem?_append_right (by omega), hl, h40, show 720 + i - 40 * 17 = 40 + i by omega, List.getElem?_append_right (by simp; omega), List.length_map, h2, Nat.add_sub_cancel_left, List.getElem?_map, List.getD_eq_getElem?_getD, List.getElem?_eq_getElem (by omega)]
  rfl
theorem sv_put {vp : Value} {mc : List Value} {s : SvSt} {css : List (List Value)} (h : SvC s css) (hm : mc.length = 7) {i : Nat} (hi : i < 40) {c : List Value} (hc : c.length = 17) : putAt (svCells vp mc css s) (8 + i * 17) c = svCells vp mc (css.set i c) s := by
  have hl := flt_len css h.all
  have h40 := h.lc
  unfold putAt svCells
  have l8 : (vp :: mc).length = 8 := by simp [hm]
  rw [List.take_append, List.drop_append, l8, Nat.add_sub_cancel_left, hc, show 8 + i * 17 + 17 - 8 = i * 17 + 17 by omega, List.take_of_length_le (by omega), List.drop_of_length_le (by omega), List.nil_append, List.take_append_of_le_length (by omega), List.drop_append_of_le_length (by omega), ← flt_set css h.all i c hc (by omega)]
  simp
theorem sv_setre {vp : Value} {mc : List Value} {s : SvSt} {css : List (List Value)} (h : SvC s css) (hm : mc.length = 7) {i : Nat} (hi : i < 40) (b : Bool) : (svCells vp mc css s).set (688 + i) (.bool b) = svCells vp mc css { s with re := s.re.set i b } := by
  have hl := flt_len css h.all
  have h40 := h.lc
  have h2 := h.l2
  have l8 : (vp :: mc).length = 8 := by simp [hm]
  unfold svCells
  rw [List.set_append_right _ _ (by omega), l8, show 688 + i - 8 = 680 + i by omega, List.set_append_right _ _ (by omega), hl, h40, show 680 + i - 40 * 17 = i by omega, List.set_append_left _ _ (by simp; omega), List.map_set]
theorem sv_setra {vp : Value} {mc : List Value} {s : SvSt} {css : List (List Value)} (h : SvC s css) (hm : mc.length = 7) {i : Nat} (_hi : i < 40) (b : Bool) : (svCells vp mc css s).set (728 + i) (.bool b) = svCells vp mc css { s with ra := s.ra.set i b } := by
  have hl := flt_len css h.all
  have h40 := h.lc
  have h2 := h.l2
  have l8 : (vp :: mc).length = 8 := by simp [hm]
  unfold svCells
  rw [List.set_append_right _ _ (by omega), l8, show 728 + i - 8 = 720 + i by omega, List.set_append_right _ _ (by omega), hl, h40, show 720 + i - 40 * 17 = 40 + i by omega, List.set_append_right _ _ (by simp; omega), List.length_map, h2, Nat.add_sub_cancel_left, List.map_set]
theorem SvC.setre {s : SvSt} {css : List (List Value)} (h : SvC s css) (i : Nat) (b : Bool) : SvC { s with re := s.re.set i b } css := ⟨h.l1, by simpa using h.l2, h.l3, h.lc, h.cs⟩
theorem SvC.setra {s : SvSt} {css : List (List Value)} (h : SvC s css) (i : Nat) (b : Bool) : SvC { s with ra := s.ra.set i b } css := ⟨h.l1, h.l2, by simpa using h.l3, h.lc, h.cs⟩
theorem SvC.setst {s : SvSt} {css : List (List Value)} (h : SvC s css) (i : Nat) {g : TSt} {c : List Value} (hc : StC g c) : SvC { s with st := s.st.set i g } (css.set i c) :=
  have k := h.put i hc
  ⟨k.l1, h.l2, h.l3, k.lc, k.cs⟩
end Go.Proofs.YtiiokkllmchohaaGreat
/- The solver: a state is given to an instruction that was not come to. -/
namespace Go.Proofs.YtiiokkllmchohaaGreat
open Go.RowKit Go.Shelf
attribute [local go_sem ↓] Go.wp_at_zero Go.wp_at_succ
attribute [local go_sem] frz_drew

theorem wp_store_blk {P : Program} {ty : TypeId} {n : Nat} (h : AggOk P ty n) {w : World} {g : Nat} {t : TypeId} {cur : List Value} (hB : Blk w g t cur) (off : Nat) (vs : List Value) (hl : vs.length = n) (hf : off + n ≤ cur.length) (h1 : ∀ v ∈ vs, v.oneCell' = true)
    {o : Oper} {a : Act} {K : Act → World → Prop} {Q : Exit → Act → World → Prop} (x y : Operand) (ho : o.op = .store ty x y) (hx : a.eval x = .pointer (some ⟨g, off, none⟩)) (hy : a.eval y = .agg vs.toArray)
    (hK : ∀ w', Blk w' g t (putAt cur off vs) → Mods (fun k => k = g) w w' → w'.heap.size = w.heap.size → K (a.put o.dst undef) w') : o.wp P a w K Q := by
  unfold Oper.wp execOp
  simp only [ho, hx, hy, Instr.storeAt, Instr.sureAddr, Sem.run_bind, Sem.run_pure, Result.andThen_ok, run_store_blk h hB off vs hl hf h1]
  obtain ⟨h1, h2, h3⟩ := store_blk hB (putAt cur off vs)
  exact hK _ h1 h2 h3
set_option maxHeartbeats 1000000 in
set_option maxRecDepth 100000 in
theorem sv_reach_new (i : Nat) (g : TSt) (c : List Value) (w : World) (bs : Nat) (vp : Value) (mc : List Value) (s : SvSt) (h : SvAt w bs vp mc s) (hm : mc.length = 7) (hi : i < 40) (hg : StC g c) (hre : s.re.getD i false = false) :
    Calls Tryz.prog 78 #[.pointer (some ⟨bs, 0, none⟩), .int .i64 (i : Int), .agg c.toArray] w fun e w' => e = .returned (.tuple #[]) ∧ SvAt w' bs vp mc (putP s i g) ∧ Mods (fun k => k = bs) w w' := by
  obtain ⟨css, hC, hB⟩ := h
  have hbs := hB.lt
  have hl := hg.len
  have BW := hB.alloc (.cells c.toArray 130)
  have BX := Blk.new w c.toArray 130
  have r0 : (w.alloc (.cells c.toArray 130)).cell? ⟨bs, 688 + i, none⟩ = some (.bool false) := by rw [BW.cell, sv_re hC hm hi, hre]
  have HM := hide (bnone (S := fun k => k = bs) (box_below w (.cells c.toArray 130)))
  have i0 : (0 : Int) ≤ (i : Int) := by omega
  have i40 : (i : Int) < 40 := by omega
  go_enter Tryz.func78, Tryz.ntmps78
  go_wp2_with fail
  generalize w.alloc _ = W at *
  refine wp_region_noPanic ?_
  refine wp_region_held_drew (S := (fun w' => Blk w' w.heap.size 130 c)) (by kernel_rfl) ?_ (fun hHeld => ?_)
  · exact BX
  have hlen : (svCells vp mc css s).length = 768 := by
    unfold svCells
    rw [List.length_append, List.length_append, List.length_append, List.length_map, List.length_map, flt_len css hC.all, List.length_cons, hm, hC.lc, hC.l2, hC.l3]
  refine take_x (some 45) 0 rfl rfl ?_
  try simp only [Act.put, List.setIfInBounds_toArray, List.set_cons_zero, List.set_cons_succ]
  refine take_x (some 46) 1 rfl rfl ?_
  try simp only [Act.put, List.setIfInBounds_toArray, List.set_cons_zero, List.set_cons_succ]
  refine take_x (some 47) 2 rfl rfl ?_
  try simp only [Act.put, List.setIfInBounds_toArray, List.set_cons_zero, List.set_cons_succ]
  refine take_x (some 48) 3 rfl rfl ?_
  try simp only [Act.put, List.setIfInBounds_toArray, List.set_cons_zero, List.set_cons_succ]
  refine take_x (some 49) 4 rfl rfl ?_
  try simp only [Act.put, List.setIfInBounds_toArray, List.set_cons_zero, List.set_cons_succ]
  refine take_x (some 50) 5 rfl rfl ?_
  try simp only [Act.put, List.setIfInBounds_toArray, List.set_cons_zero, List.set_cons_succ]
  refine take_d (some 51) (i := 6) (v := .agg c.toArray) rfl rfl (by kernel_rfl) (by kernel_rfl) (by kernel_rfl) (fun _ _ _ h => h) (Or.inl ⟨by rfl, fun w' hSw => exec_load_blk aggSt hSw 0 c hl (fun j v e => by simpa using e) rfl rfl⟩) (by assumption) ?_
  try simp only [Act.put, List.setIfInBounds_toArray, List.set_cons_zero, List.set_cons_succ]
  refine take_x (some 52) 7 rfl rfl ?_
  try simp only [Act.put, List.setIfInBounds_toArray, List.set_cons_zero, List.set_cons_succ]
  refine take_x (some 53) 8 rfl rfl ?_
  try simp only [Act.put, List.setIfInBounds_toArray, List.set_cons_zero, List.set_cons_succ]
  refine take_x (some 54) 9 rfl rfl ?_
  try simp only [Act.put, List.setIfInBounds_toArray, List.set_cons_zero, List.set_cons_succ]
  refine take_x (some 55) 11 rfl rfl ?_
  try simp only [Act.put, List.setIfInBounds_toArray, List.set_cons_zero, List.set_cons_succ]
  refine take_x (some 56) 12 rfl rfl ?_
  try simp only [Act.put, List.setIfInBounds_toArray, List.set_cons_zero, List.set_cons_succ]
  refine take_x (some 58) 15 rfl rfl ?_
  try simp only [Act.put, List.setIfInBounds_toArray, List.set_cons_zero, List.set_cons_succ]
  refine take_x (some 59) 16 rfl rfl ?_
  try simp only [Act.put, List.setIfInBounds_toArray, List.set_cons_zero, List.set_cons_succ]
  refine wpAnyH_ready (rs := [10]) (by kernel_rfl) (by simp) ?_
  refine AllReadyH.cons rfl (fun K hK => ?_) AllReadyH.nil
  refine wp_store_blk aggSt BW.drew (8 + i * 17) c hl (by rw [hlen]; omega) hg.one (.tmp 54) (.tmp 51) rfl rfl rfl ?_
  intro w2 hB2 hM2 hs2
  rw [sv_put hC hm hi hl] at hB2
  have hX2 := BX.drew.mods hM2 (by omega)
  have hC2 := hC.setst i hg
  have hM3 := (unhide HM).drew.trans hM2 (fun _ _ e => e)
  have hB2' : Blk w2 bs 134 (svCells vp mc (css.set i c) { s with st := s.st.set i g }) := hB2
  have a14 : ∃ b, w2.cell? ⟨bs, 688 + i, none⟩ = some (.bool b) := ⟨_, by rw [hB2'.cell, sv_re hC2 hm hi]⟩
  obtain ⟨b14, a14⟩ := a14
  have f14 := hB2'.frozen (688 + i)
  go_simp
  refine hK.out _ _ hX2 (fun hHeld => ?_)
  clear hK K
  try simp only [Act.put, List.setIfInBounds_toArray, List.set_cons_zero, List.set_cons_succ]
  refine take_x (some 57) 13 rfl rfl ?_
  try simp only [Act.put, List.setIfInBounds_toArray, List.set_cons_zero, List.set_cons_succ]
  have hB3 := hB2'.setCell (688 + i) (.bool true)
  rw [sv_setre hC2 hm hi] at hB3
  have hC3 := hC2.setre i true
  have hX3 := hX2.setCell_ne (p := ⟨bs, 688 + i, none⟩) (by dsimp only; omega) (.bool true)
  refine wpAnyH_ready (rs := [14]) (by kernel_rfl) (by simp) ?_
  refine AllReadyH.cons rfl (fun K hK => ?_) AllReadyH.nil
  go_simp
  refine hK.out _ _ hX3 (fun hHeld => ?_)
  clear hK K
  try simp only [Act.put, List.setIfInBounds_toArray, List.set_cons_zero, List.set_cons_succ]
  have hM4 := hM3.setCell (p := ⟨bs, 688 + i, none⟩) (fun _ => rfl) (.bool true)
  generalize w2.setCell _ _ = w3 at *
  refine take_x (some 60) 17 rfl rfl ?_
  try simp only [Act.put, List.setIfInBounds_toArray, List.set_cons_zero, List.set_cons_succ]
  have a18 : ∃ b, w3.cell? ⟨bs, 728 + i, none⟩ = some (.bool b) := ⟨_, by rw [hB3.cell, sv_ra hC3 hm hi]⟩
  obtain ⟨b18, a18⟩ := a18
  have f18 := hB3.frozen (728 + i)
  have hB4 := hB3.setCell (728 + i) (.bool true)
  rw [sv_setra hC3 hm hi] at hB4
  have hC4 := hC3.setra i true
  refine wpAnyH_ready (rs := [18]) (by kernel_rfl) (by simp) ?_
  refine AllReadyH.cons rfl (fun K hK => ?_) AllReadyH.nil
  go_simp
  refine hK.out _ _ (hX3.setCell_ne (p := ⟨bs, 728 + i, none⟩) (by dsimp only; omega) (.bool true)) (fun hHeld => ?_)
  clear hK K
  try simp only [Act.put, List.setIfInBounds_toArray, List.set_cons_zero, List.set_cons_succ]
  refine wpAnyH_done (by kernel_rfl) ?_ _
  refine NoPanic.normal ?_
  have HF := hide (And.intro (show SvAt _ bs vp mc (putP s i g) from ⟨_, hC4, hB4⟩) (hM4.setCell (p := ⟨bs, 728 + i, none⟩) (fun _ => rfl) (.bool true)))
  go_wp2_with fail
  go_end0
  exact ⟨rfl, (unhide HF).1, (unhide HF).2⟩
end Go.Proofs.YtiiokkllmchohaaGreat
/- The solver: a state is given to an instruction whose state is above it. -/
namespace Go.Proofs.YtiiokkllmchohaaGreat
open Go.RowKit Go.Shelf
attribute [local go_sem ↓] Go.wp_at_zero Go.wp_at_succ
attribute [local go_sem] frz_drew

set_option maxHeartbeats 1000000 in
set_option maxRecDepth 100000 in
theorem sv_reach_below (p : List LClass) (i : Nat) (g : TSt) (c : List Value) (w : World) (bs : Nat) (vp : Value) (mc : List Value) (s : SvSt) (h : SvAt w bs vp mc s) (hm : mc.length = 7) (hi : i < 40) (hg : StC g c) (hre : s.re.getD i false = true) (hp : RProg w vp p) (hs : SupOk p p.length) (hz : p.length ≤ 4194304)
    (k k' : Int) (tg : TyS p.length k g) (ti : TyS p.length k' (s.st.getD i zeroS)) (hbl : belowS p g (s.st.getD i zeroS) = true) :
    Calls Tryz.prog 78 #[.pointer (some ⟨bs, 0, none⟩), .int .i64 (i : Int), .agg c.toArray] w fun e w' => e = .returned (.tuple #[]) ∧ SvAt w' bs vp mc s ∧ Mods (fun k => k = bs) w w' := by
  have HP := hide hp
  obtain ⟨pa, _, _, pcap, rfl, _⟩ := hp
  obtain ⟨css, hC, hB⟩ := h
  have hbs := hB.lt
  have hl := hg.len
  have hil : i < s.st.length := by rw [hC.l1]; exact hi
  have hcl : i < css.length := by rw [hC.lc]; exact hi
  have hgi : StC (s.st.getD i zeroS) css[i] := by
    have e : s.st.getD i zeroS = s.st[i] := by rw [List.getD_eq_getElem?_getD, List.getElem?_eq_getElem hil]; rfl
    rw [e]
    exact hC.cs i _ _ (List.getElem?_eq_getElem hil) (List.getElem?_eq_getElem hcl)
  have hsv := fun j v (e : css[i][j]? = some v) => sv_state (vp := .slice pa p.length pcap) hC hm (List.getElem?_eq_getElem hcl) j v e
  have hli := hgi.len
  generalize css[i] = ci at *
  generalize s.st.getD i zeroS = u at *
  have BW := hB.alloc (.cells c.toArray 130)
  have BX := Blk.new w c.toArray 130
  have r0 : (w.alloc (.cells c.toArray 130)).cell? ⟨bs, 688 + i, none⟩ = some (.bool true) := by rw [BW.cell, sv_re hC hm hi, hre]
  have hbw := box_below w (.cells c.toArray 130)
  have HRP := hide (prog_keep (Keeps.of_below hbw) (unhide HP))
  have i0 : (0 : Int) ≤ (i : Int) := by omega
  have i40 : (i : Int) < 40 := by omega
  go_enter Tryz.func78, Tryz.ntmps78
  go_wp2_with fail
  generalize w.alloc _ = W at *
  have c0 : W.cell? ⟨bs, 0, none⟩ = some (.slice pa p.length pcap) := BW.cell 0
  refine wp_region_held_drew (S := (fun w' => Blk w' w.heap.size 130 c ∧ Blk w' bs 134 (svCells (.slice pa p.length pcap) mc css s) ∧ w'.cell? ⟨bs, 0, none⟩ = some (.slice pa p.length pcap))) (by kernel_rfl) ?_ (fun hHeld => ?_)
  · exact (And.intro BX (And.intro BW c0))
  refine take_d (some 14) (i := 0) (v := .agg c.toArray) rfl rfl (by kernel_rfl) (by kernel_rfl) (by kernel_rfl) (fun _ _ _ h => h) (Or.inl ⟨by rfl, fun w' hSw => exec_load_blk aggSt hSw.1 0 c hl (fun j v e => by simpa using e) rfl rfl⟩) (by assumption) ?_
  try simp only [Act.put, List.setIfInBounds_toArray, List.set_cons_zero, List.set_cons_succ]
  refine take_x (some 15) 1 rfl rfl ?_
  try simp only [Act.put, List.setIfInBounds_toArray, List.set_cons_zero, List.set_cons_succ]
  refine take_x (some 16) 2 rfl rfl ?_
  try simp only [Act.put, List.setIfInBounds_toArray, List.set_cons_zero, List.set_cons_succ]
  refine take_x (some 17) 3 rfl rfl ?_
  try simp only [Act.put, List.setIfInBounds_toArray, List.set_cons_zero, List.set_cons_succ]
  refine take_x (some 18) 4 rfl rfl ?_
  try simp only [Act.put, List.setIfInBounds_toArray, List.set_cons_zero, List.set_cons_succ]
  refine take_x (some 19) 5 rfl rfl ?_
  try simp only [Act.put, List.setIfInBounds_toArray, List.set_cons_zero, List.set_cons_succ]
  refine take_x (some 20) 6 rfl rfl ?_
  try simp only [Act.put, List.setIfInBounds_toArray, List.set_cons_zero, List.set_cons_succ]
  refine take_x (some 21) 7 rfl rfl ?_
  try simp only [Act.put, List.setIfInBounds_toArray, List.set_cons_zero, List.set_cons_succ]
  refine take_x (some 22) 8 rfl rfl ?_
  try simp only [Act.put, List.setIfInBounds_toArray, List.set_cons_zero, List.set_cons_succ]
  refine take_x (some 23) 9 rfl rfl ?_
  try simp only [Act.put, List.setIfInBounds_toArray, List.set_cons_zero, List.set_cons_succ]
  refine take_d (some 24) (i := 10) (v := .agg ci.toArray) rfl rfl (by kernel_rfl) (by kernel_rfl) (by kernel_rfl) (fun _ _ _ h => h) (Or.inl ⟨by rfl, fun w' hSw => exec_load_blk aggSt hSw.2.1 (8 + i * 17) ci hli hsv rfl rfl⟩) (by assumption) ?_
  try simp only [Act.put, List.setIfInBounds_toArray, List.set_cons_zero, List.set_cons_succ]
  refine wpAnyH_ready (rs := [11]) (by kernel_rfl) (by simp) ?_
  refine AllReadyH.cons rfl (fun K hK => ?_) AllReadyH.nil
  go_simp
  refine (st_below p _ g u c ci _ (prog_keep (Keeps.of_below ((Below.refl _ _).drew)) (unhide HRP)) hs hz hg hgi tg.1 tg.2.1 ti.1 ti.2.1).mono ?_
  rintro e w3 ⟨rfl, hb3⟩
  have hb3' : Below W.heap.size W w3 := ⟨hb3.os, hb3.tape, hb3.output, hb3.size, hb3.block⟩
  have hBf := BW.below hb3' BW.lt
  have HF := hide (And.intro (show SvAt w3 bs (.slice pa p.length pcap) mc s from ⟨css, hC, hBf⟩) (bnone (S := fun k => k = bs) (hbw.trans (hb3'.mono hbw.size))))
  rw [hbl]
  go_wp2_with fail
  refine hK.out _ _ (And.intro (BX.below hb3' BX.lt) (And.intro hBf (hBf.cell 0))) (fun hHeld => ?_)
  clear hK K
  try simp only [Act.put, List.setIfInBounds_toArray, List.set_cons_zero, List.set_cons_succ]
  refine wpAnyH_done (by kernel_rfl) ?_ _
  go_wp2_with fail
  refine bodyPost_ret (results_none rfl _ _ _) rfl ?_
  exact ⟨rfl, (unhide HF).1, (unhide HF).2⟩
end Go.Proofs.YtiiokkllmchohaaGreat
/- The solver: a state is given to an instruction whose state is not above it. -/
namespace Go.Proofs.YtiiokkllmchohaaGreat
open Go.RowKit Go.Shelf
attribute [local go_sem ↓] Go.wp_at_zero Go.wp_at_succ
attribute [local go_sem] frz_drew

def JoinL (p : List LClass) (i : Nat) (g : TSt) (s : SvSt) (bs : Nat) (vp : Value) (mc : List Value) (w w' : World) (e : Ending) : Prop :=
  ((s.st.getD i zeroS).stk.length = g.stk.length → e = .returned (.tuple #[]) ∧ SvAt w' bs vp mc (putP s i (joinS p (s.st.getD i zeroS) g))) ∧ ((s.st.getD i zeroS).stk.length ≠ g.stk.length → e = .panicked (refC 5)) ∧ Mods (fun k => k = bs) w w'
set_option maxHeartbeats 1000000 in
set_option maxRecDepth 100000 in
theorem sv_reach_join (p : List LClass) (i : Nat) (g : TSt) (c : List Value) (w : World) (bs : Nat) (vp : Value) (mc : List Value) (s : SvSt) (h : SvAt w bs vp mc s) (hm : mc.length = 7) (hi : i < 40) (hg : StC g c) (hre : s.re.getD i false = true) (hp : RProg w vp p) (hs : SupOk p p.length) (hz : p.length ≤ 4194304)
    (k k' : Int) (tg : TyS p.length k g) (ti : TyS p.length k' (s.st.getD i zeroS)) (hbl : belowS p g (s.st.getD i zeroS) = false) :
    Calls Tryz.prog 78 #[.pointer (some ⟨bs, 0, none⟩), .int .i64 (i : Int), .agg c.toArray] w fun e w' => JoinL p i g s bs vp mc w w' e := by
  have HP := hide hp
  obtain ⟨pa, _, _, pcap, rfl, _⟩ := hp
  obtain ⟨css, hC, hB⟩ := h
  have hbs := hB.lt
  have hl := hg.len
  have hil : i < s.st.length := by rw [hC.l1]; exact hi
  have hcl : i < css.length := by rw [hC.lc]; exact hi
  have hgi : StC (s.st.getD i zeroS) css[i] := by
    have e : s.st.getD i zeroS = s.st[i] := by rw [List.getD_eq_getElem?_getD, List.getElem?_eq_getElem hil]; rfl
    rw [e]
    exact hC.cs i _ _ (List.getElem?_eq_getElem hil) (List.getElem?_eq_getElem hcl)
  have hsv := fun j v (e : css[i][j]? = some v) => sv_state (vp := .slice pa p.length pcap) hC hm (List.getElem?_eq_getElem hcl) j v e
  have hli := hgi.len
  unfold JoinL
  generalize css[i] = ci at *
  generalize s.st.getD i zeroS = u at *
  have BW := hB.alloc (.cells c.toArray 130)
  have BX := Blk.new w c.toArray 130
  have r0 : (w.alloc (.cells c.toArray 130)).cell? ⟨bs, 688 + i, none⟩ = some (.bool true) := by rw [BW.cell, sv_re hC hm hi, hre]
  have hbw := box_below w (.cells c.toArray 130)
  have HRP := hide (prog_keep (Keeps.of_below hbw) (unhide HP))
  have i0 : (0 : Int) ≤ (i : Int) := by omega
  have i40 : (i : Int) < 40 := by omega
  have hlen : (svCells (.slice pa p.length pcap) mc css s).length = 768 := by
    unfold svCells
    rw [List.length_append, List.length_append, List.length_append, List.length_map, List.length_map, flt_len css hC.all, List.length_cons, hm, hC.lc, hC.l2, hC.l3]
  go_enter Tryz.func78, Tryz.ntmps78
  go_wp2_with fail
  generalize w.alloc _ = W at *
  have c0 : W.cell? ⟨bs, 0, none⟩ = some (.slice pa p.length pcap) := BW.cell 0
  refine wp_region_held_drew (S := (fun w' => Blk w' w.heap.size 130 c ∧ Blk w' bs 134 (svCells (.slice pa p.length pcap) mc css s) ∧ w'.cell? ⟨bs, 0, none⟩ = some (.slice pa p.length pcap))) (by kernel_rfl) ?_ (fun hHeld => ?_)
  · exact (And.intro BX (And.intro BW c0))
  refine take_d (some 14) (i := 0) (v := .agg c.toArray) rfl rfl (by kernel_rfl) (by kernel_rfl) (by kernel_rfl) (fun _ _ _ h => h) (Or.inl ⟨by rfl, fun w' hSw => exec_load_blk aggSt hSw.1 0 c hl (fun j v e => by simpa using e) rfl rfl⟩) (by assumption) ?_
  try simp only [Act.put, List.setIfInBounds_toArray, List.set_cons_zero, List.set_cons_succ]
  refine take_x (some 15) 1 rfl rfl ?_
  try simp only [Act.put, List.setIfInBounds_toArray, List.set_cons_zero, List.set_cons_succ]
  refine take_x (some 16) 2 rfl rfl ?_
  try simp only [Act.put, List.setIfInBounds_toArray, List.set_cons_zero, List.set_cons_succ]
  refine take_x (some 17) 3 rfl rfl ?_
  try simp only [Act.put, List.setIfInBounds_toArray, List.set_cons_zero, List.set_cons_succ]
  refine take_x (some 18) 4 rfl rfl ?_
  try simp only [Act.put, List.setIfInBounds_toArray, List.set_cons_zero, List.set_cons_succ]
  refine take_x (some 19) 5 rfl rfl ?_
  try simp only [Act.put, List.setIfInBounds_toArray, List.set_cons_zero, List.set_cons_succ]
  refine take_x (some 20) 6 rfl rfl ?_
  try simp only [Act.put, List.setIfInBounds_toArray, List.set_cons_zero, List.set_cons_succ]
  refine take_x (some 21) 7 rfl rfl ?_
  try simp only [Act.put, List.setIfInBounds_toArray, List.set_cons_zero, List.set_cons_succ]
  refine take_x (some 22) 8 rfl rfl ?_
  try simp only [Act.put, List.setIfInBounds_toArray, List.set_cons_zero, List.set_cons_succ]
  refine take_x (some 23) 9 rfl rfl ?_
  try simp only [Act.put, List.setIfInBounds_toArray, List.set_cons_zero, List.set_cons_succ]
  refine take_d (some 24) (i := 10) (v := .agg ci.toArray) rfl rfl (by kernel_rfl) (by kernel_rfl) (by kernel_rfl) (fun _ _ _ h => h) (Or.inl ⟨by rfl, fun w' hSw => exec_load_blk aggSt hSw.2.1 (8 + i * 17) ci hli hsv rfl rfl⟩) (by assumption) ?_
  try simp only [Act.put, List.setIfInBounds_toArray, List.set_cons_zero, List.set_cons_succ]
  refine wpAnyH_ready (rs := [11]) (by kernel_rfl) (by simp) ?_
  refine AllReadyH.cons rfl (fun K hK => ?_) AllReadyH.nil
  go_simp
  refine (st_below p _ g u c ci _ (prog_keep (Keeps.of_below ((Below.refl _ _).drew)) (unhide HRP)) hs hz hg hgi tg.1 tg.2.1 ti.1 ti.2.1).mono ?_
  rintro e w3 ⟨rfl, hb3⟩
  have hb3' : Below W.heap.size W w3 := ⟨hb3.os, hb3.tape, hb3.output, hb3.size, hb3.block⟩
  have hBf := BW.below hb3' BW.lt
  have hXf := BX.below hb3' BX.lt
  have hbw3 := hbw.trans (hb3'.mono hbw.size)
  have HRP3 := hide (prog_keep (Keeps.of_below hbw3) (unhide HP))
  rw [hbl]
  go_wp2_with fail
  refine hK.out _ _ (And.intro hXf (And.intro hBf (hBf.cell 0))) (fun hHeld => ?_)
  clear hK K
  try simp only [Act.put, List.setIfInBounds_toArray, List.set_cons_zero, List.set_cons_succ]
  refine wpAnyH_done (by kernel_rfl) ?_ _
  clear HRP BW BX c0 r0 hbw hb3 hb3'
  go_wp2_with fail
  have c3 : w3.cell? ⟨bs, 0, none⟩ = some (.slice pa p.length pcap) := hBf.cell 0
  refine wp_region_noPanic ?_
  refine wp_region_held_drew (S := (fun w' => Blk w' w.heap.size 130 c ∧ Blk w' bs 134 (svCells (.slice pa p.length pcap) mc css s) ∧ w'.cell? ⟨bs, 0, none⟩ = some (.slice pa p.length pcap))) (by kernel_rfl) ?_ (fun hHeld => ?_)
  · exact (And.intro hXf (And.intro hBf c3))
  refine take_x (some 27) 0 rfl rfl ?_
  try simp only [Act.put, List.setIfInBounds_toArray, List.set_cons_zero, List.set_cons_succ]
  refine take_x (some 28) 1 rfl rfl ?_
  try simp only [Act.put, List.setIfInBounds_toArray, List.set_cons_zero, List.set_cons_succ]
  refine take_x (some 29) 2 rfl rfl ?_
  try simp only [Act.put, List.setIfInBounds_toArray, List.set_cons_zero, List.set_cons_succ]
  refine take_x (some 30) 3 rfl rfl ?_
  try simp only [Act.put, List.setIfInBounds_toArray, List.set_cons_zero, List.set_cons_succ]
  refine take_x (some 31) 4 rfl rfl ?_
  try simp only [Act.put, List.setIfInBounds_toArray, List.set_cons_zero, List.set_cons_succ]
  refine take_d (some 32) (i := 5) (v := .agg ci.toArray) rfl rfl (by kernel_rfl) (by kernel_rfl) (by kernel_rfl) (fun _ _ _ h => h) (Or.inl ⟨by rfl, fun w' hSw => exec_load_blk aggSt hSw.2.1 (8 + i * 17) ci hli hsv rfl rfl⟩) (by assumption) ?_
  try simp only [Act.put, List.setIfInBounds_toArray, List.set_cons_zero, List.set_cons_succ]
  refine take_x (some 33) 6 rfl rfl ?_
  try simp only [Act.put, List.setIfInBounds_toArray, List.set_cons_zero, List.set_cons_succ]
  refine take_x (some 34) 7 rfl rfl ?_
  try simp only [Act.put, List.setIfInBounds_toArray, List.set_cons_zero, List.set_cons_succ]
  refine take_x (some 35) 8 rfl rfl ?_
  try simp only [Act.put, List.setIfInBounds_toArray, List.set_cons_zero, List.set_cons_succ]
  refine take_x (some 36) 9 rfl rfl ?_
  try simp only [Act.put, List.setIfInBounds_toArray, List.set_cons_zero, List.set_cons_succ]
  refine take_d (some 37) (i := 10) (v := .agg c.toArray) rfl rfl (by kernel_rfl) (by kernel_rfl) (by kernel_rfl) (fun _ _ _ h => h) (Or.inl ⟨by rfl, fun w' hSw => exec_load_blk aggSt hSw.1 0 c hl (fun j v e => by simpa using e) rfl rfl⟩) (by assumption) ?_
  try simp only [Act.put, List.setIfInBounds_toArray, List.set_cons_zero, List.set_cons_succ]
  by_cases hst : u.stk.length = g.stk.length
  · refine wpAnyH_ready (rs := [11, 15]) (by kernel_rfl) (by simp) ?_
    refine AllReadyH.cons rfl (fun K hK => ?_) (AllReadyH.cons rfl (fun K hK => ?_) AllReadyH.nil)
    · go_simp
      refine (st_join p _ u g ci c _ (prog_keep (Keeps.of_below ((Below.refl _ _).drew)) (unhide HRP3)) hs hz hgi hg ti.1 ti.2.1 tg.1 tg.2.1).mono ?_
      rintro e w4 ⟨h1, h2, hb4⟩
      obtain ⟨cj, rfl, hJ⟩ := h1 hst
      have hb4' : Below w3.heap.size w3 w4 := ⟨hb4.os, hb4.tape, hb4.output, hb4.size, hb4.block⟩
      have hBg := hBf.below hb4' hBf.lt
      have hXg := hXf.below hb4' hXf.lt
      go_wp2_with fail
      refine hK.out _ _ (And.intro hXg (And.intro hBg (hBg.cell 0))) (fun hHeld => ?_)
      clear hK K
      try simp only [Act.put, List.setIfInBounds_toArray, List.set_cons_zero, List.set_cons_succ]
      refine take_x (some 26) 12 rfl rfl ?_
      try simp only [Act.put, List.setIfInBounds_toArray, List.set_cons_zero, List.set_cons_succ]
      refine take_x (some 39) 13 rfl rfl ?_
      try simp only [Act.put, List.setIfInBounds_toArray, List.set_cons_zero, List.set_cons_succ]
      refine take_x (some 40) 14 rfl rfl ?_
      try simp only [Act.put, List.setIfInBounds_toArray, List.set_cons_zero, List.set_cons_succ]
      refine wpAnyH_ready (rs := [15]) (by kernel_rfl) (by simp) ?_
      refine AllReadyH.cons rfl (fun K hK => ?_) AllReadyH.nil
      go_simp
      have hz4 := hb4'.size
      generalize hV : w4.alloc _ = V
      have hb0 : Below w3.heap.size w3 V := by rw [← hV]; exact hb4'.alloc hb4'.size _
      have B6 : Blk V w4.heap.size 130 zero17 := by rw [← hV]; exact Blk.new w4 zero17.toArray 130
      have BJ := hBg.alloc (.cells zero17.toArray 130)
      have XJ := hXg.alloc (.cells zero17.toArray 130)
      replace BJ : Blk V bs 134 (svCells (.slice pa p.length pcap) mc css s) := by rw [← hV]; exact BJ
      replace XJ : Blk V w.heap.size 130 c := by rw [← hV]; exact XJ
      clear hV
      refine hK.out _ _ (And.intro XJ (And.intro BJ (BJ.cell 0))) (fun hHeld => ?_)
      clear hK K
      try simp only [Act.put, List.setIfInBounds_toArray, List.set_cons_zero, List.set_cons_succ]
      obtain ⟨b6, hb6⟩ : ∃ b, b = w4.heap.size := ⟨_, rfl⟩
      have hb6' : w3.heap.size ≤ b6 := by omega
      rw [← hb6] at B6 ⊢
      clear hBg hXg hb4 hb4' hz4 hb6 h1 h2 hHeld
      refine wpAnyH_ready (rs := [16]) (by kernel_rfl) (by simp) ?_
      refine AllReadyH.cons rfl (fun K hK => ?_) AllReadyH.nil
      refine wp_store_blk aggSt B6 0 cj hJ.len (by simp [zero17]) hJ.one (.tmp 6) (.tmp 39) rfl rfl rfl ?_
      intro w5 hB5 hM5 hs5
      rw [putAt_all (by rw [hJ.len]; rfl)] at hB5
      have lx := hXf.lt
      have lb := hBf.lt
      have XK := XJ.mods hM5 (by omega)
      have BK := BJ.mods hM5 (by omega)
      have hb5 : Below w3.heap.size w3 w5 := hb0.trans (hM5.below hb0.size (fun k hk e => by omega))
      refine hK.out _ _ (And.intro XK (And.intro BK (BK.cell 0))) (fun hHeld => ?_)
      clear hK K
      try simp only [Act.put]
      refine take_x (some 7) 17 rfl rfl ?_
      simp only [Act.put, List.setIfInBounds_toArray]
      refine wpAnyH_done (by kernel_rfl) ?_ _
      refine NoPanic.normal ?_
      clear hHeld XJ BJ B6 hb0 hs5 hM5
      go_wp2_with (first
        | refine wpList_load_blk aggSt hB5 0 cj hJ.len (fun j v e => by simpa using e) (.tmp 6) rfl rfl rfl ?_
        | (refine wpList_store_blk aggSt XK 0 cj hJ.len (by simp [hl]) hJ.one (.tmp 5) (.tmp 44) rfl rfl rfl rfl ?_; intro w6 hB6 hM6 hs6))
      rw [putAt_all (by rw [hJ.len, hl])] at hB6
      have l5 := hB5.lt
      have BX := hB6
      have BW := BK.mods hM6 (by omega)
      have hb6w : Below w.heap.size w w6 := hbw3.trans ((hb5.mono hbw3.size).trans (hM6.below (by have := hb5.size; have := hbw3.size; omega) (fun k hk e => by omega)))
      have HM := hide (bnone (S := fun k => k = bs) hb6w)
      clear hM6 hs6 XK BK hb5 hB5 hB6
      refine wp_region_noPanic ?_
      refine wp_region_held_drew (S := (fun w' => Blk w' w.heap.size 130 cj)) (by kernel_rfl) ?_ (fun hHeld => ?_)
      · exact BX
      refine take_x (some 45) 0 rfl rfl ?_
      try simp only [Act.put, List.setIfInBounds_toArray, List.set_cons_zero, List.set_cons_succ]
      refine take_x (some 46) 1 rfl rfl ?_
      try simp only [Act.put, List.setIfInBounds_toArray, List.set_cons_zero, List.set_cons_succ]
      refine take_x (some 47) 2 rfl rfl ?_
      try simp only [Act.put, List.setIfInBounds_toArray, List.set_cons_zero, List.set_cons_succ]
      refine take_x (some 48) 3 rfl rfl ?_
      try simp only [Act.put, List.setIfInBounds_toArray, List.set_cons_zero, List.set_cons_succ]
      refine take_x (some 49) 4 rfl rfl ?_
      try simp only [Act.put, List.setIfInBounds_toArray, List.set_cons_zero, List.set_cons_succ]
      refine take_x (some 50) 5 rfl rfl ?_
      try simp only [Act.put, List.setIfInBounds_toArray, List.set_cons_zero, List.set_cons_succ]
      refine take_d (some 51) (i := 6) (v := .agg cj.toArray) rfl rfl (by kernel_rfl) (by kernel_rfl) (by kernel_rfl) (fun _ _ _ h => h) (Or.inl ⟨by rfl, fun w' hSw => exec_load_blk aggSt hSw 0 cj hJ.len (fun j v e => by simpa using e) rfl rfl⟩) (by assumption) ?_
      try simp only [Act.put, List.setIfInBounds_toArray, List.set_cons_zero, List.set_cons_succ]
      refine take_x (some 52) 7 rfl rfl ?_
      try simp only [Act.put, List.setIfInBounds_toArray, List.set_cons_zero, List.set_cons_succ]
      refine take_x (some 53) 8 rfl rfl ?_
      try simp only [Act.put, List.setIfInBounds_toArray, List.set_cons_zero, List.set_cons_succ]
      refine take_x (some 54) 9 rfl rfl ?_
      try simp only [Act.put, List.setIfInBounds_toArray, List.set_cons_zero, List.set_cons_succ]
      refine take_x (some 55) 11 rfl rfl ?_
      try simp only [Act.put, List.setIfInBounds_toArray, List.set_cons_zero, List.set_cons_succ]
      refine take_x (some 56) 12 rfl rfl ?_
      try simp only [Act.put, List.setIfInBounds_toArray, List.set_cons_zero, List.set_cons_succ]
      refine take_x (some 58) 15 rfl rfl ?_
      try simp only [Act.put, List.setIfInBounds_toArray, List.set_cons_zero, List.set_cons_succ]
      refine take_x (some 59) 16 rfl rfl ?_
      try simp only [Act.put, List.setIfInBounds_toArray, List.set_cons_zero, List.set_cons_succ]
      refine wpAnyH_ready (rs := [10]) (by kernel_rfl) (by simp) ?_
      refine AllReadyH.cons rfl (fun K hK => ?_) AllReadyH.nil
      refine wp_store_blk aggSt BW.drew (8 + i * 17) cj hJ.len (by rw [hlen]; omega) hJ.one (.tmp 54) (.tmp 51) rfl rfl rfl ?_
      intro w2 hB2 hM2 hs2
      rw [sv_put hC hm hi hJ.len] at hB2
      have hX2 := BX.drew.mods hM2 (by omega)
      have hC2 := hC.setst i hJ
      have hM3 := (unhide HM).drew.trans hM2 (fun _ _ e => e)
      have hB2' : Blk w2 bs 134 (svCells (.slice pa p.length pcap) mc (css.set i cj) { s with st := s.st.set i (joinS p u g) }) := hB2
      have a14 : ∃ b, w2.cell? ⟨bs, 688 + i, none⟩ = some (.bool b) := ⟨_, by rw [hB2'.cell, sv_re hC2 hm hi]⟩
      obtain ⟨b14, a14⟩ := a14
      have f14 := hB2'.frozen (688 + i)
      go_simp
      refine hK.out _ _ hX2 (fun hHeld => ?_)
      clear hK K
      try simp only [Act.put, List.setIfInBounds_toArray, List.set_cons_zero, List.set_cons_succ]
      refine take_x (some 57) 13 rfl rfl ?_
      try simp only [Act.put, List.setIfInBounds_toArray, List.set_cons_zero, List.set_cons_succ]
      have hB3 := hB2'.setCell (688 + i) (.bool true)
      rw [sv_setre hC2 hm hi] at hB3
      have hC3 := hC2.setre i true
      have hX3 := hX2.setCell_ne (p := ⟨bs, 688 + i, none⟩) (by dsimp only; omega) (.bool true)
      refine wpAnyH_ready (rs := [14]) (by kernel_rfl) (by simp) ?_
      refine AllReadyH.cons rfl (fun K hK => ?_) AllReadyH.nil
      go_simp
      refine hK.out _ _ hX3 (fun hHeld => ?_)
      clear hK K
      try simp only [Act.put, List.setIfInBounds_toArray, List.set_cons_zero, List.set_cons_succ]
      have hM4 := hM3.setCell (p := ⟨bs, 688 + i, none⟩) (fun _ => rfl) (.bool true)
      generalize w2.setCell _ _ = w7 at *
      refine take_x (some 60) 17 rfl rfl ?_
      try simp only [Act.put, List.setIfInBounds_toArray, List.set_cons_zero, List.set_cons_succ]
      have a18 : ∃ b, w7.cell? ⟨bs, 728 + i, none⟩ = some (.bool b) := ⟨_, by rw [hB3.cell, sv_ra hC3 hm hi]⟩
      obtain ⟨b18, a18⟩ := a18
      have f18 := hB3.frozen (728 + i)
      have hB4 := hB3.setCell (728 + i) (.bool true)
      rw [sv_setra hC3 hm hi] at hB4
      have hC4 := hC3.setra i true
      refine wpAnyH_ready (rs := [18]) (by kernel_rfl) (by simp) ?_
      refine AllReadyH.cons rfl (fun K hK => ?_) AllReadyH.nil
      go_simp
      refine hK.out _ _ (hX3.setCell_ne (p := ⟨bs, 728 + i, none⟩) (by dsimp only; omega) (.bool true)) (fun hHeld => ?_)
      clear hK K
      try simp only [Act.put, List.setIfInBounds_toArray, List.set_cons_zero, List.set_cons_succ]
      refine wpAnyH_done (by kernel_rfl) ?_ _
      refine NoPanic.normal ?_
      have HF := hide (And.intro (show SvAt _ bs (.slice pa p.length pcap) mc (putP s i (joinS p u g)) from ⟨_, hC4, hB4⟩) (hM4.setCell (p := ⟨bs, 728 + i, none⟩) (fun _ => rfl) (.bool true)))
      have HST := hide hst
      clear hst
      go_wp2_with fail
      go_end0
      exact ⟨fun _ => ⟨rfl, (unhide HF).1⟩, fun e => absurd (unhide HST) e, (unhide HF).2⟩
    · go_simp
      have hb0' : Below w3.heap.size w3 (w3.alloc (.cells zero17.toArray 130)) := box_below _ _
      have B6' := Blk.new w3 zero17.toArray 130
      have BJ' := hBf.alloc (.cells zero17.toArray 130)
      have XJ' := hXf.alloc (.cells zero17.toArray 130)
      have hps : RProg (w3.drew.alloc (.cells zero17.toArray 130)) (.slice pa p.length pcap) p := prog_keep (Keeps.of_below hb0'.drew) (unhide HRP3)
      refine hK.out _ _ (And.intro XJ' (And.intro BJ' (BJ'.cell 0))) (fun hHeld => ?_)
      clear hK K
      try simp only [Act.put, List.setIfInBounds_toArray, List.set_cons_zero, List.set_cons_succ]
      refine wpAnyH_ready (rs := [11]) (by kernel_rfl) (by simp) ?_
      refine AllReadyH.cons rfl (fun K hK => ?_) AllReadyH.nil
      go_simp
      refine (st_join p _ u g ci c _ hps hs hz hgi hg ti.1 ti.2.1 tg.1 tg.2.1).mono ?_
      rintro e V ⟨h1, h2, hb4⟩
      obtain ⟨cj, rfl, hJ⟩ := h1 hst
      have hb4' : Below (w3.heap.size + 1) (w3.alloc (.cells zero17.toArray 130)) V := ⟨hb4.os, hb4.tape, hb4.output, by have := hb4.size; simpa using this, fun i hi => hb4.block i (by simpa using hi)⟩
      have hb0 := hb0'.trans (hb4'.mono (by simp))
      have B6 := B6'.below hb4' (by omega)
      have BJ := BJ'.below hb4' (by have := hBf.lt; omega)
      have XJ := XJ'.below hb4' (by have := hXf.lt; omega)
      go_wp2_with fail
      refine hK.out _ _ (And.intro XJ (And.intro BJ (BJ.cell 0))) (fun hHeld => ?_)
      clear hK K
      try simp only [Act.put, List.setIfInBounds_toArray, List.set_cons_zero, List.set_cons_succ]
      refine take_x (some 26) 12 rfl rfl ?_
      try simp only [Act.put, List.setIfInBounds_toArray, List.set_cons_zero, List.set_cons_succ]
      refine take_x (some 39) 13 rfl rfl ?_
      try simp only [Act.put, List.setIfInBounds_toArray, List.set_cons_zero, List.set_cons_succ]
      refine take_x (some 40) 14 rfl rfl ?_
      try simp only [Act.put, List.setIfInBounds_toArray, List.set_cons_zero, List.set_cons_succ]
      obtain ⟨b6, hb6⟩ : ∃ b, b = w3.heap.size := ⟨_, rfl⟩
      have hb6' : w3.heap.size ≤ b6 := by omega
      change Blk V w3.heap.size 130 zero17 at B6
      rw [← hb6] at B6 ⊢
      clear B6' BJ' XJ' hb0' hb4 hb4' hb6 h1 h2 hHeld hps
      refine wpAnyH_ready (rs := [16]) (by kernel_rfl) (by simp) ?_
      refine AllReadyH.cons rfl (fun K hK => ?_) AllReadyH.nil
      refine wp_store_blk aggSt B6 0 cj hJ.len (by simp [zero17]) hJ.one (.tmp 6) (.tmp 39) rfl rfl rfl ?_
      intro w5 hB5 hM5 hs5
      rw [putAt_all (by rw [hJ.len]; rfl)] at hB5
      have lx := hXf.lt
      have lb := hBf.lt
      have XK := XJ.mods hM5 (by omega)
      have BK := BJ.mods hM5 (by omega)
      have hb5 : Below w3.heap.size w3 w5 := hb0.trans (hM5.below hb0.size (fun k hk e => by omega))
      refine hK.out _ _ (And.intro XK (And.intro BK (BK.cell 0))) (fun hHeld => ?_)
      clear hK K
      try simp only [Act.put]
      refine take_x (some 7) 17 rfl rfl ?_
      simp only [Act.put, List.setIfInBounds_toArray]
      refine wpAnyH_done (by kernel_rfl) ?_ _
      refine NoPanic.normal ?_
      clear hHeld XJ BJ B6 hb0 hs5 hM5
      go_wp2_with (first
        | refine wpList_load_blk aggSt hB5 0 cj hJ.len (fun j v e => by simpa using e) (.tmp 6) rfl rfl rfl ?_
        | (refine wpList_store_blk aggSt XK 0 cj hJ.len (by simp [hl]) hJ.one (.tmp 5) (.tmp 44) rfl rfl rfl rfl ?_; intro w6 hB6 hM6 hs6))
      rw [putAt_all (by rw [hJ.len, hl])] at hB6
      have l5 := hB5.lt
      have BX := hB6
      have BW := BK.mods hM6 (by omega)
      have hb6w : Below w.heap.size w w6 := hbw3.trans ((hb5.mono hbw3.size).trans (hM6.below (by have := hb5.size; have := hbw3.size; omega) (fun k hk e => by omega)))
      have HM := hide (bnone (S := fun k => k = bs) hb6w)
      clear hM6 hs6 XK BK hb5 hB5 hB6
      refine wp_region_noPanic ?_
      refine wp_region_held_drew (S := (fun w' => Blk w' w.heap.size 130 cj)) (by kernel_rfl) ?_ (fun hHeld => ?_)
      · exact BX
      refine take_x (some 45) 0 rfl rfl ?_
      try simp only [Act.put, List.setIfInBounds_toArray, List.set_cons_zero, List.set_cons_succ]
      refine take_x (some 46) 1 rfl rfl ?_
      try simp only [Act.put, List.setIfInBounds_toArray, List.set_cons_zero, List.set_cons_succ]
      refine take_x (some 47) 2 rfl rfl ?_
      try simp only [Act.put, List.setIfInBounds_toArray, List.set_cons_zero, List.set_cons_succ]
      refine take_x (some 48) 3 rfl rfl ?_
      try simp only [Act.put, List.setIfInBounds_toArray, List.set_cons_zero, List.set_cons_succ]
      refine take_x (some 49) 4 rfl rfl ?_
      try simp only [Act.put, List.setIfInBounds_toArray, List.set_cons_zero, List.set_cons_succ]
      refine take_x (some 50) 5 rfl rfl ?_
      try simp only [Act.put, List.setIfInBounds_toArray, List.set_cons_zero, List.set_cons_succ]
      refine take_d (some 51) (i := 6) (v := .agg cj.toArray) rfl rfl (by kernel_rfl) (by kernel_rfl) (by kernel_rfl) (fun _ _ _ h => h) (Or.inl ⟨by rfl, fun w' hSw => exec_load_blk aggSt hSw 0 cj hJ.len (fun j v e => by simpa using e) rfl rfl⟩) (by assumption) ?_
      try simp only [Act.put, List.setIfInBounds_toArray, List.set_cons_zero, List.set_cons_succ]
      refine take_x (some 52) 7 rfl rfl ?_
      try simp only [Act.put, List.setIfInBounds_toArray, List.set_cons_zero, List.set_cons_succ]
      refine take_x (some 53) 8 rfl rfl ?_
      try simp only [Act.put, List.setIfInBounds_toArray, List.set_cons_zero, List.set_cons_succ]
      refine take_x (some 54) 9 rfl rfl ?_
      try simp only [Act.put, List.setIfInBounds_toArray, List.set_cons_zero, List.set_cons_succ]
      refine take_x (some 55) 11 rfl rfl ?_
      try simp only [Act.put, List.setIfInBounds_toArray, List.set_cons_zero, List.set_cons_succ]
      refine take_x (some 56) 12 rfl rfl ?_
      try simp only [Act.put, List.setIfInBounds_toArray, List.set_cons_zero, List.set_cons_succ]
      refine take_x (some 58) 15 rfl rfl ?_
      try simp only [Act.put, List.setIfInBounds_toArray, List.set_cons_zero, List.set_cons_succ]
      refine take_x (some 59) 16 rfl rfl ?_
      try simp only [Act.put, List.setIfInBounds_toArray, List.set_cons_zero, List.set_cons_succ]
      refine wpAnyH_ready (rs := [10]) (by kernel_rfl) (by simp) ?_
      refine AllReadyH.cons rfl (fun K hK => ?_) AllReadyH.nil
      refine wp_store_blk aggSt BW.drew (8 + i * 17) cj hJ.len (by rw [hlen]; omega) hJ.one (.tmp 54) (.tmp 51) rfl rfl rfl ?_
      intro w2 hB2 hM2 hs2
      rw [sv_put hC hm hi hJ.len] at hB2
      have hX2 := BX.drew.mods hM2 (by omega)
      have hC2 := hC.setst i hJ
      have hM3 := (unhide HM).drew.trans hM2 (fun _ _ e => e)
      have hB2' : Blk w2 bs 134 (svCells (.slice pa p.length pcap) mc (css.set i cj) { s with st := s.st.set i (joinS p u g) }) := hB2
      have a14 : ∃ b, w2.cell? ⟨bs, 688 + i, none⟩ = some (.bool b) := ⟨_, by rw [hB2'.cell, sv_re hC2 hm hi]⟩
      obtain ⟨b14, a14⟩ := a14
      have f14 := hB2'.frozen (688 + i)
      go_simp
      refine hK.out _ _ hX2 (fun hHeld => ?_)
      clear hK K
      try simp only [Act.put, List.setIfInBounds_toArray, List.set_cons_zero, List.set_cons_succ]
      refine take_x (some 57) 13 rfl rfl ?_
      try simp only [Act.put, List.setIfInBounds_toArray, List.set_cons_zero, List.set_cons_succ]
      have hB3 := hB2'.setCell (688 + i) (.bool true)
      rw [sv_setre hC2 hm hi] at hB3
      have hC3 := hC2.setre i true
      have hX3 := hX2.setCell_ne (p := ⟨bs, 688 + i, none⟩) (by dsimp only; omega) (.bool true)
      refine wpAnyH_ready (rs := [14]) (by kernel_rfl) (by simp) ?_
      refine AllReadyH.cons rfl (fun K hK => ?_) AllReadyH.nil
      go_simp
      refine hK.out _ _ hX3 (fun hHeld => ?_)
      clear hK K
      try simp only [Act.put, List.setIfInBounds_toArray, List.set_cons_zero, List.set_cons_succ]
      have hM4 := hM3.setCell (p := ⟨bs, 688 + i, none⟩) (fun _ => rfl) (.bool true)
      generalize w2.setCell _ _ = w7 at *
      refine take_x (some 60) 17 rfl rfl ?_
      try simp only [Act.put, List.setIfInBounds_toArray, List.set_cons_zero, List.set_cons_succ]
      have a18 : ∃ b, w7.cell? ⟨bs, 728 + i, none⟩ = some (.bool b) := ⟨_, by rw [hB3.cell, sv_ra hC3 hm hi]⟩
      obtain ⟨b18, a18⟩ := a18
      have f18 := hB3.frozen (728 + i)
      have hB4 := hB3.setCell (728 + i) (.bool true)
      rw [sv_setra hC3 hm hi] at hB4
      have hC4 := hC3.setra i true
      refine wpAnyH_ready (rs := [18]) (by kernel_rfl) (by simp) ?_
      refine AllReadyH.cons rfl (fun K hK => ?_) AllReadyH.nil
      go_simp
      refine hK.out _ _ (hX3.setCell_ne (p := ⟨bs, 728 + i, none⟩) (by dsimp only; omega) (.bool true)) (fun hHeld => ?_)
      clear hK K
      try simp only [Act.put, List.setIfInBounds_toArray, List.set_cons_zero, List.set_cons_succ]
      refine wpAnyH_done (by kernel_rfl) ?_ _
      refine NoPanic.normal ?_
      have HF := hide (And.intro (show SvAt _ bs (.slice pa p.length pcap) mc (putP s i (joinS p u g)) from ⟨_, hC4, hB4⟩) (hM4.setCell (p := ⟨bs, 728 + i, none⟩) (fun _ => rfl) (.bool true)))
      have HST := hide hst
      clear hst
      go_wp2_with fail
      go_end0
      exact ⟨fun _ => ⟨rfl, (unhide HF).1⟩, fun e => absurd (unhide HST) e, (unhide HF).2⟩
  · refine wpAnyH_ready (rs := [11, 15]) (by kernel_rfl) (by simp) ?_
    refine AllReadyH.cons rfl (fun K hK => ?_) (AllReadyH.cons rfl (fun K hK => ?_) AllReadyH.nil)
    · go_simp
      refine (st_join p _ u g ci c _ (prog_keep (Keeps.of_below ((Below.refl _ _).drew)) (unhide HRP3)) hs hz hgi hg ti.1 ti.2.1 tg.1 tg.2.1).mono ?_
      rintro e w4 ⟨h1, h2, hb4⟩
      obtain rfl := h2 hst
      have hb4' : Below w3.heap.size w3 w4 := ⟨hb4.os, hb4.tape, hb4.output, hb4.size, hb4.block⟩
      have hBg := hBf.below hb4' hBf.lt
      have hXg := hXf.below hb4' hXf.lt
      go_wp2_with fail
      refine hK.out _ _ (And.intro hXg (And.intro hBg (hBg.cell 0))) (fun hHeld => ?_)
      clear hK K
      try simp only [Act.put, List.setIfInBounds_toArray, List.set_cons_zero, List.set_cons_succ]
      refine take_x (some 26) 12 rfl rfl ?_
      try simp only [Act.put, List.setIfInBounds_toArray, List.set_cons_zero, List.set_cons_succ]
      refine take_x (some 39) 13 rfl rfl ?_
      try simp only [Act.put, List.setIfInBounds_toArray, List.set_cons_zero, List.set_cons_succ]
      refine take_x (some 40) 14 rfl rfl ?_
      try simp only [Act.put, List.setIfInBounds_toArray, List.set_cons_zero, List.set_cons_succ]
      refine wpAnyH_ready (rs := [15]) (by kernel_rfl) (by simp) ?_
      refine AllReadyH.cons rfl (fun K hK => ?_) AllReadyH.nil
      go_simp
      have hz4 := hb4'.size
      generalize hV : w4.alloc _ = V
      have hb0 : Below w3.heap.size w3 V := by rw [← hV]; exact hb4'.alloc hb4'.size _
      have B6 : Blk V w4.heap.size 130 zero17 := by rw [← hV]; exact Blk.new w4 zero17.toArray 130
      have BJ := hBg.alloc (.cells zero17.toArray 130)
      have XJ := hXg.alloc (.cells zero17.toArray 130)
      replace BJ : Blk V bs 134 (svCells (.slice pa p.length pcap) mc css s) := by rw [← hV]; exact BJ
      replace XJ : Blk V w.heap.size 130 c := by rw [← hV]; exact XJ
      clear hV
      refine hK.out _ _ (And.intro XJ (And.intro BJ (BJ.cell 0))) (fun hHeld => ?_)
      clear hK K
      try simp only [Act.put, List.setIfInBounds_toArray, List.set_cons_zero, List.set_cons_succ]
      obtain ⟨b6, hb6⟩ : ∃ b, b = w4.heap.size := ⟨_, rfl⟩
      have hb6' : w3.heap.size ≤ b6 := by omega
      rw [← hb6] at B6 ⊢
      clear hBg hXg hb4 hb4' hz4 hb6 h1 h2 hHeld
      refine wpAnyH_ready (rs := [16]) (by kernel_rfl) (by simp) ?_
      refine AllReadyH.cons rfl (fun K hK => ?_) AllReadyH.nil
      refine wp_store_blk aggSt B6 0 zero17 rfl (by simp [zero17]) zero17_one (.tmp 6) (.tmp 39) rfl rfl rfl ?_
      intro w5 hB5 hM5 hs5
      have lx := hXf.lt
      have lb := hBf.lt
      have XK := XJ.mods hM5 (by omega)
      have BK := BJ.mods hM5 (by omega)
      have hb5 : Below w3.heap.size w3 w5 := hb0.trans (hM5.below hb0.size (fun k hk e => by omega))
      refine hK.out _ _ (And.intro XK (And.intro BK (BK.cell 0))) (fun hHeld => ?_)
      clear hK K
      try simp only [Act.put]
      refine take_x (some 7) 17 rfl rfl ?_
      simp only [Act.put, List.setIfInBounds_toArray]
      refine wpAnyH_done (by kernel_rfl) ?_ _
      refine NoPanic.normal ?_
      have HM := hide (bnone (S := fun k => k = bs) (hbw3.trans (hb5.mono hbw3.size)))
      have HST := hide hst
      clear hHeld XJ BJ B6 hb0 hs5 hM5 hst hB5 XK BK
      go_wp2_with fail
      refine (code_giveUp 5 _).mono ?_
      rintro e w6 ⟨rfl, rfl⟩
      go_wp2_with fail
      exact ⟨rfl, fun e => absurd e (unhide HST), fun _ => rfl, unhide HM⟩
    · go_simp
      have hb0' : Below w3.heap.size w3 (w3.alloc (.cells zero17.toArray 130)) := box_below _ _
      have B6' := Blk.new w3 zero17.toArray 130
      have BJ' := hBf.alloc (.cells zero17.toArray 130)
      have XJ' := hXf.alloc (.cells zero17.toArray 130)
      have hps : RProg (w3.drew.alloc (.cells zero17.toArray 130)) (.slice pa p.length pcap) p := prog_keep (Keeps.of_below hb0'.drew) (unhide HRP3)
      refine hK.out _ _ (And.intro XJ' (And.intro BJ' (BJ'.cell 0))) (fun hHeld => ?_)
      clear hK K
      try simp only [Act.put, List.setIfInBounds_toArray, List.set_cons_zero, List.set_cons_succ]
      refine wpAnyH_ready (rs := [11]) (by kernel_rfl) (by simp) ?_
      refine AllReadyH.cons rfl (fun K hK => ?_) AllReadyH.nil
      go_simp
      refine (st_join p _ u g ci c _ hps hs hz hgi hg ti.1 ti.2.1 tg.1 tg.2.1).mono ?_
      rintro e V ⟨h1, h2, hb4⟩
      obtain rfl := h2 hst
      have hb4' : Below (w3.heap.size + 1) (w3.alloc (.cells zero17.toArray 130)) V := ⟨hb4.os, hb4.tape, hb4.output, by have := hb4.size; simpa using this, fun i hi => hb4.block i (by simpa using hi)⟩
      have hb0 := hb0'.trans (hb4'.mono (by simp))
      have B6 := B6'.below hb4' (by omega)
      have BJ := BJ'.below hb4' (by have := hBf.lt; omega)
      have XJ := XJ'.below hb4' (by have := hXf.lt; omega)
      go_wp2_with fail
      refine hK.out _ _ (And.intro XJ (And.intro BJ (BJ.cell 0))) (fun hHeld => ?_)
      clear hK K
      try simp only [Act.put, List.setIfInBounds_toArray, List.set_cons_zero, List.set_cons_succ]
      refine take_x (some 26) 12 rfl rfl ?_
      try simp only [Act.put, List.setIfInBounds_toArray, List.set_cons_zero, List.set_cons_succ]
      refine take_x (some 39) 13 rfl rfl ?_
      try simp only [Act.put, List.setIfInBounds_toArray, List.set_cons_zero, List.set_cons_succ]
      refine take_x (some 40) 14 rfl rfl ?_
      try simp only [Act.put, List.setIfInBounds_toArray, List.set_cons_zero, List.set_cons_succ]
      obtain ⟨b6, hb6⟩ : ∃ b, b = w3.heap.size := ⟨_, rfl⟩
      have hb6' : w3.heap.size ≤ b6 := by omega
      change Blk V w3.heap.size 130 zero17 at B6
      rw [← hb6] at B6 ⊢
      clear B6' BJ' XJ' hb0' hb4 hb4' hb6 h1 h2 hHeld hps
      refine wpAnyH_ready (rs := [16]) (by kernel_rfl) (by simp) ?_
      refine AllReadyH.cons rfl (fun K hK => ?_) AllReadyH.nil
      refine wp_store_blk aggSt B6 0 zero17 rfl (by simp [zero17]) zero17_one (.tmp 6) (.tmp 39) rfl rfl rfl ?_
      intro w5 hB5 hM5 hs5
      have lx := hXf.lt
      have lb := hBf.lt
      have XK := XJ.mods hM5 (by omega)
      have BK := BJ.mods hM5 (by omega)
      have hb5 : Below w3.heap.size w3 w5 := hb0.trans (hM5.below hb0.size (fun k hk e => by omega))
      refine hK.out _ _ (And.intro XK (And.intro BK (BK.cell 0))) (fun hHeld => ?_)
      clear hK K
      try simp only [Act.put]
      refine take_x (some 7) 17 rfl rfl ?_
      simp only [Act.put, List.setIfInBounds_toArray]
      refine wpAnyH_done (by kernel_rfl) ?_ _
      refine NoPanic.normal ?_
      have HM := hide (bnone (S := fun k => k = bs) (hbw3.trans (hb5.mono hbw3.size)))
      have HST := hide hst
      clear hHeld XJ BJ B6 hb0 hs5 hM5 hst hB5 XK BK
      go_wp2_with fail
      refine (code_giveUp 5 _).mono ?_
      rintro e w6 ⟨rfl, rfl⟩
      go_wp2_with fail
      exact ⟨rfl, fun e => absurd e (unhide HST), fun _ => rfl, unhide HM⟩
end Go.Proofs.YtiiokkllmchohaaGreat
