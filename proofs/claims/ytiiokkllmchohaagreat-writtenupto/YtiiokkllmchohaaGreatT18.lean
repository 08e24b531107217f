/- The machine's frames: SWAP, sums. -/
import Derived.Test.YtiiokkllmchohaaGreatT07
import Derived.Test.YtiiokkllmchohaaGreatT10
import Derived.Test.YtiiokkllmchohaaGreatT13
import Derived.Test.YtiiokkllmchohaaGreatT17
/- MacG -/
namespace Go.Proofs.YtiiokkllmchohaaGreat
open Go.RowKit Go.Shelf
attribute [local go_sem ↓] Go.wp_at_zero Go.wp_at_succ
attribute [local go_sem] frz_drew

theorem fld_num (k n : Int) (o : Value) (w : World) : (Instr.field 170 (.agg #[.int .i64 k, .int .i64 n, o]) 1).run Tryz.prog w = .ok (.int .i64 n) w := by kernel_rfl
theorem fld_obj (k n : Int) (o : Value) (w : World) : (Instr.field 170 (.agg #[.int .i64 k, .int .i64 n, o]) 2).run Tryz.prog w = .ok o w := by kernel_rfl
attribute [local go_sem] fld_num fld_obj
section
variable (B : Nat) (A : List Nat) (fb : Nat) (mc : List Value) (pc : Int) (vl : Value) (loc : List LVal) (vs : Value) (stk : List LVal) (a b : Int) (w : World)
set_option maxHeartbeats 1000000 in
set_option maxRecDepth 100000 in
theorem mv_swap (x y : LVal) (h : FrA w B A fb mc pc vl loc vs (stk ++ [x] ++ [y])) (hB : B ≤ w.heap.size) (hn : stk.length + 2 < 4194304) : Calls Tryz.prog 215 #[.pointer (some ⟨fb, 0, none⟩), .agg #[.int .i64 20, .int .i64 a, .int .i64 b]] w fun e w' => MoveR B A fb mc pc vl vs loc (stk ++ [y] ++ [x]) w w' e := by
  have hbel := box_below w (.cells #[.int .i64 20, .int .i64 a, .int .i64 b] 60)
  have H := hide (h.below hbel (Nat.le_refl _))
  have hone := encV_one A x
  have hone' := encV_one A y
  have hvs : ∀ g, vs.ownBlock = some g → g < w.heap.size := fun g hg => (h.st.lt g hg).2
  have hfb := h.blk.lt
  clear h
  go_enter Tryz.func215, Tryz.ntmps215
  go_wp2_with fail
  generalize w.alloc _ = W at *
  refine (ma_pop B A fb mc pc vl loc vs (stk ++ [x]) y W (unhide H) (by simp; omega)).mono ?_
  rintro e w1 hP
  obtain ⟨vs1, rfl, hF1, hob1, hM1⟩ := hP.mods
  have hm1 := (bnone hbel).trans hM1 (fun _ _ e => e)
  clear hP hM1
  go_wp2_with fail
  refine (ma_pop B A fb mc pc vl loc vs1 stk x w1 hF1 (by omega)).mono ?_
  rintro e w2 hP
  obtain ⟨vs2, rfl, hF2, hob2, hM2⟩ := hP.mods
  have hm2 := hm1.trans hM2 (fun k _ e => by rw [hob1] at e; exact e)
  have hz2 := hm2.size
  have hob : vs2.ownBlock = vs.ownBlock := hob2.trans hob1
  clear hP hM2 hF1 hm1
  have D0 := (Blk.new w2 #[.int .i64 0, .int .i64 0, .pointer none] 170).alloc (.cells #[.int .i64 0, .int .i64 0, .pointer none] 170)
  have D1 := Blk.new (w2.alloc (.cells #[.int .i64 0, .int .i64 0, .pointer none] 170)) #[.int .i64 0, .int .i64 0, .pointer none] 170
  rw [World.size_alloc] at D1
  go_wp2_with (first
    | refine wpList_load_blk aggVal hBy 0 (encV A y) rfl (fun j u e => by simpa using e) (.tmp 5) rfl rfl rfl ?_
    | (refine wpList_store_blk aggVal D0 0 (encV A y) rfl (by simp) hone' (.tmp 5) (.tmp 63) rfl rfl rfl rfl ?_; intro w3 hB3 hM3 hs3; rw [putAt_all (by rfl)] at hB3; have D13 := D1.mods hM3 (by omega))
    | (refine wpList_store_blk aggVal D13 0 (encV A x) rfl (by simp) hone (.tmp 6) (.tmp 65) rfl rfl rfl rfl ?_; intro w4 hB4 hM4 hs4; rw [putAt_all (by rfl)] at hB4; have hBy := hB3.mods hM4 (by omega)))
  have hb3 : Below w2.heap.size w2 w4 := (box2_below w2 _ _).trans ((hM3.below (by simp; omega) (fun k hk e => by omega)).trans (hM4.below (by rw [hs3]; simp; omega) (fun k hk e => by omega)))
  have hF3 := hF2.below hb3 (Nat.le_refl _)
  have hm3 := hm2.trans (bnone (S := fun _ => False) hb3) (fun _ _ f => f.elim)
  have hz3 := hm3.size
  clear hM3 hs3 hM4 hs4 hF2
  refine (ma_push B A fb mc pc vl loc vs2 stk y w4 hF3 (by omega) (by omega)).mono ?_
  rintro e w5 hP
  obtain ⟨vs5, rfl, hF5, hm5, hv5⟩ := hP.move hm3 (.inl hob)
  have hz5 := hm5.size
  have hn4 : ¬ (w2.heap.size + 1 = fb ∨ vs2.ownBlock = some (w2.heap.size + 1)) := fun e => by
    rcases e with e | e
    · omega
    · rw [hob] at e; have := hvs _ e; omega
  have hBx := hB4.mods hP.choose_spec.2.2.1 hn4
  clear hP
  go_wp2_with (refine wpList_load_blk aggVal hBx 0 (encV A x) rfl (fun j u e => by simpa using e) (.tmp 6) rfl rfl rfl ?_)
  refine (ma_push B A fb mc pc vl loc vs5 (stk ++ [y]) x w5 hF5 (by omega) (by simp; omega)).mono ?_
  rintro e w6 hP
  have HF := hide (hP.move hm5 hv5)
  obtain ⟨_, rfl, _⟩ := hP
  go_wp2_with fail
  go_end0
  exact unhide HF
set_option maxHeartbeats 1000000 in
set_option maxRecDepth 100000 in
theorem mv_add (x y : LVal) (h : FrA w B A fb mc pc vl loc vs (stk ++ [x] ++ [y])) (hB : B ≤ w.heap.size) (hn : stk.length + 2 < 4194304) : Calls Tryz.prog 215 #[.pointer (some ⟨fb, 0, none⟩), .agg #[.int .i64 3, .int .i64 a, .int .i64 b]] w fun e w' => MoveR B A fb mc pc vl vs loc (stk ++ [numbV (wrap64 (x.num + y.num))]) w w' e := by
  have hbel := box_below w (.cells #[.int .i64 3, .int .i64 a, .int .i64 b] 60)
  have B0 := Blk.new w #[.int .i64 3, .int .i64 a, .int .i64 b] 60
  have H := hide (h.below hbel (Nat.le_refl _))
  have hfb := h.blk.lt
  clear h
  go_enter Tryz.func215, Tryz.ntmps215
  go_wp2_with fail
  generalize w.alloc _ = W at *
  refine (ma_pop B A fb mc pc vl loc vs (stk ++ [x]) y W (unhide H) (by simp; omega)).mono ?_
  rintro e w1 hP
  have B1 := B0.mods hP.choose_spec.2.2.2 (by omega)
  obtain ⟨vs1, rfl, hF1, hob1, hM1⟩ := hP.mods
  have hm1 := (bnone hbel).trans hM1 (fun _ _ e => e)
  clear hP hM1
  unfold encV
  go_wp2_with fail
  refine (ma_pop B A fb mc pc vl loc vs1 stk x w1 hF1 (by omega)).mono ?_
  rintro e w2 hP
  have B2 := B1.mods hP.choose_spec.2.2.2 (by omega)
  obtain ⟨vs2, rfl, hF2, hob2, hM2⟩ := hP.mods
  have hm2 := hm1.trans hM2 (fun k _ e => by rw [hob1] at e; exact e)
  have hz2 := hm2.size
  have hob : vs2.ownBlock = vs.ownBlock := hob2.trans hob1
  clear hP hM2 hF1 hm1
  have q0 : w2.cell? ⟨w.heap.size, 0, none⟩ = some (.int .i64 3) := B2.cell 0
  unfold encV
  go_wp2_with fail
  refine (ma_add _ _ _).mono ?_
  rintro e w' ⟨rfl, rfl⟩
  go_wp2_with fail
  refine (ma_number _ _).mono ?_
  rintro e w3 ⟨rfl, hb⟩
  have hF3 := hF2.below hb (Nat.le_refl _)
  have hm3 := hm2.trans (bnone (S := fun _ => False) hb) (fun _ _ f => f.elim)
  have hz3 := hm3.size
  go_wp2_with fail
  refine (ma_push B A fb mc pc vl loc vs2 stk (numbV _) w3 hF3 (by omega) (by omega)).mono ?_
  rintro e w4 hP
  have HF := hide (hP.move hm3 (.inl hob))
  obtain ⟨_, rfl, _⟩ := hP
  go_wp2_with fail
  go_end0
  exact unhide HF
set_option maxHeartbeats 1000000 in
set_option maxRecDepth 100000 in
theorem mv_sub (x y : LVal) (h : FrA w B A fb mc pc vl loc vs (stk ++ [x] ++ [y])) (hB : B ≤ w.heap.size) (hn : stk.length + 2 < 4194304) : Calls Tryz.prog 215 #[.pointer (some ⟨fb, 0, none⟩), .agg #[.int .i64 4, .int .i64 a, .int .i64 b]] w fun e w' => MoveR B A fb mc pc vl vs loc (stk ++ [numbV (wrap64 (x.num - y.num))]) w w' e := by
  have hbel := box_below w (.cells #[.int .i64 4, .int .i64 a, .int .i64 b] 60)
  have B0 := Blk.new w #[.int .i64 4, .int .i64 a, .int .i64 b] 60
  have H := hide (h.below hbel (Nat.le_refl _))
  have hfb := h.blk.lt
  clear h
  go_enter Tryz.func215, Tryz.ntmps215
  go_wp2_with fail
  generalize w.alloc _ = W at *
  refine (ma_pop B A fb mc pc vl loc vs (stk ++ [x]) y W (unhide H) (by simp; omega)).mono ?_
  rintro e w1 hP
  have B1 := B0.mods hP.choose_spec.2.2.2 (by omega)
  obtain ⟨vs1, rfl, hF1, hob1, hM1⟩ := hP.mods
  have hm1 := (bnone hbel).trans hM1 (fun _ _ e => e)
  clear hP hM1
  unfold encV
  go_wp2_with fail
  refine (ma_pop B A fb mc pc vl loc vs1 stk x w1 hF1 (by omega)).mono ?_
  rintro e w2 hP
  have B2 := B1.mods hP.choose_spec.2.2.2 (by omega)
  obtain ⟨vs2, rfl, hF2, hob2, hM2⟩ := hP.mods
  have hm2 := hm1.trans hM2 (fun k _ e => by rw [hob1] at e; exact e)
  have hz2 := hm2.size
  have hob : vs2.ownBlock = vs.ownBlock := hob2.trans hob1
  clear hP hM2 hF1 hm1
  have q0 : w2.cell? ⟨w.heap.size, 0, none⟩ = some (.int .i64 4) := B2.cell 0
  unfold encV
  go_wp2_with fail
  refine (ma_sub _ _ _).mono ?_
  rintro e w' ⟨rfl, rfl⟩
  go_wp2_with fail
  refine (ma_number _ _).mono ?_
  rintro e w3 ⟨rfl, hb⟩
  have hF3 := hF2.below hb (Nat.le_refl _)
  have hm3 := hm2.trans (bnone (S := fun _ => False) hb) (fun _ _ f => f.elim)
  have hz3 := hm3.size
  go_wp2_with fail
  refine (ma_push B A fb mc pc vl loc vs2 stk (numbV _) w3 hF3 (by omega) (by omega)).mono ?_
  rintro e w4 hP
  have HF := hide (hP.move hm3 (.inl hob))
  obtain ⟨_, rfl, _⟩ := hP
  go_wp2_with fail
  go_end0
  exact unhide HF
set_option maxHeartbeats 1000000 in
set_option maxRecDepth 100000 in
theorem mv_mul (x y : LVal) (h : FrA w B A fb mc pc vl loc vs (stk ++ [x] ++ [y])) (hB : B ≤ w.heap.size) (hn : stk.length + 2 < 4194304) : Calls Tryz.prog 215 #[.pointer (some ⟨fb, 0, none⟩), .agg #[.int .i64 5, .int .i64 a, .int .i64 b]] w fun e w' => MoveR B A fb mc pc vl vs loc (stk ++ [numbV (wrap64 (x.num * y.num))]) w w' e := by
  have hbel := box_below w (.cells #[.int .i64 5, .int .i64 a, .int .i64 b] 60)
  have B0 := Blk.new w #[.int .i64 5, .int .i64 a, .int .i64 b] 60
  have H := hide (h.below hbel (Nat.le_refl _))
  have hfb := h.blk.lt
  clear h
  go_enter Tryz.func215, Tryz.ntmps215
  go_wp2_with fail
  generalize w.alloc _ = W at *
  refine (ma_pop B A fb mc pc vl loc vs (stk ++ [x]) y W (unhide H) (by simp; omega)).mono ?_
  rintro e w1 hP
  have B1 := B0.mods hP.choose_spec.2.2.2 (by omega)
  obtain ⟨vs1, rfl, hF1, hob1, hM1⟩ := hP.mods
  have hm1 := (bnone hbel).trans hM1 (fun _ _ e => e)
  clear hP hM1
  unfold encV
  go_wp2_with fail
  refine (ma_pop B A fb mc pc vl loc vs1 stk x w1 hF1 (by omega)).mono ?_
  rintro e w2 hP
  have B2 := B1.mods hP.choose_spec.2.2.2 (by omega)
  obtain ⟨vs2, rfl, hF2, hob2, hM2⟩ := hP.mods
  have hm2 := hm1.trans hM2 (fun k _ e => by rw [hob1] at e; exact e)
  have hz2 := hm2.size
  have hob : vs2.ownBlock = vs.ownBlock := hob2.trans hob1
  clear hP hM2 hF1 hm1
  have q0 : w2.cell? ⟨w.heap.size, 0, none⟩ = some (.int .i64 5) := B2.cell 0
  unfold encV
  go_wp2_with fail
  refine (ma_mul _ _ _).mono ?_
  rintro e w' ⟨rfl, rfl⟩
  go_wp2_with fail
  refine (ma_number _ _).mono ?_
  rintro e w3 ⟨rfl, hb⟩
  have hF3 := hF2.below hb (Nat.le_refl _)
  have hm3 := hm2.trans (bnone (S := fun _ => False) hb) (fun _ _ f => f.elim)
  have hz3 := hm3.size
  go_wp2_with fail
  refine (ma_push B A fb mc pc vl loc vs2 stk (numbV _) w3 hF3 (by omega) (by omega)).mono ?_
  rintro e w4 hP
  have HF := hide (hP.move hm3 (.inl hob))
  obtain ⟨_, rfl, _⟩ := hP
  go_wp2_with fail
  go_end0
  exact unhide HF
set_option maxHeartbeats 1000000 in
set_option maxRecDepth 100000 in
theorem mv_quo (x y : LVal) (hy : y.num ≠ 0) (h : FrA w B A fb mc pc vl loc vs (stk ++ [x] ++ [y])) (hB : B ≤ w.heap.size) (hn : stk.length + 2 < 4194304) : Calls Tryz.prog 215 #[.pointer (some ⟨fb, 0, none⟩), .agg #[.int .i64 6, .int .i64 a, .int .i64 b]] w fun e w' => MoveR B A fb mc pc vl vs loc (stk ++ [numbV (wrap64 (Int.tdiv x.num y.num))]) w w' e := by
  have hbel := box_below w (.cells #[.int .i64 6, .int .i64 a, .int .i64 b] 60)
  have B0 := Blk.new w #[.int .i64 6, .int .i64 a, .int .i64 b] 60
  have H := hide (h.below hbel (Nat.le_refl _))
  have hfb := h.blk.lt
  clear h
  go_enter Tryz.func215, Tryz.ntmps215
  go_wp2_with fail
  generalize w.alloc _ = W at *
  refine (ma_pop B A fb mc pc vl loc vs (stk ++ [x]) y W (unhide H) (by simp; omega)).mono ?_
  rintro e w1 hP
  have B1 := B0.mods hP.choose_spec.2.2.2 (by omega)
  obtain ⟨vs1, rfl, hF1, hob1, hM1⟩ := hP.mods
  have hm1 := (bnone hbel).trans hM1 (fun _ _ e => e)
  clear hP hM1
  unfold encV
  go_wp2_with fail
  refine (ma_pop B A fb mc pc vl loc vs1 stk x w1 hF1 (by omega)).mono ?_
  rintro e w2 hP
  have B2 := B1.mods hP.choose_spec.2.2.2 (by omega)
  obtain ⟨vs2, rfl, hF2, hob2, hM2⟩ := hP.mods
  have hm2 := hm1.trans hM2 (fun k _ e => by rw [hob1] at e; exact e)
  have hz2 := hm2.size
  have hob : vs2.ownBlock = vs.ownBlock := hob2.trans hob1
  clear hP hM2 hF1 hm1
  have q0 : w2.cell? ⟨w.heap.size, 0, none⟩ = some (.int .i64 6) := B2.cell 0
  unfold encV
  go_wp2_with fail
  refine (ma_quo _ _ _ hy).mono ?_
  rintro e w' ⟨rfl, rfl⟩
  go_wp2_with fail
  refine (ma_number _ _).mono ?_
  rintro e w3 ⟨rfl, hb⟩
  have hF3 := hF2.below hb (Nat.le_refl _)
  have hm3 := hm2.trans (bnone (S := fun _ => False) hb) (fun _ _ f => f.elim)
  have hz3 := hm3.size
  go_wp2_with fail
  refine (ma_push B A fb mc pc vl loc vs2 stk (numbV _) w3 hF3 (by omega) (by omega)).mono ?_
  rintro e w4 hP
  have HF := hide (hP.move hm3 (.inl hob))
  obtain ⟨_, rfl, _⟩ := hP
  go_wp2_with fail
  go_end0
  exact unhide HF
end
end Go.Proofs.YtiiokkllmchohaaGreat
/- The machine in memory: all of a run. -/
namespace Go.Proofs.YtiiokkllmchohaaGreat
open Go.RowKit Go.Shelf

structure MFr where
  m : LMeth
  pc : Nat
  loc : List LVal
  stk : List LVal
structure LObj where
  cls : Int
  flds : List LVal
structure MaSt where
  frames : List MFr
  objs : List LObj
  told : LVal
  out : List Int
  steps : Nat
structure FrX where
  fb : Nat
  mc : List Value
  vl : Value
  vs : Value
def Rl (ρ : Nat → Nat × Nat) (r : Nat × Nat) (v : Value) : Prop := ∀ g, v.ownBlock = some g → ρ g = r
def machC (vp : Value) (fuel : Int) (ask : Bool) (vr : Value) (n : Nat) (A : List Nat) (told : LVal) (vpr : Value) (steps : Nat) : List Value :=
  [vp, .int .i64 fuel, .bool ask, vr, .int .i64 (n : Int), .int .i64 told.kind, .int .i64 told.num, objP A told.obj, vpr, .int .i64 (steps : Int)]
structure FrM (w0 w : World) (ρ : Nat → Nat × Nat) (A : List Nat) (i : Nat) (f : MFr) (x : FrX) : Prop where
  fr : FrA w w0.heap.size A x.fb x.mc (f.pc : Int) x.vl f.loc x.vs f.stk
  mt : ∃ va vco vf, x.mc = methCs f.m va vco vf ∧ GVals w0.cell? f.m va vco vf
  r0 : ρ x.fb = (0, i)
  r1 : Rl ρ (1, i) x.vl
  r2 : Rl ρ (2, i) x.vs
  okl : ∀ v ∈ f.loc, okV A v
  oks : ∀ v ∈ f.stk, okV A v
structure ObM (w0 w : World) (ρ : Nat → Nat × Nat) (A : List Nat) (k : Nat) (o : LObj) (b : Nat) (v : Value) : Prop where
  blk : Blk w b 234 [.int .i64 o.cls, v]
  base : w0.heap.size ≤ b
  row : w.ownsRow w0.heap.size 170 3 v o.flds.length (encL A o.flds)
  r3 : ρ b = (3, k)
  r4 : Rl ρ (4, k) v
  ok : ∀ u ∈ o.flds, okV A u
structure MaA (w0 w : World) (ρ : Nat → Nat × Nat) (mb : Nat) (vp : Value) (fuel : Int) (ask : Bool) (st : MaSt) (A : List Nat) (X : List FrX) (Y : List Value) (vr vpr : Value) : Prop where
  mach : Blk w mb 172 (machC vp fuel ask vr st.objs.length A st.told vpr st.steps)
  base : w0.heap.size ≤ mb
  rmb : ρ mb = (5, 0)
  run : w.ownsRow w0.heap.size 231 1 vr X.length (X.map fun x => .pointer (some ⟨x.fb, 0, none⟩))
  rvr : Rl ρ (6, 0) vr
  prn : w.ownsRow w0.heap.size 3 1 vpr st.out.length (st.out.map (Value.int .i64))
  rpr : Rl ρ (7, 0) vpr
  lx : X.length = st.frames.length
  fr : ∀ (i : Nat) (f : MFr) (x : FrX), st.frames[i]? = some f → X[i]? = some x → FrM w0 w ρ A i f x
  la : A.length = st.objs.length
  ly : Y.length = st.objs.length
  ob : ∀ (k : Nat) (o : LObj) (b : Nat) (v : Value), st.objs[k]? = some o → A[k]? = some b → Y[k]? = some v → ObM w0 w ρ A k o b v
  okt : okV A st.told
  bel : Below w0.heap.size w0 w
  low : ∀ k, k < w0.heap.size → ρ k = (9, 0)

theorem FrA.size {w : World} {B : Nat} {A : List Nat} {fb : Nat} {mc : List Value} {pc : Int} {vl : Value} {loc : List LVal} {vs : Value} {stk : List LVal} (h : FrA w B A fb mc pc vl loc vs stk) : fb < w.heap.size := h.blk.lt
def Same (n : Nat) (ρ ρ' : Nat → Nat × Nat) : Prop := ∀ k, k < n → ρ' k = ρ k
theorem Rl.same {ρ ρ' : Nat → Nat × Nat} {r : Nat × Nat} {v : Value} {n : Nat} (h : Rl ρ r v) (s : Same n ρ ρ') (hl : ∀ g, v.ownBlock = some g → g < n) : Rl ρ' r v := fun g hg => (s g (hl g hg)).trans (h g hg)
section
variable {w0 w w' : World} {ρ ρ' : Nat → Nat × Nat} {A : List Nat} {S : Nat → Prop}
theorem FrM.mods {i : Nat} {f : MFr} {x : FrX} (h : FrM w0 w ρ A i f x) (m : Mods S w w') (s : Same w.heap.size ρ ρ') (hS : ∀ k, k < w.heap.size → S k → ρ k ≠ (0, i) ∧ ρ k ≠ (1, i) ∧ ρ k ≠ (2, i)) : FrM w0 w' ρ' A i f x := by
  refine ⟨h.fr.mods m (fun e => (hS _ h.fr.size e).1 h.r0) (fun g hg e => (hS g (h.fr.lo.lt g hg).2 e).2.1 (h.r1 g hg)) (fun g hg e => (hS g (h.fr.st.lt g hg).2 e).2.2 (h.r2 g hg)), h.mt, (s _ h.fr.size).trans h.r0, h.r1.same s (fun g hg => (h.fr.lo.lt g hg).2), h.r2.same s (fun g hg => (h.fr.st.lt g hg).2), h.okl, h.oks⟩
theorem ObM.mods {k : Nat} {o : LObj} {b : Nat} {v : Value} (h : ObM w0 w ρ A k o b v) (m : Mods S w w') (s : Same w.heap.size ρ ρ') (hS : ∀ j, j < w.heap.size → S j → ρ j ≠ (3, k) ∧ ρ j ≠ (4, k)) : ObM w0 w' ρ' A k o b v :=
  ⟨h.blk.mods m (fun e => (hS _ h.blk.lt e).1 h.r3), h.base, own_mods h.row m (fun g hg e => (hS g (h.row.lt g hg).2 e).2 (h.r4 g hg)), (s _ h.blk.lt).trans h.r3, h.r4.same s (fun g hg => (h.row.lt g hg).2), h.ok⟩
theorem okV_more {v : LVal} (C : List Nat) (h : okV A v) : okV (A ++ C) v := fun k hk => by
  have := h k hk
  rw [List.length_append]
  omega
theorem FrM.more {i : Nat} {f : MFr} {x : FrX} (C : List Nat) (h : FrM w0 w ρ A i f x) : FrM w0 w ρ (A ++ C) i f x := by
  refine ⟨⟨h.fr.blk, h.fr.l7, h.fr.base, ?_, ?_, h.fr.ne⟩, h.mt, h.r0, h.r1, h.r2, fun v hv => okV_more C (h.okl v hv), fun v hv => okV_more C (h.oks v hv)⟩
  · rw [encL_more A C h.okl]; exact h.fr.lo
  · rw [encL_more A C h.oks]; exact h.fr.st
theorem ObM.more {k : Nat} {o : LObj} {b : Nat} {v : Value} (C : List Nat) (h : ObM w0 w ρ A k o b v) : ObM w0 w ρ (A ++ C) k o b v := by
  refine ⟨h.blk, h.base, ?_, h.r3, h.r4, fun u hu => okV_more C (h.ok u hu)⟩
  rw [encL_more A C h.ok]; exact h.row
end
def InFr (ρ : Nat → Nat × Nat) (i k : Nat) : Prop := ρ k = (0, i) ∨ ρ k = (1, i) ∨ ρ k = (2, i)
section
variable {w0 w w' : World} {ρ : Nat → Nat × Nat} {mb : Nat} {vp : Value} {fuel : Int} {ask : Bool} {st : MaSt} {A : List Nat} {X : List FrX} {Y : List Value} {vr vpr : Value}
theorem MaA.upd (h : MaA w0 w ρ mb vp fuel ask st A X Y vr vpr) {i : Nat} {f : MFr} {x : FrX} (hf : st.frames[i]? = some f) (hx : X[i]? = some x) {S : Nat → Prop} (hM : Mods S w w') (hS : ∀ k, k < w.heap.size → S k → InFr ρ i k) {pc : Nat} {loc stk : List LVal} {vs' : Value}
    (hF : FrA w' w0.heap.size A x.fb x.mc (pc : Int) x.vl loc vs' stk) (hv : vs'.ownBlock = x.vs.ownBlock ∨ ∃ k, w.heap.size ≤ k ∧ vs'.ownBlock = some k) (okl : ∀ v ∈ loc, okV A v) (oks : ∀ v ∈ stk, okV A v) :
    ∃ ρ', MaA w0 w' ρ' mb vp fuel ask { st with frames := st.frames.set i { f with pc := pc, loc := loc, stk := stk } } A (X.set i { x with vs := vs' }) Y vr vpr := by
  have F := h.fr i f x hf hx
  refine ⟨fun k => if w.heap.size ≤ k then (2, i) else ρ k, ?_⟩
  have s : Same w.heap.size ρ (fun k => if w.heap.size ≤ k then (2, i) else ρ k) := fun k hk => by show (if _ then _ else _) = _; rw [if_neg (by omega)]
  have hq : ∀ k, k < w.heap.size → S k → ∀ r, r ≠ (0, i) → r ≠ (1, i) → r ≠ (2, i) → ρ k ≠ r := fun k hk hs r h0 h1 h2 e => by
    rcases hS k hk hs with e' | e' | e'
    · exact h0 (e.symm.trans e')
    · exact h1 (e.symm.trans e')
    · exact h2 (e.symm.trans e')
  have hil : i < st.frames.length := (List.getElem?_eq_some_iff.1 hf).1
  refine ⟨h.mach.mods hM (fun e => hq _ h.mach.lt e (5, 0) (by simp) (by simp) (by simp) h.rmb), h.base, (s _ h.mach.lt).trans h.rmb, ?_, h.rvr.same s (fun g hg => (h.run.lt g hg).2), own_mods h.prn hM (fun g hg e => hq g (h.prn.lt g hg).2 e (7, 0) (by simp) (by simp) (by simp) (h.rpr g hg)), h.rpr.same s (fun g hg => (h.prn.lt g hg).2), by simpa using h.lx, ?_, h.la, h.ly, ?_, h.okt, ?_, fun k hk => (s k (Nat.lt_of_lt_of_le hk h.bel.size)).trans (h.low k hk)⟩
  · have hmap : ((X.set i { x with vs := vs' }).map fun x => Value.pointer (some ⟨x.fb, 0, none⟩)) = X.map fun x => Value.pointer (some ⟨x.fb, 0, none⟩) := by
      rw [List.map_set]
      apply List.ext_getElem?
      intro j
      by_cases hj : i = j
      · subst hj
        have hxl : i < X.length := (List.getElem?_eq_some_iff.1 hx).1
        rw [List.getElem?_set_self (by simpa using hxl), List.getElem?_map, hx]; rfl
      · rw [List.getElem?_set_ne hj]
    rw [hmap, List.length_set]
    exact own_mods h.run hM (fun g hg e => hq g (h.run.lt g hg).2 e (6, 0) (by simp) (by simp) (by simp) (h.rvr g hg))
  · intro j f' x' hf' hx'
    by_cases hj : i = j
    · subst hj
      rw [List.getElem?_set_self hil] at hf'
      rw [List.getElem?_set_self (by rw [h.lx]; exact hil)] at hx'
      obtain rfl := Option.some.inj hf'
      obtain rfl := Option.some.inj hx'
      refine ⟨hF, F.mt, (s _ F.fr.size).trans F.r0, F.r1.same s (fun g hg => (F.fr.lo.lt g hg).2), fun g hg => ?_, okl, oks⟩
      rcases hv with e | ⟨k, hk, e⟩
      · have hg' : x.vs.ownBlock = some g := e ▸ hg
        exact (s g (F.fr.st.lt g hg').2).trans (F.r2 g hg')
      · rw [show vs'.ownBlock = some g from hg] at e
        obtain rfl := Option.some.inj e
        show (if _ then _ else _) = _
        rw [if_pos hk]
    · rw [List.getElem?_set_ne hj] at hf' hx'
      exact (h.fr j f' x' hf' hx').mods hM s (fun k hk hs => ⟨hq k hk hs _ (by simp; omega) (by simp) (by simp), hq k hk hs _ (by simp) (by simp; omega) (by simp), hq k hk hs _ (by simp) (by simp) (by simp; omega)⟩)
  · intro k o b v h1 h2 h3
    exact (h.ob k o b v h1 h2 h3).mods hM s (fun j hj hs => ⟨hq j hj hs _ (by simp) (by simp) (by simp), hq j hj hs _ (by simp) (by simp) (by simp)⟩)
  · refine h.bel.trans (hM.below h.bel.size (fun k hk hs => ?_))
    have hkw : k < w.heap.size := Nat.lt_of_lt_of_le hk h.bel.size
    exact hq k hkw hs (9, 0) (by simp) (by simp) (by simp) (h.low k hk)
theorem FrM.within {i : Nat} {f : MFr} {x : FrX} (h : FrM w0 w ρ A i f x) : ∀ k, k < w.heap.size → (k = x.fb ∨ x.vs.ownBlock = some k ∨ x.vl.ownBlock = some k) → InFr ρ i k := fun k _ e => by
  rcases e with rfl | e | e
  · exact .inl h.r0
  · exact .inr (.inr (h.r2 k e))
  · exact .inr (.inl (h.r1 k e))
theorem MaA.move (h : MaA w0 w ρ mb vp fuel ask st A X Y vr vpr) {i : Nat} {f : MFr} {x : FrX} (hf : st.frames[i]? = some f) (hx : X[i]? = some x) {loc stk : List LVal} {e : Ending} (hR : MoveR w0.heap.size A x.fb x.mc (f.pc : Int) x.vl x.vs loc stk w w' e) (okl : ∀ v ∈ loc, okV A v) (oks : ∀ v ∈ stk, okV A v) :
    e = .returned (.tuple #[]) ∧ ∃ ρ' vs', MaA w0 w' ρ' mb vp fuel ask { st with frames := st.frames.set i { f with loc := loc, stk := stk } } A (X.set i { x with vs := vs' }) Y vr vpr := by
  obtain ⟨vs', he, hF, hM, hv⟩ := hR
  obtain ⟨ρ', hA⟩ := h.upd hf hx hM (h.fr i f x hf hx).within hF hv okl oks
  exact ⟨he, ρ', vs', hA⟩
end
end Go.Proofs.YtiiokkllmchohaaGreat
/- A class's own method of a number. -/
namespace Go.Proofs.YtiiokkllmchohaaGreat
open Go.RowKit Go.Shelf
attribute [local go_sem ↓] Go.wp_at_zero Go.wp_at_succ
attribute [local go_sem] frz_drew

theorem aggMeth : AggOk Tryz.prog 63 7 := ⟨by kernel_rfl, by kernel_rfl⟩
def zero7 : List Value := [.int .i64 0, .slice none 0 0, .int .i64 0, .int .i64 0, .int .i64 0, .slice none 0 0, .slice none 0 0]
theorem zero7_one : ∀ v ∈ zero7, v.oneCell' = true := by
  intro v hv
  simp only [zero7, List.mem_cons, List.not_mem_nil, or_false] at hv
  rcases hv with rfl | rfl | rfl | rfl | rfl | rfl | rfl <;> rfl
def ownM (p : List LClass) (c k : Int) : Option LMeth := if 0 ≤ c ∧ 0 ≤ k then (p[c.toNat]?).bind fun x => x.meths[k.toNat]? else none
theorem ownM_some {p : List LClass} {c k : Nat} (hc : c < p.length) (hk : k < p[c].meths.length) : ownM p c k = some p[c].meths[k] := by
  unfold ownM
  rw [if_pos ⟨by omega, by omega⟩, Int.toNat_natCast, Int.toNat_natCast, List.getElem?_eq_getElem hc, Option.bind_some, List.getElem?_eq_getElem hk]
def OwnR (p : List LClass) (c k : Int) (w0 w w' : World) (e : Ending) : Prop :=
  (∀ m, ownM p c k = some m → ∃ va vco vf, e = .returned (.tuple #[methV m va vco vf, .bool true]) ∧ GVals w0.cell? m va vco vf) ∧ (ownM p c k = none → e = .returned (.tuple #[.agg zero7.toArray, .bool false])) ∧ Below w.heap.size w w'
set_option maxHeartbeats 1000000 in
set_option maxRecDepth 100000 in
theorem code_ownmeth (p : List LClass) (vc : Value) (c k : Int) (w0 w : World) (hp : RProg w0 vc p) (hb0 : Below w0.heap.size w0 w) (hpl : p.length ≤ 4194304) :
    Calls Tryz.prog 77 #[.agg #[vc], .int .i64 c, .int .i64 k] w fun e w' => OwnR p c k w0 w w' e := by
  have HP := hide hp
  obtain ⟨pa, pb, poff, pcap, rfl, hcap, hpa, hpr⟩ := sl_open hp
  have HPR := hide hpr
  clear hpr hp
  have hbel : Below w.heap.size w ((w.alloc (.cells #[.slice pa p.length pcap] 24)).alloc (.cells zero7.toArray 63)) := box2_below _ _ _
  have B0 : Blk ((w.alloc (.cells #[.slice pa p.length pcap] 24)).alloc (.cells zero7.toArray 63)) w.heap.size 24 [.slice pa p.length pcap] := (Blk.new w _ _).alloc _
  have B1 : Blk ((w.alloc (.cells #[.slice pa p.length pcap] 24)).alloc (.cells zero7.toArray 63)) (w.heap.size + 1) 63 zero7 := by
    have := Blk.new (w.alloc (.cells #[.slice pa p.length pcap] 24)) zero7.toArray 63
    rw [World.size_alloc] at this
    exact this
  have HRP := hide (prog_keep (Keeps.of_below (hb0.trans (hbel.mono hb0.size))) (unhide HP))
  go_enter Tryz.func77, Tryz.ntmps77
  go_wp2_with fail
  refine (code_hasclass p _ c _ (unhide HRP) hpl).mono ?_
  rintro e w1 ⟨rfl, hb1⟩
  replace B0 := B0.below hb1 B0.lt
  replace B1 := B1.below hb1 B1.lt
  have hbw := hbel.trans (hb1.mono hbel.size)
  have hbw0 := hb0.trans (hbw.mono hb0.size)
  have c0 : w1.cell? ⟨w.heap.size, 0, none⟩ = some (.slice pa p.length pcap) := B0.cell 0
  have c6 : ∃ v, w1.cell? ⟨w.heap.size + 1, 0, none⟩ = some v := ⟨_, B1.cell 0⟩
  clear hbel hb1 HRP c6
  by_cases hc : 0 ≤ c ∧ c < (p.length : Int)
  · obtain ⟨n, rfl⟩ := Int.eq_ofNat_of_zero_le hc.1
    have hn : n < p.length := by omega
    obtain rfl := hpa (ne_nil_of_lt hn)
    have hpb : placeB (n : Int) p.length = true := by rw [placeB_iff]; omega
    obtain ⟨vf, vm, d0, d1, d2, hf, hmm⟩ := unhide HPR n hn
    obtain ⟨ma, mb, moff, mcap, rfl, hmcap, hma, hmr⟩ := sl_open hmm
    have e2 := Keeps.of_below hbw0 _ _ d2
    have hn1 : (n : Int) < (p.length : Int) := by omega
    have hn0 : (0 : Int) ≤ (n : Int) := by omega
    clear d0 d1 d2 hf hmm
    rw [hpb]
    by_cases hk : 0 ≤ k ∧ k < ((p[n].meths.length : Nat) : Int)
    · obtain ⟨j, rfl⟩ := Int.eq_ofNat_of_zero_le hk.1
      have hj : j < p[n].meths.length := by omega
      obtain rfl := hma (ne_nil_of_lt hj)
      have HOM := hide (ownM_some hn hj)
      obtain ⟨va, vco, vf, hv, g0, g1, g2, g3, g4, g5, g6⟩ := hmr j hj
      have HV := hide hv
      obtain ⟨hva, hvc, hvf⟩ := hv
      obtain ⟨aa, _, _, acap, rfl, _⟩ := hva
      obtain ⟨ca, _, _, ccap, rfl, _⟩ := hvc
      obtain ⟨fa, _, _, fcap, rfl, _⟩ := hvf
      have kp := Keeps.of_below hbw0
      replace g0 := kp _ _ g0
      replace g1 := kp _ _ g1
      replace g2 := kp _ _ g2
      replace g3 := kp _ _ g3
      replace g4 := kp _ _ g4
      replace g5 := kp _ _ g5
      replace g6 := kp _ _ g6
      have hj0 : ¬ (j : Int) < 0 := by omega
      have hj1 : ¬ ((p[n].meths.length : Nat) : Int) ≤ (j : Int) := by omega
      have hj2 : (j : Int) < ((p[n].meths.length : Nat) : Int) := by omega
      have hj3 : (0 : Int) ≤ (j : Int) := by omega
      clear hmr kp hc hk
      generalize p[n].meths[j] = m at *
      generalize p[n].meths.length = ml at *
      go_wp2_with (refine wpList_store_blk aggMeth B1 0 [_, _, _, _, _, _, _] rfl (by simp [zero7]) (fun v hv => by simp only [List.mem_cons, List.not_mem_nil, or_false] at hv; rcases hv with rfl | rfl | rfl | rfl | rfl | rfl | rfl <;> rfl) (.tmp 6) (.tmp 36) rfl rfl rfl rfl ?_; intro w7 hB7 hM7 hs7)
      rw [putAt_all (by rfl)] at hB7
      refine bodyPost_ret (results_blk2 rfl aggMeth hB7 rfl rfl) rfl ?_
      refine ⟨fun m' e => ?_, fun e => (by rw [unhide HOM] at e; cases e), hbw.trans (hM7.below hbw.size (fun k hk e => by omega))⟩
      rw [unhide HOM] at e
      obtain rfl := Option.some.inj e
      exact ⟨_, _, _, rfl, unhide HV⟩
    · have HOM : Hid (ownM p n k = none) := by
        show _ = _
        unfold ownM
        split
        · rw [Int.toNat_natCast, List.getElem?_eq_getElem hn, Option.bind_some, List.getElem?_eq_none (by omega)]
        · rfl
      clear hmr hma
      generalize p[n].meths.length = ml at *
      by_cases hk0 : k < 0
      · clear hk hc
        go_wp2_with (refine wpList_store_blk aggMeth B1 0 zero7 rfl (by simp [zero7]) zero7_one (.tmp 6) (.tmp 27) rfl rfl rfl rfl ?_; intro w7 hB7 hM7 hs7)
        rw [putAt_all (by rfl)] at hB7
        refine bodyPost_ret (results_blk2 rfl aggMeth hB7 rfl rfl) rfl ?_
        exact ⟨fun m e => (by rw [unhide HOM] at e; cases e), fun _ => rfl, hbw.trans (hM7.below hbw.size (fun k hk e => by omega))⟩
      · have hk1 : (ml : Int) ≤ k := by omega
        clear hk hc
        go_wp2_with (refine wpList_store_blk aggMeth B1 0 zero7 rfl (by simp [zero7]) zero7_one (.tmp 6) (.tmp 27) rfl rfl rfl rfl ?_; intro w7 hB7 hM7 hs7)
        rw [putAt_all (by rfl)] at hB7
        refine bodyPost_ret (results_blk2 rfl aggMeth hB7 rfl rfl) rfl ?_
        exact ⟨fun m e => (by rw [unhide HOM] at e; cases e), fun _ => rfl, hbw.trans (hM7.below hbw.size (fun k hk e => by omega))⟩
  · have HOM : Hid (ownM p c k = none) := by
      show _ = _
      unfold ownM
      split
      · rw [List.getElem?_eq_none (by omega)]; rfl
      · rfl
    have hpb : placeB c p.length = false := by
      cases h : placeB c p.length with
      | false => rfl
      | true => exact absurd (placeB_iff.1 h) hc
    rw [hpb]
    clear hc
    go_wp2_with (refine wpList_store_blk aggMeth B1 0 zero7 rfl (by simp [zero7]) zero7_one (.tmp 6) (.tmp 27) rfl rfl rfl rfl ?_; intro w7 hB7 hM7 hs7)
    rw [putAt_all (by rfl)] at hB7
    refine bodyPost_ret (results_blk2 rfl aggMeth hB7 rfl rfl) rfl ?_
    exact ⟨fun m e => (by rw [unhide HOM] at e; cases e), fun _ => rfl, hbw.trans (hM7.below hbw.size (fun k hk e => by omega))⟩
end Go.Proofs.YtiiokkllmchohaaGreat
/- The machine: find. -/
namespace Go.Proofs.YtiiokkllmchohaaGreat
open Go.RowKit Go.Shelf
attribute [local go_sem ↓] Go.wp_at_zero Go.wp_at_succ
attribute [local go_sem] frz_drew

def FindR (p : List LClass) (c slot : Int) (w0 w w' : World) (e : Ending) : Prop := ∃ va vco vf, e = .returned (methV (findM p c slot) va vco vf) ∧ GVals w0.cell? (findM p c slot) va vco vf ∧ Below w.heap.size w w'
set_option maxHeartbeats 1000000 in
set_option maxRecDepth 100000 in
theorem ma_find (p : List LClass) (vp : Value) (c slot : Int) (w0 w : World) (mb : Nat) (hp : RProg w0 vp p) (hb0 : Below w0.heap.size w0 w) (hc : w.cell? ⟨mb, 0, none⟩ = some vp) (hs : SupOk p p.length) (hz : szProg p ≤ 4194304) (c0 : 0 ≤ c) (c1 : c < (p.length : Int)) (hm : (methOf p c slot).isSome = true) :
    Calls Tryz.prog 115 #[.pointer (some ⟨mb, 0, none⟩), .int .i64 c, .int .i64 slot] w fun e w' => FindR p c slot w0 w w' e := by
  obtain ⟨ck, hck⟩ := Option.isSome_iff_exists.1 hm
  have hbel := box_below w (.cells #[.int .i64 0, .slice none 0 0, .int .i64 0, .int .i64 0, .int .i64 0, .slice none 0 0, .slice none 0 0] 63)
  have B0 := Blk.new w #[.int .i64 0, .slice none 0 0, .int .i64 0, .int .i64 0, .int .i64 0, .slice none 0 0, .slice none 0 0] 63
  have hc' := Keeps.of_below hbel _ _ hc
  have hbw := hb0.trans (hbel.mono hb0.size)
  have HP := hide hp
  have HCK := hide hck
  obtain ⟨pa, _, _, pcap, rfl, _⟩ := hp
  clear hck
  go_enter Tryz.func115, Tryz.ntmps115
  go_wp2_with fail
  generalize w.alloc _ = W at *
  refine (code_findmethod0 p _ p.length c slot w0 W (unhide HP) hbw hs (Nat.le_refl _) (by omega) c1 hz).mono ?_
  rintro e w1 ⟨o, aa, ca, fa, ac, cc, fc, rfl, hfm, hb1⟩
  obtain ⟨hma, hmv⟩ := hfm ck (unhide HCK)
  obtain rfl := findM_of (unhide HCK) hma
  have HMV := hide hmv
  have B1 := B0.below hb1 B0.lt
  generalize hoe : findM p c slot = o at *
  have HOE := hide hoe
  clear hoe
  have hone : ∀ v ∈ [Value.int .i64 o.slot, .slice aa o.args.length ac, .int .i64 o.ret, .int .i64 o.locals, .int .i64 o.stack, .slice ca o.code.length cc, .slice fa o.frames.length fc], v.oneCell' = true := fun v hv => by
    simp only [List.mem_cons, List.not_mem_nil, or_false] at hv
    rcases hv with rfl | rfl | rfl | rfl | rfl | rfl | rfl <;> rfl
  have lB := B1.lt
  clear hfm hma hmv hm
  go_wp2_with (first
    | refine wpList_load_blk aggMeth hB3 0 _ rfl (fun j u e => by simpa using e) (.tmp 7) rfl rfl rfl ?_
    | (refine wpList_store_blk aggMeth (Blk.new w1 #[.int .i64 0, .slice none 0 0, .int .i64 0, .int .i64 0, .int .i64 0, .slice none 0 0, .slice none 0 0] 63) 0 _ rfl (by simp) hone (.tmp 7) (.tmp 17) rfl rfl rfl rfl ?_; intro w3 hB3 hM3 hs3; rw [putAt_all (by rfl)] at hB3; have B3 := (B1.alloc (.cells #[.int .i64 0, .slice none 0 0, .int .i64 0, .int .i64 0, .int .i64 0, .slice none 0 0, .slice none 0 0] 63)).mods hM3 (by omega))
    | (refine wpList_store_blk aggMeth B3 0 _ rfl (by simp) hone (.tmp 6) (.tmp 19) rfl rfl rfl rfl ?_; intro w4 hB4 hM4 hs4; rw [putAt_all (by rfl)] at hB4))
  refine bodyPost_ret (results_blk rfl aggMeth hB4 rfl rfl) rfl ?_
  unfold FindR
  rw [unhide HOE]
  refine ⟨_, _, _, rfl, unhide HMV, ?_⟩
  have hb3 := (box_below w1 _).trans (hM3.below (by simp) (fun k hk e => by omega))
  have h1 := hbel.trans (hb1.mono hbel.size)
  have h2 := h1.trans (hb3.mono h1.size)
  exact h2.trans (hM4.below h2.size (fun k hk e => by omega))
end Go.Proofs.YtiiokkllmchohaaGreat
/- The machine: newFrame. -/
namespace Go.Proofs.YtiiokkllmchohaaGreat
open Go.RowKit Go.Shelf
attribute [local go_sem ↓] Go.wp_at_zero Go.wp_at_succ
attribute [local go_sem] frz_drew

theorem FrA.setLoc {w W V : World} {B : Nat} {A : List Nat} {fb : Nat} {mc : List Value} {pc : Int} {vl vl' : Value} {loc : List LVal} {vs : Value} {stk : List LVal} {l2 : List LVal} (h : FrA w B A fb mc pc vl loc vs stk) (hM : Mods (fun k => vl.ownBlock = some k) w W) (hO : W.ownsRow B 170 3 vl' (loc ++ l2).length (encL A (loc ++ l2))) (hv : vl'.ownBlock = vl.ownBlock ∨ ∃ k, w.heap.size ≤ k ∧ vl'.ownBlock = some k) (hV : V = W.setCell ⟨fb, 8, none⟩ vl') :
    FrA V B A fb mc pc vl' (loc ++ l2) vs stk ∧ Mods (fun k => k = fb ∨ vl.ownBlock = some k) w V ∧ W.cell? ⟨fb, 8, none⟩ = some vl ∧ W.frozen? ⟨fb, 8, none⟩ = false := by
  subst hV
  have l7 := h.l7
  have hfr : ¬ vl.ownBlock = some fb := own_ne h.lo h.blk tv_ne_fr
  have hblk := h.blk.mods hM hfr
  have hM4 : Mods (fun k => k = fb) W (W.setCell ⟨fb, 8, none⟩ vl') := (Mods.refl (fun k => k = fb) W).setCell (p := ⟨fb, 8, none⟩) (fun _ => rfl) _
  have hblk4 := hblk.setCell 8 vl'
  have hB8 : (mc ++ [.int .i64 pc, vl, vs]).set 8 vl' = mc ++ [.int .i64 pc, vl', vs] := by
    rw [List.set_append_right _ _ (by omega), l7]; rfl
  rw [hB8] at hblk4
  have hmm : Mods (fun k => k = fb ∨ vl.ownBlock = some k) w (W.setCell ⟨fb, 8, none⟩ vl') := (hM.mono (fun _ _ e => .inr e)).trans hM4 (fun _ _ e => .inl e)
  refine ⟨⟨hblk4, l7, h.base, own_mods hO hM4 (fun g hg e => own_ne hO hblk tv_ne_fr (e ▸ hg)), own_mods h.st hmm (fun g hg e => ?_), fun g hg e => ?_⟩, hmm, ?_, hblk.frozen 8⟩
  · rcases e with e | e
    · exact own_ne h.st h.blk tv_ne_fr (e ▸ hg)
    · exact h.ne g e hg
  · rcases hv with e' | ⟨k, hk, e'⟩
    · exact h.ne g (e' ▸ hg) e
    · rw [e'] at hg
      cases hg
      have := (h.st.lt _ e).2
      omega
  · rw [hblk.cell, List.getElem?_append_right (by omega), l7]; rfl
structure NFr (w V : World) (A : List Nat) (fb : Nat) (mc : List Value) (loc : List LVal) (vl : Value) : Prop where
  fr : FrA V w.heap.size A fb mc 0 vl loc (.slice none 0 0) []
  b3 : Blk V w.heap.size 63 mc
  bel : Below w.heap.size w V
  new : w.heap.size < fb
theorem NFr.add {w V W U : World} {A : List Nat} {fb : Nat} {mc : List Value} {loc : List LVal} {vl vl' : Value} {l2 : List LVal} (h : NFr w V A fb mc loc vl) (hM : Mods (fun k => vl.ownBlock = some k) V W) (hO : W.ownsRow w.heap.size 170 3 vl' (loc ++ l2).length (encL A (loc ++ l2))) (hv : vl'.ownBlock = vl.ownBlock ∨ ∃ k, V.heap.size ≤ k ∧ vl'.ownBlock = some k) (hU : U = W.setCell ⟨fb, 8, none⟩ vl') :
    NFr w U A fb mc (loc ++ l2) vl' ∧ W.cell? ⟨fb, 8, none⟩ = some vl ∧ W.frozen? ⟨fb, 8, none⟩ = false := by
  obtain ⟨h1, h2, h3, h4⟩ := h.fr.setLoc hM hO hv hU
  have hvl := h.fr.lo.lt
  refine ⟨⟨h1, h.b3.mods h2 (fun e => ?_), h.bel.trans (h2.below h.bel.size (fun k hk e => ?_)), h.new⟩, h3, h4⟩
  · rcases e with e | e
    · have := h.new; omega
    · exact own_ne h.fr.lo h.b3 (by decide) e
  · rcases e with e | e
    · have := h.new; omega
    · have := (hvl k e).1; omega
theorem NFr.keep {w V W : World} {A : List Nat} {fb : Nat} {mc : List Value} {loc : List LVal} {vl : Value} (h : NFr w V A fb mc loc vl) (hb : Below V.heap.size V W) : NFr w W A fb mc loc vl :=
  ⟨h.fr.below hb (Nat.le_refl _), h.b3.below hb h.b3.lt, h.bel.trans (hb.mono h.bel.size), h.new⟩
def slLen : Option Value → Nat
  | some (.slice _ n _) => n
  | _ => 0
def NewR (A : List Nat) (mc : List Value) (loc : List LVal) (w w' : World) (e : Ending) : Prop :=
  ∃ fb vl, e = .returned (.pointer (some ⟨fb, 0, none⟩)) ∧ NFr w w' A fb mc loc vl
set_option maxHeartbeats 1000000 in
set_option maxRecDepth 100000 in
theorem ma_newFrame (A : List Nat) (m : LMeth) (va vco vf : Value) (this : LVal) (args : List LVal) (ta : Option Addr) (tcap : Nat) (w w0 : World) (hv : GVals w0.cell? m va vco vf) (hnil : ta = none → args.length = 0 ∧ tcap = 0) (hrd : ∀ ad, ta = some ad → ∀ j u, (encL A args)[j]? = some u → w.cell? (ad.add j) = some u) (hl : 1 + (args.length : Int) ≤ m.locals) (hl8 : m.locals ≤ 8) :
    Calls Tryz.prog 165 #[methV m va vco vf, .agg (encV A this).toArray, .slice ta args.length tcap] w fun e w' => NewR A (methCs m va vco vf) (this :: args ++ List.replicate (m.locals.toNat - (1 + args.length)) nothV) w w' e := by
  obtain ⟨i0, hi0, hz0, hz1, hz2⟩ := info_parts infoVal
  unfold methV
  obtain ⟨hva, hvc, hvf⟩ := hv
  obtain ⟨aa, _, _, acap, rfl, _⟩ := hva
  obtain ⟨fa, _, _, fcap, rfl, _⟩ := hvf
  obtain ⟨ca, _, _, ccap, rfl, _⟩ := hvc
  have hone := encV_one A this
  have he1 : encV A this = [.int .i64 this.kind, .int .i64 this.num, objP A this.obj] := rfl
  rw [he1] at hone ⊢
  generalize hob : objP A this.obj = ob at *
  go_enter Tryz.func165, Tryz.ntmps165
  go_wp2_with fail
  generalize hW : ((w.alloc _).alloc _).alloc _ = W
  have hbel : Below w.heap.size w W := by rw [← hW]; exact ((box_below w _).alloc (by simp) _).alloc (by simp; omega) _
  have B3 : Blk W w.heap.size 63 [.int .i64 m.slot, .slice aa m.args.length acap, .int .i64 m.ret, .int .i64 m.locals, .int .i64 m.stack, .slice ca m.code.length ccap, .slice fa m.frames.length fcap] := by rw [← hW]; exact ((Blk.new w _ _).alloc _).alloc _
  have B4 : Blk W (w.heap.size + 1) 170 [.int .i64 this.kind, .int .i64 this.num, ob] := by
    rw [← hW]
    have := (Blk.new (w.alloc (.cells #[.int .i64 m.slot, .slice aa m.args.length acap, .int .i64 m.ret, .int .i64 m.locals, .int .i64 m.stack, .slice ca m.code.length ccap, .slice fa m.frames.length fcap] 63)) #[.int .i64 this.kind, .int .i64 this.num, ob] 170)
    rw [World.size_alloc] at this
    exact this.alloc _
  have B5 : Blk W (w.heap.size + 1 + 1) 239 [.int .i64 m.slot, .slice aa m.args.length acap, .int .i64 m.ret, .int .i64 m.locals, .int .i64 m.stack, .slice ca m.code.length ccap, .slice fa m.frames.length fcap, .int .i64 0, .slice none 0 0, .slice none 0 0] := by
    rw [← hW]
    have := Blk.new ((w.alloc (.cells #[.int .i64 m.slot, .slice aa m.args.length acap, .int .i64 m.ret, .int .i64 m.locals, .int .i64 m.stack, .slice ca m.code.length ccap, .slice fa m.frames.length fcap] 63)).alloc (.cells #[.int .i64 this.kind, .int .i64 this.num, ob] 170)) #[.int .i64 m.slot, .slice aa m.args.length acap, .int .i64 m.ret, .int .i64 m.locals, .int .i64 m.stack, .slice ca m.code.length ccap, .slice fa m.frames.length fcap, .int .i64 0, .slice none 0 0, .slice none 0 0] 239
    rw [World.size_alloc, World.size_alloc] at this
    exact this
  clear hW
  obtain ⟨fb, hfb⟩ : ∃ b, b = w.heap.size + 1 + 1 := ⟨_, rfl⟩
  obtain ⟨b4, hb4⟩ : ∃ b, b = w.heap.size + 1 := ⟨_, rfl⟩
  rw [← hb4] at hfb B5 B4 ⊢
  rw [← hfb] at B5 ⊢
  have N0 : NFr w W A fb (methCs m (.slice aa m.args.length acap) (.slice ca m.code.length ccap) (.slice fa m.frames.length fcap)) [] (.slice none 0 0) :=
    ⟨⟨B5, rfl, by omega, World.ownsRow_nil _ _ _ _, World.ownsRow_nil _ _ _ _, fun g hg => (by cases hg)⟩, B3, hbel, by omega⟩
  have hbf : ¬ b4 = fb := by omega
  have hbw : w.heap.size < b4 := by omega
  clear hfb hb4
  have b0 : W.cell? ⟨b4, 0, none⟩ = some (.int .i64 this.kind) := B4.cell 0
  have b1 : W.cell? ⟨b4, 1, none⟩ = some (.int .i64 this.num) := B4.cell 1
  have b2 : W.cell? ⟨b4, 2, none⟩ = some ob := B4.cell 2
  have c8' : W.cell? ⟨fb, 8, none⟩ = some (.slice none 0 0) := B5.cell 8
  have lW := hbel.size
  have hmz : Mods (fun _ => False) W W.drew := (Mods.refl _ W).drew
  obtain ⟨v3, w3, happ, hO3, hM3, hv3⟩ := app_ex (P := Tryz.prog) (W := W.drew) 173 173 170 i0 _ 3 24 Tryz.underlying173 hi0 hz0 hz1 hz2 rfl (by decide) w.heap.size (.slice none 0 0) 0 [] (World.ownsRow_nil _ _ _ _) #[.int .i64 this.kind, .int .i64 this.num, ob] rfl hone W.heap.size rfl (by unfold maxLen; omega) (by omega) lW
  have hM3' : Mods (fun k => (Value.slice none 0 0).ownBlock = some k) W w3 := ⟨hM3.os, hM3.tape, hM3.output, hM3.size, hM3.block⟩
  have hal : Below W.heap.size W (W.drew.alloc (.cells #[.int .i64 this.kind, .int .i64 this.num, ob] 170)) := ⟨rfl, rfl, rfl, by simp, fun i hi => Below.heap_alloc W.drew _ i hi⟩
  have k1 := Keeps.of_below hal
  have c8b : (W.alloc (.cells #[.int .i64 this.kind, .int .i64 this.num, ob] 170)).cell? ⟨fb, 8, none⟩ = some (.slice none 0 0) := k1 _ _ c8'
  have a0 := k1 _ _ b0
  have a1 := k1 _ _ b1
  have a2 := k1 _ _ b2
  rw [Nat.zero_add] at hO3
  obtain ⟨a3, cap3, rfl⟩ := own_form hO3
  have hwf : ∀ k, ¬ (Value.slice none 0 0).ownBlock = some k := fun k e => by cases e
  have hO3' : w3.ownsRow w.heap.size 170 3 (.slice a3 1 cap3) ([] ++ [this]).length (encL A ([] ++ [this])) := by
    have he : encL A ([] ++ [this]) = [] ++ [.int .i64 this.kind, .int .i64 this.num, ob] := by rw [← hob]; rfl
    rw [he]
    exact hO3
  obtain ⟨N1, c83, f83⟩ := N0.add (l2 := [this]) hM3' hO3' hv3 rfl
  have d0 : w3.cell? ⟨b4, 0, none⟩ = some (.int .i64 this.kind) := hM3'.cell b0 (hwf _)
  have d1 : w3.cell? ⟨b4, 1, none⟩ = some (.int .i64 this.num) := hM3'.cell b1 (hwf _)
  have d2 : w3.cell? ⟨b4, 2, none⟩ = some ob := hM3'.cell b2 (hwf _)
  have hM4 : Mods (fun k => k = fb) w3 (w3.setCell ⟨fb, 8, none⟩ (.slice a3 1 cap3)) := (Mods.refl (fun k => k = fb) w3).setCell (p := ⟨fb, 8, none⟩) (fun _ => rfl) _
  have e0 := hM4.cell d0 hbf
  have e1 := hM4.cell d1 hbf
  have e2 := hM4.cell d2 hbf
  have HN1 := hide N1
  clear N0 N1 hO3 hO3' hM3 hM3' hv3 hal k1 hM4 hmz B3 B4 B5
  go_cut [] (fun wx => ∃ a3 cap3, NFr w wx A fb (methCs m (.slice aa m.args.length acap) (.slice ca m.code.length ccap) (.slice fa m.frames.length fcap)) ([] ++ [this]) (.slice a3 1 cap3))
  case first =>
    refine wp_region_noPanic ?_
    refine wp_region_held_drew (S := (fun w' => w'.cell? ⟨b4, 0, none⟩ = some (.int .i64 this.kind) ∧ w'.cell? ⟨b4, 1, none⟩ = some (.int .i64 this.num) ∧ w'.cell? ⟨b4, 2, none⟩ = some ob)) (by kernel_rfl) ?_ (fun hHeld => ?_)
    · exact ⟨b0, b1, b2⟩
    refine take_x (some 11) 0 rfl rfl ?_
    try simp only [Act.put, List.setIfInBounds_toArray, List.set_cons_zero, List.set_cons_succ]
    refine take_x (some 12) 1 rfl rfl ?_
    try simp only [Act.put, List.setIfInBounds_toArray, List.set_cons_zero, List.set_cons_succ]
    refine take_x (some 13) 2 rfl rfl ?_
    try simp only [Act.put, List.setIfInBounds_toArray, List.set_cons_zero, List.set_cons_succ]
    refine take_x (some 14) 3 rfl rfl ?_
    try simp only [Act.put, List.setIfInBounds_toArray, List.set_cons_zero, List.set_cons_succ]
    refine take_x (some 16) 5 rfl rfl ?_
    try simp only [Act.put, List.setIfInBounds_toArray, List.set_cons_zero, List.set_cons_succ]
    refine wpAnyH_ready (rs := [4, 6]) (by kernel_rfl) (by simp) ?_
    refine AllReadyH.cons rfl (fun K hK => ?_) (AllReadyH.cons rfl (fun K hK => ?_) AllReadyH.nil)
    · go_simp
      refine hK.out _ _ ⟨b0, b1, b2⟩ (fun hHeld => ?_)
      clear hK K
      try simp only [Act.put, List.setIfInBounds_toArray, List.set_cons_zero, List.set_cons_succ]
      refine wpAnyH_ready (rs := [6]) (by kernel_rfl) (by simp) ?_
      refine AllReadyH.cons rfl (fun K hK => ?_) AllReadyH.nil
      go_simp
      refine hK.out _ _ ⟨a0, a1, a2⟩ (fun hHeld => ?_)
      clear hK K
      try simp only [Act.put, List.setIfInBounds_toArray, List.set_cons_zero, List.set_cons_succ]
      refine wpAnyH_ready (rs := [7]) (by kernel_rfl) (by simp) ?_
      refine AllReadyH.cons rfl (fun K hK => ?_) AllReadyH.nil
      refine wp_append_run (.tmp 15) (.tmp 17) 173 rfl _ _ rfl rfl happ ?_
      go_simp
      refine hK.out _ _ ⟨d0, d1, d2⟩ (fun hHeld => ?_)
      clear hK K
      try simp only [Act.put, List.setIfInBounds_toArray, List.set_cons_zero, List.set_cons_succ]
      refine take_x (some 19) 8 rfl rfl ?_
      try simp only [Act.put, List.setIfInBounds_toArray, List.set_cons_zero, List.set_cons_succ]
      refine take_x (some 20) 9 rfl rfl ?_
      try simp only [Act.put, List.setIfInBounds_toArray, List.set_cons_zero, List.set_cons_succ]
      refine wpAnyH_ready (rs := [10]) (by kernel_rfl) (by simp) ?_
      refine AllReadyH.cons rfl (fun K hK => ?_) AllReadyH.nil
      go_simp
      refine hK.out _ _ ⟨e0, e1, e2⟩ (fun hHeld => ?_)
      clear hK K
      try simp only [Act.put, List.setIfInBounds_toArray, List.set_cons_zero, List.set_cons_succ]
      refine wpAnyH_done (by kernel_rfl) ?_ _
      refine NoPanic.normal ?_
      clear hHeld happ c8b c8' f83
      go_wp2_with fail
      go_meet
      case rel => exact ⟨_, _, unhide HN1⟩
    · go_simp
      refine hK.out _ _ ⟨a0, a1, a2⟩ (fun hHeld => ?_)
      clear hK K
      try simp only [Act.put, List.setIfInBounds_toArray, List.set_cons_zero, List.set_cons_succ]
      refine wpAnyH_ready (rs := [4]) (by kernel_rfl) (by simp) ?_
      refine AllReadyH.cons rfl (fun K hK => ?_) AllReadyH.nil
      go_simp
      refine hK.out _ _ ⟨a0, a1, a2⟩ (fun hHeld => ?_)
      clear hK K
      try simp only [Act.put, List.setIfInBounds_toArray, List.set_cons_zero, List.set_cons_succ]
      refine wpAnyH_ready (rs := [7]) (by kernel_rfl) (by simp) ?_
      refine AllReadyH.cons rfl (fun K hK => ?_) AllReadyH.nil
      refine wp_append_run (.tmp 15) (.tmp 17) 173 rfl _ _ rfl rfl happ ?_
      go_simp
      refine hK.out _ _ ⟨d0, d1, d2⟩ (fun hHeld => ?_)
      clear hK K
      try simp only [Act.put, List.setIfInBounds_toArray, List.set_cons_zero, List.set_cons_succ]
      refine take_x (some 19) 8 rfl rfl ?_
      try simp only [Act.put, List.setIfInBounds_toArray, List.set_cons_zero, List.set_cons_succ]
      refine take_x (some 20) 9 rfl rfl ?_
      try simp only [Act.put, List.setIfInBounds_toArray, List.set_cons_zero, List.set_cons_succ]
      refine wpAnyH_ready (rs := [10]) (by kernel_rfl) (by simp) ?_
      refine AllReadyH.cons rfl (fun K hK => ?_) AllReadyH.nil
      go_simp
      refine hK.out _ _ ⟨e0, e1, e2⟩ (fun hHeld => ?_)
      clear hK K
      try simp only [Act.put, List.setIfInBounds_toArray, List.set_cons_zero, List.set_cons_succ]
      refine wpAnyH_done (by kernel_rfl) ?_ _
      refine NoPanic.normal ?_
      clear hHeld happ c8b c8' f83
      go_wp2_with fail
      go_meet
      case rel => exact ⟨_, _, unhide HN1⟩
  case rest =>
    clear HN1 e0 e1 e2 d0 d1 d2 a0 a1 a2 b0 b1 b2 c83 happ c8b c8' f83 hbel lW
    obtain ⟨a3, cap3, N1⟩ := hcut
    generalize wc = V1 at *
    have c81 := N1.fr.c7.2.1
    have hrd1 : ∀ ad, ta = some ad → ∀ j u, (encL A args)[j]? = some u → V1.cell? (ad.add j) = some u := fun ad e j u hu => Keeps.of_below N1.bel _ _ (hrd ad e j u hu)
    go_wp2_with (refine wpList_append_sl rfl (.tmp 25) (.tmp 26) 173 rfl w.heap.size 170 i0 _ 3 24 Tryz.underlying173 hi0 hz0 hz1 hz2 rfl (by decide) (.slice a3 1 cap3) 1 _ rfl N1.fr.lo ta args.length tcap (encL A args) rfl (encL_len A args) hnil hrd1 (encL_one A args) (by unfold maxLen; omega) (by omega) N1.bel.size ?_; intro v5 w5 hown5 hgr5 hat5; obtain ⟨a5, cap5, rfl⟩ := own_form hown5; obtain ⟨N2, c85, f85⟩ := N1.add (l2 := args) ((Mods.refl _ V1).grown hgr5 (fun k e _ => e)) (by rw [encL_app, List.length_append]; exact hown5) (hat5.imp id (fun e => ⟨_, Nat.le_refl _, e⟩)) rfl)
    generalize w5.setCell _ _ = V2 at *
    have HN2 : Hid (NFr w V2 A fb (methCs m (.slice aa m.args.length acap) (.slice ca m.code.length ccap) (.slice fa m.frames.length fcap)) (this :: args ++ List.replicate 0 nothV) (.slice a5 (1 + args.length) cap5)) := by
      show NFr _ _ _ _ _ _ _
      rw [List.replicate_zero, List.append_nil]
      exact N2
    clear N1 N2 c85 f85 hgr5 hat5 hown5 c81 hrd1
    go_loopw [] (fun wr => ∃ (k : Nat) (vl : Value), 1 + args.length + k ≤ m.locals.toNat ∧ NFr w wr A fb (methCs m (.slice aa m.args.length acap) (.slice ca m.code.length ccap) (.slice fa m.frames.length fcap)) (this :: args ++ List.replicate k nothV) vl) (fun wr => m.locals.toNat - slLen (wr.cell? ⟨fb, 8, none⟩))
    case atStart => exact ⟨0, _, by omega, unhide HN2⟩
    case round =>
      obtain ⟨k, vl, hk, N⟩ := hrel
      obtain ⟨L, hL⟩ : ∃ L, L = this :: args ++ List.replicate k nothV := ⟨_, rfl⟩
      have hLl : L.length = 1 + args.length + k := by rw [hL]; simp; omega
      have HL := hide hL
      rw [← hL] at N
      clear hL
      obtain ⟨ra, rcap, rfl⟩ := own_form N.fr.lo
      have c8 := N.fr.c7.2.1
      have q3 : wr.cell? ⟨w.heap.size, 3, none⟩ = some (.int .i64 m.locals) := N.b3.cell 3
      have HLN := hide hLl
      by_cases hlt : 1 + args.length + k < m.locals.toNat
      · have hq : (L.length : Int) < m.locals := by omega
        clear hLl
        go_wp2_with fail
        refine wp_region_noPanic ?_
        refine wp_region_held_drew (S := (fun w' => w'.cell? ⟨fb, 8, none⟩ = some (.slice ra L.length rcap) ∧ w'.cell? ⟨w.heap.size, 3, none⟩ = some (.int .i64 m.locals))) (by kernel_rfl) ?_ (fun hHeld => ?_)
        · exact ⟨c8, q3⟩
        refine take_x (some 30) 0 rfl rfl ?_
        try simp only [Act.put, List.setIfInBounds_toArray, List.set_cons_zero, List.set_cons_succ]
        refine take_x (some 31) 1 rfl rfl ?_
        try simp only [Act.put, List.setIfInBounds_toArray, List.set_cons_zero, List.set_cons_succ]
        refine take_x (some 32) 2 rfl rfl ?_
        try simp only [Act.put, List.setIfInBounds_toArray, List.set_cons_zero, List.set_cons_succ]
        refine take_x (some 33) 3 rfl rfl ?_
        try simp only [Act.put, List.setIfInBounds_toArray, List.set_cons_zero, List.set_cons_succ]
        refine take_x (some 34) 4 rfl rfl ?_
        try simp only [Act.put, List.setIfInBounds_toArray, List.set_cons_zero, List.set_cons_succ]
        refine take_x (some 35) 5 rfl rfl ?_
        try simp only [Act.put, List.setIfInBounds_toArray, List.set_cons_zero, List.set_cons_succ]
        refine take_x (some 36) 6 rfl rfl ?_
        try simp only [Act.put, List.setIfInBounds_toArray, List.set_cons_zero, List.set_cons_succ]
        refine take_x (some 37) 7 rfl rfl ?_
        try simp only [Act.put, List.setIfInBounds_toArray, List.set_cons_zero, List.set_cons_succ]
        refine wpAnyH_done (by kernel_rfl) ?_ _
        refine NoPanic.normal ?_
        go_wp2_with fail
        refine wp_region_noPanic ?_
        refine wp_region_held_drew (S := (fun _ => True)) (by kernel_rfl) ?_ (fun hHeld => ?_)
        · exact trivial
        refine take_x (some 38) 0 rfl rfl ?_
        try simp only [Act.put, List.setIfInBounds_toArray, List.set_cons_zero, List.set_cons_succ]
        refine take_x (some 39) 1 rfl rfl ?_
        try simp only [Act.put, List.setIfInBounds_toArray, List.set_cons_zero, List.set_cons_succ]
        refine take_x (some 40) 2 rfl rfl ?_
        try simp only [Act.put, List.setIfInBounds_toArray, List.set_cons_zero, List.set_cons_succ]
        refine take_x (some 41) 3 rfl rfl ?_
        try simp only [Act.put, List.setIfInBounds_toArray, List.set_cons_zero, List.set_cons_succ]
        refine wpAnyH_ready (rs := [4, 5]) (by kernel_rfl) (by simp) ?_
        refine AllReadyH.cons rfl (fun K hK => ?_) (AllReadyH.cons rfl (fun K hK => ?_) AllReadyH.nil)
        · go_simp
          refine hK.out _ _ trivial (fun hHeld => ?_)
          clear hK K
          try simp only [Act.put, List.setIfInBounds_toArray, List.set_cons_zero, List.set_cons_succ]
          refine wpAnyH_ready (rs := [5]) (by kernel_rfl) (by simp) ?_
          refine AllReadyH.cons rfl (fun K hK => ?_) AllReadyH.nil
          go_simp
          refine (ma_nothing _).mono ?_
          rintro e w2 ⟨rfl, hb2⟩
          have hb2' : Below wr.heap.size wr w2 := ⟨hb2.os, hb2.tape, hb2.output, hb2.size, hb2.block⟩
          have N2 := N.keep hb2'
          obtain ⟨v6, w6, happ6, hO6, hM6, hv6⟩ := app_ex (P := Tryz.prog) (W := w2) 173 173 170 i0 _ 3 24 Tryz.underlying173 hi0 hz0 hz1 hz2 rfl (by decide) w.heap.size _ _ _ N2.fr.lo #[.int .i64 2, .int .i64 0, .pointer none] rfl (fun v hv => by simp only [List.mem_cons, List.not_mem_nil, or_false] at hv; rcases hv with rfl | rfl | rfl <;> rfl) w2.heap.size rfl (by have := unhide HLN; unfold maxLen; omega) (by have := unhide HLN; omega) N2.bel.size
          obtain ⟨a6, cap6, rfl⟩ := own_form hO6
          obtain ⟨N6, c86, f86⟩ := N2.add (l2 := [nothV]) hM6 (by rw [encL_app, List.length_append]; exact hO6) hv6 rfl
          have c82 := N2.fr.c7.2.1
          have c82a := (N2.fr.blk.alloc (.cells #[.int .i64 2, .int .i64 0, .pointer none] 170)).cell 8
          rw [← N2.fr.blk.cell, c82] at c82a
          have HN6 := hide N6
          clear N2 N6 hO6 hM6 hv6 hb2'
          go_wp2_with fail
          refine hK.out _ _ trivial (fun hHeld => ?_)
          clear hK K
          try simp only [Act.put, List.setIfInBounds_toArray, List.set_cons_zero, List.set_cons_succ]
          refine wpAnyH_ready (rs := [6]) (by kernel_rfl) (by simp) ?_
          refine AllReadyH.cons rfl (fun K hK => ?_) AllReadyH.nil
          go_simp
          refine hK.out _ _ trivial (fun hHeld => ?_)
          clear hK K
          try simp only [Act.put, List.setIfInBounds_toArray, List.set_cons_zero, List.set_cons_succ]
          refine wpAnyH_ready (rs := [7]) (by kernel_rfl) (by simp) ?_
          refine AllReadyH.cons rfl (fun K hK => ?_) AllReadyH.nil
          refine wp_append_run (.tmp 42) (.tmp 44) 173 rfl _ _ rfl rfl happ6 ?_
          go_simp
          refine hK.out _ _ trivial (fun hHeld => ?_)
          clear hK K
          try simp only [Act.put, List.setIfInBounds_toArray, List.set_cons_zero, List.set_cons_succ]
          refine take_x (some 46) 8 rfl rfl ?_
          try simp only [Act.put, List.setIfInBounds_toArray, List.set_cons_zero, List.set_cons_succ]
          refine take_x (some 47) 9 rfl rfl ?_
          try simp only [Act.put, List.setIfInBounds_toArray, List.set_cons_zero, List.set_cons_succ]
          refine wpAnyH_ready (rs := [10]) (by kernel_rfl) (by simp) ?_
          refine AllReadyH.cons rfl (fun K hK => ?_) AllReadyH.nil
          go_simp
          refine hK.out _ _ trivial (fun hHeld => ?_)
          clear hK K
          try simp only [Act.put, List.setIfInBounds_toArray, List.set_cons_zero, List.set_cons_succ]
          refine wpAnyH_done (by kernel_rfl) ?_ _
          refine NoPanic.normal ?_
          have N6 := unhide HN6
          have c8z := N6.fr.c7.2.1
          generalize w6.setCell _ _ = V6 at *
          have HX : Hid (∃ (k : Nat) (vl : Value), 1 + args.length + k ≤ m.locals.toNat ∧ NFr w V6 A fb (methCs m (.slice aa m.args.length acap) (.slice ca m.code.length ccap) (.slice fa m.frames.length fcap)) (this :: args ++ List.replicate k nothV) vl) := by
            refine ⟨k + 1, .slice a6 (L.length + 1) cap6, by omega, ?_⟩
            have he : this :: args ++ List.replicate (k + 1) nothV = L ++ [nothV] := by rw [unhide HL, List.replicate_succ']; simp
            rw [he]; exact N6
          have HY : Hid (m.locals.toNat - slLen (V6.cell? ⟨fb, 8, none⟩) < m.locals.toNat - slLen (wr.cell? ⟨fb, 8, none⟩)) := by
            show _ < _
            rw [c8z, c8]
            have := unhide HLN
            simp only [slLen]
            omega
          clear happ6 N6 c8z HN6
          go_wp2_with fail
          exact ⟨unhide HX, unhide HY⟩
        · go_simp
          refine (ma_nothing _).mono ?_
          rintro e w2 ⟨rfl, hb2⟩
          have hb2' : Below wr.heap.size wr w2 := ⟨hb2.os, hb2.tape, hb2.output, hb2.size, hb2.block⟩
          have N2 := N.keep hb2'
          obtain ⟨v6, w6, happ6, hO6, hM6, hv6⟩ := app_ex (P := Tryz.prog) (W := w2) 173 173 170 i0 _ 3 24 Tryz.underlying173 hi0 hz0 hz1 hz2 rfl (by decide) w.heap.size _ _ _ N2.fr.lo #[.int .i64 2, .int .i64 0, .pointer none] rfl (fun v hv => by simp only [List.mem_cons, List.not_mem_nil, or_false] at hv; rcases hv with rfl | rfl | rfl <;> rfl) w2.heap.size rfl (by have := unhide HLN; unfold maxLen; omega) (by have := unhide HLN; omega) N2.bel.size
          obtain ⟨a6, cap6, rfl⟩ := own_form hO6
          obtain ⟨N6, c86, f86⟩ := N2.add (l2 := [nothV]) hM6 (by rw [encL_app, List.length_append]; exact hO6) hv6 rfl
          have c82 := N2.fr.c7.2.1
          have c82a := (N2.fr.blk.alloc (.cells #[.int .i64 2, .int .i64 0, .pointer none] 170)).cell 8
          rw [← N2.fr.blk.cell, c82] at c82a
          have HN6 := hide N6
          clear N2 N6 hO6 hM6 hv6 hb2'
          go_wp2_with fail
          refine hK.out _ _ trivial (fun hHeld => ?_)
          clear hK K
          try simp only [Act.put, List.setIfInBounds_toArray, List.set_cons_zero, List.set_cons_succ]
          refine wpAnyH_ready (rs := [4, 6]) (by kernel_rfl) (by simp) ?_
          refine AllReadyH.cons rfl (fun K hK => ?_) (AllReadyH.cons rfl (fun K hK => ?_) AllReadyH.nil)
          · go_simp
            refine hK.out _ _ trivial (fun hHeld => ?_)
            clear hK K
            try simp only [Act.put, List.setIfInBounds_toArray, List.set_cons_zero, List.set_cons_succ]
            refine wpAnyH_ready (rs := [6]) (by kernel_rfl) (by simp) ?_
            refine AllReadyH.cons rfl (fun K hK => ?_) AllReadyH.nil
            go_simp
            refine hK.out _ _ trivial (fun hHeld => ?_)
            clear hK K
            try simp only [Act.put, List.setIfInBounds_toArray, List.set_cons_zero, List.set_cons_succ]
            refine wpAnyH_ready (rs := [7]) (by kernel_rfl) (by simp) ?_
            refine AllReadyH.cons rfl (fun K hK => ?_) AllReadyH.nil
            refine wp_append_run (.tmp 42) (.tmp 44) 173 rfl _ _ rfl rfl happ6 ?_
            go_simp
            refine hK.out _ _ trivial (fun hHeld => ?_)
            clear hK K
            try simp only [Act.put, List.setIfInBounds_toArray, List.set_cons_zero, List.set_cons_succ]
            refine take_x (some 46) 8 rfl rfl ?_
            try simp only [Act.put, List.setIfInBounds_toArray, List.set_cons_zero, List.set_cons_succ]
            refine take_x (some 47) 9 rfl rfl ?_
            try simp only [Act.put, List.setIfInBounds_toArray, List.set_cons_zero, List.set_cons_succ]
            refine wpAnyH_ready (rs := [10]) (by kernel_rfl) (by simp) ?_
            refine AllReadyH.cons rfl (fun K hK => ?_) AllReadyH.nil
            go_simp
            refine hK.out _ _ trivial (fun hHeld => ?_)
            clear hK K
            try simp only [Act.put, List.setIfInBounds_toArray, List.set_cons_zero, List.set_cons_succ]
            refine wpAnyH_done (by kernel_rfl) ?_ _
            refine NoPanic.normal ?_
            have N6 := unhide HN6
            have c8z := N6.fr.c7.2.1
            generalize w6.setCell _ _ = V6 at *
            have HX : Hid (∃ (k : Nat) (vl : Value), 1 + args.length + k ≤ m.locals.toNat ∧ NFr w V6 A fb (methCs m (.slice aa m.args.length acap) (.slice ca m.code.length ccap) (.slice fa m.frames.length fcap)) (this :: args ++ List.replicate k nothV) vl) := by
              refine ⟨k + 1, .slice a6 (L.length + 1) cap6, by omega, ?_⟩
              have he : this :: args ++ List.replicate (k + 1) nothV = L ++ [nothV] := by rw [unhide HL, List.replicate_succ']; simp
              rw [he]; exact N6
            have HY : Hid (m.locals.toNat - slLen (V6.cell? ⟨fb, 8, none⟩) < m.locals.toNat - slLen (wr.cell? ⟨fb, 8, none⟩)) := by
              show _ < _
              rw [c8z, c8]
              have := unhide HLN
              simp only [slLen]
              omega
            clear happ6 N6 c8z HN6
            go_wp2_with fail
            exact ⟨unhide HX, unhide HY⟩
          · go_simp
            refine hK.out _ _ trivial (fun hHeld => ?_)
            clear hK K
            try simp only [Act.put, List.setIfInBounds_toArray, List.set_cons_zero, List.set_cons_succ]
            refine wpAnyH_ready (rs := [4]) (by kernel_rfl) (by simp) ?_
            refine AllReadyH.cons rfl (fun K hK => ?_) AllReadyH.nil
            go_simp
            refine hK.out _ _ trivial (fun hHeld => ?_)
            clear hK K
            try simp only [Act.put, List.setIfInBounds_toArray, List.set_cons_zero, List.set_cons_succ]
            refine wpAnyH_ready (rs := [7]) (by kernel_rfl) (by simp) ?_
            refine AllReadyH.cons rfl (fun K hK => ?_) AllReadyH.nil
            refine wp_append_run (.tmp 42) (.tmp 44) 173 rfl _ _ rfl rfl happ6 ?_
            go_simp
            refine hK.out _ _ trivial (fun hHeld => ?_)
            clear hK K
            try simp only [Act.put, List.setIfInBounds_toArray, List.set_cons_zero, List.set_cons_succ]
            refine take_x (some 46) 8 rfl rfl ?_
            try simp only [Act.put, List.setIfInBounds_toArray, List.set_cons_zero, List.set_cons_succ]
            refine take_x (some 47) 9 rfl rfl ?_
            try simp only [Act.put, List.setIfInBounds_toArray, List.set_cons_zero, List.set_cons_succ]
            refine wpAnyH_ready (rs := [10]) (by kernel_rfl) (by simp) ?_
            refine AllReadyH.cons rfl (fun K hK => ?_) AllReadyH.nil
            go_simp
            refine hK.out _ _ trivial (fun hHeld => ?_)
            clear hK K
            try simp only [Act.put, List.setIfInBounds_toArray, List.set_cons_zero, List.set_cons_succ]
            refine wpAnyH_done (by kernel_rfl) ?_ _
            refine NoPanic.normal ?_
            have N6 := unhide HN6
            have c8z := N6.fr.c7.2.1
            generalize w6.setCell _ _ = V6 at *
            have HX : Hid (∃ (k : Nat) (vl : Value), 1 + args.length + k ≤ m.locals.toNat ∧ NFr w V6 A fb (methCs m (.slice aa m.args.length acap) (.slice ca m.code.length ccap) (.slice fa m.frames.length fcap)) (this :: args ++ List.replicate k nothV) vl) := by
              refine ⟨k + 1, .slice a6 (L.length + 1) cap6, by omega, ?_⟩
              have he : this :: args ++ List.replicate (k + 1) nothV = L ++ [nothV] := by rw [unhide HL, List.replicate_succ']; simp
              rw [he]; exact N6
            have HY : Hid (m.locals.toNat - slLen (V6.cell? ⟨fb, 8, none⟩) < m.locals.toNat - slLen (wr.cell? ⟨fb, 8, none⟩)) := by
              show _ < _
              rw [c8z, c8]
              have := unhide HLN
              simp only [slLen]
              omega
            clear happ6 N6 c8z HN6
            go_wp2_with fail
            exact ⟨unhide HX, unhide HY⟩
      · have hq : ¬ (L.length : Int) < m.locals := by omega
        have HN : Hid (NewR A (methCs m (.slice aa m.args.length acap) (.slice ca m.code.length ccap) (.slice fa m.frames.length fcap)) (this :: args ++ List.replicate (m.locals.toNat - (1 + args.length)) nothV) w wr.drew (.returned (.pointer (some ⟨fb, 0, none⟩)))) := by
          have hke : m.locals.toNat - (1 + args.length) = k := by omega
          rw [hke, ← unhide HL]
          exact ⟨fb, _, rfl, N.keep (Below.refl _ _).drew⟩
        clear hLl N
        go_wp2_with fail
        refine wp_region_noPanic ?_
        refine wp_region_held_drew (S := (fun w' => w'.cell? ⟨fb, 8, none⟩ = some (.slice ra L.length rcap) ∧ w'.cell? ⟨w.heap.size, 3, none⟩ = some (.int .i64 m.locals))) (by kernel_rfl) ?_ (fun hHeld => ?_)
        · exact ⟨c8, q3⟩
        refine take_x (some 30) 0 rfl rfl ?_
        try simp only [Act.put, List.setIfInBounds_toArray, List.set_cons_zero, List.set_cons_succ]
        refine take_x (some 31) 1 rfl rfl ?_
        try simp only [Act.put, List.setIfInBounds_toArray, List.set_cons_zero, List.set_cons_succ]
        refine take_x (some 32) 2 rfl rfl ?_
        try simp only [Act.put, List.setIfInBounds_toArray, List.set_cons_zero, List.set_cons_succ]
        refine take_x (some 33) 3 rfl rfl ?_
        try simp only [Act.put, List.setIfInBounds_toArray, List.set_cons_zero, List.set_cons_succ]
        refine take_x (some 34) 4 rfl rfl ?_
        try simp only [Act.put, List.setIfInBounds_toArray, List.set_cons_zero, List.set_cons_succ]
        refine take_x (some 35) 5 rfl rfl ?_
        try simp only [Act.put, List.setIfInBounds_toArray, List.set_cons_zero, List.set_cons_succ]
        refine take_x (some 36) 6 rfl rfl ?_
        try simp only [Act.put, List.setIfInBounds_toArray, List.set_cons_zero, List.set_cons_succ]
        refine take_x (some 37) 7 rfl rfl ?_
        try simp only [Act.put, List.setIfInBounds_toArray, List.set_cons_zero, List.set_cons_succ]
        refine wpAnyH_done (by kernel_rfl) ?_ _
        refine NoPanic.normal ?_
        go_wp2_with fail
        go_ret
        have hn := unhide HN
        rw [List.cons_append] at hn
        exact hn
end Go.Proofs.YtiiokkllmchohaaGreat
