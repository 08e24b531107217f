/- States: the blank one, that at the beginning, that of a frame. -/
import Derived.Test.YtiiokkllmchohaaGreatT14
import Derived.Test.YtiiokkllmchohaaGreatT21
namespace Go.Proofs.YtiiokkllmchohaaGreat
open Go.RowKit Go.Shelf
attribute [local go_sem ↓] Go.wp_at_zero Go.wp_at_succ
attribute [local go_sem] frz_drew
theorem copy_at {P : Program} {w : World} (t ty e : TypeId) (i : TypeInfo) (size : Nat) (ht : P.underlying t = some (.slice e)) (hi : P.info? e = some i) (hsize : i.size = size)
  (g o dLen dCap : Nat) (sa : Option Addr) (m c : Nat) (hm : m ≤ dLen) (hnil : sa = none → m = 0 ∧ c = 0) (cs : List Value) (hl : cs.length = m * size)
  (hsrc : ∀ ad, sa = some ad → ∀ j v, cs[j]? = some v → w.cell? (ad.add j) = some v) (et : TypeId) (cur : List Value) (hg : Blk w g et cur) (hfit : o + cs.length ≤ cur.length) (h1 : ∀ v ∈ cs, v.oneCell' = true) :
  ∃ w', (Builtin.copy_ #[t, t] ty #[.slice (some ⟨g, o, none⟩) dLen dCap, .slice sa m c]).run P w = .ok (goInt m) w' ∧ Blk w' g et (putAt cur o cs) ∧ Mods (fun k => k = g) w w' ∧ w'.heap.size = w.heap.size := by
 subst hsize
 have hmin : Nat.min m dLen = m := Nat.min_eq_left hm
 cases sa with
 | none =>
  obtain ⟨rfl, rfl⟩ := hnil rfl
  obtain rfl : cs = [] := List.eq_nil_of_length_eq_zero (by simpa using hl)
  refine ⟨w, ?_, by simpa [putAt] using hg, Mods.refl _ _, rfl⟩
  simp [Builtin.copy_, run_underlying ht, Builtin.lenOf, Builtin.firstCells, sizeOf, typeInfo, hi, storeCells]
 | some ad =>
  have hld := run_loadCells_list (P := P) w ad cs (hsrc ad rfl)
  have hst := run_storeCells_at P g o et cs 0 cur.toArray w hg (by simpa using hfit) h1
  simp only [Nat.add_zero] at hst
  refine ⟨w.setRow g (putAt cur o cs).toArray, ?_, setRow_heap w g cur.toArray _ et (0, 0) hg, ⟨rfl, rfl, rfl, by simp [World.setRow], fun k _ hk => setRow_other w g k _ hk⟩, by simp [World.setRow]⟩
  ·simp [Builtin.copy_, run_underlying ht, Builtin.lenOf, Builtin.firstCells, sizeOf, typeInfo, hi, hmin, ← hl, hld, hst, putAt]
theorem wp_copy_run {P : Program} {w w' : World} {o : Oper} {a : Act} {K : Act → World → Prop} {Q : Exit → Act → World → Prop} (s x : Operand) (t : TypeId)
  (ho : o.op = .call { callee := .builtin .copy, args := #[s, x], argTypes := #[t, t] }) (v u : Value) (hs : a.eval s = v) (hx : a.eval x = u) {v' : Value}
  (hr : (Builtin.copy_ #[t, t] o.type #[v, u]).run P w = .ok v' w') (h : K (a.put o.dst v') w') : o.wp P a w K Q := by
 unfold Oper.wp execOp
 simp only [ho, resolve, invoke, builtin, Sem.run_bind, Sem.run_pure, Result.andThen_ok, List.map_toArray, List.map_cons, List.map_nil, hs, hx, hr]
 exact h

def stCells (s : TSt) : List Value := s.loc.map (Value.int .i64) ++ (s.stk.map (Value.int .i64) ++ List.replicate (8 - s.stk.length) (.int .i64 0)) ++ [.int .i64 (s.stk.length : Int)]
theorem stCells_len {s : TSt} (h : okS s) : (stCells s).length = 17 := by
 have := h.1; have := h.2
 simp [stCells]; omega
theorem StC_cells {s : TSt} (h : okS s) : StC s (stCells s) := by
 have h1 := h.1; have h2 := h.2
 refine ⟨h, stCells_len h, fun v hv => ?_, fun i x e => ?_, fun i x e => ?_, ?_⟩
 ·simp only [stCells, List.mem_append, List.mem_map, List.mem_replicate, List.mem_singleton] at hv
  rcases hv with (⟨x, _, rfl⟩ | ⟨x, _, rfl⟩ | ⟨_, rfl⟩) | rfl <;> exact ⟨_, rfl⟩
 ·have hi : i < s.loc.length := (List.getElem?_eq_some_iff.1 e).1
  unfold stCells
  rw [List.append_assoc, List.getElem?_append_left (by simpa using hi), List.getElem?_map, e]; rfl
 ·have hi : i < s.stk.length := (List.getElem?_eq_some_iff.1 e).1
  unfold stCells
  rw [List.append_assoc, List.getElem?_append_right (by simp; omega), List.length_map, h1, Nat.add_sub_cancel_left, List.append_assoc, List.getElem?_append_left (by simpa using hi), List.getElem?_map, e]; rfl
 ·unfold stCells
  rw [List.getElem?_append_right (by simp; omega)]
  have : 16 - (s.loc.map (Value.int .i64) ++ (s.stk.map (Value.int .i64) ++ List.replicate (8 - s.stk.length) (Value.int .i64 0))).length = 0 := by simp; omega
  rw [this]; rfl

def blankL : List Value := List.replicate 8 (.int .i64 2) ++ List.replicate 9 (.int .i64 0)
theorem blankL_len : blankL.length = 17 := rfl
theorem blankL_one : ∀ v ∈ blankL, v.oneCell' = true := by
 intro v hv
 simp only [blankL, List.mem_append, List.mem_replicate] at hv
 rcases hv with ⟨_, rfl⟩ | ⟨_, rfl⟩ <;> rfl
theorem blank_step {k : Nat} (hk : k < 8) : (List.replicate k (Value.int .i64 2) ++ List.replicate (17 - k) (Value.int .i64 0)).set k (.int .i64 2) = List.replicate (k + 1) (Value.int .i64 2) ++ List.replicate (17 - (k + 1)) (Value.int .i64 0) := by
 obtain ⟨n, hn⟩ : ∃ n, 17 - k = n + 1 := ⟨16 - k, by omega⟩
 have hn' : 17 - (k + 1) = n := by omega
 rw [hn, hn', List.set_append_right _ _ (by simp), List.replicate_succ, List.length_replicate, Nat.sub_self, List.set_cons_zero, List.replicate_succ' (n := k)]
 simp
set_option maxHeartbeats 400000 in
theorem st_blank (w : World) : Calls Tryz.prog 143 #[] w fun e w' => e = .returned (.agg blankL.toArray) ∧ Below w.heap.size w w' := by
 go_enter Tryz.func143, Tryz.ntmps143
 go_wp2_with fail
 go_loopw [3] (fun i wr => ∃ k : Nat, k ≤ 8 ∧ i = .int .i64 k ∧ Blk wr w.heap.size 130 (List.replicate 17 (.int .i64 0)) ∧ Blk wr (w.heap.size + 1) 130 (List.replicate k (.int .i64 2) ++ List.replicate (17 - k) (.int .i64 0)) ∧ Below w.heap.size w wr) (fun i _ => 8 - (intOf i).toNat)
 case atStart =>
  refine ⟨0, by omega, rfl, ?_, ?_, ?_⟩
  ·exact (Blk.new w _ _).alloc _
  ·have := Blk.new (w.alloc (.cells (List.replicate 17 (.int .i64 0)).toArray 130)) (List.replicate 17 (.int .i64 0)).toArray 130
   rw [World.size_alloc] at this
   exact this
  ·exact box2_below _ _ _
 case round =>
  obtain ⟨k, hk, rfl, b0, b1, hb⟩ := hrel
  have l1 := b1.lt
  by_cases hlt : k < 8
  ·have c0 : wr.cell? ⟨w.heap.size + 1, k, none⟩ = some (.int .i64 0) := by
    rw [b1.cell, List.getElem?_append_right (by simp), List.length_replicate, Nat.sub_self, List.getElem?_replicate, if_pos (by omega)]
   have f0 := b1.frozen k
   have Z := b1.setCell k (.int .i64 2)
   rw [blank_step hlt] at Z
   have HZ := hide (And.intro (b0.setCell_ne (p := ⟨w.heap.size + 1, k, none⟩) (by simp) (.int .i64 2)) (And.intro Z (hb.setCell (p := ⟨w.heap.size + 1, k, none⟩) (by simp) (.int .i64 2))))
   have hlt' : (k : Int) < 8 := by omega
   have h0 : (0 : Int) ≤ (k : Int) := by omega
   clear Z b0 b1 hb hlt
   go_wp2_with fail
   obtain ⟨z1, z2, z3⟩ := unhide HZ
   exact ⟨⟨k + 1, by omega, by go_num, z1, z2, z3⟩, by simp [intOf]; omega⟩
  ·obtain rfl : k = 8 := by omega
   have hlt' : ¬ ((8 : Nat) : Int) < 8 := by omega
   go_wp2_with (first
    | refine wpList_load_blk aggSt b1 0 _ rfl (fun j v e => by simpa using e) (.tmp 1) rfl rfl rfl ?_
    | (refine wpList_store_blk aggSt b0 0 _ rfl (by simp) blankL_one (.tmp 0) (.tmp 10) rfl rfl rfl rfl ?_; intro w7 hB7 hM7 hs7))
   rw [putAt_all (by rfl : blankL.length = (List.replicate 17 (Value.int .i64 0)).length)] at hB7
   refine bodyPost_ret (results_blk rfl aggSt hB7 rfl rfl) rfl ?_
   exact ⟨rfl, hb.trans (hM7.below hb.size (fun k hk e => by omega))⟩
theorem begin_cells {c : Int} {m : LMeth} (h : m.args.length ≤ 7) : putAt (blankL.set 0 (.int .i64 (c + 3))) 1 (m.args.map (Value.int .i64)) = stCells (beginS c m) := by
 have e : blankL.set 0 (.int .i64 (c + 3)) = .int .i64 (c + 3) :: (List.replicate 7 (.int .i64 2) ++ List.replicate 9 (.int .i64 0)) := rfl
 rw [e]
 unfold putAt stCells beginS
 rw [List.length_map, Nat.add_comm 1, List.drop_succ_cons, List.drop_append_of_le_length (by simpa using h), List.drop_replicate]
 simp only [List.take_succ_cons, List.take_zero, List.map_cons, List.map_append, List.map_replicate, List.map_nil, List.length_nil, List.nil_append, List.cons_append, Nat.sub_zero, List.append_assoc]
 rfl
set_option maxHeartbeats 800000 in
set_option maxRecDepth 100000 in
theorem st_begin (c : Int) (m : LMeth) (va vco vf : Value) (w : World) (hc0 : 0 ≤ c) (hc1 : c ≤ 4194304) (hv : GVals w.cell? m va vco vf) (h7 : m.args.length ≤ 7) :
  Calls Tryz.prog 79 #[.int .i64 c, methV m va vco vf] w fun e w' => e = .returned (.agg (stCells (beginS c m)).toArray) ∧ Below w.heap.size w w' := by
 unfold methV
 obtain ⟨i0, hi0, hz0, hz1, hz2⟩ := info_parts infoType
 obtain ⟨hva, hvc, hvf⟩ := hv
 obtain ⟨fa, _, _, fcap, rfl, _⟩ := hvf
 obtain ⟨ca, _, _, ccap, rfl, _⟩ := hvc
 obtain ⟨aa, acap, rfl, hnil, hsrc⟩ := ints_src hva
 have HB := hide (begin_cells (c := c) h7)
 go_enter Tryz.func79, Tryz.ntmps79
 go_wp2_with fail
 have hb0 : Below w.heap.size w ((w.alloc (.cells #[.int .i64 m.slot, .slice aa m.args.length acap, .int .i64 m.ret, .int .i64 m.locals, .int .i64 m.stack, .slice ca m.code.length ccap, .slice fa m.frames.length fcap] 63)).alloc (.cells (List.replicate 17 (.int .i64 0)).toArray 130)) := box2_below _ _ _
 have A0 := (Blk.new w #[.int .i64 m.slot, .slice aa m.args.length acap, .int .i64 m.ret, .int .i64 m.locals, .int .i64 m.stack, .slice ca m.code.length ccap, .slice fa m.frames.length fcap] 63).alloc (.cells (List.replicate 17 (.int .i64 0)).toArray 130)
 have A1 := Blk.new (w.alloc (.cells #[.int .i64 m.slot, .slice aa m.args.length acap, .int .i64 m.ret, .int .i64 m.locals, .int .i64 m.stack, .slice ca m.code.length ccap, .slice fa m.frames.length fcap] 63)) (List.replicate 17 (.int .i64 0)).toArray 130
 rw [World.size_alloc] at A1
 refine (st_blank _).mono ?_
 rintro e w1 ⟨rfl, hb1⟩
 have hb1' : Below w.heap.size w w1 := hb0.trans (hb1.mono (by simp; omega))
 replace A0 := A0.below hb1 A0.lt
 replace A1 := A1.below hb1 A1.lt
 have l0 := A0.lt
 have l1 := A1.lt
 clear hb0 hb1
 go_wp2_with (refine wpList_store_blk aggSt (Blk.new _ _ _) 0 blankL rfl (by simp) blankL_one (.tmp 5) (.tmp 6) rfl rfl rfl rfl ?_; intro w2 hB2 hM2 hs2)
 rw [putAt_all (by rfl : blankL.length = _)] at hB2
 have hb2 : Below w1.heap.size w1 w2 := (box_below w1 _).trans (hM2.below (by simp) (fun k hk e => by omega))
 have hb2' : Below w.heap.size w w2 := hb1'.trans (hb2.mono hb1'.size)
 replace A0 := A0.below hb2 A0.lt
 replace A1 := A1.below hb2 A1.lt
 have c0 : w2.cell? ⟨w1.heap.size, 0, none⟩ = some (.int .i64 2) := hB2.cell 0
 have f0 := hB2.frozen 0
 have hs : w.heap.size ≤ w1.heap.size := hb1'.size
 clear hb2 hM2 hs2 hb1'
 refine (code_of c (by omega) (by omega) _).mono ?_
 rintro e w' ⟨rfl, rfl⟩
 go_wp2_with fail
 have hb3 := hb2'.setCell (p := ⟨w1.heap.size, 0, none⟩) hs (.int .i64 (c + 3))
 have B3 := hB2.setCell 0 (.int .i64 (c + 3))
 replace A0 := A0.setCell_ne (p := ⟨w1.heap.size, 0, none⟩) (by dsimp only; omega) (.int .i64 (c + 3))
 replace A1 := A1.setCell_ne (p := ⟨w1.heap.size, 0, none⟩) (by dsimp only; omega) (.int .i64 (c + 3))
 generalize w'.setCell _ _ = W3 at *
 have a1 : W3.cell? ⟨w.heap.size, 1, none⟩ = some (.slice aa m.args.length acap) := A0.cell 1
 obtain ⟨w4, hcopy, hB4, hM4, hs4⟩ := copy_at (P := Tryz.prog) (w := W3.drew) 40 3 43 i0 1 Tryz.underlying40 hi0 hz1 w1.heap.size 1 7 7 aa m.args.length acap h7
  (fun e => by obtain ⟨h, h'⟩ := hnil e; rw [h]; exact ⟨rfl, h'⟩) (m.args.map (Value.int .i64)) (by simp) (fun ad e j u h => Keeps.of_below hb3.drew _ _ (hsrc ad e j u h)) 130 _ B3.drew (by simp [blankL_len]; omega) (oneCell_ints _)
 rw [unhide HB] at hB4
 have hb4 : Below w.heap.size w w4 := hb3.drew.trans (hM4.below hb3.size (fun k hk e => by omega))
 have A14 := A1.drew.mods hM4 (by omega)
 have a14 := hM4.cell (w := W3.drew) a1 (by dsimp only; omega)
 clear c0 f0 hsrc hnil hva
 refine wp_region_noPanic ?_
 refine wp_region_held_drew (S := (fun w' => w'.cell? ⟨w.heap.size, 1, none⟩ = some (.slice aa m.args.length acap))) (by kernel_rfl) ?_ (fun hHeld => ?_)
 ·exact a1
 refine take_x (some 11) 0 rfl rfl ?_
 refine take_x (some 12) 1 rfl rfl ?_
 refine take_x (some 13) 2 rfl rfl ?_
 refine take_x (some 14) 3 rfl rfl ?_
 refine wpAnyH_ready (rs := [4]) (by kernel_rfl) (by simp) ?_
 refine AllReadyH.cons rfl (fun K hK => ?_) AllReadyH.nil
 refine wp_copy_run (.tmp 12) (.tmp 14) 40 rfl _ _ rfl rfl hcopy ?_
 go_simp
 refine hK.out _ _ a14 (fun hHeld => ?_)
 clear hK K
 try simp only [Act.put, List.setIfInBounds_toArray, List.set_cons_zero, List.set_cons_succ]
 refine wpAnyH_done (by kernel_rfl) ?_ _
 refine NoPanic.normal ?_
 have hok := okS_begin (c := c) h7
 go_wp2_with (first
  | refine wpList_load_blk aggSt hB4 0 _ (stCells_len hok) (fun j v e => by simpa using e) (.tmp 5) rfl rfl rfl ?_
  | (refine wpList_store_blk aggSt A14 0 _ (stCells_len hok) (by simp) (StC_cells hok).one (.tmp 4) (.tmp 16) rfl rfl rfl rfl ?_; intro w7 hB7 hM7 hs7))
 rw [putAt_all (by rw [stCells_len hok]; rfl)] at hB7
 refine bodyPost_ret (results_blk rfl aggSt hB7 (stCells_len hok) rfl) rfl ?_
 exact ⟨rfl, hb4.trans (hM7.below hb4.size (fun k hk e => by omega))⟩
theorem told_cells {f : LFrame} (h1 : f.locals.length ≤ 8) (h2 : f.stack.length ≤ 8) : (putAt (putAt blankL 0 (f.locals.map (Value.int .i64))) 8 (f.stack.map (Value.int .i64))).set 16 (.int .i64 (f.stack.length : Int)) = stCells (toldS f) := by
 have e1 : putAt blankL 0 (f.locals.map (Value.int .i64)) = (f.locals.map (Value.int .i64) ++ List.replicate (8 - f.locals.length) (.int .i64 2)) ++ List.replicate 9 (.int .i64 0) := by
  unfold putAt blankL
  rw [List.length_map, Nat.zero_add, List.drop_append_of_le_length (by simpa using h1), List.drop_replicate]
  simp
 have l1 : (f.locals.map (Value.int .i64) ++ List.replicate (8 - f.locals.length) (Value.int .i64 2)).length = 8 := by simp; omega
 have e2 : putAt ((f.locals.map (Value.int .i64) ++ List.replicate (8 - f.locals.length) (Value.int .i64 2)) ++ List.replicate 9 (.int .i64 0)) 8 (f.stack.map (Value.int .i64)) = ((f.locals.map (Value.int .i64) ++ List.replicate (8 - f.locals.length) (Value.int .i64 2)) ++ (f.stack.map (Value.int .i64) ++ List.replicate (8 - f.stack.length) (.int .i64 0))) ++ [.int .i64 0] := by
  unfold putAt
  rw [List.length_map, List.take_left' l1, List.drop_append, l1, Nat.add_sub_cancel_left, List.drop_of_length_le (by rw [l1]; omega), List.drop_replicate]
  have : 9 - f.stack.length = (8 - f.stack.length) + 1 := by omega
  rw [this, List.replicate_succ']
  simp
 rw [e1, e2, List.set_append_right _ _ (by simp; omega)]
 have : 16 - ((f.locals.map (Value.int .i64) ++ List.replicate (8 - f.locals.length) (Value.int .i64 2)) ++ (f.stack.map (Value.int .i64) ++ List.replicate (8 - f.stack.length) (Value.int .i64 0))).length = 0 := by simp; omega
 rw [this]
 unfold stCells toldS
 simp
set_option maxHeartbeats 800000 in
set_option maxRecDepth 100000 in
theorem st_told (f : LFrame) (vl vs : Value) (w : World) (hl : SlAt 1 (RInt w) vl f.locals) (hst : SlAt 1 (RInt w) vs f.stack) (h1 : f.locals.length ≤ 8) (h2 : f.stack.length ≤ 8) :
  Calls Tryz.prog 155 #[.agg #[.int .i64 f.pc, vl, vs]] w fun e w' => e = .returned (.agg (stCells (toldS f)).toArray) ∧ Below w.heap.size w w' := by
 obtain ⟨i0, hi0, hz0, hz1, hz2⟩ := info_parts infoType
 obtain ⟨aa, acap, rfl, hnil, hsrc⟩ := ints_src hl
 obtain ⟨sa, scap, rfl, snil, ssrc⟩ := ints_src hst
 have HB := hide (told_cells h1 h2)
 clear hl hst
 go_enter Tryz.func155, Tryz.ntmps155
 go_wp2_with fail
 have hb0 : Below w.heap.size w ((w.alloc (.cells #[.int .i64 f.pc, .slice aa f.locals.length acap, .slice sa f.stack.length scap] 42)).alloc (.cells (List.replicate 17 (.int .i64 0)).toArray 130)) := box2_below _ _ _
 have A0 := (Blk.new w #[.int .i64 f.pc, .slice aa f.locals.length acap, .slice sa f.stack.length scap] 42).alloc (.cells (List.replicate 17 (.int .i64 0)).toArray 130)
 have A1 := Blk.new (w.alloc (.cells #[.int .i64 f.pc, .slice aa f.locals.length acap, .slice sa f.stack.length scap] 42)) (List.replicate 17 (.int .i64 0)).toArray 130
 rw [World.size_alloc] at A1
 refine (st_blank _).mono ?_
 rintro e w1 ⟨rfl, hb1⟩
 have hb1' : Below w.heap.size w w1 := hb0.trans (hb1.mono (by simp; omega))
 replace A0 := A0.below hb1 A0.lt
 replace A1 := A1.below hb1 A1.lt
 have l0 := A0.lt
 have l1 := A1.lt
 clear hb0 hb1
 go_wp2_with (refine wpList_store_blk aggSt (Blk.new _ _ _) 0 blankL rfl (by simp) blankL_one (.tmp 3) (.tmp 4) rfl rfl rfl rfl ?_; intro w2 hB2 hM2 hs2)
 rw [putAt_all (by rfl : blankL.length = _)] at hB2
 have hb2 : Below w1.heap.size w1 w2 := (box_below w1 _).trans (hM2.below (by simp) (fun k hk e => by omega))
 have hb2' : Below w.heap.size w w2 := hb1'.trans (hb2.mono hb1'.size)
 replace A0 := A0.below hb2 A0.lt
 replace A1 := A1.below hb2 A1.lt
 have hs : w.heap.size ≤ w1.heap.size := hb1'.size
 clear hb2 hM2 hs2 hb1'
 have a1 : w2.cell? ⟨w.heap.size, 1, none⟩ = some (.slice aa f.locals.length acap) := A0.cell 1
 obtain ⟨w4, hcopy, hB4, hM4, hs4⟩ := copy_at (P := Tryz.prog) (w := w2.drew) 40 3 43 i0 1 Tryz.underlying40 hi0 hz1 w1.heap.size 0 8 8 aa f.locals.length acap h1
  (fun e => by obtain ⟨h, h'⟩ := hnil e; rw [h]; exact ⟨rfl, h'⟩) (f.locals.map (Value.int .i64)) (by simp) (fun ad e j u h => Keeps.of_below hb2'.drew _ _ (hsrc ad e j u h)) 130 _ hB2.drew (by simp [blankL_len]; omega) (oneCell_ints _)
 have hb4 : Below w.heap.size w w4 := hb2'.drew.trans (hM4.below hb2'.size (fun k hk e => by omega))
 have A04 := A0.drew.mods hM4 (by omega)
 have A14 := A1.drew.mods hM4 (by omega)
 have a14 : w4.cell? ⟨w.heap.size, 1, none⟩ = some (.slice aa f.locals.length acap) := A04.cell 1
 refine wp_region_noPanic ?_
 refine wp_region_held_drew (S := (fun w' => w'.cell? ⟨w.heap.size, 1, none⟩ = some (.slice aa f.locals.length acap))) (by kernel_rfl) ?_ (fun hHeld => ?_)
 ·exact a1
 refine take_x (some 5) 0 rfl rfl ?_
 refine take_x (some 6) 1 rfl rfl ?_
 refine take_x (some 7) 2 rfl rfl ?_
 refine take_x (some 8) 3 rfl rfl ?_
 refine wpAnyH_ready (rs := [4]) (by kernel_rfl) (by simp) ?_
 refine AllReadyH.cons rfl (fun K hK => ?_) AllReadyH.nil
 refine wp_copy_run (.tmp 6) (.tmp 8) 40 rfl _ _ rfl rfl hcopy ?_
 go_simp
 refine hK.out _ _ a14 (fun hHeld => ?_)
 clear hK K
 try simp only [Act.put, List.setIfInBounds_toArray, List.set_cons_zero, List.set_cons_succ]
 refine wpAnyH_done (by kernel_rfl) ?_ _
 refine NoPanic.normal ?_
 clear hcopy hM4 hs4 hHeld a14 a1 A0 A1
 have b2 : w4.cell? ⟨w.heap.size, 2, none⟩ = some (.slice sa f.stack.length scap) := A04.cell 2
 have hpl : (putAt blankL 0 (f.locals.map (Value.int .i64))).length = 17 := by rw [putAt_length (by simp [blankL_len]; omega)]; rfl
 obtain ⟨w5, hcopy, hB5, hM5, hs5⟩ := copy_at (P := Tryz.prog) (w := w4.drew) 40 3 43 i0 1 Tryz.underlying40 hi0 hz1 w1.heap.size 8 8 8 sa f.stack.length scap h2
  (fun e => by obtain ⟨h, h'⟩ := snil e; rw [h]; exact ⟨rfl, h'⟩) (f.stack.map (Value.int .i64)) (by simp) (fun ad e j u h => Keeps.of_below hb4.drew _ _ (ssrc ad e j u h)) 130 _ hB4.drew (by rw [hpl]; simp; omega) (oneCell_ints _)
 have hb5 : Below w.heap.size w w5 := hb4.drew.trans (hM5.below hb4.size (fun k hk e => by omega))
 have A05 := A04.drew.mods hM5 (by omega)
 have A15 := A14.drew.mods hM5 (by omega)
 have b25 : w5.cell? ⟨w.heap.size, 2, none⟩ = some (.slice sa f.stack.length scap) := A05.cell 2
 have hpl2 : (putAt (putAt blankL 0 (f.locals.map (Value.int .i64))) 8 (f.stack.map (Value.int .i64))).length = 17 := by rw [putAt_length (by rw [hpl]; simp; omega), hpl]
 have c16 : ∃ u, w5.cell? ⟨w1.heap.size, 16, none⟩ = some u := ⟨_, by rw [hB5.cell, List.getElem?_eq_getElem (by rw [hpl2]; omega)]⟩
 have f16 := hB5.frozen 16
 have H16 := hide (And.intro c16 f16)
 have B6 := hB5.setCell 16 (.int .i64 (f.stack.length : Int))
 rw [unhide HB] at B6
 have hb6 := hb5.setCell (p := ⟨w1.heap.size, 16, none⟩) hs (.int .i64 (f.stack.length : Int))
 have A06 := A05.setCell_ne (p := ⟨w1.heap.size, 16, none⟩) (by dsimp only; omega) (.int .i64 (f.stack.length : Int))
 have A16 := A15.setCell_ne (p := ⟨w1.heap.size, 16, none⟩) (by dsimp only; omega) (.int .i64 (f.stack.length : Int))
 clear hsrc hnil ssrc snil c16 f16
 go_wp2_with fail
 refine wp_region_noPanic ?_
 refine wp_region_held_drew (S := (fun w' => w'.cell? ⟨w.heap.size, 2, none⟩ = some (.slice sa f.stack.length scap))) (by kernel_rfl) ?_ (fun hHeld => ?_)
 ·exact b2
 refine take_x (some 10) 0 rfl rfl ?_
 refine take_x (some 11) 1 rfl rfl ?_
 refine take_x (some 12) 2 rfl rfl ?_
 refine take_x (some 13) 3 rfl rfl ?_
 refine wpAnyH_ready (rs := [4]) (by kernel_rfl) (by simp) ?_
 refine AllReadyH.cons rfl (fun K hK => ?_) AllReadyH.nil
 refine wp_copy_run (.tmp 11) (.tmp 13) 40 rfl _ _ rfl rfl hcopy ?_
 go_simp
 refine hK.out _ _ b25 (fun hHeld => ?_)
 clear hK K
 try simp only [Act.put, List.setIfInBounds_toArray, List.set_cons_zero, List.set_cons_succ]
 refine take_x (some 15) 5 rfl rfl ?_
 obtain ⟨⟨u16, c16⟩, f16⟩ := unhide H16
 refine wpAnyH_ready (rs := [6]) (by kernel_rfl) (by simp) ?_
 refine AllReadyH.cons rfl (fun K hK => ?_) AllReadyH.nil
 go_simp
 refine hK.out _ _ (A06.cell 2) (fun hHeld => ?_)
 clear hK K
 try simp only [Act.put, List.setIfInBounds_toArray, List.set_cons_zero, List.set_cons_succ]
 refine wpAnyH_done (by kernel_rfl) ?_ _
 refine NoPanic.normal ?_
 have hok := okS_told h1 h2
 go_wp2_with (first
  | refine wpList_load_blk aggSt B6 0 _ (stCells_len hok) (fun j v e => by simpa using e) (.tmp 3) rfl rfl rfl ?_
  | (refine wpList_store_blk aggSt A16 0 _ (stCells_len hok) (by simp) (StC_cells hok).one (.tmp 2) (.tmp 16) rfl rfl rfl rfl ?_; intro w7 hB7 hM7 hs7))
 rw [putAt_all (by rw [stCells_len hok]; rfl)] at hB7
 refine bodyPost_ret (results_blk rfl aggSt hB7 (stCells_len hok) rfl) rfl ?_
 exact ⟨rfl, hb6.trans (hM7.below hb6.size (fun k hk e => by omega))⟩
theorem aggLoc : AggOk Tryz.prog 128 8 := ⟨by kernel_rfl, by kernel_rfl⟩
theorem wpList_index_arr {ops : Array Oper} {rest : List Oper} {o : Oper} {a : Act} {w : World} {Q : Exit → Act → World → Prop} (x y : Operand) (hgd : o.guard = none) (ho : o.op = .index 128 x y) (cs : List Value) (k : Nat) (v : Value) (hx : a.eval x = .agg cs.toArray) (hy : a.eval y = .int .i64 (k : Int)) (hk : k < 8) (hv : cs[k]? = some v)
  (hK : wpList Tryz.prog ops Q rest (a.put o.dst v) w) : wpList Tryz.prog ops Q (o :: rest) a w := by
 refine wpList_plain hgd fun K hK' => ?_
 have hr : (Instr.index 128 (.agg cs.toArray) (.int .i64 (k : Int))).run Tryz.prog w = .ok v w := by
  have hu : Tryz.prog.underlying 128 = some (.array 8 43) := by kernel_rfl
  obtain ⟨i0, hi0, hz0, hz1, hz2⟩ := info_parts infoType
  simp [Instr.index, asIntOf, run_underlying hu, part, sizeOf, typeInfo, hi0, hz1, hk, hv]
 unfold Oper.wp execOp
 simp only [ho, hx, hy, Sem.run_bind, Sem.run_pure, Result.andThen_ok, hr]
 exact hK' _ _ hK
theorem zip_step {p : List LClass} {l o : List Int} {k : Nat} (h1 : k < l.length) (h2 : k < o.length) : ((l.zip o).take (k + 1)).all (fun x => belowB p x.1 x.2) = (((l.zip o).take k).all (fun x => belowB p x.1 x.2) && belowB p l[k] o[k]) := by
 have hk : k < (l.zip o).length := by simp; omega
 rw [all_snoc hk, List.getElem_zip]
theorem zip_bad {p : List LClass} {l o : List Int} {k : Nat} (h1 : k < l.length) (h2 : k < o.length) (h : belowB p l[k] o[k] = false) : (l.zip o).all (fun x => belowB p x.1 x.2) = false := by
 rw [List.all_eq_false]
 exact ⟨(l[k], o[k]), by rw [← List.getElem_zip (h := by simp; omega)]; exact List.getElem_mem _, by simp [h]⟩
set_option maxHeartbeats 1000000 in
set_option maxRecDepth 100000 in
theorem st_below (p : List LClass) (vc : Value) (s t : TSt) (cs ds : List Value) (w : World) (hp : RProg w vc p) (hs : SupOk p p.length) (hz : p.length ≤ 4194304) (hS : StC s cs) (hT : StC t ds) (ts : ∀ x ∈ s.loc, tyOk p.length x) (ts' : ∀ x ∈ s.stk, tyOk p.length x) (tt : ∀ x ∈ t.loc, tyOk p.length x) (tt' : ∀ x ∈ t.stk, tyOk p.length x) :
  Calls Tryz.prog 141 #[.agg cs.toArray, .agg #[vc], .agg ds.toArray] w fun e w' => e = .returned (.bool (belowS p s t)) ∧ Below w.heap.size w w' := by
 have HP := hide hp
 have sl := hS.ok.1
 have tl := hT.ok.1
 have s8 := hS.ok.2
 obtain ⟨pa, _, _, pcap, rfl, _⟩ := hp
 have hbel : Below w.heap.size w (((w.alloc (.cells cs.toArray 130)).alloc (.cells #[.slice pa p.length pcap] 24)).alloc (.cells ds.toArray 130)) := ((box_below w _).alloc (by simp) _).alloc (by simp; omega) _
 have B0 : Blk (((w.alloc (.cells cs.toArray 130)).alloc (.cells #[.slice pa p.length pcap] 24)).alloc (.cells ds.toArray 130)) w.heap.size 130 cs := ((Blk.new w cs.toArray _).alloc _).alloc _
 have B1 : Blk (((w.alloc (.cells cs.toArray 130)).alloc (.cells #[.slice pa p.length pcap] 24)).alloc (.cells ds.toArray 130)) (w.heap.size + 1) 24 [.slice pa p.length pcap] := by
  have := Blk.new (w.alloc (.cells cs.toArray 130)) #[.slice pa p.length pcap] 24
  rw [World.size_alloc] at this
  exact this.alloc _
 have B2 : Blk (((w.alloc (.cells cs.toArray 130)).alloc (.cells #[.slice pa p.length pcap] 24)).alloc (.cells ds.toArray 130)) (w.heap.size + 1 + 1) 130 ds := by
  have := Blk.new ((w.alloc (.cells cs.toArray 130)).alloc (.cells #[.slice pa p.length pcap] 24)) ds.toArray 130
  rw [World.size_alloc, World.size_alloc] at this
  exact this
 have h0 : ((((w.alloc (.cells cs.toArray 130)).alloc (.cells #[.slice pa p.length pcap] 24)).alloc (.cells ds.toArray 130))).cell? ⟨w.heap.size, 16, none⟩ = some (.int .i64 (s.stk.length : Int)) := by rw [B0.cell]; exact hS.ht
 have h2 : ((((w.alloc (.cells cs.toArray 130)).alloc (.cells #[.slice pa p.length pcap] 24)).alloc (.cells ds.toArray 130))).cell? ⟨w.heap.size + 1 + 1, 16, none⟩ = some (.int .i64 (t.stk.length : Int)) := by rw [B2.cell]; exact hT.ht
 by_cases hlen : s.stk.length = t.stk.length
 ·have hq : ((s.stk.length : Int) != (t.stk.length : Int)) = false := by rw [hlen]; simp
  have HB0 : Hid (belowS p s t = ((s.loc.zip t.loc).all (fun x => belowB p x.1 x.2) && (s.stk.zip t.stk).all (fun x => belowB p x.1 x.2))) := by
   show _ = _
   unfold belowS
   rw [hlen]; simp
  have HLEN := hide hlen
  clear hlen
  go_enter Tryz.func141, Tryz.ntmps141
  go_wp2_with (refine wpList_load_blk aggLoc B0 0 (s.loc.map (Value.int .i64)) (by simp [sl]) (fun j v e => by
    rw [List.getElem?_map] at e
    cases e' : s.loc[j]? with
    | none => rw [e'] at e; cases e
    | some x => rw [e'] at e; cases e; rw [Nat.zero_add]; exact hS.loc j x e') (.tmp 16) rfl rfl rfl ?_)
  generalize ((w.alloc _).alloc _).alloc _ = W at *
  go_loopw [18] (fun i wr => ∃ k : Nat, k ≤ 8 ∧ i = .int .i64 k ∧ ((s.loc.zip t.loc).take k).all (fun x => belowB p x.1 x.2) = true ∧ Below W.heap.size W wr) (fun i _ => 8 - (intOf i).toNat)
  case atStart => exact ⟨0, by omega, rfl, by simp, Below.refl _ _⟩
  case round =>
   obtain ⟨k, hk, rfl, hall, hb⟩ := hrel
   have C0 := B0.below hb B0.lt
   have C1 := B1.below hb B1.lt
   have C2 := B2.below hb B2.lt
   have HC := hide (And.intro C0 (And.intro C1 C2))
   have HBr := hide hb
   have HALL := hide hall
   have HRP := hide (prog_keep (Keeps.of_below (hbel.trans (hb.mono hbel.size))) (unhide HP))
   clear hall
   by_cases hlt : k < 8
   ·have hk1 : k < s.loc.length := by omega
    have hk2 : k < t.loc.length := by omega
    have hx := ts _ (List.getElem_mem hk1)
    have hy := tt _ (List.getElem_mem hk2)
    have c1 : wr.cell? ⟨w.heap.size + 1, 0, none⟩ = some (.slice pa p.length pcap) := C1.cell 0
    have c2 : wr.cell? ⟨w.heap.size + 1 + 1, k, none⟩ = some (.int .i64 t.loc[k]) := by rw [C2.cell]; exact hT.loc k _ (List.getElem?_eq_getElem hk2)
    have HSTEP := hide (zip_step (p := p) hk1 hk2)
    have HBAD := hide (zip_bad (p := p) hk1 hk2)
    have hv : (s.loc.map (Value.int .i64))[k]? = some (.int .i64 s.loc[k]) := by rw [List.getElem?_map, List.getElem?_eq_getElem hk1]; rfl
    generalize s.loc[k] = x at *
    generalize t.loc[k] = y at *
    have hlt' : (k : Int) < 8 := by omega
    have k0 : (0 : Int) ≤ (k : Int) := by omega
    clear C0 C1 C2 hb
    go_wp2_with (refine wpList_index_arr (.tmp 17) (.tmp 18) rfl rfl (s.loc.map (Value.int .i64)) k (.int .i64 x) rfl rfl hlt hv ?_)
    refine wp_region_noPanic ?_
    refine wp_region_held_drew (S := (fun w' => w'.cell? ⟨w.heap.size + 1, 0, none⟩ = some (.slice pa p.length pcap) ∧ w'.cell? ⟨w.heap.size + 1 + 1, k, none⟩ = some (.int .i64 y))) (by kernel_rfl) ?_ (fun hHeld => ?_)
    ·exact (And.intro c1 c2)
    refine take_x (some 22) 0 rfl rfl ?_
    refine take_x (some 23) 1 rfl rfl ?_
    refine take_x (some 24) 2 rfl rfl ?_
    refine take_x (some 25) 3 rfl rfl ?_
    refine take_x (some 26) 4 rfl rfl ?_
    refine take_x (some 27) 5 rfl rfl ?_
    refine wpAnyH_ready (rs := [6]) (by kernel_rfl) (by simp) ?_
    refine AllReadyH.cons rfl (fun K hK => ?_) AllReadyH.nil
    go_simp
    refine (code_kbelow p _ x y _ (prog_keep (Keeps.of_below ((Below.refl _ _).drew)) (unhide HRP)) hs hz hx hy).mono ?_
    rintro e w3 ⟨rfl, hb3⟩
    have hb3' : Below wr.heap.size wr w3 := ⟨hb3.os, hb3.tape, hb3.output, hb3.size, hb3.block⟩
    have kk := Keeps.of_below hb3'
    go_wp2_with fail
    refine hK.out _ _ (And.intro (kk _ _ c1) (kk _ _ c2)) (fun hHeld => ?_)
    clear hK K
    try simp only [Act.put, List.setIfInBounds_toArray, List.set_cons_zero, List.set_cons_succ]
    refine take_x (some 29) 7 rfl rfl ?_
    refine wpAnyH_done (by kernel_rfl) ?_ _
    refine NoPanic.normal ?_
    cases hq : belowB p x y with
    | false =>
     have HN : Hid (belowS p s t = false) := by show _ = _; rw [unhide HB0, unhide HBAD hq]; rfl
     have HF := hide (hbel.trans (((unhide HBr).trans (hb3'.mono (unhide HBr).size)).mono hbel.size))
     clear hq
     go_wp2_with fail
     go_ret
     rw [unhide HN]
     exact ⟨rfl, unhide HF⟩
    | true =>
     have HN : Hid (((s.loc.zip t.loc).take (k + 1)).all (fun x => belowB p x.1 x.2) = true) := by show _ = _; rw [unhide HSTEP, unhide HALL, hq]; rfl
     have HF := hide ((unhide HBr).trans (hb3'.mono (unhide HBr).size))
     clear hq
     go_wp2_with fail
     exact ⟨⟨k + 1, by omega, by go_num, unhide HN, unhide HF⟩, by simp [intOf]; omega⟩
   ·obtain rfl : k = 8 := by omega
    have HA : Hid ((s.loc.zip t.loc).all (fun x => belowB p x.1 x.2) = true) := by
     have := unhide HALL
     rwa [List.take_of_length_le (by simp; omega)] at this
    have HB1 : Hid (belowS p s t = (s.stk.zip t.stk).all (fun x => belowB p x.1 x.2)) := by show _ = _; rw [unhide HB0, unhide HA, Bool.true_and]
    have q0 : wr.cell? ⟨w.heap.size, 16, none⟩ = some (.int .i64 (s.stk.length : Int)) := by rw [C0.cell]; exact hS.ht
    have n0 : (0 : Int) ≤ (s.stk.length : Int) := by omega
    have n8 : (s.stk.length : Int) ≤ 8 := by omega
    have hlt' : ¬ ((8 : Nat) : Int) < 8 := by omega
    clear HALL hlt
    have HLs := HLEN
    clear hq h0 h2
    go_wp2_with fail
    generalize wr = V at *
    have hbV := hbel.trans (hb.mono hbel.size)
    clear HBr hb HA HRP q0
    go_loopw [36] (fun i wr => ∃ k : Nat, k ≤ s.stk.length ∧ i = .int .i64 k ∧ ((s.stk.zip t.stk).take k).all (fun x => belowB p x.1 x.2) = true ∧ Below V.heap.size V wr) (fun i _ => s.stk.length - (intOf i).toNat)
    case atStart => exact ⟨0, by omega, rfl, by simp, Below.refl _ _⟩
    case round =>
     obtain ⟨k, hk, rfl, hall, hb⟩ := hrel
     have D0 := C0.below hb C0.lt
     have D1 := C1.below hb C1.lt
     have D2 := C2.below hb C2.lt
     have HBr := hide hb
     have HALL := hide hall
     have HRP := hide (prog_keep (Keeps.of_below (hbV.trans (hb.mono hbV.size))) (unhide HP))
     clear hall
     by_cases hlt : k < s.stk.length
     ·have hk2 : k < t.stk.length := by have := unhide HLs; omega
      have hx := ts' _ (List.getElem_mem hlt)
      have hy := tt' _ (List.getElem_mem hk2)
      have c1 : wr.cell? ⟨w.heap.size + 1, 0, none⟩ = some (.slice pa p.length pcap) := D1.cell 0
      have c2 : wr.cell? ⟨w.heap.size + 1 + 1, 8 + k, none⟩ = some (.int .i64 t.stk[k]) := by rw [D2.cell]; exact hT.stk k _ (List.getElem?_eq_getElem hk2)
      have c0 : wr.cell? ⟨w.heap.size, 8 + k, none⟩ = some (.int .i64 s.stk[k]) := by rw [D0.cell]; exact hS.stk k _ (List.getElem?_eq_getElem hlt)
      have HSTEP := hide (zip_step (p := p) hlt hk2)
      have HBAD := hide (zip_bad (p := p) hlt hk2)
      generalize s.stk[k] = x at *
      generalize t.stk[k] = y at *
      have hlt' : (k : Int) < (s.stk.length : Int) := by omega
      have hlt8 : (k : Int) < 8 := by omega
      have k0 : (0 : Int) ≤ (k : Int) := by omega
      clear C0 C1 C2 D0 D1 D2 hb
      go_wp2_with fail
      refine wp_region_noPanic ?_
      refine wp_region_held_drew (S := (fun w' => w'.cell? ⟨w.heap.size + 1, 0, none⟩ = some (.slice pa p.length pcap) ∧ w'.cell? ⟨w.heap.size + 1 + 1, 8 + k, none⟩ = some (.int .i64 y))) (by kernel_rfl) ?_ (fun hHeld => ?_)
      ·exact (And.intro c1 c2)
      refine take_x (some 41) 0 rfl rfl ?_
      refine take_x (some 42) 1 rfl rfl ?_
      refine take_x (some 43) 2 rfl rfl ?_
      refine take_x (some 44) 3 rfl rfl ?_
      refine take_x (some 45) 4 rfl rfl ?_
      refine take_x (some 46) 5 rfl rfl ?_
      refine wpAnyH_ready (rs := [6]) (by kernel_rfl) (by simp) ?_
      refine AllReadyH.cons rfl (fun K hK => ?_) AllReadyH.nil
      go_simp
      refine (code_kbelow p _ x y _ (prog_keep (Keeps.of_below ((Below.refl _ _).drew)) (unhide HRP)) hs hz hx hy).mono ?_
      rintro e w3 ⟨rfl, hb3⟩
      have hb3' : Below wr.heap.size wr w3 := ⟨hb3.os, hb3.tape, hb3.output, hb3.size, hb3.block⟩
      have kk := Keeps.of_below hb3'
      go_wp2_with fail
      refine hK.out _ _ (And.intro (kk _ _ c1) (kk _ _ c2)) (fun hHeld => ?_)
      clear hK K
      try simp only [Act.put, List.setIfInBounds_toArray, List.set_cons_zero, List.set_cons_succ]
      refine take_x (some 48) 7 rfl rfl ?_
      refine wpAnyH_done (by kernel_rfl) ?_ _
      refine NoPanic.normal ?_
      cases hq : belowB p x y with
      | false =>
       have HN : Hid (belowS p s t = false) := by show _ = _; rw [unhide HB1, unhide HBAD hq]
       have HF := hide (hbV.trans (((unhide HBr).trans (hb3'.mono (unhide HBr).size)).mono hbV.size))
       clear hq
       go_wp2_with fail
       go_ret
       rw [unhide HN]
       exact ⟨rfl, unhide HF⟩
      | true =>
       have HN : Hid (((s.stk.zip t.stk).take (k + 1)).all (fun x => belowB p x.1 x.2) = true) := by show _ = _; rw [unhide HSTEP, unhide HALL, hq]; rfl
       have HF := hide ((unhide HBr).trans (hb3'.mono (unhide HBr).size))
       clear hq
       go_wp2_with fail
       exact ⟨⟨k + 1, by omega, by go_num, unhide HN, unhide HF⟩, by simp [intOf]; omega⟩
     ·have HA : Hid (belowS p s t = true) := by
       have := unhide HALL
       rw [List.take_of_length_le (by simp; omega)] at this
       show _ = _
       rw [unhide HB1, this]
      have hlt' : ¬ (k : Int) < (s.stk.length : Int) := by omega
      have HF := hide (hbV.trans ((unhide HBr).mono hbV.size))
      clear hlt
      go_wp2_with fail
      go_ret
      rw [unhide HA]
      exact ⟨rfl, unhide HF⟩
 ·have hq : ((s.stk.length : Int) != (t.stk.length : Int)) = true := by simp; omega
  have HN : Hid (belowS p s t = false) := by
   show _ = _
   unfold belowS
   have : (s.stk.length == t.stk.length) = false := by simpa using hlen
   rw [this]; rfl
  clear hlen
  go_enter Tryz.func141, Tryz.ntmps141
  go_wp2_with fail
  go_ret
  rw [unhide HN]
  exact ⟨rfl, hbel⟩
theorem results_blk2 {P : Program} {fn : Func} {t u : Tmp} {ty t' : TypeId} {n g : Nat} {w : World} {vs : List Value} {tmps : Array Value} (h : fn.results = #[.cell t ty, .tmp u]) (hA : AggOk P ty n) (hB : Blk w g t' vs) (hl : vs.length = n) (hx : tmps.getD t undef = .pointer (some ⟨g, 0, none⟩)) :
  (results fn tmps).run P w = .ok (.tuple #[.agg vs.toArray, tmps.getD u undef]) w := by
 have := run_load_blk hA hB 0 vs hl (fun j v e => by simpa using e)
 have hx' : tmps[t]?.getD undef = .pointer (some ⟨g, 0, none⟩) := by rw [← hx]; simp
 simp [results, h, hx', asAddr, this]

def FrOk (p : List LClass) (m : LMeth) : Prop := ∀ f ∈ m.frames, f.locals.length ≤ 8 ∧ f.stack.length ≤ 8 ∧ TyS p.length m.stack (toldS f)
def zero17 : List Value := List.replicate 17 (.int .i64 0)
theorem zero17_one : ∀ v ∈ zero17, v.oneCell' = true := by
 intro v hv
 simp only [zero17, List.mem_replicate] at hv
 rcases hv with ⟨_, rfl⟩; rfl
def frameV (m : LMeth) (pc : Int) : Value := match frameAtS m pc with
 | some t => .tuple #[.agg (stCells t).toArray, .bool true]
 | none => .tuple #[.agg zero17.toArray, .bool false]
theorem frameAtS_hit {m : LMeth} {pc : Int} {k : Nat} (hk : k < m.frames.length) (hb : ∀ j, (hj : j < k) → m.frames[j].pc ≠ pc) (h : m.frames[k].pc = pc) : frameAtS m pc = some (toldS m.frames[k]) := by
 unfold frameAtS
 rw [List.find?_eq_some_iff_getElem.2 ⟨by simpa using h, k, hk, rfl, fun j hj => by simpa using hb j hj⟩]; rfl
theorem frameAtS_no {m : LMeth} {pc : Int} (h : ∀ j, (hj : j < m.frames.length) → m.frames[j].pc ≠ pc) : frameAtS m pc = none := by
 unfold frameAtS
 rw [List.find?_eq_none.2 (fun x hx => by
  obtain ⟨j, hj, rfl⟩ := List.getElem_of_mem hx
  simpa using h j hj)]; rfl
theorem frameAtS_mem {m : LMeth} {pc : Int} {t : TSt} (h : frameAtS m pc = some t) : ∃ f ∈ m.frames, t = toldS f := by
 unfold frameAtS at h
 cases e : m.frames.find? fun f => f.pc == pc with
 | none => rw [e] at h; cases h
 | some f => rw [e] at h; exact ⟨f, List.mem_of_find?_eq_some e, (Option.some.inj h).symm⟩

set_option maxHeartbeats 1000000 in
set_option maxRecDepth 100000 in
theorem pass_frameAt (p : List LClass) (m : LMeth) (va vco vf : Value) (pc : Int) (w : World) (hv : GVals w.cell? m va vco vf) (hF : FrOk p m) (h40 : m.frames.length ≤ 40) :
  Calls Tryz.prog 100 #[methV m va vco vf, .int .i64 pc] w fun e w' => e = .returned (frameV m pc) ∧ Below w.heap.size w w' := by
 unfold methV
 obtain ⟨hva, hvc, hvf⟩ := hv
 obtain ⟨aa, _, _, acap, rfl, _⟩ := hva
 obtain ⟨ca, _, _, ccap, rfl, _⟩ := hvc
 obtain ⟨fa, fb, foff, fcap, rfl, hfcap, hfa, hfr⟩ := sl_open hvf
 have HFR := hide hfr
 clear hfr hvf
 have hbel : Below w.heap.size w ((w.alloc (.cells #[.int .i64 m.slot, .slice aa m.args.length acap, .int .i64 m.ret, .int .i64 m.locals, .int .i64 m.stack, .slice ca m.code.length ccap, .slice fa m.frames.length fcap] 63)).alloc (.cells zero17.toArray 130)) := box2_below _ _ _
 have B1 : Blk ((w.alloc (.cells #[.int .i64 m.slot, .slice aa m.args.length acap, .int .i64 m.ret, .int .i64 m.locals, .int .i64 m.stack, .slice ca m.code.length ccap, .slice fa m.frames.length fcap] 63)).alloc (.cells zero17.toArray 130)) (w.heap.size + 1) 130 zero17 := by
  have := Blk.new (w.alloc (.cells #[.int .i64 m.slot, .slice aa m.args.length acap, .int .i64 m.ret, .int .i64 m.locals, .int .i64 m.stack, .slice ca m.code.length ccap, .slice fa m.frames.length fcap] 63)) zero17.toArray 130
  rw [World.size_alloc] at this
  exact this
 go_enter Tryz.func100, Tryz.ntmps100
 go_wp2_with fail
 generalize hW : (w.alloc _).alloc _ = W
 have hbW : Below w.heap.size w W := by rw [← hW]; exact hbel
 have BW : Blk W (w.heap.size + 1) 130 zero17 := by rw [← hW]; exact B1
 clear hW hbel B1
 go_loopw [11] (fun i wr => ∃ k : Nat, k ≤ m.frames.length ∧ i = .int .i64 k ∧ (∀ j, (hj : j < m.frames.length) → j < k → m.frames[j].pc ≠ pc) ∧ Below W.heap.size W wr) (fun i _ => m.frames.length - (intOf i).toNat)
 case atStart => exact ⟨0, by omega, rfl, fun j _ h => absurd h (by omega), Below.refl _ _⟩
 case round =>
  obtain ⟨k, hk, rfl, hno, hb⟩ := hrel
  have hbr := hbW.trans (hb.mono hbW.size)
  have C1 := BW.below hb BW.lt
  have HNO := hide hno
  have HBR := hide hb
  clear hno hb
  by_cases hlt : k < m.frames.length
  ·obtain rfl := hfa (ne_nil_of_lt hlt)
   obtain ⟨vl, vs, c0, c1, c2, hl, hst⟩ := unhide HFR k hlt
   obtain ⟨f1, f2, _⟩ := hF _ (List.getElem_mem hlt)
   have kp := Keeps.of_below hbr
   have q0 := kp _ _ c0
   have q1 := kp _ _ c1
   have q2 := kp _ _ c2
   have HL := hide (ints_keep kp hl)
   have HS := hide (ints_keep kp hst)
   obtain ⟨la, lcap, rfl, _, _⟩ := ints_src hl
   obtain ⟨sa, scap, rfl, _, _⟩ := ints_src hst
   clear c0 c1 c2 hl hst kp
   have hlt' : (k : Int) < (m.frames.length : Int) := by omega
   have k0 : (0 : Int) ≤ (k : Int) := by omega
   by_cases hq : m.frames[k].pc = pc
   ·have HV : Hid (frameV m pc = .tuple #[.agg (stCells (toldS m.frames[k])).toArray, .bool true]) := by
     show _ = _
     unfold frameV
     rw [frameAtS_hit hlt (fun j hj => unhide HNO j (by omega) hj) hq]
    have hq' : (m.frames[k].pc == pc) = true := by simpa using hq
    clear hq
    generalize m.frames[k] = f at *
    have hb2 := box_below wr (.cells #[.int .i64 f.pc, .slice la f.locals.length lcap, .slice sa f.stack.length scap] 42)
    have HL2 := hide (ints_keep (Keeps.of_below hb2) (unhide HL))
    have HS2 := hide (ints_keep (Keeps.of_below hb2) (unhide HS))
    have D1 := C1.below hb2 C1.lt
    have HB2 := hide hb2
    clear hb2
    go_wp2_with fail
    refine (st_told f _ _ _ (unhide HL2) (unhide HS2) f1 f2).mono ?_
    rintro e w3 ⟨rfl, hb3⟩
    have E1 := D1.below hb3 D1.lt
    have hok := okS_told f1 f2
    have hbf : Below w.heap.size w w3 := hbr.trans (((unhide HB2).trans (hb3.mono (unhide HB2).size)).mono hbr.size)
    go_wp2_with (refine wpList_store_blk aggSt E1 0 _ (stCells_len hok) (by simp [zero17]) (StC_cells hok).one (.tmp 4) (.tmp 20) rfl rfl rfl rfl ?_; intro w7 hB7 hM7 hs7)
    rw [putAt_all (by rw [stCells_len hok]; rfl)] at hB7
    refine bodyPost_ret (results_blk2 rfl aggSt hB7 (stCells_len hok) rfl) rfl ?_
    rw [unhide HV]
    exact ⟨rfl, hbf.trans (hM7.below hbf.size (fun k hk e => by omega))⟩
   ·have hq' : (m.frames[k].pc == pc) = false := by simpa using hq
    have HNO2 : Hid (∀ j, (hj : j < m.frames.length) → j < k + 1 → m.frames[j].pc ≠ pc) := fun j hj hjk => by
     rcases Nat.lt_or_ge j k with h | h
     ·exact unhide HNO j hj h
     ·obtain rfl : j = k := by omega
      exact hq
    clear hq HNO
    generalize m.frames[k] = f at *
    have HB2 := hide ((unhide HBR).trans ((box_below wr (.cells #[.int .i64 f.pc, .slice la f.locals.length lcap, .slice sa f.stack.length scap] 42)).mono (unhide HBR).size))
    go_wp2_with fail
    exact ⟨⟨k + 1, by omega, by go_num, unhide HNO2, unhide HB2⟩, by simp [intOf]; omega⟩
  ·have HV : Hid (frameV m pc = .tuple #[.agg zero17.toArray, .bool false]) := by
    show _ = _
    unfold frameV
    rw [frameAtS_no (fun j hj => unhide HNO j hj (by omega))]
   have hlt' : ¬ (k : Int) < (m.frames.length : Int) := by omega
   clear hlt
   go_wp2_with (refine wpList_store_blk aggSt C1 0 zero17 rfl (by simp [zero17]) zero17_one (.tmp 4) (.tmp 22) rfl rfl rfl rfl ?_; intro w7 hB7 hM7 hs7)
   rw [putAt_all (by rfl : zero17.length = zero17.length)] at hB7
   refine bodyPost_ret (results_blk2 rfl aggSt hB7 rfl rfl) rfl ?_
   rw [unhide HV]
   exact ⟨rfl, hbr.trans (hM7.below hbr.size (fun k hk e => by omega))⟩
theorem aggMeth : AggOk Tryz.prog 63 7 := ⟨by kernel_rfl, by kernel_rfl⟩
def zero7 : List Value := [.int .i64 0, .slice none 0 0, .int .i64 0, .int .i64 0, .int .i64 0, .slice none 0 0, .slice none 0 0]
theorem zero7_one : ∀ v ∈ zero7, v.oneCell' = true := by
 intro v hv
 simp only [zero7, List.mem_cons, List.not_mem_nil, or_false] at hv
 rcases hv with rfl | rfl | rfl | rfl | rfl | rfl | rfl <;> rfl
def ownM (p : List LClass) (c k : Int) : Option LMeth := if 0 ≤ c ∧ 0 ≤ k then (p[c.toNat]?).bind fun x => x.meths[k.toNat]? else none
theorem ownM_some {p : List LClass} {c k : Nat} (hc : c < p.length) (hk : k < p[c].meths.length) : ownM p c k = some p[c].meths[k] := by
 unfold ownM
 rw [if_pos ⟨by omega, by omega⟩, Int.toNat_natCast, Int.toNat_natCast, List.getElem?_eq_getElem hc, Option.bind_some, List.getElem?_eq_getElem hk]
def OwnR (p : List LClass) (c k : Int) (w0 w w' : World) (e : Ending) : Prop :=
 (∀ m, ownM p c k = some m → ∃ va vco vf, e = .returned (.tuple #[methV m va vco vf, .bool true]) ∧ GVals w0.cell? m va vco vf) ∧ (ownM p c k = none → e = .returned (.tuple #[.agg zero7.toArray, .bool false])) ∧ Below w.heap.size w w'
set_option maxHeartbeats 1000000 in
set_option maxRecDepth 100000 in
theorem code_ownmeth (p : List LClass) (vc : Value) (c k : Int) (w0 w : World) (hp : RProg w0 vc p) (hb0 : Below w0.heap.size w0 w) (hpl : p.length ≤ 4194304) :
  Calls Tryz.prog 77 #[.agg #[vc], .int .i64 c, .int .i64 k] w fun e w' => OwnR p c k w0 w w' e := by
 have HP := hide hp
 obtain ⟨pa, pb, poff, pcap, rfl, hcap, hpa, hpr⟩ := sl_open hp
 have HPR := hide hpr
 clear hpr hp
 have hbel : Below w.heap.size w ((w.alloc (.cells #[.slice pa p.length pcap] 24)).alloc (.cells zero7.toArray 63)) := box2_below _ _ _
 have B0 : Blk ((w.alloc (.cells #[.slice pa p.length pcap] 24)).alloc (.cells zero7.toArray 63)) w.heap.size 24 [.slice pa p.length pcap] := (Blk.new w _ _).alloc _
 have B1 : Blk ((w.alloc (.cells #[.slice pa p.length pcap] 24)).alloc (.cells zero7.toArray 63)) (w.heap.size + 1) 63 zero7 := by
  have := Blk.new (w.alloc (.cells #[.slice pa p.length pcap] 24)) zero7.toArray 63
  rw [World.size_alloc] at this
  exact this
 have HRP := hide (prog_keep (Keeps.of_below (hb0.trans (hbel.mono hb0.size))) (unhide HP))
 go_enter Tryz.func77, Tryz.ntmps77
 go_wp2_with fail
 refine (code_hasclass p _ c _ (unhide HRP) hpl).mono ?_
 rintro e w1 ⟨rfl, hb1⟩
 replace B0 := B0.below hb1 B0.lt
 replace B1 := B1.below hb1 B1.lt
 have hbw := hbel.trans (hb1.mono hbel.size)
 have hbw0 := hb0.trans (hbw.mono hb0.size)
 have c0 : w1.cell? ⟨w.heap.size, 0, none⟩ = some (.slice pa p.length pcap) := B0.cell 0
 have c6 : ∃ v, w1.cell? ⟨w.heap.size + 1, 0, none⟩ = some v := ⟨_, B1.cell 0⟩
 clear hbel hb1 HRP c6
 by_cases hc : 0 ≤ c ∧ c < (p.length : Int)
 ·obtain ⟨n, rfl⟩ := Int.eq_ofNat_of_zero_le hc.1
  have hn : n < p.length := by omega
  obtain rfl := hpa (ne_nil_of_lt hn)
  have hpb : placeB (n : Int) p.length = true := by rw [placeB_iff]; omega
  obtain ⟨vf, vm, d0, d1, d2, hf, hmm⟩ := unhide HPR n hn
  obtain ⟨ma, mb, moff, mcap, rfl, hmcap, hma, hmr⟩ := sl_open hmm
  have e2 := Keeps.of_below hbw0 _ _ d2
  have hn1 : (n : Int) < (p.length : Int) := by omega
  have hn0 : (0 : Int) ≤ (n : Int) := by omega
  clear d0 d1 d2 hf hmm
  rw [hpb]
  by_cases hk : 0 ≤ k ∧ k < ((p[n].meths.length : Nat) : Int)
  ·obtain ⟨j, rfl⟩ := Int.eq_ofNat_of_zero_le hk.1
   have hj : j < p[n].meths.length := by omega
   obtain rfl := hma (ne_nil_of_lt hj)
   have HOM := hide (ownM_some hn hj)
   obtain ⟨va, vco, vf, hv, g0, g1, g2, g3, g4, g5, g6⟩ := hmr j hj
   have HV := hide hv
   obtain ⟨hva, hvc, hvf⟩ := hv
   obtain ⟨aa, _, _, acap, rfl, _⟩ := hva
   obtain ⟨ca, _, _, ccap, rfl, _⟩ := hvc
   obtain ⟨fa, _, _, fcap, rfl, _⟩ := hvf
   have kp := Keeps.of_below hbw0
   replace g0 := kp _ _ g0
   replace g1 := kp _ _ g1
   replace g2 := kp _ _ g2
   replace g3 := kp _ _ g3
   replace g4 := kp _ _ g4
   replace g5 := kp _ _ g5
   replace g6 := kp _ _ g6
   have hj0 : ¬ (j : Int) < 0 := by omega
   have hj1 : ¬ ((p[n].meths.length : Nat) : Int) ≤ (j : Int) := by omega
   have hj2 : (j : Int) < ((p[n].meths.length : Nat) : Int) := by omega
   have hj3 : (0 : Int) ≤ (j : Int) := by omega
   clear hmr kp hc hk
   generalize p[n].meths[j] = m at *
   generalize p[n].meths.length = ml at *
   go_wp2_with (refine wpList_store_blk aggMeth B1 0 [_, _, _, _, _, _, _] rfl (by simp [zero7]) (fun v hv => by simp only [List.mem_cons, List.not_mem_nil, or_false] at hv; rcases hv with rfl | rfl | rfl | rfl | rfl | rfl | rfl <;> rfl) (.tmp 6) (.tmp 36) rfl rfl rfl rfl ?_; intro w7 hB7 hM7 hs7)
   rw [putAt_all (by rfl)] at hB7
   refine bodyPost_ret (results_blk2 rfl aggMeth hB7 rfl rfl) rfl ?_
   refine ⟨fun m' e => ?_, fun e => (by rw [unhide HOM] at e; cases e), hbw.trans (hM7.below hbw.size (fun k hk e => by omega))⟩
   rw [unhide HOM] at e
   obtain rfl := Option.some.inj e
   exact ⟨_, _, _, rfl, unhide HV⟩
  ·have HOM : Hid (ownM p n k = none) := by
    show _ = _
    unfold ownM
    split
    ·rw [Int.toNat_natCast, List.getElem?_eq_getElem hn, Option.bind_some, List.getElem?_eq_none (by omega)]
    ·rfl
   clear hmr hma
   generalize p[n].meths.length = ml at *
   by_cases hk0 : k < 0
   ·clear hk hc
    go_wp2_with (refine wpList_store_blk aggMeth B1 0 zero7 rfl (by simp [zero7]) zero7_one (.tmp 6) (.tmp 27) rfl rfl rfl rfl ?_; intro w7 hB7 hM7 hs7)
    rw [putAt_all (by rfl)] at hB7
    refine bodyPost_ret (results_blk2 rfl aggMeth hB7 rfl rfl) rfl ?_
    exact ⟨fun m e => (by rw [unhide HOM] at e; cases e), fun _ => rfl, hbw.trans (hM7.below hbw.size (fun k hk e => by omega))⟩
   ·have hk1 : (ml : Int) ≤ k := by omega
    clear hk hc
    go_wp2_with (refine wpList_store_blk aggMeth B1 0 zero7 rfl (by simp [zero7]) zero7_one (.tmp 6) (.tmp 27) rfl rfl rfl rfl ?_; intro w7 hB7 hM7 hs7)
    rw [putAt_all (by rfl)] at hB7
    refine bodyPost_ret (results_blk2 rfl aggMeth hB7 rfl rfl) rfl ?_
    exact ⟨fun m e => (by rw [unhide HOM] at e; cases e), fun _ => rfl, hbw.trans (hM7.below hbw.size (fun k hk e => by omega))⟩
 ·have HOM : Hid (ownM p c k = none) := by
   show _ = _
   unfold ownM
   split
   ·rw [List.getElem?_eq_none (by omega)]; rfl
   ·rfl
  have hpb : placeB c p.length = false := by
   cases h : placeB c p.length with
   | false => rfl
   | true => exact absurd (placeB_iff.1 h) hc
  rw [hpb]
  clear hc
  go_wp2_with (refine wpList_store_blk aggMeth B1 0 zero7 rfl (by simp [zero7]) zero7_one (.tmp 6) (.tmp 27) rfl rfl rfl rfl ?_; intro w7 hB7 hM7 hs7)
  rw [putAt_all (by rfl)] at hB7
  refine bodyPost_ret (results_blk2 rfl aggMeth hB7 rfl rfl) rfl ?_
  exact ⟨fun m e => (by rw [unhide HOM] at e; cases e), fun _ => rfl, hbw.trans (hM7.below hbw.size (fun k hk e => by omega))⟩
end Go.Proofs.YtiiokkllmchohaaGreat
namespace Go.Proofs.YtiiokkllmchohaaGreat
open Go.RowKit
theorem form_all {p : List LClass} (h : formI p = 0) : (1 ≤ p.length ∧ p.length ≤ 6) ∧ (∀ (c : Nat) (x : LClass), p[c]? = some x → supB c x = true ∧ restB p c x = true) ∧ ∀ x ∈ p, ∀ m ∈ x.meths, codeB p m = true := by
 unfold formI at h
 split at h
 ·cases h
 ·rename_i h1
  split at h
  ·rename_i h2
   split at h
   ·rename_i h3
    refine ⟨by omega, fun c x hx => ?_, fun x hx m hm => ?_⟩
    ·have := List.all_eq_true.1 h2 c (List.mem_range.2 (List.getElem?_eq_some_iff.1 hx).1)
     unfold classB at this
     rw [hx] at this
     simpa using this
    ·exact List.all_eq_true.1 (List.all_eq_true.1 h3 x hx) m hm
   ·cases h
  ·cases h
theorem decl_ok {n : Nat} {t : Int} (h : declB n t = true) : tyOk n t := by
 unfold declB at h
 simp at h
 rcases h with rfl | h
 ·exact ⟨by omega, by omega⟩
 ·exact ⟨by omega, by omega⟩
theorem framed_ok {n : Nat} {t : Int} (h : framedB n t = true) : tyOk n t := by
 unfold framedB at h
 simp only [Bool.or_eq_true, beq_iff_eq] at h
 rcases h with (h | rfl) | rfl
 ·exact decl_ok h
 ·exact ⟨by omega, by omega⟩
 ·exact ⟨by omega, by omega⟩
theorem form_sup {p : List LClass} (h : formI p = 0) : SupOk p p.length := fun c x _ hx => ((form_all h).2.1 c x hx).1
theorem form_bare {p : List LClass} (h : formI p = 0) {c k : Nat} {x : LClass} {m : LMeth} (hx : p[c]? = some x) (hm : x.meths[k]? = some m) : bareB p.length m = true := by
 have h1 := ((form_all h).2.1 c x hx).2
 unfold restB at h1
 simp only [Bool.and_eq_true] at h1
 have h2 := List.all_eq_true.1 h1.2 k (List.mem_range.2 (List.getElem?_eq_some_iff.1 hm).1)
 rw [hm] at h2
 unfold headB at h2
 simp only [Bool.and_eq_true] at h2
 exact h2.1.1
theorem form_good {p : List LClass} (h : formI p = 0) (hz : szProg p ≤ 4194304) : Good p := by
 refine ⟨form_sup h, hz, fun a j h0 h1 hj => ?_, fun a b h0 h1 hm => ?_⟩
 ·have hmem : fieldT p a j ∈ fieldsOf p a := by
   unfold fieldT
   rw [Int.toNat_natCast, List.getD_eq_getElem?_getD, List.getElem?_eq_getElem hj]
   exact List.getElem_mem hj
  unfold fieldsOf at hmem
  obtain ⟨l, hl, ht⟩ := List.mem_flatten.1 hmem
  obtain ⟨c, _, rfl⟩ := List.mem_map.1 hl
  unfold ownFields at ht
  cases hx : p[c]? with
  | none => rw [hx] at ht; simp at ht
  | some x =>
   rw [hx] at ht
   have h2 := ((form_all h).2.1 c x hx).2
   unfold restB at h2
   simp only [Bool.and_eq_true] at h2
   exact decl_ok (List.all_eq_true.1 h2.1.1.1 _ (by simpa using ht))
 ·obtain ⟨n, rfl⟩ := Int.eq_ofNat_of_zero_le h0
  obtain ⟨ck, hck⟩ := Option.isSome_iff_exists.1 hm
  obtain ⟨i, j⟩ := ck
  obtain ⟨y, o, hy⟩ := methOf_some p (form_sup h) b n (by omega) hck
  obtain ⟨h2, h3, _, _⟩ := hy
  have hf : findM p (n : Int) b = o := findM_of hck (by unfold methAt; rw [h2]; exact h3)
  rw [hf]
  have hb := bareB_iff.1 (form_bare h h2 h3)
  exact ⟨fun t ht => decl_ok (List.all_eq_true.1 hb.2.2.2.1 t ht), decl_ok hb.2.2.2.2.1⟩
structure MethOk (p : List LClass) (c : Int) (m : LMeth) : Prop where
 ok : MOk p m
 ins : ∀ i ∈ m.code, insB p m i = true
 c40 : m.code.length ≤ 40
 c1 : 1 ≤ m.code.length
 fr : FrOk p m
 f40 : m.frames.length ≤ 40
 a7 : m.args.length ≤ 7
 bg : TyS p.length m.stack (beginS c m)
theorem frames_all {n : Nat} {m : LMeth} : ∀ (l : List LFrame) (k : Int), framesB n m k l = true → ∀ f ∈ l, frameB n m f = true
 | [], _, _, f, hf => by cases hf
 | g :: r, k, h, f, hf => by
  unfold framesB at h
  simp only [Bool.and_eq_true] at h
  rcases List.mem_cons.1 hf with rfl | hf
  ·exact h.1.2
  ·exact frames_all r _ h.2 f hf
theorem form_own {p : List LClass} (h : formI p = 0) {c k : Int} {m : LMeth} (hm : ownM p c k = some m) : 0 ≤ c ∧ c < (p.length : Int) ∧ MethOk p c m := by
 unfold ownM at hm
 split at hm
 ·rename_i hck
  cases hx : p[c.toNat]? with
  | none => rw [hx] at hm; cases hm
  | some x =>
   rw [hx, Option.bind_some] at hm
   have hlt := (List.getElem?_eq_some_iff.1 hx).1
   have hb := bareB_iff.1 (form_bare h hx hm)
   have hc := (form_all h).2.2 x (List.mem_of_getElem? hx) m (List.mem_of_getElem? hm)
   unfold codeB at hc
   simp only [Bool.and_eq_true, decide_eq_true_eq] at hc
   obtain ⟨⟨⟨⟨c1, c40⟩, f40⟩, hins⟩, hfr⟩ := hc
   obtain ⟨_, _, a3, ha, hr, hl, hl8, hs0, hs8⟩ := hb
   refine ⟨hck.1, by omega, ⟨hs8, hl8, decl_ok hr⟩, fun i hi => List.all_eq_true.1 hins i hi, c40, c1, fun f hf => ?_, f40, by omega, ?_⟩
   ·have hfb := frames_all _ _ hfr f hf
    unfold frameB at hfb
    simp only [Bool.and_eq_true, decide_eq_true_eq] at hfb
    obtain ⟨⟨⟨⟨_, e1⟩, e2⟩, e3⟩, e4⟩ := hfb
    refine ⟨by omega, by omega, fun t ht => ?_, fun t ht => framed_ok (List.all_eq_true.1 e4 t ht), e2⟩
    rcases List.mem_append.1 ht with h1 | h1
    ·exact framed_ok (List.all_eq_true.1 e3 t h1)
    ·obtain ⟨_, rfl⟩ := List.mem_replicate.1 h1
     exact ⟨by omega, by omega⟩
   ·refine ⟨fun t ht => ?_, fun t ht => (by cases ht), by simpa [beginS] using hs0⟩
    rcases List.mem_cons.1 ht with rfl | h1
    ·exact ⟨by omega, by omega⟩
    ·rcases List.mem_append.1 h1 with h1 | h1
     ·exact decl_ok (List.all_eq_true.1 ha t h1)
     ·obtain ⟨_, rfl⟩ := List.mem_replicate.1 h1
      exact ⟨by omega, by omega⟩
 ·cases hm
end Go.Proofs.YtiiokkllmchohaaGreat
namespace Go.Proofs.YtiiokkllmchohaaGreat
open Go.RowKit Go.Shelf
theorem desc_cons {p : List LClass} (hs : SupOk p p.length) {c : Nat} {x : LClass} (hx : p[c]? = some x) (o : Int) : descB p c o = ((c : Int) == o || descB p x.sup o) := by
 unfold descB
 rw [chainOf_cons p hs (List.getElem?_eq_some_iff.1 hx).1 hx, List.any_cons]
theorem desc_out {p : List LClass} {c : Int} (h : c < 0 ∨ (p.length : Int) ≤ c) (o : Int) : descB p c o = false := by
 unfold descB
 rcases h with h | h
 ·rw [chainOf_neg p h]; rfl
 ·unfold chainOf chain
  rw [if_neg (by omega), List.getElem?_eq_none (by omega)]; rfl
theorem desc_ind {p : List LClass} (hs : SupOk p p.length) {o : Int} (P : Int → Prop) (h0 : ∀ (c : Nat) (x : LClass), p[c]? = some x → (c : Int) = o → P c)
  (h1 : ∀ (c : Nat) (x : LClass), p[c]? = some x → descB p x.sup o = true → P x.sup → P c) (c : Int) (h : descB p c o = true) : P c := by
 have key : ∀ n : Nat, descB p n o = true → P n := by
  intro n
  induction n using Nat.strongRecOn with
  | ind n ih =>
   intro hd
   cases hx : p[n]? with
   | none => rw [desc_out (.inr (by have := List.getElem?_eq_none_iff.1 hx; omega))] at hd; cases hd
   | some x =>
    rw [desc_cons hs hx] at hd
    simp only [Bool.or_eq_true, beq_iff_eq] at hd
    rcases hd with hd | hd
    ·exact h0 n x hx hd
    ·have hb := supB_le (hs n x (List.getElem?_eq_some_iff.1 hx).1 hx)
     rcases Int.lt_or_le x.sup 0 with g | g
     ·rw [desc_out (.inl g)] at hd; cases hd
     ·obtain ⟨k, hk⟩ := Int.eq_ofNat_of_zero_le g
      refine h1 n x hx hd ?_
      rw [hk] at hd ⊢
      exact ih k (by omega) hd
 rcases Int.lt_or_le c 0 with g | g
 ·rw [desc_out (.inl g)] at h; cases h
 ·obtain ⟨k, rfl⟩ := Int.eq_ofNat_of_zero_le g
  exact key k h
theorem desc_refl {p : List LClass} (hs : SupOk p p.length) {c : Int} (h0 : 0 ≤ c) (h1 : c < (p.length : Int)) : descB p c c = true := by
 obtain ⟨k, rfl⟩ := Int.eq_ofNat_of_zero_le h0
 rw [desc_cons hs (List.getElem?_eq_getElem (i := k) (by omega))]
 simp
theorem desc_trans {p : List LClass} (hs : SupOk p p.length) {a b c : Int} (h1 : descB p a b = true) (h2 : descB p b c = true) : descB p a c = true := by
 refine desc_ind hs (fun a => descB p a c = true) (fun n x hx e => by rw [e]; exact h2) (fun n x hx _ ih => ?_) a h1
 rw [desc_cons hs hx, ih]
 simp
theorem find_own {p : List LClass} (hs : SupOk p p.length) {c b : Int} (hm : (methOf p c b).isSome = true) : ∃ i j : Nat, methOf p c b = some (i, j) ∧ ownM p i j = some (findM p c b) ∧ (i : Int) ≤ c ∧ descB p c i = true ∧ (findM p c b).slot = b := by
 obtain ⟨⟨i, j⟩, hck⟩ := Option.isSome_iff_exists.1 hm
 have hc : 0 ≤ c := Int.not_lt.1 fun g => by rw [methOf_neg p b g] at hm; cases hm
 obtain ⟨n, rfl⟩ := Int.eq_ofNat_of_zero_le hc
 have hn : n < p.length := by
  apply Nat.lt_of_not_le
  intro g
  unfold methOf chainOf chain at hck
  rw [if_neg (by omega), List.getElem?_eq_none (by simpa using g)] at hck
  cases hck
 have key : ∀ n : Nat, n < p.length → methOf p n b = some (i, j) → descB p n i = true := by
  intro n
  induction n using Nat.strongRecOn with
  | ind n ih =>
   intro hn hm
   have hx := List.getElem?_eq_getElem hn
   rw [methOf_step p hs b hn hx] at hm
   rw [desc_cons hs hx]
   cases hk : slotIn p[n].meths b with
   | some k =>
    rw [hk] at hm
    cases hm
    simp
   | none =>
    rw [hk] at hm
    simp only at hm
    have hb := supB_le (hs n _ hn hx)
    rcases Int.lt_or_le p[n].sup 0 with g | g
    ·rw [methOf_neg p b g] at hm; cases hm
    ·obtain ⟨d, hd⟩ := Int.eq_ofNat_of_zero_le g
     rw [hd] at hm ⊢
     rw [ih d (by omega) (by omega) hm]
     simp
 obtain ⟨y, o, h1, h2, h3, h4⟩ := methOf_some p hs b n hn hck
 have hf : findM p (n : Int) b = o := findM_of hck (by unfold methAt; rw [h1]; exact h2)
 refine ⟨i, j, hck, ?_, by omega, key n hn hck, by rw [hf]; exact h4⟩
 rw [hf]
 unfold ownM
 rw [if_pos ⟨by omega, by omega⟩, Int.toNat_natCast, Int.toNat_natCast, h1]
 exact h2
theorem form_find {p : List LClass} (hF : formI p = 0) {c b : Int} (hm : (methOf p c b).isSome = true) : bareB p.length (findM p c b) = true := by
 obtain ⟨i, j, _, h, _⟩ := find_own (form_sup hF) hm
 unfold ownM at h
 rw [if_pos ⟨by omega, by omega⟩, Int.toNat_natCast, Int.toNat_natCast] at h
 cases hx : p[i]? with
 | none => rw [hx] at h; cases h
 | some x =>
  rw [hx] at h
  exact form_bare hF hx h
end Go.Proofs.YtiiokkllmchohaaGreat
namespace Go.Proofs.YtiiokkllmchohaaGreat
open Go.RowKit Go.Shelf
attribute [local go_sem ↓] Go.wp_at_zero Go.wp_at_succ
attribute [local go_sem] frz_drew
def upB (p : List LClass) (b : Int) (l : List Nat) : Int := match l.find? (fun (c : Nat) => belowB p b ((c : Int) + 3)) with
 | some c => (c : Int) + 3
 | none => 2
def joinB (p : List LClass) (a b : Int) : Int := if belowB p a b then b else if 3 ≤ a then upB p b (chainOf p (a - 3)) else 2
theorem upB_hit {p : List LClass} {b : Int} {c : Nat} {l : List Nat} (h : belowB p b ((c : Int) + 3) = true) : upB p b (c :: l) = (c : Int) + 3 := by
 unfold upB
 rw [List.find?_cons_of_pos (p := fun (c : Nat) => belowB p b ((c : Int) + 3)) h]
theorem upB_next {p : List LClass} {b : Int} {c : Nat} {l : List Nat} (h : belowB p b ((c : Int) + 3) = false) : upB p b (c :: l) = upB p b l := by
 unfold upB
 rw [List.find?_cons_of_neg (p := fun (c : Nat) => belowB p b ((c : Int) + 3)) (by simp [h])]
end Go.Proofs.YtiiokkllmchohaaGreat
