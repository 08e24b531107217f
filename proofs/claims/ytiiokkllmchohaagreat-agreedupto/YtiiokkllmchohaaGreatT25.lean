/- The machine that asks: look. -/
import Derived.Test.YtiiokkllmchohaaGreatT24
/- MacS -/
namespace Go.Proofs.YtiiokkllmchohaaGreat
open Go.RowKit Go.Shelf
attribute [local go_sem ↓] Go.wp_at_zero Go.wp_at_succ
attribute [local go_sem] frz_drew

def lookP (p : List LClass) (fuel : Int) (steps : Nat) (f : MFr) : Int :=
 if f.pc = f.m.code.length then 5 else if (steps : Int) = fuel then 6 else if readyB p f.m f.loc f.stk (insAt f.m f.pc).op (insAt f.m f.pc).a (insAt f.m f.pc).b then 0 else 5
structure FrOkM (p : List LClass) (f : MFr) : Prop where
 ins : ∀ i ∈ f.m.code, insB p f.m i = true
 c40 : f.m.code.length ≤ 40
 pc : f.pc ≤ f.m.code.length
 want : ∀ i ∈ f.m.code, ∀ t ∈ wantsM p f.m.ret i.op i.a i.b, tyOk p.length t
 wlen : ∀ i ∈ f.m.code, (wantsM p f.m.ret i.op i.a i.b).length ≤ 4194304
 knd : ∀ v ∈ f.stk, tyOk p.length v.kind
 slen : f.stk.length ≤ 4194303
 llen : f.loc.length ≤ 4194304
 loc : f.m.locals = (f.loc.length : Int)
def LookR (r : Int) (w w' : World) (e : Ending) : Prop := e = .returned (.int .i64 r) ∧ Below w.heap.size w w'
set_option maxHeartbeats 2000000 in
set_option maxRecDepth 100000 in
theorem ma_look (p : List LClass) (vp : Value) (w0 w : World) (ρ : Nat → Nat × Nat) (mb : Nat) (fuel : Int) (st : MaSt) (A : List Nat) (X : List FrX) (Y : List Value) (vr vpr : Value) (h : MaA w0 w ρ mb vp fuel true st A X Y vr vpr) (G : Good p) (hp : RProg w0 vp p) (hal : ∀ a b, (methOf p a b).isSome = true → 0 ≤ a → a < (p.length : Int) → (findM p a b).args.length ≤ 4194303)
  (i : Nat) (f : MFr) (x : FrX) (hf : st.frames[i]? = some f) (hx : X[i]? = some x) (KF : FrOkM p f) :
  Calls Tryz.prog 169 #[.pointer (some ⟨mb, 0, none⟩), .pointer (some ⟨x.fb, 0, none⟩)] w fun e w' => LookR (lookP p fuel st.steps f) w w' e := by
 have F := h.fr i f x hf hx
 obtain ⟨fb, mc, vl, vs⟩ := x
 obtain ⟨m, pc, loc, stk⟩ := f
 obtain ⟨va, vco, vf, rfl, hG⟩ := F.mt
 have hFr := F.fr
 dsimp only at hFr hG
 obtain ⟨hva, hvc, hvf⟩ := hG
 obtain ⟨ca, cb, off, ccap, rfl, hccap, hca, hcr⟩ := sl_open hvc
 have n1 : w.cell? ⟨mb, 1, none⟩ = some (.int .i64 fuel) := h.mach.cell 1
 have n2 : w.cell? ⟨mb, 2, none⟩ = some (.bool true) := h.mach.cell 2
 have n9 : w.cell? ⟨mb, 9, none⟩ = some (.int .i64 (st.steps : Int)) := h.mach.cell 9
 have n0 : w.cell? ⟨mb, 0, none⟩ = some vp := h.mach.cell 0
 have c5 : w.cell? ⟨fb, 5, none⟩ = some (.slice ca m.code.length ccap) := hFr.blk.cell 5
 have c7 : w.cell? ⟨fb, 7, none⟩ = some (.int .i64 (pc : Int)) := hFr.c7.1
 have hpc := KF.pc
 have h40 := KF.c40
 dsimp only at hpc h40
 have HFr := hide hFr
 have HH := hide h
 clear h hFr F hf hx
 by_cases he : pc = m.code.length
 ·have HL : Hid (lookP p fuel st.steps ⟨m, pc, loc, stk⟩ = 5) := if_pos he
  have he' : ((pc : Int) == (m.code.length : Int)) = true := beq_iff_eq.2 (by omega)
  clear he
  go_enter Tryz.func169, Tryz.ntmps169
  go_wp2_with fail
  refine wp_region_noPanic ?_
  refine wp_region_held_drew (S := (fun w' => w'.cell? ⟨mb, 2, none⟩ = some (.bool true) ∧ w'.cell? ⟨fb, 5, none⟩ = some (.slice ca m.code.length ccap) ∧ w'.cell? ⟨fb, 7, none⟩ = some (.int .i64 (pc : Int)))) (by kernel_rfl) ?_ (fun hHeld => ?_)
  ·exact ⟨n2, c5, c7⟩
  refine take_x (some 5) 0 rfl rfl ?_
  refine take_x (some 6) 1 rfl rfl ?_
  refine take_x (some 7) 2 rfl rfl ?_
  refine take_x (some 8) 3 rfl rfl ?_
  refine take_x (some 9) 4 rfl rfl ?_
  refine take_x (some 10) 5 rfl rfl ?_
  refine take_x (some 11) 6 rfl rfl ?_
  refine take_x (some 12) 7 rfl rfl ?_
  refine take_x (some 13) 8 rfl rfl ?_
  refine take_x (some 14) 9 rfl rfl ?_
  refine take_x (some 15) 10 rfl rfl ?_
  refine take_x (some 16) 11 rfl rfl ?_
  refine take_x (some 17) 12 rfl rfl ?_
  refine take_x (some 18) 13 rfl rfl ?_
  refine take_x (some 19) 14 rfl rfl ?_
  refine take_x (some 20) 15 rfl rfl ?_
  refine take_x (some 21) 16 rfl rfl ?_
  refine wpAnyH_done (by kernel_rfl) ?_ _
  refine NoPanic.normal ?_
  go_wp2_with fail
  go_ret
  rw [unhide HL]
  exact ⟨rfl, (Below.refl _ _).drew⟩
 ·have he' : ((pc : Int) == (m.code.length : Int)) = false := beq_eq_false_iff_ne.2 (by omega)
  have hlt : pc < m.code.length := by omega
  by_cases hs : (st.steps : Int) = fuel
  ·have HL : Hid (lookP p fuel st.steps ⟨m, pc, loc, stk⟩ = 6) := by
    show _ = _
    unfold lookP
    rw [if_neg he, if_pos hs]
   have hs' : ((st.steps : Int) == fuel) = true := by simpa using hs
   clear he hs hlt
   go_enter Tryz.func169, Tryz.ntmps169
   go_wp2_with fail
   refine wp_region_noPanic ?_
   refine wp_region_held_drew (S := (fun w' => w'.cell? ⟨mb, 2, none⟩ = some (.bool true) ∧ w'.cell? ⟨fb, 5, none⟩ = some (.slice ca m.code.length ccap) ∧ w'.cell? ⟨fb, 7, none⟩ = some (.int .i64 (pc : Int)))) (by kernel_rfl) ?_ (fun hHeld => ?_)
   ·exact ⟨n2, c5, c7⟩
   refine take_x (some 5) 0 rfl rfl ?_
   refine take_x (some 6) 1 rfl rfl ?_
   refine take_x (some 7) 2 rfl rfl ?_
   refine take_x (some 8) 3 rfl rfl ?_
   refine take_x (some 9) 4 rfl rfl ?_
   refine take_x (some 10) 5 rfl rfl ?_
   refine take_x (some 11) 6 rfl rfl ?_
   refine take_x (some 12) 7 rfl rfl ?_
   refine take_x (some 13) 8 rfl rfl ?_
   refine take_x (some 14) 9 rfl rfl ?_
   refine take_x (some 15) 10 rfl rfl ?_
   refine take_x (some 16) 11 rfl rfl ?_
   refine take_x (some 17) 12 rfl rfl ?_
   refine take_x (some 18) 13 rfl rfl ?_
   refine take_x (some 19) 14 rfl rfl ?_
   refine take_x (some 20) 15 rfl rfl ?_
   refine take_x (some 21) 16 rfl rfl ?_
   refine wpAnyH_done (by kernel_rfl) ?_ _
   refine NoPanic.normal ?_
   go_wp2_with fail
   refine wp_region_noPanic ?_
   refine wp_region_held_drew (S := (fun w' => w'.cell? ⟨mb, 9, none⟩ = some (.int .i64 (st.steps : Int)) ∧ w'.cell? ⟨mb, 1, none⟩ = some (.int .i64 fuel))) (by kernel_rfl) ?_ (fun hHeld => ?_)
   ·exact ⟨n9, n1⟩
   refine take_x (some 22) 0 rfl rfl ?_
   refine take_x (some 23) 1 rfl rfl ?_
   refine take_x (some 24) 2 rfl rfl ?_
   refine take_x (some 25) 3 rfl rfl ?_
   refine take_x (some 26) 4 rfl rfl ?_
   refine take_x (some 27) 5 rfl rfl ?_
   refine take_x (some 28) 6 rfl rfl ?_
   refine take_x (some 29) 7 rfl rfl ?_
   refine take_x (some 30) 8 rfl rfl ?_
   refine wpAnyH_done (by kernel_rfl) ?_ _
   refine NoPanic.normal ?_
   go_wp2_with fail
   go_ret
   rw [unhide HL]
   exact ⟨rfl, (Below.refl _ _).drew.drew⟩
  ·have hs' : ((st.steps : Int) == fuel) = false := by simpa using hs
   obtain rfl := hca (ne_nil_of_lt hlt)
   obtain ⟨x0, x1, x2⟩ := hcr pc hlt
   have hmem : m.code[pc] ∈ m.code := List.getElem_mem hlt
   have hIA : insAt m pc = m.code[pc] := by unfold insAt; rw [List.getElem?_eq_getElem hlt]; rfl
   have HL : Hid (lookP p fuel st.steps ⟨m, pc, loc, stk⟩ = if readyB p m loc stk (m.code[pc]).op (m.code[pc]).a (m.code[pc]).b then 0 else 5) := by
    show _ = _
    unfold lookP
    rw [if_neg he, if_neg hs]
    dsimp only
    rw [hIA]
   have I := ins_ok (p := p) (m := m) (op := (m.code[pc]).op) (a := (m.code[pc]).a) (b := (m.code[pc]).b) (KF.ins _ hmem)
   have hwt := KF.want _ hmem
   have hwl := KF.wlen _ hmem
   dsimp only at hwt hwl
   have kb := Keeps.of_below (unhide HH).bel
   have y0 := kb _ _ x0
   have y1 := kb _ _ x1
   have y2 := kb _ _ x2
   have HW := hide (And.intro hwt (And.intro hwl KF))
   generalize m.code[pc] = ins at *
   obtain ⟨op, a, b⟩ := ins
   dsimp only at y0 y1 y2 I HL
   have p0 : (0 : Int) ≤ (pc : Int) := by omega
   have p1 : (pc : Int) < (m.code.length : Int) := by omega
   clear x0 x1 x2 hmem hIA hwt hwl hcr hvc he hs kb
   go_enter Tryz.func169, Tryz.ntmps169
   go_wp2_with fail
   refine wp_region_noPanic ?_
   refine wp_region_held_drew (S := (fun w' => w'.cell? ⟨mb, 2, none⟩ = some (.bool true) ∧ w'.cell? ⟨fb, 5, none⟩ = some (.slice (some ⟨cb, off, none⟩) m.code.length ccap) ∧ w'.cell? ⟨fb, 7, none⟩ = some (.int .i64 (pc : Int)))) (by kernel_rfl) ?_ (fun hHeld => ?_)
   ·exact ⟨n2, c5, c7⟩
   refine take_x (some 5) 0 rfl rfl ?_
   refine take_x (some 6) 1 rfl rfl ?_
   refine take_x (some 7) 2 rfl rfl ?_
   refine take_x (some 8) 3 rfl rfl ?_
   refine take_x (some 9) 4 rfl rfl ?_
   refine take_x (some 10) 5 rfl rfl ?_
   refine take_x (some 11) 6 rfl rfl ?_
   refine take_x (some 12) 7 rfl rfl ?_
   refine take_x (some 13) 8 rfl rfl ?_
   refine take_x (some 14) 9 rfl rfl ?_
   refine take_x (some 15) 10 rfl rfl ?_
   refine take_x (some 16) 11 rfl rfl ?_
   refine take_x (some 17) 12 rfl rfl ?_
   refine take_x (some 18) 13 rfl rfl ?_
   refine take_x (some 19) 14 rfl rfl ?_
   refine take_x (some 20) 15 rfl rfl ?_
   refine take_x (some 21) 16 rfl rfl ?_
   refine wpAnyH_done (by kernel_rfl) ?_ _
   refine NoPanic.normal ?_
   go_wp2_with fail
   refine wp_region_noPanic ?_
   refine wp_region_held_drew (S := (fun w' => w'.cell? ⟨mb, 9, none⟩ = some (.int .i64 (st.steps : Int)) ∧ w'.cell? ⟨mb, 1, none⟩ = some (.int .i64 fuel))) (by kernel_rfl) ?_ (fun hHeld => ?_)
   ·exact ⟨n9, n1⟩
   refine take_x (some 22) 0 rfl rfl ?_
   refine take_x (some 23) 1 rfl rfl ?_
   refine take_x (some 24) 2 rfl rfl ?_
   refine take_x (some 25) 3 rfl rfl ?_
   refine take_x (some 26) 4 rfl rfl ?_
   refine take_x (some 27) 5 rfl rfl ?_
   refine take_x (some 28) 6 rfl rfl ?_
   refine take_x (some 29) 7 rfl rfl ?_
   refine take_x (some 30) 8 rfl rfl ?_
   refine wpAnyH_done (by kernel_rfl) ?_ _
   refine NoPanic.normal ?_
   go_wp2_with fail
   refine wp_region_noPanic ?_
   refine wp_region_held_drew (S := (fun w' => w'.cell? ⟨mb, 2, none⟩ = some (.bool true) ∧ w'.cell? ⟨fb, 5, none⟩ = some (.slice (some ⟨cb, off, none⟩) m.code.length ccap) ∧ w'.cell? ⟨fb, 7, none⟩ = some (.int .i64 (pc : Int)) ∧ w'.cell? ⟨cb, off + pc * 3, none⟩ = some (.int .i64 op) ∧ w'.cell? ⟨cb, off + pc * 3 + 1, none⟩ = some (.int .i64 a) ∧ w'.cell? ⟨cb, off + pc * 3 + 2, none⟩ = some (.int .i64 b))) (by kernel_rfl) ?_ (fun hHeld => ?_)
   ·exact ⟨n2, c5, c7, y0, y1, y2⟩
   refine take_x (some 31) 0 rfl rfl ?_
   refine take_x (some 32) 1 rfl rfl ?_
   refine take_x (some 33) 2 rfl rfl ?_
   refine take_x (some 34) 3 rfl rfl ?_
   refine take_x (some 35) 4 rfl rfl ?_
   refine take_x (some 36) 5 rfl rfl ?_
   refine take_x (some 37) 6 rfl rfl ?_
   refine take_x (some 38) 7 rfl rfl ?_
   refine take_x (some 39) 8 rfl rfl ?_
   refine take_x (some 40) 9 rfl rfl ?_
   refine take_x (some 41) 10 rfl rfl ?_
   refine take_x (some 42) 11 rfl rfl ?_
   refine take_x (some 43) 12 rfl rfl ?_
   refine take_x (some 44) 13 rfl rfl ?_
   refine take_x (some 45) 14 rfl rfl ?_
   refine take_x (some 46) 15 rfl rfl ?_
   refine take_x (some 47) 16 rfl rfl ?_
   refine take_x (some 48) 17 rfl rfl ?_
   refine wpAnyH_ready (rs := [18]) (by kernel_rfl) (by simp) ?_
   refine AllReadyH.cons rfl (fun K hK => ?_) AllReadyH.nil
   go_simp
   obtain ⟨hwt, hwl, KK⟩ := unhide HW
   refine (ma_isReady p vp w0 _ mb fb A m va _ vf (pc : Int) vl loc vs stk op a b ((unhide HFr).below (Below.refl w.heap.size w).drew.drew.drew (Nat.le_refl _)) I G hp (unhide HH).bel.drew.drew.drew n0 hal hwt hwl KK.knd (Nat.le_trans KK.slen (by omega)) KK.llen KK.loc).mono ?_
   rintro e w5 ⟨rfl, hb5⟩
   have hb5' : Below w.heap.size w w5 := ⟨hb5.os, hb5.tape, hb5.output, hb5.size, hb5.block⟩
   have k5 := Keeps.of_below hb5'
   have HS5 := hide (show w5.cell? ⟨mb, 2, none⟩ = some (.bool true) ∧ w5.cell? ⟨fb, 5, none⟩ = some (.slice (some ⟨cb, off, none⟩) m.code.length ccap) ∧ w5.cell? ⟨fb, 7, none⟩ = some (.int .i64 (pc : Int)) ∧ w5.cell? ⟨cb, off + pc * 3, none⟩ = some (.int .i64 op) ∧ w5.cell? ⟨cb, off + pc * 3 + 1, none⟩ = some (.int .i64 a) ∧ w5.cell? ⟨cb, off + pc * 3 + 2, none⟩ = some (.int .i64 b) from ⟨k5 _ _ n2, k5 _ _ c5, k5 _ _ c7, k5 _ _ y0, k5 _ _ y1, k5 _ _ y2⟩)
   clear hwt hwl KK
   cases hq : readyB p m loc stk op a b with
   | true =>
    have HL2 : Hid (lookP p fuel st.steps ⟨m, pc, loc, stk⟩ = 0) := by
     show _ = _
     rw [unhide HL, hq]; rfl
    clear hq
    go_wp2_with fail
    refine hK.out _ _ (unhide HS5) (fun hHeld => ?_)
    clear hK K
    try simp only [Act.put, List.setIfInBounds_toArray, List.set_cons_zero, List.set_cons_succ]
    refine take_x (some 50) 19 rfl rfl ?_
    refine take_x (some 51) 20 rfl rfl ?_
    refine wpAnyH_done (by kernel_rfl) ?_ _
    refine NoPanic.normal ?_
    go_wp2_with fail
    go_ret
    rw [unhide HL2]
    exact ⟨rfl, hb5'⟩
   | false =>
    have HL2 : Hid (lookP p fuel st.steps ⟨m, pc, loc, stk⟩ = 5) := by
     show _ = _
     rw [unhide HL, hq]; rfl
    clear hq
    go_wp2_with fail
    refine hK.out _ _ (unhide HS5) (fun hHeld => ?_)
    clear hK K
    try simp only [Act.put, List.setIfInBounds_toArray, List.set_cons_zero, List.set_cons_succ]
    refine take_x (some 50) 19 rfl rfl ?_
    refine take_x (some 51) 20 rfl rfl ?_
    refine wpAnyH_done (by kernel_rfl) ?_ _
    refine NoPanic.normal ?_
    go_wp2_with fail
    go_ret
    rw [unhide HL2]
    exact ⟨rfl, hb5'⟩
end Go.Proofs.YtiiokkllmchohaaGreat
/- The machine: moves, all; what is done with a frame alone. -/
namespace Go.Proofs.YtiiokkllmchohaaGreat
open Go.RowKit Go.Shelf
attribute [local go_sem ↓] Go.wp_at_zero Go.wp_at_succ
attribute [local go_sem] frz_drew

def topV (l : List LVal) : LVal := l.getLast?.getD nothV
theorem top_snoc {l : List LVal} (h : 1 ≤ l.length) : l = l.dropLast ++ [topV l] := by
 obtain ⟨a, x, rfl⟩ := snoc_of (l := l) (by omega)
 unfold topV
 rw [List.dropLast_concat, List.getLast?_concat]; rfl
def moveP (op a : Int) (loc stk : List LVal) : List LVal × List LVal :=
 if op = 0 then (loc, stk ++ [numbV a])
 else if op = 16 then (loc, stk ++ [nullV])
 else if op = 1 then (loc, stk ++ [loc.getD a.toNat nothV])
 else if op = 2 then (loc.set a.toNat (topV stk), stk.dropLast)
 else if op = 14 then (loc, stk.dropLast)
 else if op = 15 then (loc, stk.dropLast ++ [topV stk] ++ [topV stk])
 else if op = 20 then (loc, stk.dropLast.dropLast ++ [topV stk] ++ [topV stk.dropLast])
 else if op = 3 then (loc, stk.dropLast.dropLast ++ [numbV (wrap64 ((topV stk.dropLast).num + (topV stk).num))])
 else if op = 4 then (loc, stk.dropLast.dropLast ++ [numbV (wrap64 ((topV stk.dropLast).num - (topV stk).num))])
 else if op = 5 then (loc, stk.dropLast.dropLast ++ [numbV (wrap64 ((topV stk.dropLast).num * (topV stk).num))])
 else (loc, stk.dropLast.dropLast ++ [numbV (wrap64 (Int.tdiv (topV stk.dropLast).num (topV stk).num))])
structure StkOk (op : Int) (stk : List LVal) : Prop where
 s1 : (op = 2 ∨ op = 14 ∨ op = 15 ∨ op = 8 ∨ op = 18 ∨ op = 10 ∨ op = 17 ∨ op = 19 ∨ op = 13) → 1 ≤ stk.length
 s2 : (op = 3 ∨ op = 4 ∨ op = 5 ∨ op = 6 ∨ op = 20 ∨ op = 11) → 2 ≤ stk.length
theorem ma_move (p : List LClass) (m : LMeth) (B : Nat) (A : List Nat) (fb : Nat) (mc : List Value) (pc : Int) (vl : Value) (loc : List LVal) (vs : Value) (stk : List LVal) (op a b : Int) (w : World) (h : FrA w B A fb mc pc vl loc vs stk) (hB : B ≤ w.heap.size) (I : InsOk p m op a b) (S : StkOk op stk) (hlm : m.locals = (loc.length : Int)) (hsl : stk.length < 4194303) (hll : loc.length ≤ 4194304)
  (ho : op = 0 ∨ op = 16 ∨ op = 1 ∨ op = 2 ∨ op = 14 ∨ op = 15 ∨ op = 20 ∨ op = 3 ∨ op = 4 ∨ op = 5 ∨ (op = 6 ∧ (topV stk).num ≠ 0)) :
  Calls Tryz.prog 215 #[.pointer (some ⟨fb, 0, none⟩), .agg #[.int .i64 op, .int .i64 a, .int .i64 b]] w fun e w' => MoveR B A fb mc pc vl vs (moveP op a loc stk).1 (moveP op a loc stk).2 w w' e := by
 have e1 : 1 ≤ stk.length → stk = stk.dropLast ++ [topV stk] := top_snoc
 have e2 : 2 ≤ stk.length → stk = stk.dropLast.dropLast ++ [topV stk.dropLast] ++ [topV stk] := fun h2 => by
  have h3 := top_snoc (l := stk.dropLast) (by rw [List.length_dropLast]; omega)
  rw [← h3]
  exact top_snoc (by omega)
 have hd1 : stk.dropLast.length = stk.length - 1 := List.length_dropLast
 have hd2 : stk.dropLast.dropLast.length = stk.length - 1 - 1 := by rw [List.length_dropLast, hd1]
 rcases ho with rfl | rfl | rfl | rfl | rfl | rfl | rfl | rfl | rfl | rfl | ⟨rfl, hy⟩
 ·exact mv_num B A fb mc pc vl loc vs stk a b w h hB (by omega)
 ·exact mv_null B A fb mc pc vl loc vs stk a b w h hB (by omega)
 ·obtain ⟨a0, a1⟩ := I.loc (.inl rfl)
  obtain ⟨k, rfl⟩ : ∃ k : Nat, a = (k : Int) := ⟨a.toNat, by omega⟩
  have hk : k < loc.length := by omega
  have hx : loc[k]? = some (loc.getD (k : Int).toNat nothV) := by
   rw [Int.toNat_natCast, List.getD_eq_getElem?_getD, List.getElem?_eq_getElem hk]; rfl
  exact mv_load B A fb mc pc vl loc vs stk b w k _ hx h hB (by omega) hll
 ·obtain ⟨a0, a1⟩ := I.loc (.inr rfl)
  obtain ⟨k, rfl⟩ : ∃ k : Nat, a = (k : Int) := ⟨a.toNat, by omega⟩
  have h1 := S.s1 (by omega)
  have hs := e1 h1
  rw [hs] at h
  exact mv_store B A fb mc pc vl loc vs stk.dropLast b w k (topV stk) (by omega) h (by omega) hll
 ·have h1 := S.s1 (by omega)
  have hs := e1 h1
  rw [hs] at h
  exact mv_pop B A fb mc pc vl loc vs stk.dropLast a b w (topV stk) h (by omega)
 ·have h1 := S.s1 (by omega)
  have hs := e1 h1
  rw [hs] at h
  exact mv_dup B A fb mc pc vl loc vs stk.dropLast a b w (topV stk) h hB (by omega)
 ·have h1 := S.s2 (by omega)
  have hs := e2 h1
  rw [hs] at h
  exact mv_swap B A fb mc pc vl loc vs stk.dropLast.dropLast a b w (topV stk.dropLast) (topV stk) h hB (by omega)
 ·have h1 := S.s2 (by omega)
  have hs := e2 h1
  rw [hs] at h
  exact mv_add B A fb mc pc vl loc vs stk.dropLast.dropLast a b w (topV stk.dropLast) (topV stk) h hB (by omega)
 ·have h1 := S.s2 (by omega)
  have hs := e2 h1
  rw [hs] at h
  exact mv_sub B A fb mc pc vl loc vs stk.dropLast.dropLast a b w (topV stk.dropLast) (topV stk) h hB (by omega)
 ·have h1 := S.s2 (by omega)
  have hs := e2 h1
  rw [hs] at h
  exact mv_mul B A fb mc pc vl loc vs stk.dropLast.dropLast a b w (topV stk.dropLast) (topV stk) h hB (by omega)
 ·have h1 := S.s2 (by omega)
  have hs := e2 h1
  rw [hs] at h
  exact mv_quo B A fb mc pc vl loc vs stk.dropLast.dropLast a b w (topV stk.dropLast) (topV stk) hy h hB (by omega)
theorem dropLast_mem {α : Type} {l : List α} {x : α} (h : x ∈ l.dropLast) : x ∈ l := List.dropLast_subset l h
theorem topV_ok {A : List Nat} {l : List LVal} (h : ∀ v ∈ l, okV A v) : okV A (topV l) := by
 unfold topV
 cases e : l.getLast? with
 | none => intro k hk; cases hk
 | some x => exact h x (List.mem_of_getLast? e)
theorem numbV_ok (A : List Nat) (n : Int) : okV A (numbV n) := fun k hk => by cases hk
theorem move_ok {A : List Nat} {op a : Int} {loc stk : List LVal} (hl : ∀ v ∈ loc, okV A v) (hs : ∀ v ∈ stk, okV A v) : (∀ v ∈ (moveP op a loc stk).1, okV A v) ∧ ∀ v ∈ (moveP op a loc stk).2, okV A v := by
 have hd : ∀ v ∈ stk.dropLast, okV A v := fun v hv => hs v (dropLast_mem hv)
 have hd2 : ∀ v ∈ stk.dropLast.dropLast, okV A v := fun v hv => hd v (dropLast_mem hv)
 have add : ∀ (l : List LVal) (x : LVal), (∀ v ∈ l, okV A v) → okV A x → ∀ v ∈ l ++ [x], okV A v := fun l x h1 h2 v hv => by
  rcases List.mem_append.1 hv with hv | hv
  ·exact h1 v hv
  ·rw [List.mem_singleton.1 hv]; exact h2
 generalize hq : moveP op a loc stk = q
 unfold moveP at hq
 repeat' split at hq
 all_goals subst hq
 all_goals first
  | exact ⟨hl, add _ _ hs (numbV_ok A _)⟩
  | exact ⟨hl, add _ _ hs (fun k hk => by cases hk)⟩
  | exact ⟨hl, add _ _ hs (by
    rw [List.getD_eq_getElem?_getD]
    cases e : loc[a.toNat]? with
    | none => intro k hk; cases hk
    | some x => exact hl x (List.mem_of_getElem? e))⟩
  | exact ⟨fun v hv => by
    rcases List.mem_or_eq_of_mem_set hv with h | rfl
    ·exact hl v h
    ·exact topV_ok hs, hd⟩
  | exact ⟨hl, hd⟩
  | exact ⟨hl, add _ _ (add _ _ hd (topV_ok hs)) (topV_ok hs)⟩
  | exact ⟨hl, add _ _ (add _ _ hd2 (topV_ok hs)) (topV_ok hd)⟩
  | exact ⟨hl, add _ _ hd2 (numbV_ok A _)⟩
end Go.Proofs.YtiiokkllmchohaaGreat
/- The machine: do, for moves, DIV, NEW. -/
namespace Go.Proofs.YtiiokkllmchohaaGreat
open Go.RowKit Go.Shelf
attribute [local go_sem ↓] Go.wp_at_zero Go.wp_at_succ
attribute [local go_sem] frz_drew
attribute [local go_sem] fld_num fld_obj

def DoX (i fb : Nat) (w0 : World) (mb : Nat) (vp : Value) (fuel : Int) (ask : Bool) (st : MaSt) (k : Int) (w' : World) (e : Ending) : Prop := e = .returned (.int .i64 k) ∧ ∃ A ρ X Y vr vpr, (X[i]?).map FrX.fb = some fb ∧ MaA w0 w' ρ mb vp fuel ask st A X Y vr vpr
theorem fb_same {X : List FrX} {i : Nat} {x : FrX} (hx : X[i]? = some x) : (X[i]?).map FrX.fb = some x.fb := by rw [hx]; rfl
theorem fb_set {X : List FrX} {i : Nat} {x : FrX} (hx : X[i]? = some x) (vs : Value) : ((X.set i { x with vs := vs })[i]?).map FrX.fb = some x.fb := by
 rw [List.getElem?_set_self (List.getElem?_eq_some_iff.1 hx).1]; rfl
theorem fb_set2 {X : List FrX} {i : Nat} {x : FrX} (hx : X[i]? = some x) (vs vs2 : Value) : (((X.set i { x with vs := vs }).set i { x with vs := vs2 })[i]?).map FrX.fb = some x.fb := by
 rw [List.set_set, List.getElem?_set_self (List.getElem?_eq_some_iff.1 hx).1]; rfl
def setF (st : MaSt) (i : Nat) (f : MFr) (loc stk : List LVal) : MaSt := { st with frames := st.frames.set i { f with loc := loc, stk := stk } }
section
variable (p : List LClass) (vp : Value) (w0 w : World) (ρ : Nat → Nat × Nat) (mb : Nat) (fuel : Int) (ask : Bool) (st : MaSt) (A : List Nat) (X : List FrX) (Y : List Value) (vr vpr : Value) (i : Nat) (f : MFr) (x : FrX) (op a b : Int)
set_option maxHeartbeats 1000000 in
set_option maxRecDepth 100000 in
theorem do_mv (h : MaA w0 w ρ mb vp fuel ask st A X Y vr vpr) (hf : st.frames[i]? = some f) (hx : X[i]? = some x) (I : InsOk p f.m op a b) (S : StkOk op f.stk) (hlm : f.m.locals = (f.loc.length : Int)) (hsl : f.stk.length < 4194303) (hll : f.loc.length ≤ 4194304) (ho : op = 0 ∨ op = 16 ∨ op = 1 ∨ op = 2 ∨ op = 14 ∨ op = 15 ∨ op = 20 ∨ op = 3 ∨ op = 4 ∨ op = 5) :
  Calls Tryz.prog 173 #[.pointer (some ⟨mb, 0, none⟩), .pointer (some ⟨x.fb, 0, none⟩), .agg #[.int .i64 op, .int .i64 a, .int .i64 b]] w fun e w' => DoX i x.fb w0 mb vp fuel ask (setF st i f (moveP op a f.loc f.stk).1 (moveP op a f.loc f.stk).2) 0 w' e := by
 have hbel := box_below w (.cells #[.int .i64 op, .int .i64 a, .int .i64 b] 60)
 have H := hide (h.below hbel (Nat.le_refl _))
 have o6 : (op == 6) = false := beq_eq_false_iff_ne.2 (by omega)
 have o9 : (op == 9) = false := beq_eq_false_iff_ne.2 (by omega)
 have o10 : (op == 10) = false := beq_eq_false_iff_ne.2 (by omega)
 have o11 : (op == 11) = false := beq_eq_false_iff_ne.2 (by omega)
 have o17 : (op == 17) = false := beq_eq_false_iff_ne.2 (by omega)
 have o19 : (op == 19) = false := beq_eq_false_iff_ne.2 (by omega)
 have HO := hide ho
 clear h ho
 go_enter Tryz.func173, Tryz.ntmps173
 go_wp2_with fail
 generalize w.alloc _ = W at *
 have F := (unhide H).fr i f x hf hx
 refine (ma_move p f.m _ A x.fb x.mc (f.pc : Int) x.vl f.loc x.vs f.stk op a b W F.fr (unhide H).bel.size I S hlm hsl hll (by have := unhide HO; omega)).mono ?_
 rintro e w2 hR
 obtain ⟨o1, o2⟩ := move_ok (op := op) (a := a) F.okl F.oks
 obtain ⟨rfl, ρ', vs', hA⟩ := (unhide H).move hf hx hR o1 o2
 have HF : Hid (DoX i x.fb w0 mb vp fuel ask (setF st i f (moveP op a f.loc f.stk).1 (moveP op a f.loc f.stk).2) 0 w2 (.returned (.int .i64 0))) := ⟨rfl, A, ρ', _, _, _, _, (by first | exact fb_same hx | exact fb_set hx _ | exact fb_set2 hx _ _), hA⟩
 clear hA hR o1 o2 F
 go_wp2_with fail
 go_ret
 exact unhide HF
set_option maxHeartbeats 1000000 in
set_option maxRecDepth 100000 in
theorem do_div (h : MaA w0 w ρ mb vp fuel ask st A X Y vr vpr) (hf : st.frames[i]? = some f) (hx : X[i]? = some x) (I : InsOk p f.m 6 a b) (S : StkOk 6 f.stk) (hlm : f.m.locals = (f.loc.length : Int)) (hsl : f.stk.length < 4194303) (hll : f.loc.length ≤ 4194304) :
  Calls Tryz.prog 173 #[.pointer (some ⟨mb, 0, none⟩), .pointer (some ⟨x.fb, 0, none⟩), .agg #[.int .i64 6, .int .i64 a, .int .i64 b]] w fun e w' => DoX i x.fb w0 mb vp fuel ask (if (topV f.stk).num = 0 then st else setF st i f (moveP 6 a f.loc f.stk).1 (moveP 6 a f.loc f.stk).2) (if (topV f.stk).num = 0 then 3 else 0) w' e := by
 obtain ⟨sD, hsD⟩ : ∃ s, s = (if (topV f.stk).num = 0 then st else setF st i f (moveP 6 a f.loc f.stk).1 (moveP 6 a f.loc f.stk).2) := ⟨_, rfl⟩
 obtain ⟨kD, hkD⟩ : ∃ k : Int, k = (if (topV f.stk).num = 0 then 3 else 0) := ⟨_, rfl⟩
 rw [← hsD, ← hkD]
 have HSD := hide (And.intro hsD hkD)
 clear hsD hkD
 have hbel := box_below w (.cells #[.int .i64 6, .int .i64 a, .int .i64 b] 60)
 have B0 := Blk.new w #[.int .i64 6, .int .i64 a, .int .i64 b] 60
 have H := hide (h.below hbel (Nat.le_refl _))
 have hs2 := S.s2 (by omega)
 have hst := top_snoc (l := f.stk) (by omega)
 have hdl : f.stk.dropLast.length = f.stk.length - 1 := List.length_dropLast
 have HST := hide hst
 clear h hst
 go_enter Tryz.func173, Tryz.ntmps173
 go_wp2_with fail
 generalize w.alloc _ = W at *
 have F := (unhide H).fr i f x hf hx
 have hT := ma_top _ A x.fb x.mc (f.pc : Int) x.vl f.loc x.vs f.stk.dropLast (topV f.stk) W (by rw [← unhide HST]; exact F.fr) (by omega)
 refine hT.mono ?_
 rintro e w1 ⟨rfl, hb1⟩
 have H1 := hide ((unhide H).below hb1 (Nat.le_refl _))
 have B1 := B0.below hb1 B0.lt
 have q0 : w1.cell? ⟨w.heap.size, 0, none⟩ = some (.int .i64 6) := B1.cell 0
 have q1 : w1.cell? ⟨w.heap.size, 1, none⟩ = some (.int .i64 a) := B1.cell 1
 have q2 : w1.cell? ⟨w.heap.size, 2, none⟩ = some (.int .i64 b) := B1.cell 2
 unfold encV
 clear F hT
 cases hyc : (topV f.stk).num == 0 with
 | true =>
  have hy : (topV f.stk).num = 0 := by simpa using hyc
  have HF : Hid (DoX i x.fb w0 mb vp fuel ask sD kD w1 (.returned (.int .i64 3))) := by
   show DoX _ _ _ _ _ _ _ _ _ _ _
   rw [(unhide HSD).1, (unhide HSD).2, if_pos hy, if_pos hy]
   exact ⟨rfl, A, ρ, _, _, _, _, (by first | exact fb_same hx | exact fb_set hx _ | exact fb_set2 hx _ _), unhide H1⟩
  clear hy
  go_wp2_with fail
  go_ret
  exact unhide HF
 | false =>
  have hy : ¬ (topV f.stk).num = 0 := by simpa using hyc
  have HY := hide hy
  clear hy
  go_wp2_with fail
  have F := (unhide H1).fr i f x hf hx
  refine (ma_move p f.m _ A x.fb x.mc (f.pc : Int) x.vl f.loc x.vs f.stk 6 a b w1 F.fr (unhide H1).bel.size I S hlm hsl hll (by have := unhide HY; omega)).mono ?_
  rintro e w2 hR
  obtain ⟨o1, o2⟩ := move_ok (op := 6) (a := a) F.okl F.oks
  obtain ⟨rfl, ρ', vs', hA⟩ := (unhide H1).move hf hx hR o1 o2
  have HF : Hid (DoX i x.fb w0 mb vp fuel ask sD kD w2 (.returned (.int .i64 0))) := by
   show DoX _ _ _ _ _ _ _ _ _ _ _
   rw [(unhide HSD).1, (unhide HSD).2, if_neg (unhide HY), if_neg (unhide HY)]
   exact ⟨rfl, A, ρ', _, _, _, _, (by first | exact fb_same hx | exact fb_set hx _ | exact fb_set2 hx _ _), hA⟩
  clear hA hR o1 o2 F
  go_wp2_with fail
  go_ret
  exact unhide HF
def newSt (p : List LClass) (st : MaSt) (i : Nat) (f : MFr) (a : Int) : MaSt :=
 { setF st i f f.loc (f.stk ++ [thisV a st.objs.length]) with objs := st.objs ++ [⟨a, (fieldsOf p a).map firstV⟩] }
set_option maxHeartbeats 1000000 in
set_option maxRecDepth 100000 in
theorem do_new (h : MaA w0 w ρ mb vp fuel ask st A X Y vr vpr) (hf : st.frames[i]? = some f) (hx : X[i]? = some x) (hp : RProg w0 vp p) (hs : SupOk p p.length) (hz : szProg p ≤ 4194304) (a0 : 0 ≤ a) (a1 : a < (p.length : Int)) (hsl : f.stk.length ≤ 4194304) (hol : st.objs.length ≤ 100) :
  Calls Tryz.prog 173 #[.pointer (some ⟨mb, 0, none⟩), .pointer (some ⟨x.fb, 0, none⟩), .agg #[.int .i64 9, .int .i64 a, .int .i64 b]] w fun e w' => DoX i x.fb w0 mb vp fuel ask (if st.objs.length = 100 then st else newSt p st i f a) (if st.objs.length = 100 then 8 else 0) w' e := by
 have hbel := box_below w (.cells #[.int .i64 9, .int .i64 a, .int .i64 b] 60)
 have B0 := Blk.new w #[.int .i64 9, .int .i64 a, .int .i64 b] 60
 have H := hide (h.below hbel (Nat.le_refl _))
 have hzp := Nat.le_trans (szProg_len p) hz
 have hlt := h.lt
 have n4 := Keeps.of_below hbel _ _ (show w.cell? ⟨mb, 4, none⟩ = some (.int .i64 (st.objs.length : Int)) from h.mach.cell 4)
 clear h
 by_cases ho : st.objs.length = 100
 ·have ho' : ((st.objs.length : Int) == 100) = true := beq_iff_eq.2 (by omega)
  rw [if_pos ho, if_pos ho]
  clear ho hol
  go_enter Tryz.func173, Tryz.ntmps173
  go_wp2_with fail
  go_ret
  exact ⟨rfl, A, ρ, _, _, _, _, (by first | exact fb_same hx | exact fb_set hx _ | exact fb_set2 hx _ _), unhide H⟩
 ·have ho' : ((st.objs.length : Int) == 100) = false := beq_eq_false_iff_ne.2 (by omega)
  rw [if_neg ho, if_neg ho]
  clear ho
  go_enter Tryz.func173, Tryz.ntmps173
  go_wp2_with fail
  generalize w.alloc _ = W at *
  refine (ma_create p vp a w0 W mb fuel ask vr st.objs.length A st.told vpr st.steps hp (unhide H).bel (unhide H).base (unhide H).mach hs hz a0 a1 (by omega)).mono ?_
  rintro e w1 ⟨ob, v, rfl, O, hMb, hM⟩
  obtain ⟨ρ1, hA1⟩ := (unhide H).newObj O hMb hM
  have hla := (unhide H).la
  have HA1 := hide hA1
  have o0 : w1.cell? ⟨ob, 0, none⟩ = some (.int .i64 a) := O.blk.cell 0
  clear hA1 O hMb hM
  go_wp2_with fail
  refine (ma_reference ob a w1 o0 a0 (by omega)).mono ?_
  rintro e w2 ⟨rfl, hb2⟩
  have HA2 := hide ((unhide HA1).below hb2 (Nat.le_refl _))
  go_wp2_with fail
  have F := (unhide HA2).fr i f x hf hx
  have hev : encV (A ++ [ob]) (thisV a st.objs.length) = [.int .i64 (a + 3), .int .i64 0, .pointer (some ⟨ob, 0, none⟩)] := by
   show [Value.int .i64 (a + 3), .int .i64 0, .pointer (some ⟨(A ++ [ob]).getD st.objs.length 0, 0, none⟩)] = _
   rw [List.getD_eq_getElem?_getD, ← hla, List.getElem?_append_right (Nat.le_refl _), Nat.sub_self]; rfl
  have hP0 := ma_push _ (A ++ [ob]) x.fb x.mc (f.pc : Int) x.vl f.loc x.vs f.stk (thisV a st.objs.length) w2 F.fr (unhide HA2).bel.size hsl
  rw [hev] at hP0
  refine hP0.mono ?_
  rintro e w3 hP
  have hMv := hP.move (Mods.refl _ w2) (.inl rfl)
  obtain ⟨rfl, ρ', vs', hA⟩ := (unhide HA2).move hf hx hMv F.okl (fun u hu => by
   rcases List.mem_append.1 hu with hu | hu
   ·exact F.oks u hu
   ·obtain rfl := List.mem_singleton.1 hu
    intro k hk
    cases hk
    rw [List.length_append, hla]; simp)
  have HF : Hid (DoX i x.fb w0 mb vp fuel ask (newSt p st i f a) 0 w3 (.returned (.int .i64 0))) := ⟨rfl, A ++ [ob], ρ', _, _, _, _, (by first | exact fb_same hx | exact fb_set hx _ | exact fb_set2 hx _ _), hA⟩
  clear hA hMv hP hP0 F hev
  go_wp2_with fail
  go_ret
  exact unhide HF
end
end Go.Proofs.YtiiokkllmchohaaGreat
/- The machine: do, for GET, PUT. -/
namespace Go.Proofs.YtiiokkllmchohaaGreat
open Go.RowKit Go.Shelf
attribute [local go_sem ↓] Go.wp_at_zero Go.wp_at_succ
attribute [local go_sem] frz_drew
attribute [local go_sem] fld_num fld_obj

section
variable {w0 w w' : World} {ρ : Nat → Nat × Nat} {mb : Nat} {vp : Value} {fuel : Int} {ask : Bool} {st : MaSt} {A : List Nat} {X : List FrX} {Y : List Value} {vr vpr : Value} {i : Nat} {f : MFr} {x : FrX}
theorem MaA.pop (h : MaA w0 w ρ mb vp fuel ask st A X Y vr vpr) (hf : st.frames[i]? = some f) (hx : X[i]? = some x) {s1 : List LVal} {y : LVal} (hs : f.stk = s1 ++ [y]) {e : Ending} (hR : PopR w0.heap.size A x.fb x.mc (f.pc : Int) x.vl f.loc x.vs s1 y w w' e) :
  e = .returned (.agg (encV A y).toArray) ∧ ∃ ρ' vs', MaA w0 w' ρ' mb vp fuel ask (setF st i f f.loc s1) A (X.set i { x with vs := vs' }) Y vr vpr := by
 obtain ⟨vs', he, hF, hob, hM⟩ := hR.mods
 have F := h.fr i f x hf hx
 obtain ⟨ρ', hA⟩ := h.upd hf hx hM F.within hF (.inl hob) F.okl (fun v hv => F.oks v (by rw [hs]; exact List.mem_append.2 (.inl hv)))
 exact ⟨he, ρ', vs', hA⟩
theorem set_at {α : Type} {l : List α} {i : Nat} {a : α} (h : l[i]? = some a) (b : α) : (l.set i b)[i]? = some b := List.getElem?_set_self (List.getElem?_eq_some_iff.1 h).1
theorem setF_at (hf : st.frames[i]? = some f) (loc stk : List LVal) : (setF st i f loc stk).frames[i]? = some { f with loc := loc, stk := stk } := set_at hf _
theorem setF_setF (loc stk loc2 stk2 : List LVal) : setF (setF st i f loc stk) i { f with loc := loc, stk := stk } loc2 stk2 = setF st i f loc2 stk2 := by
 unfold setF
 simp [List.set_set]
end
def objAt (st : MaSt) (k : Nat) : LObj := (st.objs[k]?).getD ⟨0, []⟩
def getP (st : MaSt) (i : Nat) (f : MFr) (b : Int) : MaSt × Int := match (topV f.stk).obj with
 | none => (setF st i f f.loc f.stk.dropLast, 2)
 | some k => (setF st i f f.loc (f.stk.dropLast ++ [(objAt st k).flds.getD b.toNat nothV]), 0)
section
variable (p : List LClass) (vp : Value) (w0 w : World) (ρ : Nat → Nat × Nat) (mb : Nat) (fuel : Int) (ask : Bool) (st : MaSt) (A : List Nat) (X : List FrX) (Y : List Value) (vr vpr : Value) (i : Nat) (f : MFr) (x : FrX) (a b : Int)
set_option maxHeartbeats 1000000 in
set_option maxRecDepth 100000 in
theorem do_get (h : MaA w0 w ρ mb vp fuel ask st A X Y vr vpr) (hf : st.frames[i]? = some f) (hx : X[i]? = some x) (S : StkOk 10 f.stk) (hsl : f.stk.length < 4194303) (b0 : 0 ≤ b) (hfl : ∀ k, (topV f.stk).obj = some k → b.toNat < (objAt st k).flds.length) (hfl4 : ∀ k, (objAt st k).flds.length ≤ 4194304) :
  Calls Tryz.prog 173 #[.pointer (some ⟨mb, 0, none⟩), .pointer (some ⟨x.fb, 0, none⟩), .agg #[.int .i64 10, .int .i64 a, .int .i64 b]] w fun e w' => DoX i x.fb w0 mb vp fuel ask (getP st i f b).1 (getP st i f b).2 w' e := by
 have hs1 := S.s1 (by omega)
 have hst := top_snoc (l := f.stk) (by omega)
 have hdl : f.stk.dropLast.length = f.stk.length - 1 := List.length_dropLast
 have hbel := box_below w (.cells #[.int .i64 10, .int .i64 a, .int .i64 b] 60)
 have B0 := Blk.new w #[.int .i64 10, .int .i64 a, .int .i64 b] 60
 have H := hide (h.below hbel (Nat.le_refl _))
 have F0 := h.fr i f x hf hx
 have hoy : okV A (topV f.stk) := topV_ok F0.oks
 have hla := h.la
 have hly := h.ly
 have HG : Hid (∀ k, (topV f.stk).obj = some k → getP st i f b = (setF st i f f.loc (f.stk.dropLast ++ [(objAt st k).flds.getD b.toNat nothV]), 0)) := fun k hk => by unfold getP; rw [hk]
 have HGN : Hid ((topV f.stk).obj = none → getP st i f b = (setF st i f f.loc f.stk.dropLast, 2)) := fun hk => by unfold getP; rw [hk]
 generalize getP st i f b = gp at *
 have HST := hide hst
 have hxb := F0.fr.blk.lt
 clear h hst F0
 go_enter Tryz.func173, Tryz.ntmps173
 go_wp2_with fail
 generalize w.alloc _ = W at *
 have F := (unhide H).fr i f x hf hx
 have hP0 := ma_pop _ A x.fb x.mc (f.pc : Int) x.vl f.loc x.vs f.stk.dropLast (topV f.stk) W (by rw [← unhide HST]; exact F.fr) (by omega)
 refine hP0.mono ?_
 rintro e w1 hP
 have B1 := B0.mods hP.choose_spec.2.2.2 (by omega)
 obtain ⟨rfl, ρ1, vs1, hA1⟩ := (unhide H).pop hf hx (unhide HST) hP
 have HA1 := hide hA1
 have q2 : w1.cell? ⟨w.heap.size, 2, none⟩ = some (.int .i64 b) := B1.cell 2
 unfold encV
 clear F hP0 hP hA1
 cases hy : (topV f.stk).obj with
 | none =>
  have HF : Hid (DoX i x.fb w0 mb vp fuel ask gp.1 gp.2 w1 (.returned (.int .i64 2))) := by
   show DoX _ _ _ _ _ _ _ _ _ _ _
   rw [(unhide HGN) hy]
   exact ⟨rfl, A, ρ1, _, _, _, _, (by first | exact fb_same hx | exact fb_set hx _ | exact fb_set2 hx _ _), unhide HA1⟩
  unfold objP
  clear hy
  go_wp2_with fail
  go_ret
  exact unhide HF
 | some k =>
  have hk : k < A.length := hoy k hy
  obtain ⟨ob, hob⟩ : ∃ ob, A[k]? = some ob := ⟨_, List.getElem?_eq_getElem hk⟩
  obtain ⟨o, ho⟩ : ∃ o, st.objs[k]? = some o := ⟨_, List.getElem?_eq_getElem (by omega)⟩
  obtain ⟨v, hv⟩ : ∃ v, Y[k]? = some v := ⟨_, List.getElem?_eq_getElem (by omega)⟩
  have hoa : objAt st k = o := by unfold objAt; rw [ho]; rfl
  have hbl := hfl k hy
  have hf4 := hfl4 k
  rw [hoa] at hbl hf4
  obtain ⟨bn, rfl⟩ : ∃ bn : Nat, b = (bn : Int) := ⟨b.toNat, by omega⟩
  rw [Int.toNat_natCast] at hbl
  have O := (unhide HA1).ob k o ob v ho hob hv
  obtain ⟨g, cap, rfl, hcap, hgb, hrd⟩ := own_read O.row (by omega)
  obtain ⟨u, hu⟩ : ∃ u, o.flds[bn]? = some u := ⟨_, List.getElem?_eq_getElem hbl⟩
  have o1 : w1.cell? ⟨ob, 1, none⟩ = some (.slice (some ⟨g, 0, none⟩) o.flds.length cap) := O.blk.cell 1
  have r0 : w1.cell? ⟨g, bn * 3, none⟩ = some (.int .i64 u.kind) := by rw [hrd _ (by omega)]; exact encL_get A _ _ u hu 0 (by omega)
  have r1 : w1.cell? ⟨g, bn * 3 + 1, none⟩ = some (.int .i64 u.num) := by rw [hrd _ (by omega)]; exact encL_get A _ _ u hu 1 (by omega)
  have r2 : w1.cell? ⟨g, bn * 3 + 2, none⟩ = some (objP A u.obj) := by rw [hrd _ (by omega)]; exact encL_get A _ _ u hu 2 (by omega)
  have F1 := (unhide HA1).fr i _ _ (setF_at hf f.loc f.stk.dropLast) (set_at hx { x with vs := vs1 })
  have hrne : ¬ (g = x.fb ∨ vs1.ownBlock = some g) := fun e => by
   have h4 := O.r4 g hgb
   rcases e with e | e
   ·have := F1.r0; rw [← e] at this; rw [h4] at this; cases this
   ·have := F1.r2 g e; rw [h4] at this; cases this
  have hone' : ¬ (ob = x.fb ∨ vs1.ownBlock = some ob) := fun e => by
   have h4 := O.r3
   rcases e with e | e
   ·have := F1.r0; rw [← e] at this; rw [h4] at this; cases this
   ·have := F1.r2 ob e; rw [h4] at this; cases this
  have hbne : ¬ (w.heap.size = x.fb ∨ vs1.ownBlock = some w.heap.size) := fun e => by
   rcases e with e | e
   ·omega
   ·exact own_ne F1.fr.st B1 (by decide) e
  have hpo : objP A (some k) = .pointer (some ⟨ob, 0, none⟩) := by
   show Value.pointer (some ⟨A.getD k 0, 0, none⟩) = _
   rw [List.getD_eq_getElem?_getD, hob]; rfl
  have hgp := (unhide HG) k hy
  have hgx : (objAt st k).flds.getD (bn : Int).toNat nothV = u := by rw [hoa, Int.toNat_natCast, List.getD_eq_getElem?_getD, hu]; rfl
  rw [hgx] at hgp
  have hou : okV A u := O.ok u (List.mem_of_getElem? hu)
  have hev : encV A u = [.int .i64 u.kind, .int .i64 u.num, objP A u.obj] := rfl
  have n0 : (0 : Int) ≤ (bn : Int) := by omega
  have n1 : (bn : Int) < (o.flds.length : Int) := by omega
  have HF1 := hide F1
  have HGP := hide hgp
  rw [hpo]
  clear hrd O hu hoa ho hob hv hy hgx hpo hgp F1 HG HGN hfl hfl4
  go_wp2_with fail
  refine wp_region_held_drew (S := (fun w' => w'.cell? ⟨ob, 1, none⟩ = some (.slice (some ⟨g, 0, none⟩) o.flds.length cap) ∧ w'.cell? ⟨w.heap.size, 2, none⟩ = some (.int .i64 (bn : Int)) ∧ w'.cell? ⟨g, bn * 3, none⟩ = some (.int .i64 u.kind) ∧ w'.cell? ⟨g, bn * 3 + 1, none⟩ = some (.int .i64 u.num) ∧ w'.cell? ⟨g, bn * 3 + 2, none⟩ = some (objP A u.obj))) (by kernel_rfl) ?_ (fun hHeld => ?_)
  ·exact ⟨o1, q2, r0, r1, r2⟩
  refine take_x (some 46) 0 rfl rfl ?_
  refine take_x (some 47) 1 rfl rfl ?_
  refine take_x (some 48) 2 rfl rfl ?_
  refine take_x (some 49) 3 rfl rfl ?_
  refine take_x (some 50) 4 rfl rfl ?_
  refine take_x (some 51) 5 rfl rfl ?_
  refine take_x (some 52) 6 rfl rfl ?_
  refine take_x (some 53) 7 rfl rfl ?_
  refine take_x (some 54) 8 rfl rfl ?_
  refine wpAnyH_ready (rs := [9]) (by kernel_rfl) (by simp) ?_
  refine AllReadyH.cons rfl (fun K hK => ?_) AllReadyH.nil
  go_simp
  have hP1 := ma_push _ A x.fb x.mc (f.pc : Int) x.vl f.loc vs1 f.stk.dropLast u w1.drew ((unhide HF1).fr.below (Below.refl w1.heap.size w1).drew (Nat.le_refl _)) (unhide HA1).bel.size (by omega)
  rw [hev] at hP1
  refine hP1.mono ?_
  rintro e w2 hP
  have hm0 : Mods (fun k => k = x.fb ∨ vs1.ownBlock = some k ∨ x.vl.ownBlock = some k) w1 w1.drew := (Mods.refl _ w1).drew
  have hMv := hP.move hm0 (.inl rfl)
  have hMw := hP.choose_spec.2.2.1
  obtain ⟨rfl, ρ2, vs2, hA2⟩ := (unhide HA1).move (setF_at hf f.loc f.stk.dropLast) (set_at hx { x with vs := vs1 }) hMv (unhide HF1).okl (fun z hz => by
   rcases List.mem_append.1 hz with hz | hz
   ·exact (unhide HF1).oks z hz
   ·obtain rfl := List.mem_singleton.1 hz; exact hou)
  have HF : Hid (DoX i x.fb w0 mb vp fuel ask gp.1 gp.2 w2 (.returned (.int .i64 0))) := by
   show DoX _ _ _ _ _ _ _ _ _ _ _
   rw [unhide HGP]
   have he := setF_setF (st := st) (i := i) (f := f) f.loc f.stk.dropLast f.loc (f.stk.dropLast ++ [u])
   rw [← he]
   exact ⟨rfl, A, ρ2, _, _, _, _, (by first | exact fb_same hx | exact fb_set hx _ | exact fb_set2 hx _ _), hA2⟩
  clear hA2 hMv hP1 hm0
  go_wp2_with fail
  refine hK.out _ _ ⟨hMw.cell (w := w1.drew) o1 hone', hMw.cell (w := w1.drew) q2 hbne, hMw.cell (w := w1.drew) r0 hrne, hMw.cell (w := w1.drew) r1 hrne, hMw.cell (w := w1.drew) r2 hrne⟩ (fun hHeld => ?_)
  clear hK K
  try simp only [Act.put, List.setIfInBounds_toArray, List.set_cons_zero, List.set_cons_succ]
  refine wpAnyH_done (by kernel_rfl) ?_ _
  clear hP hMw
  go_wp2_with fail
  go_ret
  exact unhide HF
end
end Go.Proofs.YtiiokkllmchohaaGreat
/- The machine: do, for PUT. -/
namespace Go.Proofs.YtiiokkllmchohaaGreat
open Go.RowKit Go.Shelf
attribute [local go_sem ↓] Go.wp_at_zero Go.wp_at_succ
attribute [local go_sem] frz_drew
attribute [local go_sem] fld_num fld_obj

section
variable {w0 w w' : World} {ρ : Nat → Nat × Nat} {mb : Nat} {vp : Value} {fuel : Int} {ask : Bool} {st : MaSt} {A : List Nat} {X : List FrX} {Y : List Value} {vr vpr : Value} {i : Nat} {f : MFr} {x : FrX}
theorem MaA.putF (h : MaA w0 w ρ mb vp fuel ask st A X Y vr vpr) {k : Nat} {o : LObj} {v : Value} (ho : st.objs[k]? = some o) (hv : Y[k]? = some v) {S : Nat → Prop} (hM : Mods S w w') (hS : ∀ j, j < w.heap.size → S j → ρ j = (4, k)) {fl : List LVal} (hrow : w'.ownsRow w0.heap.size 170 3 v fl.length (encL A fl)) (ok : ∀ u ∈ fl, okV A u) :
  MaA w0 w' ρ mb vp fuel ask { st with objs := st.objs.set k { o with flds := fl } } A X Y vr vpr := by
 have hq : ∀ j, j < w.heap.size → S j → ∀ r, r ≠ (4, k) → ρ j ≠ r := fun j hj hs r hr e => hr (e.symm.trans (hS j hj hs))
 have s : Same w.heap.size ρ ρ := fun _ _ => rfl
 have hkl : k < st.objs.length := (List.getElem?_eq_some_iff.1 ho).1
 refine ⟨?_, h.base, h.rmb, own_mods h.run hM (fun g hg e => hq g (h.run.lt g hg).2 e (6, 0) (by simp) (h.rvr g hg)), h.rvr, own_mods h.prn hM (fun g hg e => hq g (h.prn.lt g hg).2 e (7, 0) (by simp) (h.rpr g hg)), h.rpr, h.lx, fun i f x hf hx => (h.fr i f x hf hx).mods hM s (fun j hj e => ⟨hq j hj e _ (by simp), hq j hj e _ (by simp), hq j hj e _ (by simp)⟩), by simpa using h.la, by simpa using h.ly, ?_, h.okt, h.bel.trans (hM.below h.bel.size (fun j hj e => hq j (Nat.lt_of_lt_of_le hj h.bel.size) e (9, 0) (by simp) (h.low j hj))), h.low⟩
 ·show Blk w' mb _ (machC vp fuel ask vr (st.objs.set k _).length A st.told vpr st.steps)
  rw [List.length_set]
  exact h.mach.mods hM (fun e => hq _ h.lt e (5, 0) (by simp) h.rmb)
 ·intro j o' b' v' h1 h2 h3
  by_cases hj : k = j
  ·subst hj
   rw [List.getElem?_set_self hkl] at h1
   obtain rfl := Option.some.inj h1
   rw [hv] at h3
   obtain rfl := Option.some.inj h3
   have O := h.ob k o b' v ho h2 hv
   exact ⟨O.blk.mods hM (fun e => hq _ O.blk.lt e (3, k) (by simp) O.r3), O.base, hrow, O.r3, O.r4, ok⟩
  ·rw [List.getElem?_set_ne hj] at h1
   exact (h.ob j o' b' v' h1 h2 h3).mods hM s (fun l hl e => ⟨hq l hl e _ (by simp), hq l hl e _ (by simp; omega)⟩)
end
def putP2 (st : MaSt) (i : Nat) (f : MFr) (b : Int) : MaSt × Int := match (topV f.stk.dropLast).obj with
 | none => (setF st i f f.loc f.stk.dropLast.dropLast, 2)
 | some k => ({ setF st i f f.loc f.stk.dropLast.dropLast with objs := st.objs.set k { objAt st k with flds := (objAt st k).flds.set b.toNat (topV f.stk) } }, 0)
section
variable (p : List LClass) (vp : Value) (w0 w : World) (ρ : Nat → Nat × Nat) (mb : Nat) (fuel : Int) (ask : Bool) (st : MaSt) (A : List Nat) (X : List FrX) (Y : List Value) (vr vpr : Value) (i : Nat) (f : MFr) (x : FrX) (a b : Int)
set_option maxHeartbeats 1000000 in
set_option maxRecDepth 100000 in
theorem do_put (h : MaA w0 w ρ mb vp fuel ask st A X Y vr vpr) (hf : st.frames[i]? = some f) (hx : X[i]? = some x) (S : StkOk 11 f.stk) (hsl : f.stk.length < 4194303) (b0 : 0 ≤ b) (hfl : ∀ k, (topV f.stk.dropLast).obj = some k → b.toNat < (objAt st k).flds.length) (hfl4 : ∀ k, (objAt st k).flds.length ≤ 4194304) :
  Calls Tryz.prog 173 #[.pointer (some ⟨mb, 0, none⟩), .pointer (some ⟨x.fb, 0, none⟩), .agg #[.int .i64 11, .int .i64 a, .int .i64 b]] w fun e w' => DoX i x.fb w0 mb vp fuel ask (putP2 st i f b).1 (putP2 st i f b).2 w' e := by
 have hs2 := S.s2 (by omega)
 have hst := top_snoc (l := f.stk) (by omega)
 have hdl : f.stk.dropLast.length = f.stk.length - 1 := List.length_dropLast
 have hst2 := top_snoc (l := f.stk.dropLast) (by omega)
 have hdl2 : f.stk.dropLast.dropLast.length = f.stk.length - 1 - 1 := by rw [List.length_dropLast, hdl]
 have hbel := box_below w (.cells #[.int .i64 11, .int .i64 a, .int .i64 b] 60)
 have B0 := Blk.new w #[.int .i64 11, .int .i64 a, .int .i64 b] 60
 have H := hide (h.below hbel (Nat.le_refl _))
 have F0 := h.fr i f x hf hx
 have hoy : okV A (topV f.stk.dropLast) := topV_ok (fun v hv => F0.oks v (dropLast_mem hv))
 have hot : okV A (topV f.stk) := topV_ok F0.oks
 have hla := h.la
 have hly := h.ly
 have HG : Hid (∀ k, (topV f.stk.dropLast).obj = some k → putP2 st i f b = ({ setF st i f f.loc f.stk.dropLast.dropLast with objs := st.objs.set k { objAt st k with flds := (objAt st k).flds.set b.toNat (topV f.stk) } }, 0)) := fun k hk => by unfold putP2; rw [hk]
 have HGN : Hid ((topV f.stk.dropLast).obj = none → putP2 st i f b = (setF st i f f.loc f.stk.dropLast.dropLast, 2)) := fun hk => by unfold putP2; rw [hk]
 generalize putP2 st i f b = gp at *
 have HST := hide hst
 have HST2 := hide hst2
 have hxb := F0.fr.blk.lt
 have hone := encV_one A (topV f.stk)
 have hvs0 : ∀ g, x.vs.ownBlock = some g → g < w.heap.size := fun g hg => (F0.fr.st.lt g hg).2
 clear h hst hst2 F0
 go_enter Tryz.func173, Tryz.ntmps173
 go_wp2_with fail
 generalize w.alloc _ = W at *
 have F := (unhide H).fr i f x hf hx
 have hP0 := ma_pop _ A x.fb x.mc (f.pc : Int) x.vl f.loc x.vs f.stk.dropLast (topV f.stk) W (by rw [← unhide HST]; exact F.fr) (by omega)
 refine hP0.mono ?_
 rintro e w1 hP
 have B1 := B0.mods hP.choose_spec.2.2.2 (by omega)
 obtain ⟨rfl, ρ1, vs1, hA1⟩ := (unhide H).pop hf hx (unhide HST) hP
 have HA1 := hide hA1
 clear F hP0 hP hA1
 go_wp2_with fail
 have F1 := (unhide HA1).fr i _ _ (setF_at hf f.loc f.stk.dropLast) (set_at hx { x with vs := vs1 })
 have hP1 := ma_pop _ A x.fb x.mc (f.pc : Int) x.vl f.loc vs1 f.stk.dropLast.dropLast (topV f.stk.dropLast) w1 (by rw [← unhide HST2]; exact F1.fr) (by omega)
 refine hP1.mono ?_
 rintro e w2 hP
 have B2 := B1.mods hP.choose_spec.2.2.2 (by omega)
 obtain ⟨rfl, ρ2, vs2, hA2⟩ := (unhide HA1).pop (setF_at hf f.loc f.stk.dropLast) (set_at hx { x with vs := vs1 }) (unhide HST2) hP
 rw [show setF (setF st i f f.loc f.stk.dropLast) i { f with loc := f.loc, stk := f.stk.dropLast } f.loc f.stk.dropLast.dropLast = setF st i f f.loc f.stk.dropLast.dropLast from setF_setF _ _ _ _] at hA2
 have HA2 := hide hA2
 have he2 : encV A (topV f.stk.dropLast) = [.int .i64 (topV f.stk.dropLast).kind, .int .i64 (topV f.stk.dropLast).num, objP A (topV f.stk.dropLast).obj] := rfl
 rw [he2]
 clear F1 hP1 hP hA2 he2
 have lB2 := B2.lt
 cases hy : (topV f.stk.dropLast).obj with
 | none =>
  have HF : Hid (∀ w3, Below w2.heap.size w2 w3 → DoX i x.fb w0 mb vp fuel ask gp.1 gp.2 w3 (.returned (.int .i64 2))) := fun w3 hb3 => by
   rw [(unhide HGN) hy]
   exact ⟨rfl, A, ρ2, _, _, _, _, (by first | exact fb_same hx | exact fb_set hx _ | exact fb_set2 hx _ _), (unhide HA2).below hb3 (Nat.le_refl _)⟩
  unfold objP
  clear hy
  go_wp2_with (refine wpList_store_blk aggVal (Blk.new w2 #[.int .i64 0, .int .i64 0, .pointer none] 170) 0 (encV A (topV f.stk)) rfl (by simp) hone (.tmp 8) (.tmp 59) rfl rfl rfl rfl ?_; intro w3 hB3 hM3 hs3; rw [putAt_all (by rfl)] at hB3)
  have hb3 : Below w2.heap.size w2 w3 := (box_below w2 _).trans (hM3.below (by simp) (fun k hk e => by omega))
  have HA3 := hide ((unhide HA2).below hb3 (Nat.le_refl _))
  have B3 := B2.below hb3 B2.lt
  have q2 : w3.cell? ⟨w.heap.size, 2, none⟩ = some (.int .i64 (b : Int)) := B3.cell 2
  have HB3 := hide hB3
  clear hM3 hs3 hB3
  go_ret
  exact (unhide HF) w3 hb3
 | some k =>
  have hk : k < A.length := hoy k hy
  obtain ⟨ob, hob⟩ : ∃ ob, A[k]? = some ob := ⟨_, List.getElem?_eq_getElem hk⟩
  obtain ⟨o, ho⟩ : ∃ o, st.objs[k]? = some o := ⟨_, List.getElem?_eq_getElem (by omega)⟩
  obtain ⟨v, hv⟩ : ∃ v, Y[k]? = some v := ⟨_, List.getElem?_eq_getElem (by omega)⟩
  have hoa : objAt st k = o := by unfold objAt; rw [ho]; rfl
  have hbl := hfl k hy
  have hf4 := hfl4 k
  rw [hoa] at hbl hf4
  obtain ⟨bn, rfl⟩ : ∃ bn : Nat, b = (bn : Int) := ⟨b.toNat, by omega⟩
  rw [Int.toNat_natCast] at hbl
  have hpo : objP A (some k) = .pointer (some ⟨ob, 0, none⟩) := by
   show Value.pointer (some ⟨A.getD k 0, 0, none⟩) = _
   rw [List.getD_eq_getElem?_getD, hob]; rfl
  have hgp := (unhide HG) k hy
  rw [hoa, Int.toNat_natCast] at hgp
  have n0 : (0 : Int) ≤ (bn : Int) := by omega
  have n1 : (bn : Int) < (o.flds.length : Int) := by omega
  have HGP := hide hgp
  have HK := hide (And.intro ho (And.intro hob hv))
  rw [hpo]
  clear hoa ho hob hv hy hpo hgp HG HGN hfl hfl4
  go_wp2_with (refine wpList_store_blk aggVal (Blk.new w2 #[.int .i64 0, .int .i64 0, .pointer none] 170) 0 (encV A (topV f.stk)) rfl (by simp) hone (.tmp 8) (.tmp 59) rfl rfl rfl rfl ?_; intro w3 hB3 hM3 hs3; rw [putAt_all (by rfl)] at hB3)
  have hb3 : Below w2.heap.size w2 w3 := (box_below w2 _).trans (hM3.below (by simp) (fun k hk e => by omega))
  have HA3 := hide ((unhide HA2).below hb3 (Nat.le_refl _))
  have B3 := B2.below hb3 B2.lt
  have q2 : w3.cell? ⟨w.heap.size, 2, none⟩ = some (.int .i64 (bn : Int)) := B3.cell 2
  have HB3 := hide hB3
  clear hM3 hs3 hB3
  obtain ⟨ho, hob, hv⟩ := unhide HK
  have O := (unhide HA3).ob k o ob v ho hob hv
  obtain ⟨g, cap, rfl, hcap, hgb, _⟩ := own_read O.row (by omega)
  have o1 : w3.cell? ⟨ob, 1, none⟩ = some (.slice (some ⟨g, 0, none⟩) o.flds.length cap) := O.blk.cell 1
  have hBv := unhide HB3
  have v0 : w3.cell? ⟨w2.heap.size, 0, none⟩ = some (.int .i64 (topV f.stk).kind) := hBv.cell 0
  have v1 : w3.cell? ⟨w2.heap.size, 1, none⟩ = some (.int .i64 (topV f.stk).num) := hBv.cell 1
  have v2 : w3.cell? ⟨w2.heap.size, 2, none⟩ = some (objP A (topV f.stk).obj) := hBv.cell 2
  obtain ⟨cur, hcb, hcl, hput⟩ := own_put (topV f.stk) O.row rfl hbl
  have O2 := (unhide HA2).ob k o ob _ ho hob hv
  have hg2 : g < w2.heap.size := (O2.row.lt g hgb).2
  have HO := hide (And.intro O (And.intro hput ho))
  have HHV := hide hv
  clear ho hob hv O hput O2 hBv
  refine wp_region_held_drew (S := (fun w' => w'.cell? ⟨ob, 1, none⟩ = some (.slice (some ⟨g, 0, none⟩) o.flds.length cap) ∧ w'.cell? ⟨w.heap.size, 2, none⟩ = some (.int .i64 (bn : Int)) ∧ w'.cell? ⟨w2.heap.size, 0, none⟩ = some (.int .i64 (topV f.stk).kind) ∧ w'.cell? ⟨w2.heap.size, 1, none⟩ = some (.int .i64 (topV f.stk).num) ∧ w'.cell? ⟨w2.heap.size, 2, none⟩ = some (objP A (topV f.stk).obj))) (by kernel_rfl) ?_ (fun hHeld => ?_)
  ·exact ⟨o1, q2, v0, v1, v2⟩
  refine take_x (some 65) 0 rfl rfl ?_
  refine take_x (some 66) 1 rfl rfl ?_
  refine take_x (some 67) 2 rfl rfl ?_
  refine take_x (some 68) 3 rfl rfl ?_
  refine take_x (some 69) 4 rfl rfl ?_
  refine take_x (some 70) 5 rfl rfl ?_
  refine take_x (some 71) 6 rfl rfl ?_
  refine take_x (some 72) 7 rfl rfl ?_
  refine wpAnyH_ready (rs := [8]) (by kernel_rfl) (by simp) ?_
  refine AllReadyH.cons rfl (fun K hK => ?_) AllReadyH.nil
  refine wp_store_blk aggVal hcb.drew (bn * 3) (encV A (topV f.stk)) rfl hcl hone (.tmp 72) (.tmp 71) rfl rfl rfl ?_
  intro w4 hB4 hM4 hs4
  obtain ⟨O, hput, ho⟩ := unhide HO
  have hM4' : Mods (fun j => j = g) w3 w4 := ⟨hM4.os, hM4.tape, hM4.output, hM4.size, hM4.block⟩
  have hA4 := (unhide HA3).putF (k := k) ho (unhide HHV) hM4' (fun j _ e => e ▸ O.r4 g hgb) (fl := o.flds.set bn (topV f.stk)) (by rw [List.length_set]; exact hput w4 hB4) (fun u hu => by
   rcases List.mem_or_eq_of_mem_set hu with h | rfl
   ·exact O.ok u h
   ·exact hot)
  have HF : Hid (DoX i x.fb w0 mb vp fuel ask gp.1 gp.2 w4 (.returned (.int .i64 0))) := by
   show DoX _ _ _ _ _ _ _ _ _ _ _
   rw [unhide HGP]
   exact ⟨rfl, A, ρ2, _, _, _, _, (by first | exact fb_same hx | exact fb_set hx _ | exact fb_set2 hx _ _), hA4⟩
  have hog : ¬ ob = g := fun e => by
   have h3 := O.r3
   rw [e, O.r4 g hgb] at h3; cases h3
  have hwg : ¬ w.heap.size = g := fun e => by
   exact own_ne O.row B3 (by decide) (by rw [hgb, e])
  refine hK.out _ _ ⟨hM4'.cell o1 hog, hM4'.cell q2 hwg, hM4'.cell v0 (by dsimp only; omega), hM4'.cell v1 (by dsimp only; omega), hM4'.cell v2 (by dsimp only; omega)⟩ (fun hHeld => ?_)
  clear hK K
  try simp only [Act.put]
  refine wpAnyH_done (by kernel_rfl) ?_ _
  clear hA4 hM4 hM4' hB4 O hput ho
  go_wp2_with fail
  go_ret
  exact unhide HF
end
end Go.Proofs.YtiiokkllmchohaaGreat
