/- Walk of the code's own search: the method of a class and a slot. -/
import Derived.Test.YtiiokkllmchohaaGreatT01
/- CodeD -/
namespace Go.Proofs.YtiiokkllmchohaaGreat
open Go.RowKit
attribute [local go_sem ↓] Go.wp_at_zero Go.wp_at_succ

def methV (m : LMeth) (va vc vf : Value) : Value := .agg #[.int .i64 m.slot, va, .int .i64 m.ret, .int .i64 m.locals, .int .i64 m.stack, vc, vf]
def Found (w : World) (p : List LClass) (c slot : Int) (o : LMeth) (va vc vf : Value) : Prop :=
 ∀ ck, methOf p c slot = some ck → methAt p ck = some o ∧ MVals w o va vc vf

def put7 (w : World) (b : Nat) (v0 v1 v2 v3 v4 v5 v6 : Value) : World :=
 ((((((w.setCell ⟨b, 0, none⟩ v0).setCell ⟨b, 1, none⟩ v1).setCell ⟨b, 2, none⟩ v2).setCell ⟨b, 3, none⟩ v3).setCell ⟨b, 4, none⟩ v4).setCell ⟨b, 5, none⟩ v5).setCell ⟨b, 6, none⟩ v6
theorem put7_blk {w : World} {b : Nat} {t : TypeId} {a0 a1 a2 a3 a4 a5 a6 : Value} (h : Blk w b t [a0, a1, a2, a3, a4, a5, a6]) (v0 v1 v2 v3 v4 v5 v6 : Value) :
  Blk (put7 w b v0 v1 v2 v3 v4 v5 v6) b t [v0, v1, v2, v3, v4, v5, v6] :=
 ((((((h.setCell 0 v0).setCell 1 v1).setCell 2 v2).setCell 3 v3).setCell 4 v4).setCell 5 v5).setCell 6 v6
theorem put7_mods (w : World) (b : Nat) (v0 v1 v2 v3 v4 v5 v6 : Value) : Mods (fun k => k = b) w (put7 w b v0 v1 v2 v3 v4 v5 v6) :=
 (((((((Mods.refl (fun k => k = b) w).setCell (p := ⟨b, 0, none⟩) (fun _ => rfl) v0).setCell (p := ⟨b, 1, none⟩) (fun _ => rfl) v1).setCell (p := ⟨b, 2, none⟩) (fun _ => rfl) v2).setCell (p := ⟨b, 3, none⟩) (fun _ => rfl) v3).setCell (p := ⟨b, 4, none⟩) (fun _ => rfl) v4).setCell (p := ⟨b, 5, none⟩) (fun _ => rfl) v5).setCell (p := ⟨b, 6, none⟩) (fun _ => rfl) v6
theorem Blk.below {w w' : World} {b B : Nat} {t : TypeId} {cs : List Value} (h : Blk w b t cs) (hb : Below B w w') (hB : b < B) : Blk w' b t cs := (hb.block b hB).trans h

set_option maxHeartbeats 800000 in
set_option maxRecDepth 100000 in
theorem code_findmethod0 (p : List LClass) (vc : Value) (n : Nat) (c slot : Int) (w0 w : World) (hp : RProg w0 vc p) (hb0 : Below w0.heap.size w0 w) (hs : SupOk p n) (hn : n ≤ p.length) (hc : -1 ≤ c) (hcn : c < n) (hz : szProg p ≤ 4194304) :
  Calls Tryz.prog 109 #[.agg #[vc], .int .i64 c, .int .i64 slot] w fun e w' =>
   ∃ (o : LMeth) (aa ca fa : Option Addr) (ac cc fc : Nat), e = .returned (.tuple #[.agg #[.int .i64 o.slot, .slice aa o.args.length ac, .int .i64 o.ret, .int .i64 o.locals, .int .i64 o.stack, .slice ca o.code.length cc, .slice fa o.frames.length fc], .bool (methOf p c slot).isSome]) ∧
    Found w0 p c slot o (.slice aa o.args.length ac) (.slice ca o.code.length cc) (.slice fa o.frames.length fc) ∧ Below w.heap.size w w' := by
 obtain ⟨a, b, off, cap, rfl, hcap, ha, hr⟩ := sl_open hp
 have HR := hide hr
 clear hp hr
 go_enter Tryz.func109, Tryz.ntmps109
 go_wp2
 generalize hW : (w.alloc _).alloc _ = W
 have hbel : Below w.heap.size w W := by rw [← hW]; exact box2_below _ _ _
 have hbox : W.cell? ⟨w.heap.size, 0, none⟩ = some (.slice a p.length cap) := by rw [← hW]; exact box2_fst _ _ _ _ 0
 have b1 : Blk W (w.heap.size + 1) 63 [.int .i64 0, .slice none 0 0, .int .i64 0, .int .i64 0, .int .i64 0, .slice none 0 0, .slice none 0 0] := by rw [← hW]; exact (by simpa using Blk.new (w.alloc _) _ _)
 have hsW : W.heap.size = w.heap.size + 2 := by rw [← hW]; simp
 clear hW
 go_loopw [8] (fun s wr => ∃ c' : Int, -1 ≤ c' ∧ c' < n ∧ s = .int .i64 c' ∧ methOf p c slot = methOf p c' slot ∧ Below W.heap.size W wr) (fun s _ => (intOf s + 1).toNat)
 case atStart => exact ⟨c, hc, hcn, rfl, rfl, Below.refl _ _⟩
 case round =>
  obtain ⟨c', h1, h2, rfl, hm, hbr⟩ := hrel
  have HM := hide hm
  clear hm
  obtain ⟨wo, rfl⟩ : ∃ wo : World, wo = wr := ⟨_, rfl⟩
  have hfin : Below w.heap.size w wo := hbel.trans (hbr.mono hbel.size)
  have e0 := Keeps.of_below hbr _ _ hbox
  have x1 := b1.below hbr (by omega)
  have f0 := x1.cell 0
  have f1 := x1.cell 1
  have f2 := x1.cell 2
  have f3 := x1.cell 3
  have f4 := x1.cell 4
  have f5 := x1.cell 5
  have f6 := x1.cell 6
  have g0 := x1.frozen 0
  have g1 := x1.frozen 1
  have g2 := x1.frozen 2
  have g3 := x1.frozen 3
  have g4 := x1.frozen 4
  have g5 := x1.frozen 5
  have g6 := x1.frozen 6
  simp only [List.getElem?_cons_zero, List.getElem?_cons_succ] at f0 f1 f2 f3 f4 f5 f6
  rcases Int.lt_or_le c' 0 with hneg | hpos
  ·go_wp2
   have hB := put7_blk x1 (.int .i64 0) (.slice none 0 0) (.int .i64 0) (.int .i64 0) (.int .i64 0) (.slice none 0 0) (.slice none 0 0)
   have hM := put7_mods wo (w.heap.size + 1) (.int .i64 0) (.slice none 0 0) (.int .i64 0) (.int .i64 0) (.int .i64 0) (.slice none 0 0) (.slice none 0 0)
   unfold put7 at hB hM
   generalize World.setCell _ _ _ = Z at hB hM ⊢
   have s0 : Z.cell? ⟨w.heap.size + 1, 0, none⟩ = some (.int .i64 0) := by rw [hB.cell]; rfl
   have s1 : Z.cell? ⟨w.heap.size + 1, 1, none⟩ = some (.slice none 0 0) := by rw [hB.cell]; rfl
   have s2 : Z.cell? ⟨w.heap.size + 1, 2, none⟩ = some (.int .i64 0) := by rw [hB.cell]; rfl
   have s3 : Z.cell? ⟨w.heap.size + 1, 3, none⟩ = some (.int .i64 0) := by rw [hB.cell]; rfl
   have s4 : Z.cell? ⟨w.heap.size + 1, 4, none⟩ = some (.int .i64 0) := by rw [hB.cell]; rfl
   have s5 : Z.cell? ⟨w.heap.size + 1, 5, none⟩ = some (.slice none 0 0) := by rw [hB.cell]; rfl
   have s6 : Z.cell? ⟨w.heap.size + 1, 6, none⟩ = some (.slice none 0 0) := by rw [hB.cell]; rfl
   refine bodyPost_ret (v := .tuple #[.agg #[.int .i64 0, .slice none 0 0, .int .i64 0, .int .i64 0, .int .i64 0, .slice none 0 0, .slice none 0 0], .bool false]) (by simp [results, Tryz.results109, go_sem, s0, s1, s2, s3, s4, s5, s6]) rfl ⟨⟨0, [], 0, 0, 0, [], []⟩, none, none, none, 0, 0, 0, by rw [unhide HM, methOf_neg p slot hneg]; rfl, ?_, hfin.trans (hM.below hfin.size (fun k hk e => by omega))⟩
   intro ck h
   rw [unhide HM, methOf_neg p slot hneg] at h
   cases h
  ·obtain ⟨i, rfl⟩ := Int.eq_ofNat_of_zero_le hpos
   have hi : i < p.length := by omega
   obtain rfl := ha (ne_nil_of_lt hi)
   obtain ⟨vf, vm, c0, c1, c2, hf, hmm⟩ := (unhide HR i hi).keep (Keeps.of_below (hb0.trans (hfin.mono hb0.size)))
   obtain ⟨vf', vm', c0', c1', c2', hf', hmm'⟩ := unhide HR i hi
   obtain rfl : vm' = vm := by have := Keeps.of_below (hb0.trans (hfin.mono hb0.size)) _ _ c2'; rw [c2] at this; injection this with this; exact this.symm
   obtain ⟨ma, mb, moff, mcap, rfl, hmcap, hma, hmr⟩ := sl_open hmm'
   have HMR := hide hmr
   have hlen : p[i].meths.length ≤ 4194304 := by
    have := szMeths_le p[i]; have := szClass_le (List.getElem_mem hi); omega
   have HX := hide (List.getElem?_eq_getElem hi)
   clear hmr hmm hf hmm' hf' c0' c1' c2'
   generalize p[i] = x at *
   go_wp2
   go_loopw [27] (fun s wr => ∃ k : Nat, k ≤ x.meths.length ∧ s = .int .i64 k ∧ (∀ (j : Nat) (hj : j < x.meths.length), j < k → x.meths[j].slot ≠ slot) ∧ Below wo.heap.size wo wr) (fun s _ => x.meths.length - (intOf s).toNat)
   case atStart => exact ⟨0, Nat.zero_le _, rfl, fun j _ h => absurd h (Nat.not_lt_zero j), Below.refl _ _⟩
   case round =>
    obtain ⟨k, hk, rfl, hno, hbr2⟩ := hrel
    have HNO := hide hno
    clear hno
    have hfin2 : Below w.heap.size w wr := hfin.trans (hbr2.mono hfin.size)
    by_cases hlt : k < x.meths.length
    ·obtain rfl := hma (ne_nil_of_lt hlt)
     obtain ⟨va, vcd, vfr, hv, m0, m1, m2, m3, m4, m5, m6⟩ := unhide HMR k hlt
     have hk2 := Keeps.of_below (hb0.trans (hfin2.mono hb0.size))
     replace m0 := hk2 _ _ m0
     replace m1 := hk2 _ _ m1
     replace m2 := hk2 _ _ m2
     replace m3 := hk2 _ _ m3
     replace m4 := hk2 _ _ m4
     replace m5 := hk2 _ _ m5
     replace m6 := hk2 _ _ m6
     have HV := hide hv
     obtain ⟨ala, _, _, alc, rfl, _⟩ := hv.1
     obtain ⟨cla, _, _, clc, rfl, _⟩ := hv.2.1
     obtain ⟨fla, _, _, flc, rfl, _⟩ := hv.2.2
     have hltb := cell_lt m0
     have HK := hide (List.getElem?_eq_getElem hlt)
     have HSL := hide (show x.meths[k].slot = x.meths[k].slot from rfl)
     clear hv hk2 c0 c1 c2
     by_cases hq : x.meths[k].slot = slot
     ·have hqb : (x.meths[k].slot == slot) = true := by simpa using hq
      have HME := hide (show methOf p c slot = some (i, k) by rw [unhide HM, methOf_step p hs slot (by omega) (unhide HX), slotIn_some hlt hq (unhide HNO)])
      have HMA := hide (show methAt p (i, k) = some x.meths[k] by unfold methAt; rw [unhide HX]; exact unhide HK)
      clear hq
      generalize x.meths[k] = m at *
      have y1 := x1.below hbr2 (by have := hbr.size; omega)
      have hlt1 := y1.lt
      have f0 := y1.cell 0
      have f1 := y1.cell 1
      have f2 := y1.cell 2
      have f3 := y1.cell 3
      have f4 := y1.cell 4
      have f5 := y1.cell 5
      have f6 := y1.cell 6
      have g0 := y1.frozen 0
      have g1 := y1.frozen 1
      have g2 := y1.frozen 2
      have g3 := y1.frozen 3
      have g4 := y1.frozen 4
      have g5 := y1.frozen 5
      have g6 := y1.frozen 6
      simp only [List.getElem?_cons_zero, List.getElem?_cons_succ] at f0 f1 f2 f3 f4 f5 f6
      go_wp2_with fail
      have hB := put7_blk y1 (.int .i64 m.slot) (.slice ala m.args.length alc) (.int .i64 m.ret) (.int .i64 m.locals) (.int .i64 m.stack) (.slice cla m.code.length clc) (.slice fla m.frames.length flc)
      have hM := put7_mods wr (w.heap.size + 1) (.int .i64 m.slot) (.slice ala m.args.length alc) (.int .i64 m.ret) (.int .i64 m.locals) (.int .i64 m.stack) (.slice cla m.code.length clc) (.slice fla m.frames.length flc)
      unfold put7 at hB hM
      generalize World.setCell _ _ _ = Z0 at hB hM ⊢
      replace hB := hB.alloc (.cells #[.int .i64 m.slot, .slice ala m.args.length alc, .int .i64 m.ret, .int .i64 m.locals, .int .i64 m.stack, .slice cla m.code.length clc, .slice fla m.frames.length flc] 63)
      have hM2 := hM.alloc (.cells #[.int .i64 m.slot, .slice ala m.args.length alc, .int .i64 m.ret, .int .i64 m.locals, .int .i64 m.stack, .slice cla m.code.length clc, .slice fla m.frames.length flc] 63)
      generalize Z0.alloc _ = Z at hB hM2 ⊢
      have hfz : Below w.heap.size w Z := by
       exact hfin2.trans (hM2.below hfin2.size (fun k hk e => by omega))
      have s0 : Z.cell? ⟨w.heap.size + 1, 0, none⟩ = some (.int .i64 m.slot) := by rw [hB.cell]; rfl
      have s1 : Z.cell? ⟨w.heap.size + 1, 1, none⟩ = some (.slice ala m.args.length alc) := by rw [hB.cell]; rfl
      have s2 : Z.cell? ⟨w.heap.size + 1, 2, none⟩ = some (.int .i64 m.ret) := by rw [hB.cell]; rfl
      have s3 : Z.cell? ⟨w.heap.size + 1, 3, none⟩ = some (.int .i64 m.locals) := by rw [hB.cell]; rfl
      have s4 : Z.cell? ⟨w.heap.size + 1, 4, none⟩ = some (.int .i64 m.stack) := by rw [hB.cell]; rfl
      have s5 : Z.cell? ⟨w.heap.size + 1, 5, none⟩ = some (.slice cla m.code.length clc) := by rw [hB.cell]; rfl
      have s6 : Z.cell? ⟨w.heap.size + 1, 6, none⟩ = some (.slice fla m.frames.length flc) := by rw [hB.cell]; rfl
      refine bodyPost_ret (v := .tuple #[.agg #[.int .i64 m.slot, .slice ala m.args.length alc, .int .i64 m.ret, .int .i64 m.locals, .int .i64 m.stack, .slice cla m.code.length clc, .slice fla m.frames.length flc], .bool true]) (by simp [results, Tryz.results109, go_sem, s0, s1, s2, s3, s4, s5, s6]) rfl ⟨m, ala, cla, fla, alc, clc, flc, by rw [show (methOf p c slot).isSome = true by rw [unhide HME]; rfl], ?_, hfz⟩
      intro ck h
      rw [unhide HME] at h
      injection h with h
      subst h
      exact ⟨unhide HMA, unhide HV⟩
     ·have hqb : (x.meths[k].slot == slot) = false := by simpa using hq
      go_wp2
      exact ⟨⟨k + 1, by omega, by go_num, fun j hj h => by
       rcases Nat.lt_or_ge j k with g | g
       ·exact unhide HNO j hj g
       ·obtain rfl : j = k := by omega
        exact hq, hbr2.trans ((box_below _ _).mono hbr2.size)⟩, by simp [intOf]; omega⟩
    ·have q0 := Keeps.of_below hbr2 _ _ e0
     have q1 := Keeps.of_below hbr2 _ _ c0
     go_wp2
     have hsup := supB_le (hs i x (by omega) (unhide HX))
     exact ⟨⟨x.sup, hsup.1, by omega, rfl, by rw [unhide HM, methOf_step p hs slot (by omega) (unhide HX), slotIn_none fun j hj => unhide HNO j hj (by omega)], hbr.trans (hbr2.mono hbr.size)⟩, by simp [intOf]; omega⟩

theorem code_findmethod (p : List LClass) (vc : Value) (n : Nat) (c slot : Int) (w : World) (hp : RProg w vc p) (hs : SupOk p n) (hn : n ≤ p.length) (hc : -1 ≤ c) (hcn : c < n) (hz : szProg p ≤ 4194304) :
  Calls Tryz.prog 109 #[.agg #[vc], .int .i64 c, .int .i64 slot] w fun e w' =>
   ∃ (o : LMeth) (aa ca fa : Option Addr) (ac cc fc : Nat), e = .returned (.tuple #[.agg #[.int .i64 o.slot, .slice aa o.args.length ac, .int .i64 o.ret, .int .i64 o.locals, .int .i64 o.stack, .slice ca o.code.length cc, .slice fa o.frames.length fc], .bool (methOf p c slot).isSome]) ∧
    Found w p c slot o (.slice aa o.args.length ac) (.slice ca o.code.length cc) (.slice fa o.frames.length fc) ∧ Below w.heap.size w w' :=
 code_findmethod0 p vc n c slot w w hp (Below.refl _ _) hs hn hc hcn hz
end Go.Proofs.YtiiokkllmchohaaGreat
