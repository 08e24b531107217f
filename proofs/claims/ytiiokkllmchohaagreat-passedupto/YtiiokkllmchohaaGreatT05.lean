/- The law's lend: the class is put; the end. -/
import Derived.Test.YtiiokkllmchohaaGreatT04
namespace Go.Proofs.YtiiokkllmchohaaGreat
open Go.RowKit
section
variable {w wr : World} {bh : Nat} {cs0 : List Value} {p : List LClass} {vp : Value} {gl c : Nat} {x : LClass} {vxf vxm : Value} {gx gm k : Nat} {vt vi vf vm : Value} {ts is fs ms : List (Nat × Nat)} {cs cl cm : List Value} {nb : Nat}

theorem XSt.far (h : XSt w wr bh cs0 p vp gl c x vxf vxm gx gm vt vi vf vm ts is fs ms cs cl nb) {i : Nat} {t : TypeId} {c' : List Value} (hb : Blk wr i t c') (h1 : t ≠ 53) (h2 : t ≠ 40) : ¬ (i = bh ∨ vt.ownBlock = some i) := fun hk => by
 rcases hk with rfl | hk
 ·exact h1 (hb.uniq h.hs.hands.1)
 ·obtain ⟨c', hb'⟩ := own_blk h.hs.t.row hk
  exact h2 (hb.uniq hb')
theorem XSt.drew (h : XSt w wr bh cs0 p vp gl c x vxf vxm gx gm vt vi vf vm ts is fs ms cs cl nb) : XSt w wr.drew bh cs0 p vp gl c x vxf vxm gx gm vt vi vf vm ts is fs ms cs cl nb := by
 have hm : Mods (fun _ => False) wr wr.drew := (Mods.refl _ _).drew
 exact ⟨h.hs.stay hm (fun _ _ _ _ f => f.elim), h.m.mods hm (fun _ _ _ f => f) (fun _ _ _ f => f), h.c3, h.c4, h.rest, h.mods.drew, h.b0, h.b1, h.bx, h.lb, h.ll, fun j hj hjc => (h.done j hj hjc).keep (cellS_mods hm (fun _ _ _ _ _ f => f)) (fun _ _ => rfl), meths_keep (cellS_mods hm (fun _ _ _ _ _ f => f)) h.meths, h.tl, h.il, h.fl, h.ml, h.newl, h.newx, h.lx⟩
theorem XSt.lent (h : XSt w wr bh cs0 p vp gl c x vxf vxm gx gm vt vi vf vm ts is fs ms cs cl nb) {l : List Int} {w' : World} {g : Nat} {vt' : Value} (hl : l.length ≤ 1048576) (L : LentT wr w' bh cs vt w.heap.size ts l g vt') :
  XSt w w' bh cs0 p vp gl c x vxf vxm gx gm vt' vi vf vm (ts ++ [(g, l.length + 1)]) is fs ms (cs.set 0 vt') cl (nb + 1) := by
 have h4 : ∀ {i t c'}, Blk wr i t c' → t ∈ t4 → ¬ (i = bh ∨ vt.ownBlock = some i) := fun hb ht => h.far hb (fun e => by subst e; exact absurd ht (by decide)) (fun e => by subst e; exact absurd ht (by decide))
 refine ⟨h.hs.lent hl L, h.m.mods L.mods (fun i c hb => h.far hb (by decide) (by decide)) (fun i c hb => h.far hb (by decide) (by decide)), by rw [List.getElem?_set_ne (by omega)]; exact h.c3, by rw [List.getElem?_set_ne (by omega)]; exact h.c4, fun j hj => by rw [List.getElem?_set_ne (by omega)]; exact h.rest j hj, h.mods.trans L.mods (fun i hi hr => ?_), h.b0.mods L.mods (h.far h.b0 (by decide) (by decide)), h.b1.mods L.mods (h.far h.b1 (by decide) (by decide)), h.bx.mods L.mods (h.far h.bx (by decide) (by decide)), h.lb.mods L.mods (h.far h.lb (by decide) (by decide)), h.ll,
  fun j hj hjc => (h.done j hj hjc).keep (cellS_mods L.mods (fun i t c hb ht => h4 hb ht)) (fun _ _ => rfl), meths_keep (cellS_mods L.mods (fun i t c hb ht => h4 hb ht)) h.meths, ?_, ?_, ?_, h.ml, h.newl, h.newx, h.lx⟩
 ·rcases hr with hr | hr
  ·exact hr
  ·have := h.hs.t.row.lt i hr; omega
 ·rw [List.length_append, List.length_singleton]; have := h.tl; omega
 ·have := h.il; omega
 ·have := h.fl; omega
theorem XSt.cellL (h : XSt w wr bh cs0 p vp gl c x vxf vxm gx gm vt vi vf vm ts is fs ms cs cl nb) (i : Nat) (hi : i < (p.length + 1) * 3) : ∃ u, wr.cell? ⟨gl, i, none⟩ = some u :=
 ⟨cl[i]'(by rw [h.ll]; exact hi), by rw [h.lb.cell]; exact List.getElem?_eq_getElem _⟩
theorem XSt.put (h : XSt w wr bh cs0 p vp gl c x vxf vxm gx gm vt vi vf vm ts is fs ms cs cl nb) (hc : c < p.length) (hx : p[c] = x) {vf0 : Value} (hf : SlAt 1 (GInt (cellS tT wr)) vf0 x.fields) :
  LSt w (setCells3 wr gl (c * 3) (.int .i64 x.sup) vf0 (.slice (some ⟨gm, 0, none⟩) x.meths.length (x.meths.length + 1))) bh cs0 p vp gl (c + 1) vt vi vf vm ts is fs ms cs (set3 cl (c * 3) (.int .i64 x.sup) vf0 (.slice (some ⟨gm, 0, none⟩) x.meths.length (x.meths.length + 1))) nb := by
 have hm := setCells3_mods wr gl (c * 3) (.int .i64 x.sup) vf0 (.slice (some ⟨gm, 0, none⟩) x.meths.length (x.meths.length + 1))
 have hb := setCells3_blk (k := c * 3) h.lb (.int .i64 x.sup) vf0 (.slice (some ⟨gm, 0, none⟩) x.meths.length (x.meths.length + 1))
 have hl := h.ll
 have hnl := h.newl
 have hne : ∀ {i t c}, Blk wr i t c → t ≠ 66 → ¬ (i = gl) := fun hb' ht e => by subst e; exact ht (hb'.uniq h.lb)
 have hge : GLe (cellS t4 wr) (cellS t4 (setCells3 wr gl (c * 3) (.int .i64 x.sup) vf0 (.slice (some ⟨gm, 0, none⟩) x.meths.length (x.meths.length + 1)))) :=
  cellS_mods hm (fun i t c hb' ht => hne hb' (fun e => by subst e; exact absurd ht (by decide)))
 refine ⟨h.hs.stay hm (fun i t c hb' hi ht => ?_), h.m.mods hm (fun i c hb' => hne hb' (by decide)) (fun i c hb' => hne hb' (by decide)), h.c3, h.c4, h.rest, h.mods.trans hm (fun i hi e => by omega), h.b0.mods hm (hne h.b0 (by decide)), h.b1.mods hm (hne h.b1 (by decide)), hb, by rw [set3_len]; exact hl, fun j hj hjc => ?_, h.tl, h.il, h.fl, h.ml, h.newl⟩
 ·refine hne hb' ?_ hi
  rcases ht with rfl | rfl | rfl | rfl | rfl | rfl | rfl <;> decide
 ·rcases Nat.lt_or_ge j c with g | g
  ·exact (h.done j hj g).keep hge (fun i hi => set3_ne (by omega))
  ·obtain rfl : j = c := by omega
   rw [hx]
   exact ⟨vf0, _, set3_0 (by omega), set3_1 (by omega), set3_2 (by omega), ints_keep ((cellS_sub (by simp) wr).trans hge) hf, meths_keep hge h.meths⟩
theorem LSt.cellL (h : LSt w wr bh cs0 p vp gl c vt vi vf vm ts is fs ms cs cl nb) (i : Nat) (hi : i < (p.length + 1) * 3) : ∃ u, wr.cell? ⟨gl, i, none⟩ = some u :=
 ⟨cl[i]'(by rw [h.ll]; exact hi), by rw [h.lb.cell]; exact List.getElem?_eq_getElem _⟩
theorem LSt.begin (h : LSt w wr bh cs0 p vp gl c vt vi vf vm ts is fs ms cs cl nb) {w2 : World} {vxf vxm : Value} (hx : Blk w2 gx 66 [.int .i64 x.sup, vxf, vxm]) (hxn : wr.heap.size ≤ gx)
  (hmb : Blk w2 gm 63 cm) (hmn : wr.heap.size ≤ gm) (hml : cm.length = (x.meths.length + 1) * 7) (hm : Mods (fun _ => False) wr w2) : MSt w w2 bh cs0 p vp gl c x vxf vxm gx gm 0 vt vi vf vm ts is fs ms cs cl cm nb := by
 have hsz := h.b1.lt
 have hl := h.lb.lt
 refine ⟨h.hs.stay hm (fun _ _ _ _ f => f.elim), h.m.mods hm (fun _ _ _ f => f) (fun _ _ _ f => f), h.c3, h.c4, h.rest, h.mods.trans hm (fun _ _ f => f.elim), h.b0.mods hm (fun f => f), h.b1.mods hm (fun f => f), hx, h.lb.mods hm (fun f => f), h.ll, fun j hj hjc => (h.done j hj hjc).keep ((cellS_B t4 wr hmn).trans (cellB_mods hm (fun _ _ _ _ _ _ f => f))) (fun _ _ => rfl), hmb, hml, fun j _ hj => absurd hj (Nat.not_lt_zero j), h.tl, h.il, h.fl, h.ml, h.newl, by omega, by omega, by omega, fun e he => ?_⟩
 obtain ⟨_, _, _, c, hb, _⟩ := h.m.ent e he
 have := hb.lt
 omega

structure LentP (w w' : World) (bh : Nat) (cs0 : List Value) (p : List LClass) (gl : Nat) (vt vi vf vm vc : Value) (ts is fs ms ks : List (Nat × Nat)) (cs : List Value) : Prop where
 hs : HS w' w.heap.size bh cs vt vi vf ts is fs
 m : InM w' w.heap.size vm ms
 c : InC w' w.heap.size vc ks
 c3 : cs[3]? = some vm
 c4 : cs[4]? = some vc
 rest : ∀ j, 5 ≤ j → cs[j]? = cs0[j]?
 mods : Mods (fun k => k = bh) w w'
 prog : SlAt 3 (GClass (cellS t5 w')) (.slice (some ⟨gl, 0, none⟩) p.length (p.length + 1)) p

theorem LSt.fin (h : LSt w wr bh cs0 p vp gl p.length vt vi vf vm ts is fs ms cs cl nb) (hpl : p.length ≤ 1048576) :
  ∃ ca ccap w6, (Builtin.append_ #[49, 49] 49 #[.slice none 0 0, .slice (some ⟨wr.heap.size, 0, none⟩) 1 1]).run Tryz.prog
    ((setCells3 wr gl (p.length * 3) (.int .i64 (-77000000)) (.slice none 0 0) (.slice none 0 0)).alloc (.cells #[.slice (some ⟨gl, 0, none⟩) (p.length + 1) (p.length + 1)] 22)) = .ok (.slice ca 1 ccap) w6 ∧
   Blk w6 bh 53 cs ∧ Blk w6 (w.heap.size + 1) 24 [.slice none 0 0] ∧ wr.heap.size ≤ w6.heap.size ∧
   (∀ w7, Mods (fun i => i = w.heap.size + 1) (w6.setCell ⟨bh, 4, none⟩ (.slice ca 1 ccap)) w7 → LentP w w7 bh cs0 p gl vt vi vf vm (.slice ca 1 ccap) ts is fs ms [(gl, p.length + 1)] (cs.set 4 (.slice ca 1 ccap))) := by
 obtain ⟨iC, hC, hC0, hC1, hC2⟩ := info_parts infoClasses
 have hlt := h.hs.lt
 have hle := h.hs.le
 have hlen := h.ll
 have hnl := h.newl
 have hsz := h.mods.size
 have hmX := setCells3_mods wr gl (p.length * 3) (.int .i64 (-77000000)) (.slice none 0 0) (.slice none 0 0)
 have hbX := setCells3_blk (k := p.length * 3) h.lb (.int .i64 (-77000000)) (.slice none 0 0) (.slice none 0 0)
 have hsX := setCells3_size wr gl (p.length * 3) (.int .i64 (-77000000)) (.slice none 0 0) (.slice none 0 0)
 generalize setCells3 wr gl (p.length * 3) (.int .i64 (-77000000)) (.slice none 0 0) (.slice none 0 0) = X at hmX hbX hsX ⊢
 have hne : ∀ {i t c}, Blk wr i t c → t ≠ 66 → ¬ (i = gl) := fun hb' ht e => by subst e; exact ht (hb'.uniq h.lb)
 have hHX : HS X w.heap.size bh cs vt vi vf ts is fs := h.hs.stay hmX (fun i t c hb' hi ht => by
  refine hne hb' ?_ hi
  rcases ht with rfl | rfl | rfl | rfl | rfl | rfl | rfl <;> decide)
 obtain ⟨vc6, w6, happ, hown6, hm6, hat6⟩ := app_ex (P := Tryz.prog) (W := X) 49 49 22 iC (.slice none 0 0) 1 24 Tryz.underlying49 hC hC0 hC1 hC2 rfl (by decide) w.heap.size (.slice none 0 0) 0 [] (World.ownsRow_nil _ _ _ _) #[.slice (some ⟨gl, 0, none⟩) (p.length + 1) (p.length + 1)] rfl (by simp [Value.oneCell']) wr.heap.size hsX (by unfold maxLen; omega) (by omega) (by omega)
 have hm6' : Mods (fun _ => False) X w6 := hm6.mono (fun i _ e => by cases e)
 obtain ⟨ca, ccap, rfl⟩ := own_form hown6
 have hbh6 : Blk w6 bh 53 cs := hHX.hands.1.mods hm6' (fun f => f)
 have hs6 := hm6.size
 have hb16 : Blk w6 (w.heap.size + 1) 24 [.slice none 0 0] := (h.b1.mods hmX (hne h.b1 (by decide))).mods hm6' (fun f => f)
 refine ⟨ca, ccap, w6, happ, hbh6, hb16, by omega, fun w7 hm7 => ?_⟩
 have hmY : Mods (fun i => i = bh) X (w6.setCell ⟨bh, 4, none⟩ (.slice ca 1 ccap)) := (hm6'.mono (T := fun i => i = bh) (fun _ _ f => f.elim)).setCell (p := ⟨bh, 4, none⟩) (fun _ => rfl) _
 have hbhY := hbh6.setCell 4 (.slice ca 1 ccap)
 have hrowY := own_mods (S := fun i => i = bh) hown6 ((Mods.refl (fun i => i = bh) w6).setCell (p := ⟨bh, 4, none⟩) (fun _ => rfl) (.slice ca 1 ccap)) (fun g e => by have := hown6.lt g e; omega)
 have hb1Y := hb16.setCell_ne (p := ⟨bh, 4, none⟩) (by show w.heap.size + 1 ≠ bh; omega) (.slice ca 1 ccap)
 generalize w6.setCell ⟨bh, 4, none⟩ (.slice ca 1 ccap) = Y at hmY hbhY hrowY hb1Y hm7
 have hS : ∀ {i t c}, Blk X i t c → t ≠ 53 → ¬ (i = bh) := fun hb' h1 hk => by subst hk; exact h1 (hb'.uniq hHX.hands.1)
 have hS7 : ∀ {i t c}, Blk Y i t c → t ≠ 24 → ¬ (i = w.heap.size + 1) := fun hb' h1 hk => by subst hk; exact h1 (hb'.uniq hb1Y)
 have hc19 := h.hs.hands.2
 have hmove : ∀ {i t c}, Blk wr i t c → t ≠ 66 → t ≠ 53 → t ≠ 24 → Blk w7 i t c := fun hb' h0 h1 h2 => ((hb'.mods hmX (hne hb' h0)).mods hmY (hS (hb'.mods hmX (hne hb' h0)) h1)).mods hm7 (hS7 ((hb'.mods hmX (hne hb' h0)).mods hmY (hS (hb'.mods hmX (hne hb' h0)) h1)) h2)
 have hbY := hbX.mods hmY (hS hbX (by decide))
 have hb7 := hbY.mods hm7 (hS7 hbY (by decide))
 have hge : GLe (cellS t4 wr) (cellS t5 w7) := (cellS_mods hmX (fun i t c hb' ht => hne hb' (fun e => by subst e; exact absurd ht (by decide)))).trans ((cellS_mods hmY (fun i t c hb' ht => hS hb' (fun e => by subst e; exact absurd ht (by decide)))).trans ((cellS_mods hm7 (fun i t c hb' ht => hS7 hb' (fun e => by subst e; exact absurd ht (by decide)))).trans (cellS_sub (fun t ht => t4_t5 ht) w7)))
 have hY : HS Y w.heap.size bh (cs.set 4 (.slice ca 1 ccap)) vt vi vf ts is fs := ⟨⟨hbhY, by rw [List.length_set]; exact hc19⟩, by rw [List.getElem?_set_ne (by omega)]; exact h.hs.c0, by rw [List.getElem?_set_ne (by omega)]; exact h.hs.c1, by rw [List.getElem?_set_ne (by omega)]; exact h.hs.c2, hHX.t.mods hmY (fun i c hb' => hS hb' (by decide)) (fun i c hb' => hS hb' (by decide)), hHX.i.mods hmY (fun i c hb' => hS hb' (by decide)) (fun i c hb' => hS hb' (by decide)), hHX.f.mods hmY (fun i c hb' => hS hb' (by decide)) (fun i c hb' => hS hb' (by decide)), hlt, Nat.le_trans hHX.le hmY.size⟩
 refine ⟨hY.stay hm7 (fun i t c hb' hi ht => ?_), ((h.m.mods hmX (fun i c hb' => hne hb' (by decide)) (fun i c hb' => hne hb' (by decide))).mods hmY (fun i c hb' => hS hb' (by decide)) (fun i c hb' => hS hb' (by decide))).mods hm7 (fun i c hb' => hS7 hb' (by decide)) (fun i c hb' => hS7 hb' (by decide)), ?_, by rw [List.getElem?_set_ne (by omega)]; exact h.c3, by rw [List.getElem?_set_self (by omega)], fun j hj => by rw [List.getElem?_set_ne (by omega)]; exact h.rest j hj, ((h.mods.trans hmX (fun i hi e => by omega)).trans hmY (fun i hi e => e)).trans hm7 (fun i hi e => by omega), ?_⟩
 ·refine hS7 hb' ?_ hi
  rcases ht with rfl | rfl | rfl | rfl | rfl | rfl | rfl <;> decide
 ·refine ⟨own_mods hrowY hm7 (fun g e => ?_), fun e he => ?_, by simp⟩
  ·obtain ⟨c', hb'⟩ := own_blk hrowY e
   exact hS7 hb' (by decide)
  ·rw [List.mem_singleton] at he
   subst he
   refine ⟨by show w.heap.size ≤ gl; omega, by show 1 ≤ p.length + 1; omega, by show p.length + 1 ≤ 1048577; omega, _, hb7, by rw [set3_len]; exact hlen, ?_⟩
   rw [show p.length + 1 - 1 = p.length by omega]
   exact drop3 (by rw [set3_len]; omega) (set3_0 (by omega)) (set3_1 (by omega)) (set3_2 (by omega))
 ·refine ⟨_, gl, 0, _, rfl, by omega, ⟨fun _ => rfl, .inr (.inl rfl)⟩, fun j y hj => ?_⟩
  obtain ⟨hj1, rfl⟩ := List.getElem?_eq_some_iff.1 hj
  obtain ⟨vf0, vm0, f0, f1, f2, f3, f4⟩ := h.done j hj1 hj1
  have hcell : ∀ r, r < 3 → cellS t5 w7 ⟨gl, 0 + j * 3 + r, none⟩ = cl[j * 3 + r]? := fun r hr => by rw [cellS_blk hb7 (by simp), Nat.zero_add, set3_ne (by omega)]
  exact ⟨vf0, vm0, (hcell 0 (by omega)).trans f0, (hcell 1 (by omega)).trans f1, (hcell 2 (by omega)).trans f2, ints_keep hge f3, meths_keep hge f4⟩
end
end Go.Proofs.YtiiokkllmchohaaGreat
namespace Go.Proofs.YtiiokkllmchohaaGreat
open Go.RowKit
attribute [local go_sem ↓] Go.wp_at_zero Go.wp_at_succ
theorem cellNo_of_mods {b n : Nat} {w w1 w2 : World} {S T : Nat → Prop} (m1 : Mods S w w1) (m2 : Mods T w w2) (hn : n ≤ w.heap.size) (h : ∀ k, k ≠ b ∧ k < n → ¬ (S k ∨ T k)) : GLe (cellNo b n w1) (cellNo b n w2) := fun p v e => by
 have hp := cellNo_lt e
 unfold cellNo at e ⊢
 rw [if_pos hp] at e ⊢
 have h1 := m1.block p.block (by omega) (fun s => h _ hp (.inl s))
 have h2 := m2.block p.block (by omega) (fun s => h _ hp (.inr s))
 rw [World.cell?_of_block (w := w1) (h2.trans h1.symm)]; exact e
theorem sum_take_succ {α : Type} (f : α → Nat) {l : List α} {k : Nat} (hk : k < l.length) : ((l.take (k + 1)).map f).sum = ((l.take k).map f).sum + f l[k] := by
 rw [List.take_add_one, List.getElem?_eq_getElem hk, List.map_append, List.sum_append]; simp

set_option maxHeartbeats 4000000 in
set_option maxRecDepth 100000 in
theorem lend_prog (p : List LClass) (vp : Value) (w : World) (bh : Nat) (cs0 : List Value) (hp : SlAt 3 (GClass (cellNo bh w.heap.size w)) vp p) (hh : HBlk w bh cs0) (hbh : bh < w.heap.size) (n0 : cs0[0]? = some (.slice none 0 0)) (n1 : cs0[1]? = some (.slice none 0 0)) (n2 : cs0[2]? = some (.slice none 0 0)) (n3 : cs0[3]? = some (.slice none 0 0)) (n4 : cs0[4]? = some (.slice none 0 0))
  (hz : szProg p ≤ 1048576) :
  Calls Tryz.prog 42 #[.pointer (some ⟨bh, 0, none⟩), .agg #[vp]] w fun e w' => ∃ gl, e = .returned (.agg #[.slice (some ⟨gl, 0, none⟩) p.length (p.length + 1)]) ∧
   ∃ vt vi vf vm vc ts is fs ms ks cs, LentP w w' bh cs0 p gl vt vi vf vm vc ts is fs ms ks cs ∧ (ts.length ≤ 1048576 ∧ is.length ≤ 1048576 ∧ fs.length ≤ 1048576 ∧ ms.length ≤ 1048576 ∧ ks.length ≤ 1048576) := by
 obtain ⟨iM, hM, hM0, hM1, hM2⟩ := info_parts infoMeth
 obtain ⟨iC, hC, hC0, hC1, hC2⟩ := info_parts infoClass
 have hpl : p.length ≤ 1048576 := Nat.le_trans (szProg_len p) hz
 obtain ⟨pa, pb, poff, pcap, rfl, hpcap, hpa, hpr⟩ := sl_open hp
 have HPR := hide hpr
 have HH := hide hh
 clear hp hpr
 go_enter Tryz.func42, Tryz.ntmps42
 go_wp2_with (first
  | (at_make; refine wpList_make_blk rfl (.tmp 15) (.tmp 15) 22 rfl 66 iC (.agg #[.int .i64 0, .slice none 0 0, .slice none 0 0]) 3 56 Tryz.underlying22 hC hC0 hC1 hC2 _ _ _ (p.length + 1) rfl rfl (by omega) (by omega) (by omega) ?_; intro w2 hb2 hm2 hs2
     have hb2' : Blk w2 (w.heap.size + 2) 66 (madeCells (Value.agg #[.int .i64 0, .slice none 0 0, .slice none 0 0]).cells ((p.length + 1) * 3)).toList := by simpa using hb2
     have HB2 := hide hb2'
     have HM2 := hide hm2
     clear hb2 hm2 hs2 hb2'))
 have HL0 : Hid (LSt w w2 bh cs0 p (.slice pa p.length pcap) (w.heap.size + 2) 0 (.slice none 0 0) (.slice none 0 0) (.slice none 0 0) (.slice none 0 0) [] [] [] [] cs0 (madeCells (Value.agg #[.int .i64 0, .slice none 0 0, .slice none 0 0]).cells ((p.length + 1) * 3)).toList 0) := by
  have hm2 := unhide HM2
  have hmw : Mods (fun _ => False) w w2 := (((Mods.refl _ w).alloc _).alloc _).trans hm2 (fun _ _ f => f)
  have b0 : Blk ((w.alloc (.cells #[.slice pa p.length pcap] 24)).alloc (.cells #[.slice none 0 0] 24)) w.heap.size 24 [.slice pa p.length pcap] := (Blk.new _ _ _).alloc _
  have b1 : Blk ((w.alloc (.cells #[.slice pa p.length pcap] 24)).alloc (.cells #[.slice none 0 0] 24)) (w.heap.size + 1) 24 [.slice none 0 0] := by simpa using Blk.new (w.alloc (.cells #[.slice pa p.length pcap] 24)) #[.slice none 0 0] 24
  refine ⟨⟨⟨(unhide HH).1.mods hmw (fun f => f), (unhide HH).2⟩, n0, n1, n2, InL.nil _ _ _ _ _ _, InL.nil _ _ _ _ _ _, InL.nil _ _ _ _ _ _, hbh, hmw.size⟩, InL.nil _ _ _ _ _ _, n3, n4, fun _ _ => rfl, hmw.mono (fun _ _ f => f.elim), b0.mods hm2 (fun f => f), b1.mods hm2 (fun f => f), unhide HB2, by rw [made_len], fun j _ hj => absurd hj (Nat.not_lt_zero j), Nat.le_refl _, Nat.le_refl _, Nat.le_refl _, rfl, Nat.le_refl _⟩
 go_loopw [7] (fun s wr => ∃ c : Nat, c ≤ p.length ∧ s = .int .i64 c ∧ ∃ vt vi vf vm ts is fs ms cs cl nb, LSt w wr bh cs0 p (.slice pa p.length pcap) (w.heap.size + 2) c vt vi vf vm ts is fs ms cs cl nb ∧ nb ≤ ((p.take c).map szClass).sum) (fun s _ => p.length - (intOf s).toNat)
 case atStart => exact ⟨0, Nat.zero_le _, rfl, _, _, _, _, _, _, _, _, _, _, _, unhide HL0, Nat.zero_le _⟩
 case round =>
  obtain ⟨c, hc, rfl, vt, vi, vf, vm, ts, is, fs, ms, cs, cl, nb, hst, hnb⟩ := hrel
  have q0 : wr.cell? ⟨w.heap.size, 0, none⟩ = some (.slice pa p.length pcap) := hst.b0.cell 0
  have ST := hide hst
  clear hst
  by_cases hlt : c < p.length
  ·obtain rfl := hpa (ne_nil_of_lt hlt)
   have hkl := cellNo_mods (b := bh) (n := w.heap.size) (unhide ST).mods (fun k hk e => by omega)
   obtain ⟨vxf, vxm, d0, d1, d2, hf, hm⟩ := (unhide HPR c hlt).keep hkl
   have hpb : pb ≠ bh ∧ pb < w.heap.size := cellNo_lt d0
   have c0 := cellNo_le bh w.heap.size wr _ _ d0
   have c1 := cellNo_le bh w.heap.size wr _ _ d1
   have c2 := cellNo_le bh w.heap.size wr _ _ d2
   have hxl : szClass p[c] ≤ 1048576 := Nat.le_trans (szClass_le (List.getElem_mem hlt)) hz
   have hsum := sum_take_succ szClass hlt
   have hsum2 := sum_take_le szClass (c + 1) p
   have hsum3 : ((p.map szClass).sum) ≤ 1048576 := hz
   generalize hxe : p[c] = x at *
   have HXE := hide hxe
   clear hxe
   have hms : x.meths.length ≤ 1048576 := Nat.le_trans (szMeths_le x) hxl
   have hfl : x.fields.length ≤ 1048576 := Nat.le_trans (szFields_le x) hxl
   have HF := hide hf
   have HMM := hide hm
   obtain ⟨fa, fb, foff, fcap, rfl, _⟩ := sl_open hf
   obtain ⟨ma, mb, moff, mcap, rfl, _, hma, hmr⟩ := sl_open hm
   have HMR := hide hmr
   have hwr := (unhide ST).mods.size
   have hcl := cell_lt c0
   clear hf hm hmr d0 d1 d2 hkl
   obtain ⟨wo, rfl⟩ : ∃ wo : World, wo = wr := ⟨_, rfl⟩
   go_wp2_with (first
    | (at_make; refine wpList_make_blk rfl (.tmp 30) (.tmp 30) 64 rfl 63 iM (.agg #[.int .i64 0, .slice none 0 0, .int .i64 0, .int .i64 0, .int .i64 0, .slice none 0 0, .slice none 0 0]) 7 104 Tryz.underlying64 hM hM0 hM1 hM2 _ _ _ (x.meths.length + 1) rfl rfl (by omega) (by omega) (by omega) ?_; intro w3 hb3 hm3 hs3
       have hb3' : Blk w3 (wo.heap.size + 1) 63 (madeCells (Value.agg #[.int .i64 0, .slice none 0 0, .int .i64 0, .int .i64 0, .int .i64 0, .slice none 0 0, .slice none 0 0]).cells ((x.meths.length + 1) * 7)).toList := by simpa using hb3
       have HB3 := hide hb3'
       have HM3 := hide hm3
       clear hb3 hm3 hs3 hb3'))
   have HM0 : Hid (MSt w w3 bh cs0 p (.slice (some ⟨pb, poff, none⟩) p.length pcap) (w.heap.size + 2) c x (.slice fa x.fields.length fcap) (.slice ma x.meths.length mcap) wo.heap.size (wo.heap.size + 1) 0 vt vi vf vm ts is fs ms cs cl (madeCells (Value.agg #[.int .i64 0, .slice none 0 0, .int .i64 0, .int .i64 0, .int .i64 0, .slice none 0 0, .slice none 0 0]).cells ((x.meths.length + 1) * 7)).toList nb) :=
    (unhide ST).begin ((Blk.new _ _ _).mods (unhide HM3) (fun f => f)) (Nat.le_refl _) (unhide HB3) (by omega) (by rw [made_len]) (((Mods.refl (fun _ => False) wo).alloc _).trans (unhide HM3) (fun _ _ f => f))
   clear q0 c0 c1 c2
   go_loopw [10] (fun s wi => ∃ k : Nat, k ≤ x.meths.length ∧ s = .int .i64 k ∧ ∃ vt vi vf ts is fs cs cm nb, MSt w wi bh cs0 p (.slice (some ⟨pb, poff, none⟩) p.length pcap) (w.heap.size + 2) c x (.slice fa x.fields.length fcap) (.slice ma x.meths.length mcap) wo.heap.size (wo.heap.size + 1) k vt vi vf vm ts is fs ms cs cl cm nb ∧ nb ≤ ((p.take c).map szClass).sum + ((x.meths.take k).map szMeth).sum) (fun s _ => x.meths.length - (intOf s).toNat)
   case atStart => exact ⟨0, Nat.zero_le _, rfl, _, _, _, _, _, _, _, _, _, unhide HM0, by omega⟩
   case round =>
    clear HM0 HB3 HM3
    obtain ⟨k, hk, rfl, vt, vi, vf, ts, is, fs, cs, cm, nb2, hst2, hnb2⟩ := hrel
    have x2 : wr.cell? ⟨wo.heap.size, 2, none⟩ = some (.slice ma x.meths.length mcap) := hst2.bx.cell 2
    have hszm : ((x.meths.map szMeth).sum) + 4 ≤ szClass x := by unfold szClass; omega
    have MT := hide hst2
    clear hst2
    by_cases hk2 : k < x.meths.length
    ·obtain rfl := hma (ne_nil_of_lt hk2)
     have hkl := (cellNo_mods (b := bh) (n := w.heap.size) (unhide ST).mods (fun k hk e => by omega))
     have hkl2 : GLe (cellNo bh w.heap.size wo) (cellNo bh w.heap.size wr) := cellNo_of_mods (unhide ST).mods (unhide MT).mods (Nat.le_refl _) (fun k hk e => by omega)
     obtain ⟨va, vcd, vfr, hmv, m0, m1, m2, m3, m4, m5, m6⟩ := (unhide HMR k hk2).keep hkl2
     have hml : szMeth x.meths[k] ≤ 1048576 := by
      have := szMeth_le (List.getElem_mem hk2)
      omega
     have hsm := sum_take_succ szMeth hk2
     have hsm2 := sum_take_le szMeth (k + 1) x.meths
     have r0 := cellNo_le bh w.heap.size wr _ _ m0
     have r1 := cellNo_le bh w.heap.size wr _ _ m1
     have r2 := cellNo_le bh w.heap.size wr _ _ m2
     have r3 := cellNo_le bh w.heap.size wr _ _ m3
     have r4 := cellNo_le bh w.heap.size wr _ _ m4
     have r5 := cellNo_le bh w.heap.size wr _ _ m5
     have r6 := cellNo_le bh w.heap.size wr _ _ m6
     generalize hme : x.meths[k] = m at *
     have HME := hide hme
     have HMV := hide hmv
     obtain ⟨ha1, hc1, hf1⟩ := hmv
     obtain ⟨aa, _, _, acap, rfl, _⟩ := sl_open ha1
     obtain ⟨ca, _, _, ccap, rfl, _⟩ := sl_open hc1
     obtain ⟨fra, _, _, frcap, rfl, _⟩ := sl_open hf1
     have tlen := (unhide MT).tl
     have ilen := (unhide MT).il
     have flen := (unhide MT).fl
     clear ha1 hc1 hf1 hme m0 m1 m2 m3 m4 m5 m6 hkl hkl2
     go_wp2_with fail
     refine (lend_method m _ _ _ wr w.heap.size bh cs vt vi vf ts is fs (unhide HMV) (unhide MT).hs hml (by omega) (by omega) (by omega)).mono ?_
     rintro e w5 ⟨g1, gc, gf, rfl, vt5, vi5, vf5, ts5, is5, fs5, cs5, L5⟩
     have MT5 := hide ((unhide MT).call L5)
     have V5 := hide L5.vals
     obtain ⟨u0, y0⟩ := (unhide MT5).cellM (k * 7) (by omega)
     obtain ⟨u1, y1⟩ := (unhide MT5).cellM (k * 7 + 1) (by omega)
     obtain ⟨u2, y2⟩ := (unhide MT5).cellM (k * 7 + 2) (by omega)
     obtain ⟨u3, y3⟩ := (unhide MT5).cellM (k * 7 + 3) (by omega)
     obtain ⟨u4, y4⟩ := (unhide MT5).cellM (k * 7 + 4) (by omega)
     obtain ⟨u5, y5⟩ := (unhide MT5).cellM (k * 7 + 5) (by omega)
     obtain ⟨u6, y6⟩ := (unhide MT5).cellM (k * 7 + 6) (by omega)
     have yf := (unhide MT5).mb.frozen
     clear L5 r0 r1 r2 r3 r4 r5 r6 x2
     go_wp2
     have hme := unhide HME
     have hput := (unhide MT5).put hk2 (va := .slice (some ⟨g1, 0, none⟩) m.args.length (m.args.length + 1)) (vc := .slice (some ⟨gc, 0, none⟩) m.code.length (m.code.length + 1)) (vf0 := .slice (some ⟨gf, 0, none⟩) m.frames.length (m.frames.length + 1)) (by rw [hme]; exact unhide V5)
     rw [hme] at hput
     exact ⟨⟨k + 1, by omega, by go_num, _, _, _, _, _, _, _, _, _, hput, by omega⟩, by simp [intOf]; omega⟩
    ·obtain rfl : k = x.meths.length := by omega
     obtain ⟨ma2, mcap2, hvm⟩ := own_form (unhide MT).m.row
     subst hvm
     obtain ⟨ma3, mcap3, w6, happ, hbh6, hsz6, hX⟩ := (unhide MT).fin (by have := (unhide MT).ml; omega) hms
     unfold setCells7 at happ
     obtain ⟨u0, y0⟩ := (unhide MT).cellM (x.meths.length * 7) (by omega)
     obtain ⟨u1, y1⟩ := (unhide MT).cellM (x.meths.length * 7 + 1) (by omega)
     obtain ⟨u2, y2⟩ := (unhide MT).cellM (x.meths.length * 7 + 2) (by omega)
     obtain ⟨u3, y3⟩ := (unhide MT).cellM (x.meths.length * 7 + 3) (by omega)
     obtain ⟨u4, y4⟩ := (unhide MT).cellM (x.meths.length * 7 + 4) (by omega)
     obtain ⟨u5, y5⟩ := (unhide MT).cellM (x.meths.length * 7 + 5) (by omega)
     obtain ⟨u6, y6⟩ := (unhide MT).cellM (x.meths.length * 7 + 6) (by omega)
     have yf := (unhide MT).mb.frozen
     have hwo := (unhide ST).mods.size
     have hg2 : bh ≠ wo.heap.size + 1 := by omega
     have k3 : wr.cell? ⟨bh, 3, none⟩ = some (.slice ma2 ms.length mcap2) := by rw [(unhide MT).hs.hands.1.cell]; exact (unhide MT).c3
     have v3 : w6.cell? ⟨bh, 3, none⟩ = some (.slice ma2 ms.length mcap2) := by rw [hbh6.cell]; exact (unhide MT).c3
     have v3f := hbh6.frozen 3
     have XT := hide hX
     clear hX hbh6
     go_wp2_with (at_builtin; refine wpList_append_run rfl (.tmp 59) (.tmp 61) 48 rfl _ _ rfl rfl happ ?_)
     generalize w6.setCell ⟨bh, 3, none⟩ (.slice ma3 (ms.length + 1) mcap3) = Y at XT ⊢
     have c0 : Y.cell? ⟨wo.heap.size, 0, none⟩ = some (.int .i64 x.sup) := (unhide XT).bx.cell 0
     have c1 : Y.cell? ⟨wo.heap.size, 1, none⟩ = some (.slice fa x.fields.length fcap) := (unhide XT).bx.cell 1
     have c2 : Y.cell? ⟨wo.heap.size, 2, none⟩ = some (.slice ma x.meths.length mcap) := (unhide XT).bx.cell 2
     have XD := hide (unhide XT).drew
     have HFY := hide (ints_keep ((cellNo_of_mods (unhide ST).mods (unhide XT).mods (Nat.le_refl _) (fun k hk e => by omega)).trans (cellNo_le bh w.heap.size Y)) (unhide HF))
     have tlen := (unhide XT).tl
     have hst9 := sum_take_le szMeth x.meths.length x.meths
     have hgl : wo.heap.size ≠ w.heap.size + 2 := fun e => (unhide MT).lx e.symm
     have hci : (c : Int) < (p.length : Int) + 1 := by omega
     have hcz : (0 : Int) ≤ (c : Int) := by omega
     have hmi : (x.meths.length : Int) ≤ (x.meths.length : Int) + 1 := by omega
     have hmz : (0 : Int) ≤ (x.meths.length : Int) := by omega
     clear y0 y1 y2 y3 y4 y5 y6 yf k3 v3 v3f x2
     go_region_held3 (fun w' => w'.cell? ⟨wo.heap.size, 0, none⟩ = some (.int .i64 x.sup) ∧ w'.cell? ⟨wo.heap.size, 1, none⟩ = some (.slice fa x.fields.length fcap) ∧ w'.cell? ⟨wo.heap.size, 2, none⟩ = some (.slice ma x.meths.length mcap))
      (first | go_keep | (exact ⟨a0, a1, a2⟩) | (exact ⟨(cell_far3 hgl _ _ _ _ _ _ _ _).trans a0, (cell_far3 hgl _ _ _ _ _ _ _ _).trans a1, (cell_far3 hgl _ _ _ _ _ _ _ _).trans a2⟩))
      (first
        | ((go_at_call 83; refine (lend_types x.fields _ Y.drew bh _ _ w.heap.size _ (unhide HFY) (unhide XD).hs.hands (unhide XD).hs.c0 (unhide XD).hs.t.row (unhide XD).hs.le hbh hfl (by omega)).mono ?_); rintro e w7 ⟨g7, rfl, vt7, L7⟩
           have XT7 := hide ((unhide XD).lent hfl L7)
           have a0 : w7.cell? ⟨wo.heap.size, 0, none⟩ = some (.int .i64 x.sup) := (unhide XT7).bx.cell 0
           have a1 : w7.cell? ⟨wo.heap.size, 1, none⟩ = some (.slice fa x.fields.length fcap) := (unhide XT7).bx.cell 1
           have a2 : w7.cell? ⟨wo.heap.size, 2, none⟩ = some (.slice ma x.meths.length mcap) := (unhide XT7).bx.cell 2
           have V7 := hide (ints_of_blk (T := tT) (cap := x.fields.length + 1) L7.blk (by simp) (by omega))
           obtain ⟨u0, z0⟩ := (unhide XT7).cellL (c * 3) (by omega)
           obtain ⟨u1, z1⟩ := (unhide XT7).cellL (c * 3 + 1) (by omega)
           obtain ⟨u2, z2⟩ := (unhide XT7).cellL (c * 3 + 2) (by omega)
           have zf := (unhide XT7).lb.frozen
           clear L7))
     have HPUT := hide ((unhide XT7).put hlt (unhide HXE) (unhide V7))
     go_wp2
     exact ⟨⟨c + 1, by omega, by go_num, _, _, _, _, _, _, _, _, _, _, _, unhide HPUT, by omega⟩, by simp [intOf]; omega⟩
  ·obtain rfl : c = p.length := by omega
   have HBD : Hid (ts.length ≤ 1048576 ∧ is.length ≤ 1048576 ∧ fs.length ≤ 1048576 ∧ ms.length ≤ 1048576 ∧ [(w.heap.size + 2, p.length + 1)].length ≤ 1048576) := by
    have h1 := sum_take_le szClass p.length p
    have h2 : (p.map szClass).sum = szProg p := rfl
    have := (unhide ST).tl
    have := (unhide ST).il
    have := (unhide ST).fl
    have := (unhide ST).ml
    exact ⟨by omega, by omega, by omega, by omega, by simp⟩
   obtain ⟨ca, ccap, w6, happ, hbh6, hb16, hsz6, hP⟩ := (unhide ST).fin hpl
   unfold setCells3 at happ
   obtain ⟨u0, y0⟩ := (unhide ST).cellL (p.length * 3) (by omega)
   obtain ⟨u1, y1⟩ := (unhide ST).cellL (p.length * 3 + 1) (by omega)
   obtain ⟨u2, y2⟩ := (unhide ST).cellL (p.length * 3 + 2) (by omega)
   have yf := (unhide ST).lb.frozen
   have hwr := (unhide ST).mods.size
   have hg2 : bh ≠ w.heap.size + 2 := by omega
   have hg3 : bh ≠ w.heap.size + 1 := by omega
   have k4 : wr.cell? ⟨bh, 4, none⟩ = some (.slice none 0 0) := by rw [(unhide ST).hs.hands.1.cell]; exact (unhide ST).c4
   have v4 : w6.cell? ⟨bh, 4, none⟩ = some (.slice none 0 0) := by rw [hbh6.cell]; exact (unhide ST).c4
   have v4f := hbh6.frozen 4
   have o0 : w6.cell? ⟨w.heap.size + 1, 0, none⟩ = some (.slice none 0 0) := hb16.cell 0
   have o0f := hb16.frozen 0
   have HPP := hide hP
   have HB16 := hide hb16
   clear hP hbh6 hb16
   go_wp2_with (at_builtin; refine wpList_append_run rfl (.tmp 88) (.tmp 90) 49 rfl _ _ rfl rfl happ ?_)
   generalize hZ : (w6.setCell ⟨bh, 4, none⟩ (.slice ca 1 ccap)).setCell ⟨w.heap.size + 1, 0, none⟩ (.slice (some ⟨w.heap.size + 1 + 1, 0, none⟩) p.length (p.length + 1)) = Z
   have hmZ : Mods (fun i => i = w.heap.size + 1) (w6.setCell ⟨bh, 4, none⟩ (.slice ca 1 ccap)) Z := by rw [← hZ]; exact (Mods.refl (fun i => i = w.heap.size + 1) _).setCell (p := ⟨w.heap.size + 1, 0, none⟩) (fun _ => rfl) _
   have s0 : Z.cell? ⟨w.heap.size + 1, 0, none⟩ = some (.slice (some ⟨w.heap.size + 2, 0, none⟩) p.length (p.length + 1)) := by rw [← hZ]; exact (((unhide HB16).setCell_ne (p := ⟨bh, 4, none⟩) (fun e => hg3 e.symm) (.slice ca 1 ccap)).setCell 0 (.slice (some ⟨w.heap.size + 2, 0, none⟩) p.length (p.length + 1))).cell 0
   exact bodyPost_ret (v := .agg #[.slice (some ⟨w.heap.size + 2, 0, none⟩) p.length (p.length + 1)]) (by simp [results, Tryz.results42, go_sem, s0]) rfl ⟨w.heap.size + 2, rfl, _, _, _, _, _, _, _, _, _, _, _, unhide HPP Z hmZ, unhide HBD⟩
end Go.Proofs.YtiiokkllmchohaaGreat
namespace Go.Proofs.YtiiokkllmchohaaGreat
open Go.RowKit
def Ents (es : List (Nat × Nat)) (i : Nat) (k : Nat) : Prop := ∃ e ∈ es.take i, e.1 = k
theorem Ents.mem {es : List (Nat × Nat)} {i k : Nat} (h : Ents es i k) : ∃ e ∈ es, e.1 = k := by
 obtain ⟨e, he, hk⟩ := h
 exact ⟨e, List.mem_of_mem_take he, hk⟩
theorem Ents.succ {es : List (Nat × Nat)} {i k : Nat} (h : Ents es i k) : Ents es (i + 1) k := by
 obtain ⟨e, he, hk⟩ := h
 exact ⟨e, by rw [List.take_add_one]; exact List.mem_append_left _ he, hk⟩
theorem Ents.last {es : List (Nat × Nat)} {i : Nat} (hi : i < es.length) : Ents es (i + 1) es[i].1 :=
 ⟨es[i], by rw [List.mem_iff_getElem]; exact ⟨i, by rw [List.length_take]; omega, by rw [List.getElem_take]⟩, rfl⟩
theorem Ents.not_at {es : List (Nat × Nat)} {i : Nat} (hn : (es.map Prod.fst).Nodup) (hi : i < es.length) : ¬ Ents es i es[i].1 := by
 rintro ⟨e, he, hk⟩
 obtain ⟨j, hj, rfl⟩ := List.getElem_of_mem he
 rw [List.length_take] at hj
 rw [List.getElem_take] at hk
 have := List.getElem_inj (h₀ := by simp; omega) (h₁ := by simpa using hi) hn (i := j) (j := i)
 have h2 : (es.map Prod.fst)[j]'(by simp; omega) = (es.map Prod.fst)[i]'(by simpa using hi) := by simpa using hk
 have h3 := this.1 h2
 omega

theorem InL.at {w : World} {B : Nat} {eo ei : TypeId} {sz : Nat} {lastv : List Value} {v : Value} {es : List (Nat × Nat)} (h : InL w B eo ei sz lastv v es) {i : Nat} (hi : i < es.length) :
  ∃ g cap, v = .slice (some ⟨g, 0, none⟩) es.length cap ∧ B ≤ g ∧ (∃ c, Blk w g eo c) ∧ w.cell? ⟨g, i, none⟩ = some (slOf es[i]) := by
 rcases h.row.2 with ⟨_, h0⟩ | ⟨g, cap, cur, hv, hb, hg, hnc, _, hcs, htk⟩
 ·omega
 ·subst hv
  refine ⟨g, cap, rfl, hb, own_blk h.row rfl, ?_⟩
  have h1 : (es.map slOf)[i]? = some (slOf es[i]) := by rw [List.getElem?_map, List.getElem?_eq_getElem hi]; rfl
  rw [← htk, List.getElem?_take] at h1
  unfold World.cell?
  simp only [hg]
  split at h1
  ·simpa using h1
  ·cases h1
theorem InL.ent' {w : World} {B : Nat} {eo ei : TypeId} {sz : Nat} {lastv : List Value} {v : Value} {es : List (Nat × Nat)} (h : InL w B eo ei sz lastv v es) {i : Nat} (hi : i < es.length) :
  ∃ b m cs, es[i] = (b, m + 1) ∧ B ≤ b ∧ m ≤ 1048576 ∧ Blk w b ei cs ∧ cs.length = (m + 1) * sz ∧ cs.drop (m * sz) = lastv := by
 obtain ⟨h1, h2, h3, cs, h4, h5, h6⟩ := h.ent _ (List.getElem_mem hi)
 generalize es[i] = e at *
 obtain ⟨b, n⟩ := e
 simp only at h1 h2 h3 h4 h5 h6
 obtain ⟨m, rfl⟩ : ∃ m, n = m + 1 := ⟨n - 1, by omega⟩
 exact ⟨b, m, cs, rfl, h1, by omega, h4, h5, by simpa using h6⟩
theorem blk_cell {w : World} {b : Nat} {t : TypeId} {cs : List Value} (h : Blk w b t cs) {i : Nat} (hi : i < cs.length) : ∃ u, w.cell? ⟨b, i, none⟩ = some u := ⟨cs[i], by rw [h.cell]; exact List.getElem?_eq_getElem hi⟩
theorem drop_get {α : Type} {l r : List α} {k j : Nat} (h : l.drop k = r) : l[k + j]? = r[j]? := by rw [← h, List.getElem?_drop]

set_option maxHeartbeats 4000000 in
set_option maxRecDepth 100000 in
theorem law_outerE (w : World) (B E bh : Nat) (cs : List Value) (vf vm vc : Value) (fs ms ks : List (Nat × Nat)) (hh : HBlk w bh cs) (hbB : bh < B) (c2 : cs[2]? = some vf) (c3 : cs[3]? = some vm) (c4 : cs[4]? = some vc) (hF : InF w B vf fs) (hM : InM w B vm ms) (hC : InC w B vc ks)
  (hfs : fs.length ≤ 16777216) (hms : ms.length ≤ 16777216) (hks : ks.length ≤ 16777216) (efs : ∀ e ∈ fs, e.1 < E) (ems : ∀ e ∈ ms, e.1 < E) (eks : ∀ e ∈ ks, e.1 < E) :
  Calls Tryz.prog 84 #[.pointer (some ⟨bh, 0, none⟩)] w fun e w' => e = .returned (.bool true) ∧ Mods (fun k => B ≤ k ∧ k < E) w w' := by
 obtain ⟨ffa, ffcap, hvf⟩ := own_form hF.row
 obtain ⟨mma, mmcap, hvm⟩ := own_form hM.row
 obtain ⟨cca, cccap, hvc⟩ := own_form hC.row
 subst hvf hvm hvc
 have HB := hide hh.1
 have HF := hide hF
 have HM := hide hM
 have HC := hide hC
 have k2 : w.cell? ⟨bh, 2, none⟩ = some (.slice ffa fs.length ffcap) := by rw [hh.1.cell]; exact c2
 have k3 : w.cell? ⟨bh, 3, none⟩ = some (.slice mma ms.length mmcap) := by rw [hh.1.cell]; exact c3
 have k4 : w.cell? ⟨bh, 4, none⟩ = some (.slice cca ks.length cccap) := by rw [hh.1.cell]; exact c4
 clear hh hF hM hC c2 c3 c4
 go_enter Tryz.func84, Tryz.ntmps84
 go_wp2_with fail
 go_loopw [3, 4] (fun s3 s4 wr => ∃ i : Nat, i ≤ fs.length ∧ s4 = .int .i64 i ∧ s3 = .bool true ∧ Mods (Ents fs i) w wr) (fun _ s4 _ => fs.length - (intOf s4).toNat)
 case atStart => exact ⟨0, Nat.zero_le _, rfl, rfl, Mods.refl _ _⟩
 case round =>
  obtain ⟨i, hi, rfl, rfl, hmo⟩ := hrel
  have hbne : ∀ i, ¬ Ents fs i bh := fun i h => by
   obtain ⟨e, he, hk⟩ := h.mem
   have := ((unhide HF).ent e he).1; have := efs e he
   omega
  have q2 := hmo.cell k2 (hbne i)
  by_cases hlt : i < fs.length
  ·obtain ⟨g, cap, hv, hg, ⟨cg, hgb⟩, hrow⟩ := (unhide HF).at hlt
   obtain ⟨b, m, ce, hei, hb, hm, hbe, hce, hdr⟩ := (unhide HF).ent' hlt
   injection hv with hv1 _ hv2
   subst hv1 hv2
   have hgne : ¬ Ents fs i g := fun h => by
    obtain ⟨e, he, hk⟩ := h.mem
    obtain ⟨_, _, _, c, h4, _⟩ := (unhide HF).ent e he
    rw [hk] at h4
    exact absurd (h4.uniq hgb) (by decide)
   have hbnot : ¬ Ents fs i b := by
    have := Ents.not_at (unhide HF).nodup hlt
    rwa [hei] at this
   have q3 := hmo.cell hrow hgne
   rw [hei] at q3
   unfold slOf at q3
   simp only at q3
   have hbw := hbe.mods hmo hbnot
   have l0 : wr.cell? ⟨b, m * 3, none⟩ = some (.int .i64 (-77000000)) := by rw [hbw.cell]; exact (drop_get (j := 0) hdr)
   have l1 : wr.cell? ⟨b, m * 3 + 1, none⟩ = some (.slice none 0 0) := by rw [hbw.cell]; exact (drop_get (j := 1) hdr)
   have l2 : wr.cell? ⟨b, m * 3 + 2, none⟩ = some (.slice none 0 0) := by rw [hbw.cell]; exact (drop_get (j := 2) hdr)
   have HEI := hide hei
   have HBW := hide hbw
   have HCE := hide hce
   have HMO := hide hmo
   have hbl := hbw.lt
   clear hei hbw hmo hrow hgb hbe hdr hce
   obtain ⟨wo, rfl⟩ : ∃ wo : World, wo = wr := ⟨_, rfl⟩
   go_wp2_with fail
   generalize hY : wo.alloc _ = Y
   have hmY : Mods (fun _ => False) wo Y := by rw [← hY]; exact (Mods.refl _ _).alloc _
   clear hY
   go_loopw [7] (fun s wi => ∃ k : Nat, k ≤ m + 1 ∧ s = .int .i64 k ∧ (∃ c, Blk wi b 42 c ∧ c.length = (m + 1) * 3) ∧ Mods (fun k => k = b) Y wi) (fun s _ => m + 1 - (intOf s).toNat)
   case atStart => exact ⟨0, Nat.zero_le _, rfl, ⟨_, (unhide HBW).mods hmY (fun f => f), unhide HCE⟩, Mods.refl _ _⟩
   case round =>
    obtain ⟨k, hk, rfl, ⟨cc, hcc, hcl⟩, hmi⟩ := hrel
    have HCC := hide hcc
    have HMI := hide hmi
    have HCL := hide hcl
    by_cases hk2 : k < m + 1
    ·obtain ⟨u0, y0⟩ := blk_cell hcc (i := k * 3) (by omega)
     obtain ⟨u1, y1⟩ := blk_cell hcc (i := k * 3 + 1) (by omega)
     obtain ⟨u2, y2⟩ := blk_cell hcc (i := k * 3 + 2) (by omega)
     have yf := hcc.frozen
     clear hcc hmi l0 l1 l2 q2 q3 hcl
     go_wp2_with fail
     exact ⟨⟨k + 1, by omega, by go_num, ⟨_, setCells3_blk (unhide HCC) _ _ _, by rw [set3_len]; exact unhide HCL⟩, (unhide HMI).trans (setCells3_mods _ _ _ _ _ _) (fun _ _ e => e)⟩, by simp [intOf]; omega⟩
    ·go_wp2_with fail
     have hlast := Ents.last hlt
     rw [unhide HEI] at hlast
     exact ⟨⟨i + 1, by omega, by go_num, rfl, (((unhide HMO).mono (fun _ _ e => e.succ)).trans hmY (fun _ _ f => f.elim)).trans (unhide HMI) (fun _ _ e => e ▸ hlast)⟩, by simp [intOf]; omega⟩
  ·obtain rfl : i = fs.length := by omega
   have HMO := hide hmo
   go_wp2_with fail
   clear q2
   have hnot : ∀ {k t c}, Blk w k t c → t ≠ 42 → ¬ Ents fs fs.length k := fun hb ht h => by
    obtain ⟨e, he, hk⟩ := h.mem
    obtain ⟨_, _, _, c, h4, _⟩ := (unhide HF).ent e he
    rw [hk] at h4
    exact ht (hb.uniq h4)
   have HM2 := hide ((unhide HM).mods hmo (fun k c hb => hnot hb (by decide)) (fun k c hb => hnot hb (by decide)))
   have HC2 := hide ((unhide HC).mods hmo (fun k c hb => hnot hb (by decide)) (fun k c hb => hnot hb (by decide)))
   have k3b := hmo.cell k3 (hbne _)
   have k4b := hmo.cell k4 (hbne _)
   have HMA : Hid (Mods (fun k => B ≤ k ∧ k < E) w wr) := hmo.mono (fun k _ h => by
    obtain ⟨e, he, hk⟩ := h.mem
    have := ((unhide HF).ent e he).1; have := efs e he
    omega)
   clear hmo hnot HMO hbne k2 k3 k4
   obtain ⟨W2, rfl⟩ : ∃ W2 : World, W2 = wr := ⟨_, rfl⟩
   go_loopw [3, 8] (fun s3 s4 wr => ∃ i : Nat, i ≤ ms.length ∧ s4 = .int .i64 i ∧ s3 = .bool true ∧ Mods (Ents ms i) W2 wr) (fun _ s4 _ => ms.length - (intOf s4).toNat)
   case atStart => exact ⟨0, Nat.zero_le _, rfl, rfl, Mods.refl _ _⟩
   case round =>
    obtain ⟨i, hi, rfl, rfl, hmo⟩ := hrel
    have hbne : ∀ i, ¬ Ents ms i bh := fun i h => by
     obtain ⟨e, he, hk⟩ := h.mem
     have := ((unhide HM2).ent e he).1; have := ems e he
     omega
    have q2 := hmo.cell k3b (hbne i)
    by_cases hlt : i < ms.length
    ·obtain ⟨g, cap, hv, hg, ⟨cg, hgb⟩, hrow⟩ := (unhide HM2).at hlt
     obtain ⟨b, m, ce, hei, hb, hm, hbe, hce, hdr⟩ := (unhide HM2).ent' hlt
     injection hv with hv1 _ hv2
     subst hv1 hv2
     have hgne : ¬ Ents ms i g := fun h => by
      obtain ⟨e, he, hk⟩ := h.mem
      obtain ⟨_, _, _, c, h4, _⟩ := (unhide HM2).ent e he
      rw [hk] at h4
      exact absurd (h4.uniq hgb) (by decide)
     have hbnot : ¬ Ents ms i b := by
      have := Ents.not_at (unhide HM2).nodup hlt
      rwa [hei] at this
     have q3 := hmo.cell hrow hgne
     rw [hei] at q3
     unfold slOf at q3
     simp only at q3
     have hbw := hbe.mods hmo hbnot
     have l0 : wr.cell? ⟨b, m * 7, none⟩ = some (.int .i64 (-77000000)) := by rw [hbw.cell]; exact (drop_get (j := 0) hdr)
     have l1 : wr.cell? ⟨b, m * 7 + 1, none⟩ = some (.slice none 0 0) := by rw [hbw.cell]; exact (drop_get (j := 1) hdr)
     have l2 : wr.cell? ⟨b, m * 7 + 2, none⟩ = some (.int .i64 0) := by rw [hbw.cell]; exact (drop_get (j := 2) hdr)
     have l3 : wr.cell? ⟨b, m * 7 + 3, none⟩ = some (.int .i64 0) := by rw [hbw.cell]; exact (drop_get (j := 3) hdr)
     have l4 : wr.cell? ⟨b, m * 7 + 4, none⟩ = some (.int .i64 0) := by rw [hbw.cell]; exact (drop_get (j := 4) hdr)
     have l5 : wr.cell? ⟨b, m * 7 + 5, none⟩ = some (.slice none 0 0) := by rw [hbw.cell]; exact (drop_get (j := 5) hdr)
     have l6 : wr.cell? ⟨b, m * 7 + 6, none⟩ = some (.slice none 0 0) := by rw [hbw.cell]; exact (drop_get (j := 6) hdr)
     have HEI := hide hei
     have HBW := hide hbw
     have HCE := hide hce
     have HMO := hide hmo
     have hbl := hbw.lt
     clear hei hbw hmo hrow hgb hbe hdr hce
     obtain ⟨wo, rfl⟩ : ∃ wo : World, wo = wr := ⟨_, rfl⟩
     go_wp2_with fail
     generalize hY : wo.alloc _ = Y
     have hmY : Mods (fun _ => False) wo Y := by rw [← hY]; exact (Mods.refl _ _).alloc _
     clear hY
     go_loopw [11] (fun s wi => ∃ k : Nat, k ≤ m + 1 ∧ s = .int .i64 k ∧ (∃ c, Blk wi b 63 c ∧ c.length = (m + 1) * 7) ∧ Mods (fun k => k = b) Y wi) (fun s _ => m + 1 - (intOf s).toNat)
     case atStart => exact ⟨0, Nat.zero_le _, rfl, ⟨_, (unhide HBW).mods hmY (fun f => f), unhide HCE⟩, Mods.refl _ _⟩
     case round =>
      obtain ⟨k, hk, rfl, ⟨cc, hcc, hcl⟩, hmi⟩ := hrel
      have HCC := hide hcc
      have HMI := hide hmi
      have HCL := hide hcl
      by_cases hk2 : k < m + 1
      ·obtain ⟨u0, y0⟩ := blk_cell hcc (i := k * 7) (by omega)
       obtain ⟨u1, y1⟩ := blk_cell hcc (i := k * 7 + 1) (by omega)
       obtain ⟨u2, y2⟩ := blk_cell hcc (i := k * 7 + 2) (by omega)
       obtain ⟨u3, y3⟩ := blk_cell hcc (i := k * 7 + 3) (by omega)
       obtain ⟨u4, y4⟩ := blk_cell hcc (i := k * 7 + 4) (by omega)
       obtain ⟨u5, y5⟩ := blk_cell hcc (i := k * 7 + 5) (by omega)
       obtain ⟨u6, y6⟩ := blk_cell hcc (i := k * 7 + 6) (by omega)
       have yf := hcc.frozen
       clear hcc hmi l0 l1 l2 l3 l4 l5 l6 q2 q3 hcl
       go_wp2_with fail
       exact ⟨⟨k + 1, by omega, by go_num, ⟨_, setCells7_blk (unhide HCC) _ _ _ _ _ _ _, by rw [set7_len]; exact unhide HCL⟩, (unhide HMI).trans (setCells7_mods _ _ _ _ _ _ _ _ _ _) (fun _ _ e => e)⟩, by simp [intOf]; omega⟩
      ·go_wp2_with fail
       have hlast := Ents.last hlt
       rw [unhide HEI] at hlast
       exact ⟨⟨i + 1, by omega, by go_num, rfl, (((unhide HMO).mono (fun _ _ e => e.succ)).trans hmY (fun _ _ f => f.elim)).trans (unhide HMI) (fun _ _ e => e ▸ hlast)⟩, by simp [intOf]; omega⟩
    ·obtain rfl : i = ms.length := by omega
     have HMO := hide hmo
     go_wp2_with fail
     clear q2
     have hnot : ∀ {k t c}, Blk W2 k t c → t ≠ 63 → ¬ Ents ms ms.length k := fun hb ht h => by
      obtain ⟨e, he, hk⟩ := h.mem
      obtain ⟨_, _, _, c, h4, _⟩ := (unhide HM2).ent e he
      rw [hk] at h4
      exact ht (hb.uniq h4)
     have HC3 := hide ((unhide HC2).mods hmo (fun k c hb => hnot hb (by decide)) (fun k c hb => hnot hb (by decide)))
     have k4c := hmo.cell k4b (hbne _)
     have HMB : Hid (Mods (fun k => B ≤ k ∧ k < E) w wr) := (unhide HMA).trans hmo (fun k _ h => by
      obtain ⟨e, he, hk⟩ := h.mem
      have := ((unhide HM2).ent e he).1; have := ems e he
      omega)
     clear hmo hnot HMO hbne k3b k4b
     obtain ⟨W3, rfl⟩ : ∃ W3 : World, W3 = wr := ⟨_, rfl⟩
     go_loopw [3, 12] (fun s3 s4 wr => ∃ i : Nat, i ≤ ks.length ∧ s4 = .int .i64 i ∧ s3 = .bool true ∧ Mods (Ents ks i) W3 wr) (fun _ s4 _ => ks.length - (intOf s4).toNat)
     case atStart => exact ⟨0, Nat.zero_le _, rfl, rfl, Mods.refl _ _⟩
     case round =>
      obtain ⟨i, hi, rfl, rfl, hmo⟩ := hrel
      have hbne : ∀ i, ¬ Ents ks i bh := fun i h => by
       obtain ⟨e, he, hk⟩ := h.mem
       have := ((unhide HC3).ent e he).1; have := eks e he
       omega
      have q2 := hmo.cell k4c (hbne i)
      by_cases hlt : i < ks.length
      ·obtain ⟨g, cap, hv, hg, ⟨cg, hgb⟩, hrow⟩ := (unhide HC3).at hlt
       obtain ⟨b, m, ce, hei, hb, hm, hbe, hce, hdr⟩ := (unhide HC3).ent' hlt
       injection hv with hv1 _ hv2
       subst hv1 hv2
       have hgne : ¬ Ents ks i g := fun h => by
        obtain ⟨e, he, hk⟩ := h.mem
        obtain ⟨_, _, _, c, h4, _⟩ := (unhide HC3).ent e he
        rw [hk] at h4
        exact absurd (h4.uniq hgb) (by decide)
       have hbnot : ¬ Ents ks i b := by
        have := Ents.not_at (unhide HC3).nodup hlt
        rwa [hei] at this
       have q3 := hmo.cell hrow hgne
       rw [hei] at q3
       unfold slOf at q3
       simp only at q3
       have hbw := hbe.mods hmo hbnot
       have l0 : wr.cell? ⟨b, m * 3, none⟩ = some (.int .i64 (-77000000)) := by rw [hbw.cell]; exact (drop_get (j := 0) hdr)
       have l1 : wr.cell? ⟨b, m * 3 + 1, none⟩ = some (.slice none 0 0) := by rw [hbw.cell]; exact (drop_get (j := 1) hdr)
       have l2 : wr.cell? ⟨b, m * 3 + 2, none⟩ = some (.slice none 0 0) := by rw [hbw.cell]; exact (drop_get (j := 2) hdr)
       have HEI := hide hei
       have HBW := hide hbw
       have HCE := hide hce
       have HMO := hide hmo
       have hbl := hbw.lt
       clear hei hbw hmo hrow hgb hbe hdr hce
       obtain ⟨wo, rfl⟩ : ∃ wo : World, wo = wr := ⟨_, rfl⟩
       go_wp2_with fail
       generalize hY : wo.alloc _ = Y
       have hmY : Mods (fun _ => False) wo Y := by rw [← hY]; exact (Mods.refl _ _).alloc _
       clear hY
       go_loopw [15] (fun s wi => ∃ k : Nat, k ≤ m + 1 ∧ s = .int .i64 k ∧ (∃ c, Blk wi b 66 c ∧ c.length = (m + 1) * 3) ∧ Mods (fun k => k = b) Y wi) (fun s _ => m + 1 - (intOf s).toNat)
       case atStart => exact ⟨0, Nat.zero_le _, rfl, ⟨_, (unhide HBW).mods hmY (fun f => f), unhide HCE⟩, Mods.refl _ _⟩
       case round =>
        obtain ⟨k, hk, rfl, ⟨cc, hcc, hcl⟩, hmi⟩ := hrel
        have HCC := hide hcc
        have HMI := hide hmi
        have HCL := hide hcl
        by_cases hk2 : k < m + 1
        ·obtain ⟨u0, y0⟩ := blk_cell hcc (i := k * 3) (by omega)
         obtain ⟨u1, y1⟩ := blk_cell hcc (i := k * 3 + 1) (by omega)
         obtain ⟨u2, y2⟩ := blk_cell hcc (i := k * 3 + 2) (by omega)
         have yf := hcc.frozen
         clear hcc hmi l0 l1 l2 q2 q3 hcl
         go_wp2_with fail
         exact ⟨⟨k + 1, by omega, by go_num, ⟨_, setCells3_blk (unhide HCC) _ _ _, by rw [set3_len]; exact unhide HCL⟩, (unhide HMI).trans (setCells3_mods _ _ _ _ _ _) (fun _ _ e => e)⟩, by simp [intOf]; omega⟩
        ·go_wp2_with fail
         have hlast := Ents.last hlt
         rw [unhide HEI] at hlast
         exact ⟨⟨i + 1, by omega, by go_num, rfl, (((unhide HMO).mono (fun _ _ e => e.succ)).trans hmY (fun _ _ f => f.elim)).trans (unhide HMI) (fun _ _ e => e ▸ hlast)⟩, by simp [intOf]; omega⟩
      ·obtain rfl : i = ks.length := by omega
       have HMO := hide hmo
       go_wp2_with fail
       go_ret
       exact ⟨rfl, (unhide HMB).trans hmo (fun k _ h => by
        obtain ⟨e, he, hk⟩ := h.mem
        have := ((unhide HC3).ent e he).1; have := eks e he
        omega)⟩
end Go.Proofs.YtiiokkllmchohaaGreat
