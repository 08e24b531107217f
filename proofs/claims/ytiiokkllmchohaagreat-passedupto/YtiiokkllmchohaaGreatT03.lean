/- Walk of the document's answer: may an instruction be? -/
import Derived.Test.YtiiokkllmchohaaGreatT01
import Derived.Test.YtiiokkllmchohaaGreatT02
namespace Go.Proofs.YtiiokkllmchohaaGreat
open Go.RowKit
attribute [local go_sem ↓] Go.wp_at_zero Go.wp_at_succ
theorem box3_below (w : World) (o o' o'' : Obj) : Below w.heap.size w (((w.alloc o).alloc o').alloc o'') := (box2_below w o o').alloc (box2_below w o o').size _
theorem box3_1 (w : World) (cs : Array Value) (t : TypeId) (o' o'' : Obj) (i : Nat) : (((w.alloc (.cells cs t)).alloc o').alloc o'').cell? ⟨w.heap.size, i, none⟩ = cs[i]? := by
 rw [World.cell?_alloc_lt _ _ _ (by simp; omega)]; exact box2_fst w cs t o' i
theorem box3_3 (w : World) (o o' : Obj) (cs : Array Value) (t : TypeId) (i : Nat) : (((w.alloc o).alloc o').alloc (.cells cs t)).cell? ⟨w.heap.size + 2, i, none⟩ = cs[i]? := by
 have := box_cell ((w.alloc o).alloc o') cs t i
 rwa [show ((w.alloc o).alloc o').heap.size = w.heap.size + 2 by simp] at this

def insArgs (vc : Value) (m : LMeth) (aa ca fa : Option Addr) (al acap ccap fl fcap : Nat) (op a b : Int) : Array Value :=
 #[.agg #[vc], .agg #[.int .i64 m.slot, .slice aa al acap, .int .i64 m.ret, .int .i64 m.locals, .int .i64 m.stack, .slice ca m.code.length ccap, .slice fa fl fcap], .agg #[.int .i64 op, .int .i64 a, .int .i64 b]]

set_option maxHeartbeats 4000000 in
set_option maxRecDepth 100000 in
theorem ref_ins_plain (p : List LClass) (vc : Value) (m : LMeth) (aa ca fa : Option Addr) (al acap ccap fl fcap : Nat) (op a b : Int) (w : World) (hp : RProg w vc p) (hz : szProg p ≤ 4194304) (_hcl : m.code.length ≤ 4194304)
  (h10 : op ≠ 10) (h11 : op ≠ 11) (h12 : op ≠ 12) :
  Calls Tryz.prog 149 (insArgs vc m aa ca fa al acap ccap fl fcap op a b) w fun e w' => e = .returned (.bool (insB p m ⟨op, a, b⟩)) ∧ Below w.heap.size w w' := by
 have hpl : p.length ≤ 4194304 := Nat.le_trans (szProg_len p) hz
 obtain ⟨pa, pb, poff, pcap, rfl, hpcap, hpa, hpr⟩ := sl_open hp
 clear hpr hpa
 unfold insArgs
 by_cases h0 : op = 0
 ·subst h0
  go_enter Tryz.func149, Tryz.ntmps149
  go_wp2
  go_ret
  exact ⟨ret_bool (by simp [insB]), box3_below _ _ _ _⟩
 by_cases h1 : op = 1
 ·subst h1
  cases hpl : placeB a m.locals
  ·go_enter Tryz.func149, Tryz.ntmps149
   go_wp2_with (go_at_call 200; refine (ref_place _ _ _).mono ?_; rintro e w' ⟨rfl, rfl⟩)
   go_ret
   exact ⟨ret_bool (by simp [insB, hpl]), box3_below _ _ _ _⟩
  ·go_enter Tryz.func149, Tryz.ntmps149
   go_wp2_with (go_at_call 200; refine (ref_place _ _ _).mono ?_; rintro e w' ⟨rfl, rfl⟩)
   go_ret
   exact ⟨ret_bool (by simp [insB, hpl]), box3_below _ _ _ _⟩
 by_cases h2 : op = 2
 ·subst h2
  cases hpl : placeB a m.locals
  ·go_enter Tryz.func149, Tryz.ntmps149
   go_wp2_with (go_at_call 200; refine (ref_place _ _ _).mono ?_; rintro e w' ⟨rfl, rfl⟩)
   go_ret
   exact ⟨ret_bool (by simp [insB, hpl]), box3_below _ _ _ _⟩
  ·go_enter Tryz.func149, Tryz.ntmps149
   go_wp2_with (go_at_call 200; refine (ref_place _ _ _).mono ?_; rintro e w' ⟨rfl, rfl⟩)
   go_ret
   exact ⟨ret_bool (by simp [insB, hpl]), box3_below _ _ _ _⟩
 by_cases h7 : op = 7
 ·subst h7
  cases hpl : placeB a m.code.length
  ·go_enter Tryz.func149, Tryz.ntmps149
   go_wp2_with (go_at_call 200; refine (ref_place _ _ _).mono ?_; rintro e w' ⟨rfl, rfl⟩)
   go_ret
   exact ⟨ret_bool (by simp [insB, hpl]), box3_below _ _ _ _⟩
  ·go_enter Tryz.func149, Tryz.ntmps149
   go_wp2_with (go_at_call 200; refine (ref_place _ _ _).mono ?_; rintro e w' ⟨rfl, rfl⟩)
   go_ret
   exact ⟨ret_bool (by simp [insB, hpl]), box3_below _ _ _ _⟩
 by_cases h8 : op = 8
 ·subst h8
  cases hpl : placeB a m.code.length
  ·go_enter Tryz.func149, Tryz.ntmps149
   go_wp2_with (go_at_call 200; refine (ref_place _ _ _).mono ?_; rintro e w' ⟨rfl, rfl⟩)
   go_ret
   exact ⟨ret_bool (by simp [insB, hpl]), box3_below _ _ _ _⟩
  ·go_enter Tryz.func149, Tryz.ntmps149
   go_wp2_with (go_at_call 200; refine (ref_place _ _ _).mono ?_; rintro e w' ⟨rfl, rfl⟩)
   go_ret
   exact ⟨ret_bool (by simp [insB, hpl]), box3_below _ _ _ _⟩
 by_cases h18 : op = 18
 ·subst h18
  cases hpl : placeB a m.code.length
  ·go_enter Tryz.func149, Tryz.ntmps149
   go_wp2_with (go_at_call 200; refine (ref_place _ _ _).mono ?_; rintro e w' ⟨rfl, rfl⟩)
   go_ret
   exact ⟨ret_bool (by simp [insB, hpl]), box3_below _ _ _ _⟩
  ·go_enter Tryz.func149, Tryz.ntmps149
   go_wp2_with (go_at_call 200; refine (ref_place _ _ _).mono ?_; rintro e w' ⟨rfl, rfl⟩)
   go_ret
   exact ⟨ret_bool (by simp [insB, hpl]), box3_below _ _ _ _⟩
 by_cases h9 : op = 9
 ·subst h9
  cases hpl : placeB a p.length
  ·go_enter Tryz.func149, Tryz.ntmps149
   go_wp2_with (go_at_call 200; refine (ref_place _ _ _).mono ?_; rintro e w' ⟨rfl, rfl⟩)
   go_ret
   exact ⟨ret_bool (by simp [insB, hpl]), box3_below _ _ _ _⟩
  ·go_enter Tryz.func149, Tryz.ntmps149
   go_wp2_with (go_at_call 200; refine (ref_place _ _ _).mono ?_; rintro e w' ⟨rfl, rfl⟩)
   go_ret
   exact ⟨ret_bool (by simp [insB, hpl]), box3_below _ _ _ _⟩
 by_cases h17 : op = 17
 ·subst h17
  cases hpl : placeB a p.length
  ·go_enter Tryz.func149, Tryz.ntmps149
   go_wp2_with (go_at_call 200; refine (ref_place _ _ _).mono ?_; rintro e w' ⟨rfl, rfl⟩)
   go_ret
   exact ⟨ret_bool (by simp [insB, hpl]), box3_below _ _ _ _⟩
  ·go_enter Tryz.func149, Tryz.ntmps149
   go_wp2_with (go_at_call 200; refine (ref_place _ _ _).mono ?_; rintro e w' ⟨rfl, rfl⟩)
   go_ret
   exact ⟨ret_bool (by simp [insB, hpl]), box3_below _ _ _ _⟩
 have hdef : insB p m ⟨op, a, b⟩ = (placeB op 21 && a == 0 && b == 0) := by
  unfold insB
  simp only [h0, h1, h2, h7, h8, h18, h9, h17, h10, h11, h12, or_self, if_false]
 have HD := hide hdef
 clear hdef
 cases hpl : placeB op 21
 ·go_enter Tryz.func149, Tryz.ntmps149
  go_wp2_with (go_at_call 200; refine (ref_place _ _ _).mono ?_; rintro e w' ⟨rfl, rfl⟩)
  go_ret
  exact ⟨ret_bool (by rw [unhide HD, hpl]; rfl), box3_below _ _ _ _⟩
 ·cases ha0 : (a == 0)
  ·go_enter Tryz.func149, Tryz.ntmps149
   go_wp2_with (go_at_call 200; refine (ref_place _ _ _).mono ?_; rintro e w' ⟨rfl, rfl⟩)
   go_ret
   exact ⟨ret_bool (by rw [unhide HD, hpl, ha0]; rfl), box3_below _ _ _ _⟩
  ·go_enter Tryz.func149, Tryz.ntmps149
   go_wp2_with (go_at_call 200; refine (ref_place _ _ _).mono ?_; rintro e w' ⟨rfl, rfl⟩)
   go_ret
   exact ⟨ret_bool (by rw [unhide HD, hpl, ha0]; rfl), box3_below _ _ _ _⟩
end Go.Proofs.YtiiokkllmchohaaGreat
namespace Go.Proofs.YtiiokkllmchohaaGreat
open Go.RowKit
theorem infoIns : (Tryz.prog.info? 60).map (fun i => (i.zero, i.size, i.bytes)) = some (some (.agg #[.int .i64 0, .int .i64 0, .int .i64 0]), 3, 24) := by kernel_rfl
theorem infoInss : (Tryz.prog.info? 61).map (fun i => (i.zero, i.size, i.bytes)) = some (some (.slice none 0 0), 1, 24) := by kernel_rfl
theorem infoFrame : (Tryz.prog.info? 42).map (fun i => (i.zero, i.size, i.bytes)) = some (some (.agg #[.int .i64 0, .slice none 0 0, .slice none 0 0]), 3, 56) := by kernel_rfl
theorem infoFrames : (Tryz.prog.info? 36).map (fun i => (i.zero, i.size, i.bytes)) = some (some (.slice none 0 0), 1, 24) := by kernel_rfl

theorem lend_code {X w2 : World} {B bh : Nat} {cs : List Value} {vt vf : Value} {ia : Option Addr} {icap : Nat} {ts is fs : List (Nat × Nat)} (h : HS X B bh cs vt (.slice ia is.length icap) vf ts is fs) (l : List LIns) (ca : Option Addr) (ccap : Nat)
  (hnil : ca = none → l.length = 0 ∧ ccap = 0) (hsrc : ∀ ad, ca = some ad → ∀ (j : Nat) (u : Value), (codeCells l)[j]? = some u → X.cell? (ad.add j) = some u) (hl : l.length ≤ 1048576) (his : is.length + 1 ≤ 16777216)
  (hb2 : Blk w2 X.heap.size 60 (madeCells (Value.agg #[.int .i64 0, .int .i64 0, .int .i64 0]).cells ((l.length + 1) * 3)).toList) (hm2 : Mods (fun _ => False) X w2) (hs2 : w2.heap.size = X.heap.size + 1) :
  ∃ w3, (Builtin.copy_ #[61, 61] 3 #[.slice (some ⟨X.heap.size, 0, none⟩) (l.length + 1) (l.length + 1), .slice ca l.length ccap]).run Tryz.prog w2 = .ok (goInt l.length) w3 ∧
   Mods (fun _ => False) X w3 ∧ w3.heap.size = X.heap.size + 1 ∧ (∃ c3, Blk w3 X.heap.size 60 c3 ∧ c3.length = (l.length + 1) * 3) ∧
   ∃ ia' icap' w4, (Builtin.append_ #[46, 46] 46 #[.slice ia is.length icap, .slice (some ⟨X.heap.size + 1, 0, none⟩) 1 1]).run Tryz.prog
     ((((w3.setCell ⟨X.heap.size, l.length * 3, none⟩ (.int .i64 (-77000000))).setCell ⟨X.heap.size, l.length * 3 + 1, none⟩ (.int .i64 0)).setCell ⟨X.heap.size, l.length * 3 + 2, none⟩ (.int .i64 0)).alloc (.cells #[.slice (some ⟨X.heap.size, 0, none⟩) (l.length + 1) (l.length + 1)] 61)) = .ok (.slice ia' (is.length + 1) icap') w4 ∧
    Mods (fun k => (Value.slice ia is.length icap).ownBlock = some k) X w4 ∧ Blk w4 bh 53 cs ∧
    HS (w4.setCell ⟨bh, 1, none⟩ (.slice ia' (is.length + 1) icap')) B bh (cs.set 1 (.slice ia' (is.length + 1) icap')) vt (.slice ia' (is.length + 1) icap') vf ts (is ++ [(X.heap.size, l.length + 1)]) fs ∧
    Blk w4 X.heap.size 60 (codeCells l ++ lastI) ∧ ((Value.slice ia' (is.length + 1) icap').ownBlock = (Value.slice ia is.length icap).ownBlock ∨ ∃ k, X.heap.size ≤ k ∧ (Value.slice ia' (is.length + 1) icap').ownBlock = some k) := by
 obtain ⟨iI, hI, hI0, hI1, hI2⟩ := info_parts infoIns
 obtain ⟨iJ, hJ, hJ0, hJ1, hJ2⟩ := info_parts infoInss
 have hle := h.le
 have hlt := h.lt
 obtain ⟨w3, hcopy, hb3, hm3, hs3⟩ := copy_ex (P := Tryz.prog) 61 3 60 iI 3 Tryz.underlying61 hI hI1 X.heap.size (l.length + 1) (l.length + 1) ca l.length ccap (by omega) hnil (codeCells l) (codeCells_len l) (fun ad e j u hu => hm2.cell (hsrc ad e j u hu) (fun f => f)) 60 _ hb2 (by rw [codeCells_len, made_len]; omega) (codeCells_one l)
 have hM3 : Mods (fun _ => False) X w3 := hm2.trans hm3 (fun i hi e => by omega)
 have hlen : (codeCells l ++ (madeCells (Value.agg #[.int .i64 0, .int .i64 0, .int .i64 0]).cells ((l.length + 1) * 3)).toList.drop (codeCells l).length).length = (l.length + 1) * 3 := by
  rw [List.length_append, List.length_drop, made_len, codeCells_len]; omega
 have hbX : Blk (((w3.setCell ⟨X.heap.size, l.length * 3, none⟩ (.int .i64 (-77000000))).setCell ⟨X.heap.size, l.length * 3 + 1, none⟩ (.int .i64 0)).setCell ⟨X.heap.size, l.length * 3 + 2, none⟩ (.int .i64 0)) X.heap.size 60 (codeCells l ++ lastI) := by
  have := ((hb3.setCell (l.length * 3) (.int .i64 (-77000000))).setCell (l.length * 3 + 1) (.int .i64 0)).setCell (l.length * 3 + 2) (.int .i64 0)
  have e : ((((codeCells l ++ (madeCells (Value.agg #[.int .i64 0, .int .i64 0, .int .i64 0]).cells ((l.length + 1) * 3)).toList.drop (codeCells l).length).set (l.length * 3) (.int .i64 (-77000000))).set (l.length * 3 + 1) (.int .i64 0)).set (l.length * 3 + 2) (.int .i64 0)) = codeCells l ++ lastI := by
   have hd := drop3 (l := set3 (codeCells l ++ (madeCells (Value.agg #[.int .i64 0, .int .i64 0, .int .i64 0]).cells ((l.length + 1) * 3)).toList.drop (codeCells l).length) (l.length * 3) (.int .i64 (-77000000)) (.int .i64 0) (.int .i64 0)) (k := l.length * 3) (by rw [set3_len, hlen]; omega) (set3_0 (by rw [hlen]; omega)) (set3_1 (by rw [hlen]; omega)) (set3_2 (by rw [hlen]; omega))
   have ht : (set3 (codeCells l ++ (madeCells (Value.agg #[.int .i64 0, .int .i64 0, .int .i64 0]).cells ((l.length + 1) * 3)).toList.drop (codeCells l).length) (l.length * 3) (.int .i64 (-77000000)) (.int .i64 0) (.int .i64 0)).take (l.length * 3) = codeCells l := by
    unfold set3
    rw [List.take_set_of_le (by omega), List.take_set_of_le (by omega), List.take_set_of_le (by omega), List.take_append_of_le_length (by rw [codeCells_len]; omega), List.take_of_length_le (by rw [codeCells_len]; omega)]
   show set3 _ _ _ _ _ = _
   rw [← List.take_append_drop (l.length * 3) (set3 (codeCells l ++ (madeCells (Value.agg #[.int .i64 0, .int .i64 0, .int .i64 0]).cells ((l.length + 1) * 3)).toList.drop (codeCells l).length) (l.length * 3) (.int .i64 (-77000000)) (.int .i64 0) (.int .i64 0)), hd, ht]
  rwa [e] at this
 refine ⟨w3, hcopy, hM3, by omega, ⟨_, hb3, hlen⟩, ?_⟩
 generalize hX3 : ((w3.setCell ⟨X.heap.size, l.length * 3, none⟩ (.int .i64 (-77000000))).setCell ⟨X.heap.size, l.length * 3 + 1, none⟩ (.int .i64 0)).setCell ⟨X.heap.size, l.length * 3 + 2, none⟩ (.int .i64 0) = X3 at hbX ⊢
 have hMX3 : Mods (fun _ => False) X X3 := by
  rw [← hX3]
  exact ((hM3.setCell (fun h => Nat.lt_irrefl _ h) _).setCell (fun h => Nat.lt_irrefl _ h) _).setCell (fun h => Nat.lt_irrefl _ h) _
 have hsX3 : X3.heap.size = X.heap.size + 1 := by rw [← hX3]; simp; omega
 clear hX3
 have h3 := h.stay hMX3 (fun k t c _ f => f.elim)
 obtain ⟨vi', w4, happ, hown4, hm4, hat4⟩ := app_ex (P := Tryz.prog) (W := X3) 46 46 61 iJ (.slice none 0 0) 1 24 Tryz.underlying46 hJ hJ0 hJ1 hJ2 rfl (by decide) B (.slice ia is.length icap) is.length (is.map slOf) h3.i.row #[.slice (some ⟨X.heap.size, 0, none⟩) (l.length + 1) (l.length + 1)] rfl (by simp [Value.oneCell']) (X.heap.size + 1) (by omega) (by unfold maxLen; omega) (by omega) (by omega)
 obtain ⟨ia', icap', rfl⟩ := own_form hown4
 have hrow : ∀ k, (Value.slice ia is.length icap).ownBlock = some k → B ≤ k ∧ k < X.heap.size := h.i.row.lt
 have hbh4 : Blk w4 bh 53 cs := h3.hands.1.mods hm4 (fun e => by have := hrow _ e; omega)
 have hg4 : Blk w4 X.heap.size 60 (codeCells l ++ lastI) := hbX.mods hm4 (fun e => by have := hrow _ e; omega)
 have hsize4 := hm4.size
 refine ⟨ia', icap', w4, happ, (hMX3.mono (fun _ _ f => f.elim)).trans hm4 (fun _ _ e => e), hbh4, ?_, hg4, ?_⟩
 ·have hmods : Mods (fun k => k = bh ∨ (Value.slice ia is.length icap).ownBlock = some k) X3 (w4.setCell ⟨bh, 1, none⟩ (.slice ia' (is.length + 1) icap')) := (hm4.mono (fun _ _ e => .inr e)).setCell (fun _ => .inl rfl) _
  have hS : ∀ (t : TypeId), t ≠ 53 → t ≠ 61 → ∀ k c, Blk X3 k t c → ¬ (k = bh ∨ (Value.slice ia is.length icap).ownBlock = some k) := fun t h1 h2 k c hb hk => by
   rcases hk with rfl | hk
   ·exact h1 (hb.uniq h3.hands.1)
   ·obtain ⟨c', hb'⟩ := own_blk h3.i.row hk
    exact h2 (hb.uniq hb')
  have hc19 := h.hands.2
  have hne : X.heap.size ≠ bh := by omega
  have hrow4 := own_mods (S := fun k => k = bh) hown4 ((Mods.refl (fun k => k = bh) w4).setCell (p := ⟨bh, 1, none⟩) (fun _ => rfl) (.slice ia' (is.length + 1) icap')) (fun g e => by have := hown4.lt g e; omega)
  refine ⟨⟨hbh4.setCell 1 _, by rw [List.length_set]; exact hc19⟩, by rw [List.getElem?_set_ne (by omega)]; exact h.c0, by rw [List.getElem?_set_self (by omega)], by rw [List.getElem?_set_ne (by omega)]; exact h.c2, ?_, ?_, ?_, hlt, Nat.le_trans h3.le hmods.size⟩
  ·exact h3.t.mods hmods (hS _ (by decide) (by decide)) (hS _ (by decide) (by decide))
  ·have hEnt : ∀ e ∈ is, B ≤ e.1 ∧ 1 ≤ e.2 ∧ e.2 ≤ 1048577 ∧ ∃ cs : List Value, Blk X e.1 60 cs ∧ cs.length = e.2 * 3 ∧ cs.drop ((e.2 - 1) * 3) = lastI := h.i.ent
   refine InL.push h.i (S := fun k => k = bh ∨ (Value.slice ia is.length icap).ownBlock = some k) ((hMX3.mono (fun _ _ f => f.elim)).trans hmods (fun _ _ e => e)) (fun k c hb => hS _ (by decide) (by decide) k c (hb.mods hMX3 (fun f => f))) hle (Nat.le_refl _) (by omega) (by omega) (hg4.setCell_ne hne _) (by rw [List.length_append, codeCells_len]; show _ + 3 = _; omega) ?_ ?_
   ·rw [show l.length + 1 - 1 = l.length by omega, List.drop_append_of_le_length (by rw [codeCells_len]; omega), List.drop_of_length_le (by rw [codeCells_len]; omega)]; rfl
   ·rw [List.map_append]; exact hrow4
  ·exact h3.f.mods hmods (hS _ (by decide) (by decide)) (hS _ (by decide) (by decide))
 ·rcases hat4 with h5 | ⟨k, h5, h6⟩
  ·exact .inl h5
  ·exact .inr ⟨k, by omega, h6⟩

structure Mid1 (w w4 X : World) (B bh : Nat) (cs : List Value) (m : LMeth) (aa ca fa : Option Addr) (acap ccap fcap : Nat) (vt vi vf : Value) (ts is fs : List (Nat × Nat)) (g1 : Nat) (vt1 : Value) (gc : Nat) (vi1 : Value) : Prop where
 eq : X = (w4.setCell ⟨bh, 1, none⟩ vi1).setCell ⟨w.heap.size + 2, 5, none⟩ (.slice (some ⟨gc, 0, none⟩) m.code.length (m.code.length + 1))
 hs : HS X B bh ((cs.set 0 vt1).set 1 vi1) vt1 vi1 vf (ts ++ [(g1, m.args.length + 1)]) (is ++ [(gc, m.code.length + 1)]) fs
 mods : Mods (Rows3 bh vt vi vf) w X
 b0 : Blk X w.heap.size 63 [.int .i64 m.slot, .slice aa m.args.length acap, .int .i64 m.ret, .int .i64 m.locals, .int .i64 m.stack, .slice ca m.code.length ccap, .slice fa m.frames.length fcap]
 b1 : Blk X (w.heap.size + 1) 63 [.int .i64 0, .slice none 0 0, .int .i64 0, .int .i64 0, .int .i64 0, .slice none 0 0, .slice none 0 0]
 b2 : Blk X (w.heap.size + 2) 63 [.int .i64 m.slot, .slice (some ⟨g1, 0, none⟩) m.args.length (m.args.length + 1), .int .i64 m.ret, .int .i64 m.locals, .int .i64 m.stack, .slice (some ⟨gc, 0, none⟩) m.code.length (m.code.length + 1), .slice fa m.frames.length fcap]
 g : Blk X g1 43 (m.args.map (Value.int .i64) ++ lastT)
 c : Blk X gc 60 (codeCells m.code ++ lastI)
 new1 : w.heap.size + 3 ≤ g1
 newc : w.heap.size + 3 ≤ gc
 lt : vt1.ownBlock = vt.ownBlock ∨ ∃ k, w.heap.size ≤ k ∧ vt1.ownBlock = some k
 li : vi1.ownBlock = vi.ownBlock ∨ ∃ k, w.heap.size ≤ k ∧ vi1.ownBlock = some k

def FrameAt (g : Addr → Option Value) (cf : List Value) (f : LFrame) (j : Nat) : Prop :=
 ∃ vl vs, cf[j * 3]? = some (.int .i64 f.pc) ∧ cf[j * 3 + 1]? = some vl ∧ cf[j * 3 + 2]? = some vs ∧ SlAt 1 (GInt g) vl f.locals ∧ SlAt 1 (GInt g) vs f.stack
theorem FrameAt.keep {g g' : Addr → Option Value} {cf cf' : List Value} {f : LFrame} {j : Nat} (h : FrameAt g cf f j) (hg : GLe g g') (hc : ∀ k, k < j * 3 + 3 → cf'[k]? = cf[k]?) : FrameAt g' cf' f j := by
 obtain ⟨vl, vs, h0, h1, h2, h3, h4⟩ := h
 exact ⟨vl, vs, by rw [hc _ (by omega)]; exact h0, by rw [hc _ (by omega)]; exact h1, by rw [hc _ (by omega)]; exact h2, ints_keep hg h3, ints_keep hg h4⟩

structure FrSt (w wr : World) (B bh : Nat) (cs : List Value) (m : LMeth) (aa ca fa : Option Addr) (acap ccap fcap : Nat) (vt vi vf : Value) (nts : Nat) (vi1 : Value) (is1 fs : List (Nat × Nat)) (g1 gc gf i : Nat) (vt2 : Value) (ts2 : List (Nat × Nat)) (cs2 cf : List Value) : Prop where
 hs : HS wr B bh cs2 vt2 vi1 vf ts2 is1 fs
 rest : ∀ j, 3 ≤ j → cs2[j]? = cs[j]?
 mods : Mods (Rows3 bh vt vi vf) w wr
 b0 : Blk wr w.heap.size 63 [.int .i64 m.slot, .slice aa m.args.length acap, .int .i64 m.ret, .int .i64 m.locals, .int .i64 m.stack, .slice ca m.code.length ccap, .slice fa m.frames.length fcap]
 b1 : Blk wr (w.heap.size + 1) 63 [.int .i64 0, .slice none 0 0, .int .i64 0, .int .i64 0, .int .i64 0, .slice none 0 0, .slice none 0 0]
 b2 : Blk wr (w.heap.size + 2) 63 [.int .i64 m.slot, .slice (some ⟨g1, 0, none⟩) m.args.length (m.args.length + 1), .int .i64 m.ret, .int .i64 m.locals, .int .i64 m.stack, .slice (some ⟨gc, 0, none⟩) m.code.length (m.code.length + 1), .slice fa m.frames.length fcap]
 g : Blk wr g1 43 (m.args.map (Value.int .i64) ++ lastT)
 c : Blk wr gc 60 (codeCells m.code ++ lastI)
 fb : Blk wr gf 42 cf
 fl : cf.length = (m.frames.length + 1) * 3
 done : ∀ (j : Nat) (hj : j < m.frames.length), j < i → FrameAt (cellS tT wr) cf m.frames[j] j
 lt : vt2.ownBlock = vt.ownBlock ∨ ∃ k, w.heap.size ≤ k ∧ vt2.ownBlock = some k
 li : vi1.ownBlock = vi.ownBlock ∨ ∃ k, w.heap.size ≤ k ∧ vi1.ownBlock = some k
 tl : ts2.length = nts + 1 + 2 * i
 newf : w.heap.size + 3 ≤ gf
 newc : w.heap.size + 3 ≤ gc
 new1 : w.heap.size + 3 ≤ g1
 old : ∀ e ∈ fs, e.1 < w.heap.size
 leB : B ≤ w.heap.size

section
variable {w wr : World} {B bh : Nat} {cs : List Value} {m : LMeth} {aa ca fa : Option Addr} {acap ccap fcap : Nat} {vt vi vf : Value} {nts : Nat} {vi1 : Value} {is1 fs : List (Nat × Nat)} {g1 gc gf i : Nat} {vt2 : Value} {ts2 : List (Nat × Nat)} {cs2 cf : List Value}

theorem FrSt.rows (h : FrSt w wr B bh cs m aa ca fa acap ccap fcap vt vi vf nts vi1 is1 fs g1 gc gf i vt2 ts2 cs2 cf) {k : Nat} (hk : k < w.heap.size) (hr : k = bh ∨ vt2.ownBlock = some k) : Rows3 bh vt vi vf k := by
 rcases hr with rfl | hr
 ·exact .inl rfl
 ·rcases h.lt with e | ⟨k', e1, e2⟩
  ·exact .inr (.inl (e ▸ hr))
  ·rw [e2] at hr; cases hr; omega
theorem FrSt.far (h : FrSt w wr B bh cs m aa ca fa acap ccap fcap vt vi vf nts vi1 is1 fs g1 gc gf i vt2 ts2 cs2 cf) {k : Nat} {t : TypeId} {c : List Value} (hb : Blk wr k t c) (h1 : t ≠ 53) (h2 : t ≠ 40) : ¬ (k = bh ∨ vt2.ownBlock = some k) := fun hk => by
 rcases hk with rfl | hk
 ·exact h1 (hb.uniq h.hs.hands.1)
 ·obtain ⟨c', hb'⟩ := own_blk h.hs.t.row hk
  exact h2 (hb.uniq hb')
theorem FrSt.drew (h : FrSt w wr B bh cs m aa ca fa acap ccap fcap vt vi vf nts vi1 is1 fs g1 gc gf i vt2 ts2 cs2 cf) : FrSt w wr.drew B bh cs m aa ca fa acap ccap fcap vt vi vf nts vi1 is1 fs g1 gc gf i vt2 ts2 cs2 cf := by
 have hm : Mods (fun _ => False) wr wr.drew := (Mods.refl _ _).drew
 exact ⟨h.hs.stay hm (fun _ _ _ _ f => f.elim), h.rest, h.mods.drew, h.b0, h.b1, h.b2, h.g, h.c, h.fb, h.fl, fun j hj hji => (h.done j hj hji).keep (cellS_mods hm (fun _ _ _ _ _ f => f)) (fun _ _ => rfl), h.lt, h.li, h.tl, h.newf, h.newc, h.new1, h.old, h.leB⟩
theorem FrSt.lent (h : FrSt w wr B bh cs m aa ca fa acap ccap fcap vt vi vf nts vi1 is1 fs g1 gc gf i vt2 ts2 cs2 cf) {l : List Int} {w' : World} {g : Nat} {vt' : Value} (hl : l.length ≤ 1048576) (L : LentT wr w' bh cs2 vt2 B ts2 l g vt') (n' : Nat) (hn : ts2.length + 1 = n' + 1 + 2 * i) :
  FrSt w w' B bh cs m aa ca fa acap ccap fcap vt vi vf n' vi1 is1 fs g1 gc gf i vt' (ts2 ++ [(g, l.length + 1)]) (cs2.set 0 vt') cf := by
 have hsz := h.mods.size
 refine ⟨h.hs.lent hl L, fun j hj => by rw [List.getElem?_set_ne (by omega)]; exact h.rest j hj, h.mods.trans L.mods (fun k hk hr => h.rows hk hr), h.b0.mods L.mods (h.far h.b0 (by decide) (by decide)), h.b1.mods L.mods (h.far h.b1 (by decide) (by decide)), h.b2.mods L.mods (h.far h.b2 (by decide) (by decide)),
  h.g.mods L.mods (h.far h.g (by decide) (by decide)), h.c.mods L.mods (h.far h.c (by decide) (by decide)), h.fb.mods L.mods (h.far h.fb (by decide) (by decide)), h.fl,
  fun j hj hji => (h.done j hj hji).keep (cellS_mods L.mods (fun k t c hb ht => by obtain rfl := List.mem_singleton.1 ht; exact h.far hb (by decide) (by decide))) (fun _ _ => rfl), ?_, h.li, by rw [List.length_append, List.length_singleton]; omega, h.newf, h.newc, h.new1, h.old, h.leB⟩
 ·rcases L.lies with e | ⟨k, e1, e2⟩
  ·rw [e]; exact h.lt
  ·exact .inr ⟨k, by omega, e2⟩
theorem FrSt.cellF (h : FrSt w wr B bh cs m aa ca fa acap ccap fcap vt vi vf nts vi1 is1 fs g1 gc gf i vt2 ts2 cs2 cf) (k : Nat) (hk : k < (m.frames.length + 1) * 3) : ∃ u, wr.cell? ⟨gf, k, none⟩ = some u :=
 ⟨cf[k]'(by rw [h.fl]; exact hk), by rw [h.fb.cell]; exact List.getElem?_eq_getElem _⟩
theorem FrSt.put (h : FrSt w wr B bh cs m aa ca fa acap ccap fcap vt vi vf nts vi1 is1 fs g1 gc gf i vt2 ts2 cs2 cf) (hi : i < m.frames.length) {vl vs : Value} (hl : SlAt 1 (GInt (cellS tT wr)) vl m.frames[i].locals) (hs : SlAt 1 (GInt (cellS tT wr)) vs m.frames[i].stack) (n' : Nat) (hn : ts2.length = n' + 1 + 2 * (i + 1)) :
  ∃ cf', FrSt w (((wr.setCell ⟨gf, i * 3, none⟩ (.int .i64 m.frames[i].pc)).setCell ⟨gf, i * 3 + 1, none⟩ vl).setCell ⟨gf, i * 3 + 2, none⟩ vs) B bh cs m aa ca fa acap ccap fcap vt vi vf n' vi1 is1 fs g1 gc gf (i + 1) vt2 ts2 cs2 cf' := by
 have hsz := h.mods.size
 have hnf := h.newf
 have hlt := h.hs.lt
 have hle := h.hs.le
 generalize hX : ((wr.setCell ⟨gf, i * 3, none⟩ (.int .i64 m.frames[i].pc)).setCell ⟨gf, i * 3 + 1, none⟩ vl).setCell ⟨gf, i * 3 + 2, none⟩ vs = X
 have hm : Mods (fun k => k = gf) wr X := by
  rw [← hX]
  exact (((Mods.refl (fun k => k = gf) wr).setCell (p := ⟨gf, i * 3, none⟩) (fun _ => rfl) _).setCell (p := ⟨gf, i * 3 + 1, none⟩) (fun _ => rfl) _).setCell (p := ⟨gf, i * 3 + 2, none⟩) (fun _ => rfl) _
 have hb : Blk X gf 42 (set3 cf (i * 3) (.int .i64 m.frames[i].pc) vl vs) := by
  rw [← hX]
  exact ((h.fb.setCell (i * 3) _).setCell (i * 3 + 1) _).setCell (i * 3 + 2) _
 clear hX
 have hfl := h.fl
 have hne : ∀ {k t c}, Blk wr k t c → t ≠ 42 → ¬ (k = gf) := fun hb' ht e => by subst e; exact ht (hb'.uniq h.fb)
 have hge : GLe (cellS tT wr) (cellS tT X) := cellS_mods hm (fun k t c hb' ht => by obtain rfl := List.mem_singleton.1 ht; exact hne hb' (by decide))
 refine ⟨_, ⟨⟨h.hs.hands.1.mods hm (hne h.hs.hands.1 (by decide)), h.hs.hands.2⟩, h.hs.c0, h.hs.c1, h.hs.c2, h.hs.t.mods hm (fun k c hb' => hne hb' (by decide)) (fun k c hb' => hne hb' (by decide)), h.hs.i.mods hm (fun k c hb' => hne hb' (by decide)) (fun k c hb' => hne hb' (by decide)), h.hs.f.mods' hm (fun k c hb' => hne hb' (by decide)) (fun e he hk => by have := h.old e he; omega), hlt, Nat.le_trans hle hm.size⟩, h.rest, h.mods.trans hm (fun k hk e => by omega), h.b0.mods hm (hne h.b0 (by decide)), h.b1.mods hm (hne h.b1 (by decide)), h.b2.mods hm (hne h.b2 (by decide)), h.g.mods hm (hne h.g (by decide)), h.c.mods hm (hne h.c (by decide)), hb, by rw [set3_len]; exact hfl, fun j hj hji => ?_, h.lt, h.li, hn, h.newf, h.newc, h.new1, h.old, h.leB⟩
 ·rcases Nat.lt_or_ge j i with hlt' | hge'
  ·exact (h.done j hj hlt').keep hge (fun k hk => set3_ne (by omega))
  ·obtain rfl : j = i := by omega
   exact ⟨vl, vs, set3_0 (by omega), set3_1 (by omega), set3_2 (by omega), ints_keep hge hl, ints_keep hge hs⟩
theorem FrSt.fin {fa2 : Option Addr} {fcap2 : Nat} (h : FrSt w wr B bh cs m aa ca fa acap ccap fcap vt vi (.slice fa2 fs.length fcap2) nts vi1 is1 fs g1 gc gf m.frames.length vt2 ts2 cs2 cf) (hfs : fs.length + 1 ≤ 16777216) (hfl : m.frames.length ≤ 1048576) :
  ∃ fa3 fcap3 w6, (Builtin.append_ #[47, 47] 47 #[.slice fa2 fs.length fcap2, .slice (some ⟨wr.heap.size, 0, none⟩) 1 1]).run Tryz.prog
    ((((wr.setCell ⟨gf, m.frames.length * 3, none⟩ (.int .i64 (-77000000))).setCell ⟨gf, m.frames.length * 3 + 1, none⟩ (.slice none 0 0)).setCell ⟨gf, m.frames.length * 3 + 2, none⟩ (.slice none 0 0)).alloc (.cells #[.slice (some ⟨gf, 0, none⟩) (m.frames.length + 1) (m.frames.length + 1)] 36)) = .ok (.slice fa3 (fs.length + 1) fcap3) w6 ∧
   Blk w6 bh 53 cs2 ∧ Mods (Rows3 bh vt vi (.slice fa2 fs.length fcap2)) w w6 ∧ wr.heap.size ≤ w6.heap.size ∧
   Blk w6 w.heap.size 63 [.int .i64 m.slot, .slice aa m.args.length acap, .int .i64 m.ret, .int .i64 m.locals, .int .i64 m.stack, .slice ca m.code.length ccap, .slice fa m.frames.length fcap] ∧
   Blk w6 (w.heap.size + 1) 63 [.int .i64 0, .slice none 0 0, .int .i64 0, .int .i64 0, .int .i64 0, .slice none 0 0, .slice none 0 0] ∧
   Blk w6 (w.heap.size + 2) 63 [.int .i64 m.slot, .slice (some ⟨g1, 0, none⟩) m.args.length (m.args.length + 1), .int .i64 m.ret, .int .i64 m.locals, .int .i64 m.stack, .slice (some ⟨gc, 0, none⟩) m.code.length (m.code.length + 1), .slice fa m.frames.length fcap] ∧
   HS (w6.setCell ⟨bh, 2, none⟩ (.slice fa3 (fs.length + 1) fcap3)) B bh (cs2.set 2 (.slice fa3 (fs.length + 1) fcap3)) vt2 vi1 (.slice fa3 (fs.length + 1) fcap3) ts2 is1 (fs ++ [(gf, m.frames.length + 1)]) ∧
   GVals (cellS t3 w6) m (.slice (some ⟨g1, 0, none⟩) m.args.length (m.args.length + 1)) (.slice (some ⟨gc, 0, none⟩) m.code.length (m.code.length + 1)) (.slice (some ⟨gf, 0, none⟩) m.frames.length (m.frames.length + 1)) ∧
   ((Value.slice fa3 (fs.length + 1) fcap3).ownBlock = (Value.slice fa2 fs.length fcap2).ownBlock ∨ ∃ k, w.heap.size ≤ k ∧ (Value.slice fa3 (fs.length + 1) fcap3).ownBlock = some k) := by
 obtain ⟨iG, hG, hG0, hG1, hG2⟩ := info_parts infoFrames
 have hsz := h.mods.size
 have hnf := h.newf
 have hlt := h.hs.lt
 have hle := h.hs.le
 have hcl := h.fl
 have hleB := h.leB
 generalize hX : ((wr.setCell ⟨gf, m.frames.length * 3, none⟩ (.int .i64 (-77000000))).setCell ⟨gf, m.frames.length * 3 + 1, none⟩ (.slice none 0 0)).setCell ⟨gf, m.frames.length * 3 + 2, none⟩ (.slice none 0 0) = X
 have hm : Mods (fun k => k = gf) wr X := by
  rw [← hX]
  exact (((Mods.refl (fun k => k = gf) wr).setCell (p := ⟨gf, m.frames.length * 3, none⟩) (fun _ => rfl) _).setCell (p := ⟨gf, m.frames.length * 3 + 1, none⟩) (fun _ => rfl) _).setCell (p := ⟨gf, m.frames.length * 3 + 2, none⟩) (fun _ => rfl) _
 have hsX : X.heap.size = wr.heap.size := by rw [← hX]; simp
 have hb : Blk X gf 42 (set3 cf (m.frames.length * 3) (.int .i64 (-77000000)) (.slice none 0 0) (.slice none 0 0)) := by
  rw [← hX]
  exact ((h.fb.setCell (m.frames.length * 3) _).setCell (m.frames.length * 3 + 1) _).setCell (m.frames.length * 3 + 2) _
 clear hX
 have hne : ∀ {k t c}, Blk wr k t c → t ≠ 42 → ¬ (k = gf) := fun hb' ht e => by subst e; exact ht (hb'.uniq h.fb)
 have hHX : HS X B bh cs2 vt2 vi1 (.slice fa2 fs.length fcap2) ts2 is1 fs := ⟨⟨h.hs.hands.1.mods hm (hne h.hs.hands.1 (by decide)), h.hs.hands.2⟩, h.hs.c0, h.hs.c1, h.hs.c2, h.hs.t.mods hm (fun k c hb' => hne hb' (by decide)) (fun k c hb' => hne hb' (by decide)), h.hs.i.mods hm (fun k c hb' => hne hb' (by decide)) (fun k c hb' => hne hb' (by decide)), h.hs.f.mods' hm (fun k c hb' => hne hb' (by decide)) (fun e he hk => by have := h.old e he; omega), hlt, Nat.le_trans hle hm.size⟩
 obtain ⟨vf3, w6, happ, hown6, hm6, hat6⟩ := app_ex (P := Tryz.prog) (W := X) 47 47 36 iG (.slice none 0 0) 1 24 Tryz.underlying47 hG hG0 hG1 hG2 rfl (by decide) B (.slice fa2 fs.length fcap2) fs.length (fs.map slOf) hHX.f.row #[.slice (some ⟨gf, 0, none⟩) (m.frames.length + 1) (m.frames.length + 1)] rfl (by simp [Value.oneCell']) wr.heap.size hsX (by unfold maxLen; omega) (by omega) (by omega)
 obtain ⟨fa3, fcap3, rfl⟩ := own_form hown6
 have hrow : ∀ k, (Value.slice fa2 fs.length fcap2).ownBlock = some k → ∃ c, Blk X k 36 c := fun k e => own_blk hHX.f.row e
 have hnr : ∀ {k t c}, Blk X k t c → t ≠ 36 → ¬ ((Value.slice fa2 fs.length fcap2).ownBlock = some k) := fun hb' ht e => by obtain ⟨c', hb''⟩ := hrow _ e; exact ht (hb'.uniq hb'')
 have hbh6 : Blk w6 bh 53 cs2 := hHX.hands.1.mods hm6 (hnr hHX.hands.1 (by decide))
 have hg6 := hb.mods hm6 (hnr hb (by decide))
 have hs6 := hm6.size
 have hge : GLe (cellS tT wr) (cellS tT w6) := (cellS_mods hm (fun k t c hb' ht => by obtain rfl := List.mem_singleton.1 ht; exact hne hb' (by decide))).trans (cellS_mods hm6 (fun k t c hb' ht => by obtain rfl := List.mem_singleton.1 ht; exact hnr hb' (by decide)))
 have hmove : ∀ {k t c}, Blk wr k t c → t ≠ 42 → t ≠ 36 → Blk w6 k t c := fun hb' h1 h2 => (hb'.mods hm (hne hb' h1)).mods hm6 (hnr (hb'.mods hm (hne hb' h1)) h2)
 refine ⟨fa3, fcap3, w6, happ, hbh6, (h.mods.trans hm (fun k hk e => by omega)).trans hm6 (fun k hk e => .inr (.inr (.inr e))), by omega, hmove h.b0 (by decide) (by decide), hmove h.b1 (by decide) (by decide), hmove h.b2 (by decide) (by decide), ?_, ?_, ?_⟩
 ·have hmods : Mods (fun k => k = bh ∨ (Value.slice fa2 fs.length fcap2).ownBlock = some k) X (w6.setCell ⟨bh, 2, none⟩ (.slice fa3 (fs.length + 1) fcap3)) := (hm6.mono (fun _ _ e => .inr e)).setCell (fun _ => .inl rfl) _
  have hS : ∀ (t : TypeId), t ≠ 53 → t ≠ 36 → ∀ k c, Blk X k t c → ¬ (k = bh ∨ (Value.slice fa2 fs.length fcap2).ownBlock = some k) := fun t h1 h2 k c hb' hk => by
   rcases hk with rfl | hk
   ·exact h1 (hb'.uniq hHX.hands.1)
   ·exact hnr hb' h2 hk
  have hc19 := h.hs.hands.2
  have hnb : gf ≠ bh := by omega
  have hrow6 := own_mods (S := fun k => k = bh) hown6 ((Mods.refl (fun k => k = bh) w6).setCell (p := ⟨bh, 2, none⟩) (fun _ => rfl) (.slice fa3 (fs.length + 1) fcap3)) (fun g e => by have := hown6.lt g e; omega)
  refine ⟨⟨hbh6.setCell 2 _, by rw [List.length_set]; exact hc19⟩, by rw [List.getElem?_set_ne (by omega)]; exact h.hs.c0, by rw [List.getElem?_set_ne (by omega)]; exact h.hs.c1, by rw [List.getElem?_set_self (by omega)], hHX.t.mods hmods (hS _ (by decide) (by decide)) (hS _ (by decide) (by decide)), hHX.i.mods hmods (hS _ (by decide) (by decide)) (hS _ (by decide) (by decide)), ?_, hlt, Nat.le_trans hHX.le hmods.size⟩
  refine ⟨by rw [List.length_append, List.map_append]; exact hrow6, fun e he => ?_, ?_⟩
  ·rcases List.mem_append.1 he with he | he
   ·obtain ⟨h1, h2, h3, c, h4, h5⟩ := hHX.f.ent e he
    exact ⟨h1, h2, h3, c, h4.mods hmods (hS _ (by decide) (by decide) _ _ h4), h5⟩
   ·rw [List.mem_singleton] at he
    subst he
    refine ⟨by show B ≤ gf; omega, by show 1 ≤ m.frames.length + 1; omega, by show m.frames.length + 1 ≤ 1048577; omega, _, hg6.setCell_ne hnb _, by rw [set3_len]; exact hcl, ?_⟩
    ·rw [show m.frames.length + 1 - 1 = m.frames.length by omega]
     exact drop3 (by rw [set3_len]; omega) (set3_0 (by omega)) (set3_1 (by omega)) (set3_2 (by omega))
  ·rw [List.map_append, List.nodup_append]
   refine ⟨h.hs.f.nodup, by simp, fun a ha b hb' => ?_⟩
   obtain ⟨e, he, rfl⟩ := List.mem_map.1 ha
   have : b = gf := by simpa using hb'
   have := h.old e he
   omega
 ·have hv : ∀ {v l}, SlAt 1 (GInt (cellS tT wr)) v l → SlAt 1 (GInt (cellS t3 w6)) v l := fun hv => ints_keep (hge.trans (cellS_sub (by simp) w6)) hv
  refine ⟨ints_of_blk (hmove h.g (by decide) (by decide)) (by simp) (by omega), code_of_blk (hmove h.c (by decide) (by decide)) (by simp) (by omega), ?_⟩
  refine ⟨_, gf, 0, _, rfl, by omega, ⟨fun _ => rfl, .inr (.inl rfl)⟩, fun j x hj => ?_⟩
  obtain ⟨hj1, rfl⟩ := List.getElem?_eq_some_iff.1 hj
  obtain ⟨vl, vs, f0, f1, f2, f3, f4⟩ := h.done j hj1 hj1
  exact ⟨vl, vs, by rw [cellS_blk hg6 (by simp), Nat.zero_add, set3_ne (by omega)]; exact f0, by rw [cellS_blk hg6 (by simp), Nat.zero_add, set3_ne (by omega)]; exact f1, by rw [cellS_blk hg6 (by simp), Nat.zero_add, set3_ne (by omega)]; exact f2, hv f3, hv f4⟩
 ·rcases hat6 with e | ⟨k, e1, e2⟩
  ·exact .inl e
  ·exact .inr ⟨k, by omega, e2⟩
end
end Go.Proofs.YtiiokkllmchohaaGreat
namespace Go.Proofs.YtiiokkllmchohaaGreat
open Go.RowKit
attribute [local go_sem ↓] Go.wp_at_zero Go.wp_at_succ
theorem placeB_nat {a n : Int} (h : placeB a n = true) : ∃ k : Nat, a = k ∧ (k : Int) < n := by
 unfold placeB at h
 simp only [Bool.and_eq_true, decide_eq_true_eq] at h
 obtain ⟨k, hk⟩ := Int.eq_ofNat_of_zero_le h.1
 exact ⟨k, hk, by omega⟩

theorem ref_place_eq {v n : Int} {q : Bool} (h : placeB v n = q) (w : World) : Calls Tryz.prog 200 #[.int .i64 v, .int .i64 n] w fun e w' => e = .returned (.bool q) ∧ w' = w := h ▸ ref_place v n w

set_option maxHeartbeats 2000000 in
set_option maxRecDepth 100000 in
theorem ref_ins_field (p : List LClass) (vc : Value) (m : LMeth) (aa ca fa : Option Addr) (al acap ccap fl fcap : Nat) (op a b : Int) (w : World) (hp : RProg w vc p) (hs : SupOk p p.length) (hz : szProg p ≤ 4194304)
  (hop : op = 10 ∨ op = 11) :
  Calls Tryz.prog 149 (insArgs vc m aa ca fa al acap ccap fl fcap op a b) w fun e w' => e = .returned (.bool (insB p m ⟨op, a, b⟩)) ∧ Below w.heap.size w w' := by
 have hpl : p.length ≤ 4194304 := Nat.le_trans (szProg_len p) hz
 have hdef : insB p m ⟨op, a, b⟩ = (placeB a p.length && placeB b (fieldsOf p a).length) := by
  unfold insB
  rcases hop with rfl | rfl <;> simp
 have HD := hide hdef
 clear hdef
 have HP := hide hp
 obtain ⟨pa, pb, poff, pcap, rfl, hpcap, hpa, hpr⟩ := sl_open hp
 clear hpr hpa hp
 unfold insArgs
 cases hpb : placeB a p.length
 ·rcases hop with rfl | rfl <;>
  ·go_enter Tryz.func149, Tryz.ntmps149
   go_wp2
   generalize hW : ((w.alloc _).alloc _).alloc _ = W
   have hbel : Below w.heap.size w W := by rw [← hW]; exact box3_below _ _ _ _
   have i1 : W.cell? ⟨w.heap.size + 1 + 1, 1, none⟩ = some (.int .i64 a) := by rw [← hW]; exact box3_3 _ _ _ _ _ 1
   clear hW
   go_quiet ((go_at_call 200; exact Calls.quiet_of_same (ref_place_eq hpb _)))
   go_wp2
   go_ret
   exact ⟨ret_bool (by rw [unhide HD, hpb]; rfl), below_drewN hbel _⟩
 ·obtain ⟨k, rfl, hk⟩ := placeB_nat hpb
  cases hpb2 : placeB b (fieldsOf p k).length <;> rcases hop with rfl | rfl <;>
  ·go_enter Tryz.func149, Tryz.ntmps149
   go_wp2
   generalize hW : ((w.alloc _).alloc _).alloc _ = W
   have hbel : Below w.heap.size w W := by rw [← hW]; exact box3_below _ _ _ _
   have i0 : W.cell? ⟨w.heap.size, 0, none⟩ = some (.slice pa p.length pcap) := by rw [← hW]; exact box3_1 _ _ _ _ _ 0
   have i1 : W.cell? ⟨w.heap.size + 1 + 1, 1, none⟩ = some (.int .i64 k) := by rw [← hW]; exact box3_3 _ _ _ _ _ 1
   have i2 : W.cell? ⟨w.heap.size + 1 + 1, 2, none⟩ = some (.int .i64 b) := by rw [← hW]; exact box3_3 _ _ _ _ _ 2
   clear hW
   have HPW := hide (prog_keep (Keeps.of_below hbel) (unhide HP))
   have hsz := hbel.size
   go_region_held3 (fun w' => w'.cell? ⟨w.heap.size, 0, none⟩ = some (.slice pa p.length pcap) ∧ w'.cell? ⟨w.heap.size + 1 + 1, 1, none⟩ = some (.int .i64 (k : Int)) ∧ w'.cell? ⟨w.heap.size + 1 + 1, 2, none⟩ = some (.int .i64 b))
    (first | go_keep | (exact ⟨Keeps.of_below hb1 _ _ (by simpa using i0), Keeps.of_below hb1 _ _ (by simpa using i1), Keeps.of_below hb1 _ _ (by simpa using i2)⟩))
    (first | ((go_at_call_of 200 (Value.int .i64 (p.length : Int)); refine (ref_place_eq hpb _).mono ?_); rintro e w' ⟨rfl, rfl⟩)
           | ((go_at_call_of 200 (Value.int .i64 ((fieldsOf p (k : Int)).length : Int)); refine (ref_place_eq hpb2 _).mono ?_); rintro e w' ⟨rfl, rfl⟩)
           | ((go_at_call 92; refine (ref_fields p p.length hs (Nat.le_refl _) hz k _ _ (prog_keep (Keeps.of_below ((Below.refl _ _).drew)) (unhide HPW)) (by omega)).mono ?_); rintro e w1 ⟨v1, rfl, hown1, hb1⟩; obtain ⟨va1, vcap1, rfl⟩ := own_form hown1))
   go_wp2
   go_ret
   exact ⟨ret_bool (by rw [unhide HD, hpb, hpb2]; rfl), hbel.drew.trans (hb1.mono (by simpa using hsz))⟩

theorem methC_pos (p : List LClass) (c slot : Int) : decide (0 ≤ (methC p c slot).1) = (methOf p c slot).isSome := by
 unfold methC
 cases methOf p c slot with
 | none => rfl
 | some x => simp

set_option maxHeartbeats 2000000 in
set_option maxRecDepth 100000 in
theorem ref_ins_call (p : List LClass) (vc : Value) (m : LMeth) (aa ca fa : Option Addr) (al acap ccap fl fcap : Nat) (a b : Int) (w : World) (hp : RProg w vc p) (hs : SupOk p p.length) (hz : szProg p ≤ 4194304) :
  Calls Tryz.prog 149 (insArgs vc m aa ca fa al acap ccap fl fcap 12 a b) w fun e w' => e = .returned (.bool (insB p m ⟨12, a, b⟩)) ∧ Below w.heap.size w w' := by
 have hpl : p.length ≤ 4194304 := Nat.le_trans (szProg_len p) hz
 have hdef : insB p m ⟨12, a, b⟩ = (placeB a p.length && (methOf p a b).isSome) := by unfold insB; simp
 have HD := hide hdef
 clear hdef
 have HP := hide hp
 obtain ⟨pa, pb, poff, pcap, rfl, hpcap, hpa, hpr⟩ := sl_open hp
 clear hpr hpa hp
 unfold insArgs
 cases hpb : placeB a p.length
 ·go_enter Tryz.func149, Tryz.ntmps149
  go_wp2_with (go_at_call 200; refine (ref_place_eq hpb _).mono ?_; rintro e w' ⟨rfl, rfl⟩)
  go_ret
  exact ⟨ret_bool (by rw [unhide HD, hpb]; rfl), box3_below _ _ _ _⟩
 ·obtain ⟨k, rfl, hk⟩ := placeB_nat hpb
  go_enter Tryz.func149, Tryz.ntmps149
  go_wp2_with fail
  generalize hW : ((w.alloc _).alloc _).alloc _ = W
  have hbel : Below w.heap.size w W := by rw [← hW]; exact box3_below _ _ _ _
  have i0 : W.cell? ⟨w.heap.size, 0, none⟩ = some (.slice pa p.length pcap) := by rw [← hW]; exact box3_1 _ _ _ _ _ 0
  have i1 : W.cell? ⟨w.heap.size + 1 + 1, 1, none⟩ = some (.int .i64 k) := by rw [← hW]; exact box3_3 _ _ _ _ _ 1
  have i2 : W.cell? ⟨w.heap.size + 1 + 1, 2, none⟩ = some (.int .i64 b) := by rw [← hW]; exact box3_3 _ _ _ _ _ 2
  clear hW
  refine (ref_place_eq hpb _).mono ?_
  rintro e w1 ⟨rfl, rfl⟩
  go_wp2_with fail
  refine (ref_method p _ p.length _ _ _ (prog_keep (Keeps.of_below hbel) (unhide HP)) hs (Nat.le_refl _) (by omega) (by omega) hz).mono ?_
  rintro e w2 ⟨rfl, hb2⟩
  go_wp2
  go_ret
  exact ⟨ret_bool (by rw [unhide HD, hpb, methC_pos]; rfl), hbel.trans (hb2.mono hbel.size)⟩

theorem ref_ins (p : List LClass) (vc : Value) (m : LMeth) (aa ca fa : Option Addr) (al acap ccap fl fcap : Nat) (i : LIns) (w : World) (hp : RProg w vc p) (hs : SupOk p p.length) (hz : szProg p ≤ 4194304) (hcl : m.code.length ≤ 4194304) :
  Calls Tryz.prog 149 (insArgs vc m aa ca fa al acap ccap fl fcap i.op i.a i.b) w fun e w' => e = .returned (.bool (insB p m i)) ∧ Below w.heap.size w w' := by
 by_cases h1 : i.op = 10 ∨ i.op = 11
 ·exact ref_ins_field p vc m aa ca fa al acap ccap fl fcap i.op i.a i.b w hp hs hz h1
 by_cases h2 : i.op = 12
 ·have := ref_ins_call p vc m aa ca fa al acap ccap fl fcap i.a i.b w hp hs hz
  rw [← h2] at this
  exact this
 ·exact ref_ins_plain p vc m aa ca fa al acap ccap fl fcap i.op i.a i.b w hp hz hcl (fun e => h1 (.inl e)) (fun e => h1 (.inr e)) h2
theorem code_no {p : List LClass} {m : LMeth} (h : ¬ (1 ≤ m.code.length ∧ m.code.length ≤ 40 ∧ m.frames.length ≤ 40)) : codeB p m = false := by
 unfold codeB
 simp only [Bool.and_eq_false_iff, decide_eq_false_iff_not]
 omega
theorem code_eq {p : List LClass} {m : LMeth} (h : 1 ≤ m.code.length ∧ m.code.length ≤ 40 ∧ m.frames.length ≤ 40) : codeB p m = (m.code.all (insB p m) && framesB p.length m (-1) m.frames) := by
 unfold codeB
 rw [decide_eq_true h.1, decide_eq_true h.2.1, decide_eq_true h.2.2]
 rfl
theorem all_no {α : Type} {l : List α} {f : α → Bool} {k : Nat} (hk : k < l.length) (h : f l[k] = false) : l.all f = false := by
 rw [List.all_eq_false]
 exact ⟨_, List.getElem_mem hk, by rw [h]; exact Bool.false_ne_true⟩

theorem frames_no {n : Nat} {m : LMeth} {f : LFrame} {last : Int} {r : List LFrame}
  (h : ¬ (last < f.pc ∧ f.pc < m.code.length ∧ (f.locals.length : Int) = m.locals ∧ (f.stack.length : Int) ≤ m.stack ∧ f.locals.all (framedB n) = true ∧ f.stack.all (framedB n) = true)) : framesB n m last (f :: r) = false := by
 unfold framesB frameB
 rw [Bool.eq_false_iff]
 intro e
 simp only [Bool.and_eq_true, decide_eq_true_eq] at e
 exact h ⟨e.1.1, e.1.2.1.1.1.1, e.1.2.1.1.1.2, e.1.2.1.1.2, e.1.2.1.2, e.1.2.2⟩
theorem frames_yes {n : Nat} {m : LMeth} {f : LFrame} {last : Int} {r : List LFrame}
  (h : last < f.pc ∧ f.pc < m.code.length ∧ (f.locals.length : Int) = m.locals ∧ (f.stack.length : Int) ≤ m.stack ∧ f.locals.all (framedB n) = true ∧ f.stack.all (framedB n) = true) : framesB n m last (f :: r) = framesB n m f.pc r := by
 rw [framesB, frameB, decide_eq_true h.1, decide_eq_true h.2.1, decide_eq_true h.2.2.1, decide_eq_true h.2.2.2.1, h.2.2.2.2.1, h.2.2.2.2.2]
 rfl
theorem ref_framed_eq {l : List Int} {v : Value} {n : Int} {q : Bool} (h : l.all (framedB n) = q) (w : World) (hl : SlAt 1 (RInt w) v l) (hw : ∀ x ∈ l, I64 x) (hs : l.length ≤ 4194304) :
  Calls Tryz.prog 150 #[v, .int .i64 n] w fun e w' => e = .returned (.bool q) ∧ w' = w := h ▸ ref_framed l v n w hl hw hs

set_option maxHeartbeats 2000000 in
set_option maxRecDepth 100000 in
theorem ref_code_short (p : List LClass) (vc : Value) (m : LMeth) (va vcd vfr : Value) (w : World) (hm : MVals w m va vcd vfr)
  (hml : szMeth m ≤ 4194304) (hno : ¬ (1 ≤ m.code.length ∧ m.code.length ≤ 40 ∧ m.frames.length ≤ 40)) :
  Calls Tryz.prog 94 #[.agg #[vc], .agg #[.int .i64 m.slot, va, .int .i64 m.ret, .int .i64 m.locals, .int .i64 m.stack, vcd, vfr]] w fun e w' => e = .returned (.bool (codeB p m)) ∧ Below w.heap.size w w' := by
 have hcl : m.code.length ≤ 4194304 := by unfold szMeth at hml; omega
 have hfl : m.frames.length ≤ 4194304 := Nat.le_trans (szFrames_le m) hml
 obtain ⟨aa, ab, aoff, acap, rfl, _, _, _⟩ := sl_open hm.1
 obtain ⟨ca, cb, coff, ccap, rfl, _, _, _⟩ := sl_open hm.2.1
 obtain ⟨fa, fb, foff, fcap, rfl, _, _, _⟩ := sl_open hm.2.2
 have HN := hide (code_no (p := p) hno)
 have HNO := hide hno
 clear hm hno
 by_cases g1 : m.code.length < 1
 ·have g1' : (m.code.length : Int) < 1 := by omega
  go_enter Tryz.func94, Tryz.ntmps94
  go_wp2_with fail
  go_ret
  exact ⟨ret_bool (unhide HN).symm, box2_below _ _ _⟩
 by_cases g2 : 40 < m.code.length
 ·have g1' : ¬ (m.code.length : Int) < 1 := by omega
  have g2' : (40 : Int) < m.code.length := by omega
  go_enter Tryz.func94, Tryz.ntmps94
  go_wp2_with fail
  go_ret
  exact ⟨ret_bool (unhide HN).symm, box2_below _ _ _⟩
 have g3 : 40 < m.frames.length := by have := unhide HNO; omega
 have g1' : ¬ (m.code.length : Int) < 1 := by omega
 have g2' : ¬ (40 : Int) < m.code.length := by omega
 have g3' : (40 : Int) < m.frames.length := by omega
 go_enter Tryz.func94, Tryz.ntmps94
 go_wp2_with fail
 go_ret
 exact ⟨ret_bool (unhide HN).symm, box2_below _ _ _⟩

set_option maxHeartbeats 4000000 in
set_option maxRecDepth 100000 in
theorem ref_code (p : List LClass) (vc : Value) (m : LMeth) (va vcd vfr : Value) (w : World) (hp : RProg w vc p) (hm : MVals w m va vcd vfr) (hs : SupOk p p.length) (hz : szProg p ≤ 4194304)
  (hml : szMeth m ≤ 4194304) (hwm : wfMeth m) :
  Calls Tryz.prog 94 #[.agg #[vc], .agg #[.int .i64 m.slot, va, .int .i64 m.ret, .int .i64 m.locals, .int .i64 m.stack, vcd, vfr]] w fun e w' => e = .returned (.bool (codeB p m)) ∧ Below w.heap.size w w' := by
 by_cases hlen : ¬ (1 ≤ m.code.length ∧ m.code.length ≤ 40 ∧ m.frames.length ≤ 40)
 ·exact ref_code_short p vc m va vcd vfr w hm hml hlen
 have hlen := Classical.not_not.1 hlen
 have HE := hide (code_eq (p := p) hlen)
 have hpl : p.length ≤ 4194304 := Nat.le_trans (szProg_len p) hz
 have g1 : ¬ (m.code.length : Int) < 1 := by omega
 have g2 : ¬ (40 : Int) < m.code.length := by omega
 have g3 : ¬ (40 : Int) < m.frames.length := by omega
 have HM := hide hm
 have HP := hide hp
 obtain ⟨pa, pb, poff, pcap, rfl, _, _, _⟩ := sl_open hp
 obtain ⟨aa, ab, aoff, acap, rfl, _, _, _⟩ := sl_open hm.1
 obtain ⟨ca, cb, coff, ccap, rfl, hccap, hca, hcr⟩ := sl_open hm.2.1
 obtain ⟨fa, fb, foff, fcap, rfl, hfcap, hfa, hfr⟩ := sl_open hm.2.2
 have HCR := hide hcr
 have HFR := hide hfr
 clear hp hm hcr hfr
 go_enter Tryz.func94, Tryz.ntmps94
 go_wp2_with fail
 generalize hW : (w.alloc _).alloc _ = W
 have hbel : Below w.heap.size w W := by rw [← hW]; exact box2_below _ _ _
 have p0 : W.cell? ⟨w.heap.size, 0, none⟩ = some (.slice pa p.length pcap) := by rw [← hW]; exact box2_fst _ _ _ _ 0
 have l0 : W.cell? ⟨w.heap.size + 1, 0, none⟩ = some (.int .i64 m.slot) := by rw [← hW]; exact box2_snd _ _ _ _ 0
 have l1 : W.cell? ⟨w.heap.size + 1, 1, none⟩ = some (.slice aa m.args.length acap) := by rw [← hW]; exact box2_snd _ _ _ _ 1
 have l2 : W.cell? ⟨w.heap.size + 1, 2, none⟩ = some (.int .i64 m.ret) := by rw [← hW]; exact box2_snd _ _ _ _ 2
 have l3 : W.cell? ⟨w.heap.size + 1, 3, none⟩ = some (.int .i64 m.locals) := by rw [← hW]; exact box2_snd _ _ _ _ 3
 have l4 : W.cell? ⟨w.heap.size + 1, 4, none⟩ = some (.int .i64 m.stack) := by rw [← hW]; exact box2_snd _ _ _ _ 4
 have l5 : W.cell? ⟨w.heap.size + 1, 5, none⟩ = some (.slice ca m.code.length ccap) := by rw [← hW]; exact box2_snd _ _ _ _ 5
 have l6 : W.cell? ⟨w.heap.size + 1, 6, none⟩ = some (.slice fa m.frames.length fcap) := by rw [← hW]; exact box2_snd _ _ _ _ 6
 clear hW
 have KP := hide (Keeps.of_below hbel)
 have hsz := hbel.size
 go_loopw [5] (fun s wr => ∃ k : Nat, k ≤ m.code.length ∧ s = .int .i64 k ∧ (m.code.take k).all (insB p m) = true ∧ Below W.heap.size W wr) (fun s _ => m.code.length - (intOf s).toNat)
 case atStart => exact ⟨0, Nat.zero_le _, rfl, rfl, Below.refl _ _⟩
 case round =>
  obtain ⟨k, hk, rfl, hall, hbr⟩ := hrel
  have HA := hide hall
  have hkr := Keeps.of_below hbr
  have KR := hide hkr
  have hszr := hbr.size
  have q0 := hkr _ _ p0
  have r0 := hkr _ _ l0
  have r1 := hkr _ _ l1
  have r2 := hkr _ _ l2
  have r3 := hkr _ _ l3
  have r4 := hkr _ _ l4
  have r5 := hkr _ _ l5
  have r6 := hkr _ _ l6
  clear hall hkr
  by_cases hlt : k < m.code.length
  ·obtain rfl := hca (ne_nil_of_lt hlt)
   have hS := all_snoc (f := insB p m) hlt
   rw [unhide HA] at hS
   have HS := hide hS
   obtain ⟨c0, c1, c2⟩ := (unhide HCR k hlt).keep ((unhide KP).trans (unhide KR))
   have hki : (k : Int) < (m.code.length : Int) := by omega
   have hk0 : (0 : Int) ≤ (k : Int) := by omega
   clear hS
   have HL := hide (And.intro l0 (And.intro l1 (And.intro l2 (And.intro l3 (And.intro l4 (And.intro l5 l6))))))
   clear l0 l1 l2 l3 l4 l5 l6 p0
   cases hin : insB p m m.code[k]
   ·go_wp2_with fail
    go_region_held3 (fun w' => w'.cell? ⟨w.heap.size, 0, none⟩ = some (.slice pa p.length pcap) ∧ w'.cell? ⟨w.heap.size + 1, 0, none⟩ = some (.int .i64 m.slot) ∧ w'.cell? ⟨w.heap.size + 1, 1, none⟩ = some (.slice aa m.args.length acap) ∧ w'.cell? ⟨w.heap.size + 1, 2, none⟩ = some (.int .i64 m.ret) ∧
      w'.cell? ⟨w.heap.size + 1, 3, none⟩ = some (.int .i64 m.locals) ∧ w'.cell? ⟨w.heap.size + 1, 4, none⟩ = some (.int .i64 m.stack) ∧ w'.cell? ⟨w.heap.size + 1, 5, none⟩ = some (.slice (some ⟨cb, coff, none⟩) m.code.length ccap) ∧ w'.cell? ⟨w.heap.size + 1, 6, none⟩ = some (.slice fa m.frames.length fcap) ∧
      w'.cell? ⟨cb, coff + k * 3, none⟩ = some (.int .i64 m.code[k].op) ∧ w'.cell? ⟨cb, coff + k * 3 + 1, none⟩ = some (.int .i64 m.code[k].a) ∧ w'.cell? ⟨cb, coff + k * 3 + 2, none⟩ = some (.int .i64 m.code[k].b))
     (first | go_keep | (exact ⟨Keeps.of_below hb1 _ _ (by simpa using q0), Keeps.of_below hb1 _ _ (by simpa using r0), Keeps.of_below hb1 _ _ (by simpa using r1), Keeps.of_below hb1 _ _ (by simpa using r2), Keeps.of_below hb1 _ _ (by simpa using r3), Keeps.of_below hb1 _ _ (by simpa using r4), Keeps.of_below hb1 _ _ (by simpa using r5), Keeps.of_below hb1 _ _ (by simpa using r6), Keeps.of_below hb1 _ _ (by simpa using c0), Keeps.of_below hb1 _ _ (by simpa using c1), Keeps.of_below hb1 _ _ (by simpa using c2)⟩))
     (first | ((go_at_call 149; refine (ref_ins p _ m aa (some ⟨cb, coff, none⟩) fa m.args.length acap ccap m.frames.length fcap m.code[k] _ (prog_keep (Keeps.of_below ((Below.refl _ _).drew)) (prog_keep ((unhide KP).trans (unhide KR)) (unhide HP))) hs hz (by omega)).mono ?_); rintro e w1 ⟨rfl, hb1⟩))
    have hfin : Below w.heap.size w w1 := (hbel.trans (hbr.mono hsz)).drew.trans (hb1.mono (by simpa using Nat.le_trans hsz hszr))
    go_wp2
    go_ret
    exact ⟨ret_bool (by rw [unhide HE, all_no hlt hin]; rfl), hfin⟩
   ·go_wp2_with fail
    go_region_held3 (fun w' => w'.cell? ⟨w.heap.size, 0, none⟩ = some (.slice pa p.length pcap) ∧ w'.cell? ⟨w.heap.size + 1, 0, none⟩ = some (.int .i64 m.slot) ∧ w'.cell? ⟨w.heap.size + 1, 1, none⟩ = some (.slice aa m.args.length acap) ∧ w'.cell? ⟨w.heap.size + 1, 2, none⟩ = some (.int .i64 m.ret) ∧
      w'.cell? ⟨w.heap.size + 1, 3, none⟩ = some (.int .i64 m.locals) ∧ w'.cell? ⟨w.heap.size + 1, 4, none⟩ = some (.int .i64 m.stack) ∧ w'.cell? ⟨w.heap.size + 1, 5, none⟩ = some (.slice (some ⟨cb, coff, none⟩) m.code.length ccap) ∧ w'.cell? ⟨w.heap.size + 1, 6, none⟩ = some (.slice fa m.frames.length fcap) ∧
      w'.cell? ⟨cb, coff + k * 3, none⟩ = some (.int .i64 m.code[k].op) ∧ w'.cell? ⟨cb, coff + k * 3 + 1, none⟩ = some (.int .i64 m.code[k].a) ∧ w'.cell? ⟨cb, coff + k * 3 + 2, none⟩ = some (.int .i64 m.code[k].b))
     (first | go_keep | (exact ⟨Keeps.of_below hb1 _ _ (by simpa using q0), Keeps.of_below hb1 _ _ (by simpa using r0), Keeps.of_below hb1 _ _ (by simpa using r1), Keeps.of_below hb1 _ _ (by simpa using r2), Keeps.of_below hb1 _ _ (by simpa using r3), Keeps.of_below hb1 _ _ (by simpa using r4), Keeps.of_below hb1 _ _ (by simpa using r5), Keeps.of_below hb1 _ _ (by simpa using r6), Keeps.of_below hb1 _ _ (by simpa using c0), Keeps.of_below hb1 _ _ (by simpa using c1), Keeps.of_below hb1 _ _ (by simpa using c2)⟩))
     (first | ((go_at_call 149; refine (ref_ins p _ m aa (some ⟨cb, coff, none⟩) fa m.args.length acap ccap m.frames.length fcap m.code[k] _ (prog_keep (Keeps.of_below ((Below.refl _ _).drew)) (prog_keep ((unhide KP).trans (unhide KR)) (unhide HP))) hs hz (by omega)).mono ?_); rintro e w1 ⟨rfl, hb1⟩))
    have hnext : Below W.heap.size W w1 := hbr.drew.trans (hb1.mono (by simpa using hszr))
    go_wp2
    exact ⟨⟨k + 1, by omega, by go_num, by rw [unhide HS, hin]; rfl, hnext⟩, by simp [intOf]; omega⟩
  ·have HALL : Hid (m.code.all (insB p m) = true) := by
    have := unhide HA
    rwa [List.take_of_length_le (by omega)] at this
   go_wp2_with fail
   clear q0 r0 r1 r2 r3 r4 r5 r6
   obtain ⟨wo, rfl⟩ : ∃ wo : World, wo = wr := ⟨_, rfl⟩
   go_loopw [7, 8] (fun s7 s8 wr' => ∃ (k : Nat) (last : Int), k ≤ m.frames.length ∧ s8 = .int .i64 k ∧ s7 = .int .i64 last ∧ framesB p.length m (-1) m.frames = framesB p.length m last (m.frames.drop k) ∧ Below W.heap.size W wr') (fun _ s8 _ => m.frames.length - (intOf s8).toNat)
   case atStart => exact ⟨0, -1, Nat.zero_le _, rfl, rfl, rfl, hbr⟩
   case round =>
    clear hlt hk HA KR hszr hbr
    obtain ⟨j, last, hj, rfl, rfl, hfrb, hbr⟩ := hrel
    have HFRB := hide hfrb
    have hkr := Keeps.of_below hbr
    have KR := hide hkr
    have hszr := hbr.size
    have q0 := hkr _ _ p0
    have r3 := hkr _ _ l3
    have r4 := hkr _ _ l4
    have r5 := hkr _ _ l5
    have r6 := hkr _ _ l6
    clear hfrb hkr
    by_cases hlt : j < m.frames.length
    ·obtain rfl := hfa (ne_nil_of_lt hlt)
     have HD := hide (List.drop_eq_getElem_cons hlt)
     obtain ⟨vl, vs, c0, c1, c2, hl, hst⟩ := (unhide HFR j hlt).keep ((unhide KP).trans (unhide KR))
     have hwf := hwm.2.2.2.2.2.2 _ (List.getElem_mem hlt)
     have hfs := Nat.le_trans (szFrame_le (List.getElem_mem hlt)) hml
     have hll : m.frames[j].locals.length ≤ 4194304 := by unfold szFrame at hfs; omega
     have hsl : m.frames[j].stack.length ≤ 4194304 := by unfold szFrame at hfs; omega
     have HL := hide hl
     have HST := hide hst
     obtain ⟨la, lb, loff, lcap, rfl, _, _, _⟩ := sl_open hl
     obtain ⟨sa, sb, soff, scap, rfl, _, _, _⟩ := sl_open hst
     have hlt1 := cell_lt c0
     have hlt2 := cell_lt r5
     have hlt3 := cell_lt q0
     clear hl hst
     generalize m.frames[j] = f at *
     go_wp2_with fail
     generalize hW2 : wr.alloc _ = W2
     have hb2 : Below wr.heap.size wr W2 := by rw [← hW2]; exact box_below _ _
     have s0 : W2.cell? ⟨wr.heap.size, 0, none⟩ = some (.int .i64 f.pc) := by rw [← hW2]; exact box_cell _ _ _ 0
     have s1 : W2.cell? ⟨wr.heap.size, 1, none⟩ = some (.slice la f.locals.length lcap) := by rw [← hW2]; exact box_cell _ _ _ 1
     have s2 : W2.cell? ⟨wr.heap.size, 2, none⟩ = some (.slice sa f.stack.length scap) := by rw [← hW2]; exact box_cell _ _ _ 2
     clear hW2
     have hk2 := Keeps.of_below hb2
     have K2 := hide hk2
     have t0 := hk2 _ _ q0
     have t3 := hk2 _ _ r3
     have t4 := hk2 _ _ r4
     have t5 := hk2 _ _ r5
     have t6 := hk2 _ _ r6
     have hnext : Below W.heap.size W W2 := hbr.trans (hb2.mono hszr)
     have hfin : Below w.heap.size w W2 := hbel.trans (hnext.mono hsz)
     clear hk2 q0 r3 r4 r5 r6 c0 c1 c2 p0 l0 l1 l2 l3 l4 l5 l6
     refine (ref_framed_eq rfl _ (ints_keep (unhide K2) (unhide HL)) hwf.2.1 hll).mono ?_
     rintro e w3 ⟨rfl, rfl⟩
     go_wp2_with fail
     refine (ref_framed_eq rfl _ (ints_keep (unhide K2) (unhide HST)) hwf.2.2 hsl).mono ?_
     rintro e w4 ⟨rfl, rfl⟩
     by_cases g4 : f.pc ≤ last
     ·go_wp2_with fail
      go_ret
      exact ⟨ret_bool (by rw [unhide HE, unhide HALL, unhide HFRB, unhide HD, frames_no (fun h => by omega)]; rfl), hfin⟩
     by_cases g5 : (m.code.length : Int) ≤ f.pc
     ·go_wp2_with fail
      go_ret
      exact ⟨ret_bool (by rw [unhide HE, unhide HALL, unhide HFRB, unhide HD, frames_no (fun h => by omega)]; rfl), hfin⟩
     by_cases g6 : (f.locals.length : Int) ≠ m.locals
     ·have g6' : ((f.locals.length : Int) == m.locals) = false := by simpa using g6
      have G6 := hide g6
      clear g6
      go_wp2_with fail
      go_ret
      exact ⟨ret_bool (by rw [unhide HE, unhide HALL, unhide HFRB, unhide HD, frames_no (fun h => unhide G6 h.2.2.1)]; rfl), hfin⟩
     have g6 := Classical.not_not.1 g6
     have g6' : ((f.locals.length : Int) == m.locals) = true := by simpa using g6
     have G6 := hide g6
     clear g6
     by_cases g7 : m.stack < (f.stack.length : Int)
     ·go_wp2_with fail
      go_ret
      exact ⟨ret_bool (by rw [unhide HE, unhide HALL, unhide HFRB, unhide HD, frames_no (fun h => by omega)]; rfl), hfin⟩
     cases hA : f.locals.all (framedB p.length)
     ·go_wp2_with fail
      go_ret
      exact ⟨ret_bool (by rw [unhide HE, unhide HALL, unhide HFRB, unhide HD, frames_no (fun h => Bool.false_ne_true (hA.symm.trans h.2.2.2.2.1))]; rfl), hfin⟩
     cases hB : f.stack.all (framedB p.length)
     ·go_wp2_with fail
      go_ret
      exact ⟨ret_bool (by rw [unhide HE, unhide HALL, unhide HFRB, unhide HD, frames_no (fun h => Bool.false_ne_true (hB.symm.trans h.2.2.2.2.2))]; rfl), hfin⟩
     go_wp2_with fail
     exact ⟨⟨j + 1, f.pc, by omega, by go_num, rfl, by rw [unhide HFRB, unhide HD, frames_yes ⟨by omega, by omega, unhide G6, by omega, hA, hB⟩], hnext⟩, by simp [intOf]; omega⟩
    ·go_wp2
     go_ret
     exact ⟨ret_bool (by rw [unhide HE, unhide HALL, unhide HFRB, List.drop_eq_nil_of_le (by omega)]; rfl), hbel.trans (hbr.mono hsz)⟩
end Go.Proofs.YtiiokkllmchohaaGreat
