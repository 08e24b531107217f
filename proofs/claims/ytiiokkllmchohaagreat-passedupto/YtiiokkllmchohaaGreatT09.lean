/- Walks of the code's own tests: numbers within a bound, classes that are there, declared types, types in frames. -/
import Derived.Test.YtiiokkllmchohaaGreatT01
namespace Go.Proofs.YtiiokkllmchohaaGreat
open Go.RowKit
attribute [local go_sem ↓] Go.wp_at_zero Go.wp_at_succ
set_option maxHeartbeats 400000 in
theorem code_within (v n : Int) (w : World) :
  Calls Tryz.prog 182 #[.int .i64 v, .int .i64 n] w fun e w' => e = .returned (.bool (placeB v n)) ∧ w' = w := by
 go_enter Tryz.func182, Tryz.ntmps182
 go_wp2
 all_goals go_ret
 all_goals exact ⟨ret_bool (by simp [placeB, *] <;> omega), rfl⟩

set_option maxHeartbeats 400000 in
theorem code_hasclass (p : List LClass) (vc : Value) (c : Int) (w : World) (hp : RProg w vc p) (_hl : p.length ≤ 4194304) :
  Calls Tryz.prog 108 #[.agg #[vc], .int .i64 c] w fun e w' => e = .returned (.bool (placeB c p.length)) ∧ Below w.heap.size w w' := by
 obtain ⟨a, b, off, cap, rfl, hcap, ha, hr⟩ := sl_open hp
 clear ha hr hp
 go_enter Tryz.func108, Tryz.ntmps108
 go_wp2
 all_goals go_ret
 all_goals exact ⟨ret_bool (by simp [placeB, *] <;> omega), box_below _ _⟩

set_option maxHeartbeats 400000 in
theorem code_isdeclared (p : List LClass) (vc : Value) (t : Int) (w : World) (hp : RProg w vc p) (ht : I64 t) (_hl : p.length ≤ 4194304) :
  Calls Tryz.prog 219 #[.agg #[vc], .int .i64 t] w fun e w' => e = .returned (.bool (declB p.length t)) ∧ Below w.heap.size w w' := by
 obtain ⟨a, b, off, cap, rfl, hcap, ha, hr⟩ := sl_open hp
 obtain ⟨h1, h2⟩ := ht
 clear ha hr hp
 go_enter Tryz.func219, Tryz.ntmps219
 go_wp2
 all_goals go_ret
 all_goals exact ⟨ret_bool (by simp [declB, *] <;> omega), box_below _ _⟩
theorem code_isdeclared_eq {p : List LClass} {t : Int} {q : Bool} (h : declB p.length t = q) (vc : Value) (w : World) (hp : RProg w vc p) (ht : I64 t) (hl : p.length ≤ 4194304) :
  Calls Tryz.prog 219 #[.agg #[vc], .int .i64 t] w fun e w' => e = .returned (.bool q) ∧ Below w.heap.size w w' := h ▸ code_isdeclared p vc t w hp ht hl

set_option maxHeartbeats 800000 in
theorem code_aredeclared (p : List LClass) (vc : Value) (l : List Int) (v : Value) (w : World) (hp : RProg w vc p) (hpl : p.length ≤ 4194304) (hl : SlAt 1 (RInt w) v l) (hw : ∀ x ∈ l, I64 x) (hs : l.length ≤ 4194304) :
  Calls Tryz.prog 184 #[.agg #[vc], v] w fun e w' => e = .returned (.bool (l.all (declB p.length))) ∧ Below w.heap.size w w' := by
 have HP := hide hp
 obtain ⟨pa, pb, poff, pcap, rfl, _, _, _⟩ := sl_open hp
 obtain ⟨a, b, off, cap, rfl, hcap, ha, hr⟩ := ints_open hl
 have HR := hide hr
 clear hp hr hl
 go_enter Tryz.func184, Tryz.ntmps184
 go_wp2
 generalize hW : w.alloc _ = W
 have hbel : Below w.heap.size w W := hW ▸ box_below _ _
 have hbox : W.cell? ⟨w.heap.size, 0, none⟩ = some (.slice pa p.length pcap) := hW ▸ box_cell w #[.slice pa p.length pcap] 24 0
 clear hW
 go_loopw [9] (fun i wr => ∃ k : Nat, k ≤ l.length ∧ i = .int .i64 k ∧ (l.take k).all (declB p.length) = true ∧ Below W.heap.size W wr) (fun i _ => l.length - (intOf i).toNat)
 case atStart => exact ⟨0, Nat.zero_le _, rfl, rfl, Below.refl _ _⟩
 case round =>
  obtain ⟨k, hk, rfl, hall, hbr⟩ := hrel
  have HA : Hid ((l.take k).all (declB p.length) = true) := hall
  clear hall
  have hfin : Below w.heap.size w wr := hbel.trans (hbr.mono hbel.size)
  by_cases hlt : k < l.length
  ·obtain rfl := ha (ne_nil_of_lt hlt)
   have hx := hw _ (List.getElem_mem hlt)
   have hS := all_snoc (f := declB p.length) hlt
   rw [HA.out] at hS
   have HS := hide hS
   have e0 := Keeps.of_below hbr _ _ hbox
   have e1 := Keeps.of_below hfin _ _ (unhide HR k hlt)
   clear hS hw
   cases hb : declB p.length l[k]
   ·have hB := code_isdeclared_eq hb _ wr (prog_keep (Keeps.of_below hfin) (unhide HP)) hx hpl
    go_wp2_with (go_at_call 219; refine hB.mono ?_; rintro e w' ⟨rfl, hb1⟩)
    go_ret
    exact ⟨ret_bool (by rw [← List.take_append_drop (k + 1) l, List.all_append, unhide HS, hb]; rfl), hfin.trans (hb1.mono hfin.size)⟩
   ·have hB := code_isdeclared_eq hb _ wr (prog_keep (Keeps.of_below hfin) (unhide HP)) hx hpl
    go_wp2_with (go_at_call 219; refine hB.mono ?_; rintro e w' ⟨rfl, hb1⟩)
    exact ⟨⟨k + 1, by omega, by go_num, by rw [unhide HS, hb]; rfl, hbr.trans (hb1.mono hbr.size)⟩, by simp [intOf]; omega⟩
  ·go_wp2
   go_ret
   exact ⟨ret_bool (by rw [← HA.out, List.take_of_length_le (by omega)]), hfin⟩

set_option maxHeartbeats 800000 in
theorem code_maystand (p : List LClass) (vc : Value) (l : List Int) (v : Value) (w : World) (hp : RProg w vc p) (hpl : p.length ≤ 4194304) (hl : SlAt 1 (RInt w) v l) (hw : ∀ x ∈ l, I64 x) (hs : l.length ≤ 4194304) :
  Calls Tryz.prog 222 #[.agg #[vc], v] w fun e w' => e = .returned (.bool (l.all (framedB p.length))) ∧ Below w.heap.size w w' := by
 have HP := hide hp
 obtain ⟨pa, pb, poff, pcap, rfl, _, _, _⟩ := sl_open hp
 obtain ⟨a, b, off, cap, rfl, hcap, ha, hr⟩ := ints_open hl
 have HR := hide hr
 clear hp hr hl
 go_enter Tryz.func222, Tryz.ntmps222
 go_wp2
 generalize hW : w.alloc _ = W
 have hbel : Below w.heap.size w W := hW ▸ box_below _ _
 have hbox : W.cell? ⟨w.heap.size, 0, none⟩ = some (.slice pa p.length pcap) := hW ▸ box_cell w #[.slice pa p.length pcap] 24 0
 clear hW
 go_loopw [9] (fun i wr => ∃ k : Nat, k ≤ l.length ∧ i = .int .i64 k ∧ (l.take k).all (framedB p.length) = true ∧ Below W.heap.size W wr) (fun i _ => l.length - (intOf i).toNat)
 case atStart => exact ⟨0, Nat.zero_le _, rfl, rfl, Below.refl _ _⟩
 case round =>
  obtain ⟨k, hk, rfl, hall, hbr⟩ := hrel
  have HA : Hid ((l.take k).all (framedB p.length) = true) := hall
  clear hall
  have hfin : Below w.heap.size w wr := hbel.trans (hbr.mono hbel.size)
  by_cases hlt : k < l.length
  ·obtain rfl := ha (ne_nil_of_lt hlt)
   have hx := hw _ (List.getElem_mem hlt)
   have hS := all_snoc (f := framedB p.length) hlt
   rw [HA.out] at hS
   have HS := hide hS
   have e0 := Keeps.of_below hbr _ _ hbox
   have e1 := Keeps.of_below hfin _ _ (unhide HR k hlt)
   clear hS hw
   by_cases h1 : l[k] = 1
   ·have HT : Hid (framedB p.length l[k] = true) := hide (by simp [framedB, h1])
    rw [h1] at e1
    go_wp2_with fail
    exact ⟨⟨k + 1, by omega, by go_num, by rw [unhide HS, unhide HT]; rfl, hbr⟩, by simp [intOf]; omega⟩
   by_cases h2 : l[k] = 2
   ·have HT : Hid (framedB p.length l[k] = true) := hide (by simp [framedB, h2])
    rw [h2] at e1
    go_wp2_with fail
    exact ⟨⟨k + 1, by omega, by go_num, by rw [unhide HS, unhide HT]; rfl, hbr⟩, by simp [intOf]; omega⟩
   have h1' : (l[k] != 1) = true := by simpa using h1
   have h2' : (l[k] != 2) = true := by simpa using h2
   have hD : framedB p.length l[k] = declB p.length l[k] := by unfold framedB; rw [beq_eq_false_iff_ne.2 h1, beq_eq_false_iff_ne.2 h2, Bool.or_false, Bool.or_false]
   have HD := hide hD
   clear hD h1 h2
   cases hb : declB p.length l[k]
   ·have hB := code_isdeclared_eq hb _ wr (prog_keep (Keeps.of_below hfin) (unhide HP)) hx hpl
    go_wp2_with (go_at_call 219; refine hB.mono ?_; rintro e w' ⟨rfl, hb1⟩)
    go_ret
    exact ⟨ret_bool (by rw [← List.take_append_drop (k + 1) l, List.all_append, unhide HS, unhide HD, hb]; rfl), hfin.trans (hb1.mono hfin.size)⟩
   ·have hB := code_isdeclared_eq hb _ wr (prog_keep (Keeps.of_below hfin) (unhide HP)) hx hpl
    go_wp2_with (go_at_call 219; refine hB.mono ?_; rintro e w' ⟨rfl, hb1⟩)
    exact ⟨⟨k + 1, by omega, by go_num, by rw [unhide HS, unhide HD, hb]; rfl, hbr.trans (hb1.mono hbr.size)⟩, by simp [intOf]; omega⟩
  ·go_wp2
   go_ret
   exact ⟨ret_bool (by rw [← HA.out, List.take_of_length_le (by omega)]), hfin⟩

set_option maxHeartbeats 400000 in
theorem code_equal (l r : List Int) (v u : Value) (w : World) (hl : SlAt 1 (RInt w) v l) (hr : SlAt 1 (RInt w) u r) (hs : l.length ≤ 4194304) (hs' : r.length ≤ 4194304) :
  Calls Tryz.prog 220 #[v, u] w fun e w' => e = .returned (.bool (l == r)) ∧ ∃ n, w' = w.drewN n := by
 obtain ⟨a, b, off, cap, rfl, hcap, ha, hc⟩ := ints_open hl
 obtain ⟨a', b', off', cap', rfl, hcap', ha', hc'⟩ := ints_open hr
 by_cases hn : l.length = r.length
 ·have hne : ((l.length : Int) == (r.length : Int)) = true := by rw [hn]; simp
  go_enter Tryz.func220, Tryz.ntmps220
  go_wp2
  go_loopw [13] (fun i wr => ∃ k : Nat, k ≤ l.length ∧ i = .int .i64 k ∧ l.take k = r.take k ∧ ∃ n, wr = w.drewN n) (fun i _ => l.length - (intOf i).toNat)
  case atStart => exact ⟨0, Nat.zero_le _, rfl, rfl, 0, rfl⟩
  case round =>
   obtain ⟨k, hk, rfl, htk, nn, rfl⟩ := hrel
   have HT := hide htk
   have HN := hide hn
   clear htk hn
   by_cases hlt : k < l.length
   ·have hlt' : k < r.length := by rw [← unhide HN]; exact hlt
    obtain rfl := ha (ne_nil_of_lt hlt)
    obtain rfl := ha' (ne_nil_of_lt hlt')
    have HE := hide (take_snoc_eq hlt hlt')
    go_wp2
    go_quiet (fail)
    go_wp2
    ·go_ret
     have hx : l[k] ≠ r[k] := by simp_all
     exact ⟨ret_bool (by rw [eq_comm, beq_eq_false_iff_ne]; intro e; subst e; exact hx rfl), nn + nq, by rw [World.drewN_drewN]⟩
    ·have hx : l[k] = r[k] := by simp_all
     exact ⟨⟨k + 1, by omega, by go_num, (unhide HE).2 ⟨unhide HT, hx⟩, _, rfl⟩, by simp [intOf]; omega⟩
   ·have hlt' : ¬ k < r.length := by rw [← unhide HN]; exact hlt
    go_wp2
    go_ret
    refine ⟨ret_bool ?_, _, rfl⟩
    have := unhide HT
    rw [List.take_of_length_le (by omega), List.take_of_length_le (by have := unhide HN; omega)] at this
    simp [this]
 ·have hne : ((l.length : Int) == (r.length : Int)) = false := by simp; omega
  go_enter Tryz.func220, Tryz.ntmps220
  go_wp2
  go_ret
  exact ⟨ret_bool (by rw [eq_comm, beq_eq_false_iff_ne]; intro e; subst e; exact hn rfl), 0, rfl⟩
set_option maxHeartbeats 800000 in
theorem code_countfields (p : List LClass) (vc : Value) (n : Nat) (c : Int) (w : World) (hp : RProg w vc p) (hs : SupOk p n) (hn : n ≤ p.length) (hc : -1 ≤ c) (hcn : c < n) (hz : szProg p ≤ 4194304) :
  Calls Tryz.prog 183 #[.agg #[vc], .int .i64 c] w fun e w' =>
   e = .returned (.int .i64 (fieldsOf p c).length) ∧ Below w.heap.size w w' := by
 have hfz : (fieldsOf p c).length ≤ 4194304 := by
  rcases Int.lt_or_le c 0 with h | h
  ·rw [fieldsOf_neg p h]; simp
  ·obtain ⟨k, rfl⟩ := Int.eq_ofNat_of_zero_le h
   exact Nat.le_trans (fieldsOf_sz p hs (by omega)) hz
 obtain ⟨a, b, off, cap, rfl, hcap, ha, hr⟩ := sl_open hp
 go_enter Tryz.func183, Tryz.ntmps183
 go_wp2
 generalize hW : w.alloc _ = W
 have hbel : Below w.heap.size w W := hW ▸ box_below _ _
 have hbox : W.cell? ⟨w.heap.size, 0, none⟩ = some (.slice a p.length cap) := hW ▸ box_cell w #[.slice a p.length cap] 24 0
 clear hW
 go_loop [5, 6] (fun s5 s6 => ∃ (c' : Int) (t : Nat), -1 ≤ c' ∧ c' < n ∧ s6 = .int .i64 c' ∧ s5 = .int .i64 t ∧ t + (fieldsOf p c').length = (fieldsOf p c).length) (fun _ s6 => (intOf s6 + 1).toNat)
 case atStart => exact ⟨c, 0, hc, hcn, rfl, rfl, by omega⟩
 case round =>
  obtain ⟨c', t, h1, h2, rfl, rfl, hm⟩ := hrel
  have HM := hide hm
  have ht : t ≤ 4194304 := by omega
  clear hm
  rcases Int.lt_or_le c' 0 with hneg | hpos
  ·go_wp2
   go_ret
   refine ⟨ret_int ?_, hbel⟩
   have := unhide HM
   rw [fieldsOf_neg p hneg] at this
   simp only [List.length_nil] at this
   omega
  ·obtain ⟨i, rfl⟩ := Int.eq_ofNat_of_zero_le hpos
   have hi : i < p.length := by omega
   obtain rfl := ha (ne_nil_of_lt hi)
   obtain ⟨vf, vm, c0, c1, c2, hf, hmm⟩ := (hr i hi).keep (Keeps.of_below hbel)
   obtain ⟨fa, fb, foff, fcap, rfl, _, _, _⟩ := sl_open hf
   have HX := hide (List.getElem?_eq_getElem hi)
   have hlen : p[i].fields.length ≤ 4194304 := by
    have := szFields_le p[i]; have := szClass_le (List.getElem_mem hi); omega
   clear hr hmm hf
   generalize p[i] = x at *
   go_wp2
   have hsup := supB_le (hs i x (by omega) (unhide HX))
   refine ⟨⟨x.sup, t + x.fields.length, hsup.1, by omega, rfl, by go_num, ?_⟩, by simp [intOf]; omega⟩
   have := unhide HM
   rw [fieldsOf_step p hs (by omega) (unhide HX), List.length_append] at this
   omega

set_option maxHeartbeats 800000 in
theorem code_hasslot (ms : List LMeth) (vm : Value) (slot : Int) (w : World) (hp : SlAt 7 (RMeth w) vm ms) (hz : ms.length ≤ 4194304) :
  Calls Tryz.prog 186 #[vm, .int .i64 slot] w fun e w' =>
   e = .returned (.bool (!(ms.all fun o => !(o.slot == slot)))) ∧ Below w.heap.size w w' := by
 obtain ⟨a, b, off, cap, rfl, hcap, ha, hr⟩ := sl_open hp
 have HR := hide hr
 clear hp hr
 go_enter Tryz.func186, Tryz.ntmps186
 go_wp2
 go_loopw [9] (fun i wr => ∃ k : Nat, k ≤ ms.length ∧ i = .int .i64 k ∧ (ms.take k).all (fun o => !(o.slot == slot)) = true ∧ Below w.heap.size w wr) (fun i _ => ms.length - (intOf i).toNat)
 case atStart => exact ⟨0, Nat.zero_le _, rfl, rfl, Below.refl _ _⟩
 case round =>
  obtain ⟨k, hk, rfl, hall, hbr⟩ := hrel
  have HA := hide hall
  clear hall
  by_cases hlt : k < ms.length
  ·obtain rfl := ha (ne_nil_of_lt hlt)
   have hS := all_snoc (f := fun o : LMeth => !(o.slot == slot)) hlt
   rw [HA.out] at hS
   have HS := hide hS
   obtain ⟨va, vc, vf, hv, m0, m1, m2, m3, m4, m5, m6⟩ := (unhide HR k hlt).keep (Keeps.of_below hbr)
   obtain ⟨_, _, _, _, rfl, _⟩ := hv.1
   obtain ⟨_, _, _, _, rfl, _⟩ := hv.2.1
   obtain ⟨_, _, _, _, rfl, _⟩ := hv.2.2
   have hltb := cell_lt m0
   clear hS hv
   generalize ms[k] = m at *
   cases hb : (m.slot == slot)
   ·go_wp2
    exact ⟨⟨k + 1, by omega, by go_num, by rw [unhide HS]; simp [hb], hbr.trans ((box_below _ _).mono hbr.size)⟩, by simp [intOf]; omega⟩
   ·go_wp2
    go_ret
    exact ⟨ret_bool (by rw [← List.take_append_drop (k + 1) ms, List.all_append, unhide HS]; simp [hb]), hbr.trans ((box_below _ _).mono hbr.size)⟩
  ·go_wp2
   go_ret
   exact ⟨ret_bool (by rw [← List.take_append_drop k ms, List.all_append, unhide HA, List.drop_of_length_le (by omega)]; rfl), hbr⟩
def methV (m : LMeth) (va vc vf : Value) : Value := .agg #[.int .i64 m.slot, va, .int .i64 m.ret, .int .i64 m.locals, .int .i64 m.stack, vc, vf]
def Found (w : World) (p : List LClass) (c slot : Int) (o : LMeth) (va vc vf : Value) : Prop :=
 ∀ ck, methOf p c slot = some ck → methAt p ck = some o ∧ MVals w o va vc vf

def put7 (w : World) (b : Nat) (v0 v1 v2 v3 v4 v5 v6 : Value) : World :=
 ((((((w.setCell ⟨b, 0, none⟩ v0).setCell ⟨b, 1, none⟩ v1).setCell ⟨b, 2, none⟩ v2).setCell ⟨b, 3, none⟩ v3).setCell ⟨b, 4, none⟩ v4).setCell ⟨b, 5, none⟩ v5).setCell ⟨b, 6, none⟩ v6
theorem put7_blk {w : World} {b : Nat} {t : TypeId} {a0 a1 a2 a3 a4 a5 a6 : Value} (h : Blk w b t [a0, a1, a2, a3, a4, a5, a6]) (v0 v1 v2 v3 v4 v5 v6 : Value) :
  Blk (put7 w b v0 v1 v2 v3 v4 v5 v6) b t [v0, v1, v2, v3, v4, v5, v6] :=
 ((((((h.setCell 0 v0).setCell 1 v1).setCell 2 v2).setCell 3 v3).setCell 4 v4).setCell 5 v5).setCell 6 v6
theorem put7_mods (w : World) (b : Nat) (v0 v1 v2 v3 v4 v5 v6 : Value) : Mods (fun k => k = b) w (put7 w b v0 v1 v2 v3 v4 v5 v6) :=
 (((((((Mods.refl (fun k => k = b) w).setCell (p := ⟨b, 0, none⟩) (fun _ => rfl) v0).setCell (p := ⟨b, 1, none⟩) (fun _ => rfl) v1).setCell (p := ⟨b, 2, none⟩) (fun _ => rfl) v2).setCell (p := ⟨b, 3, none⟩) (fun _ => rfl) v3).setCell (p := ⟨b, 4, none⟩) (fun _ => rfl) v4).setCell (p := ⟨b, 5, none⟩) (fun _ => rfl) v5).setCell (p := ⟨b, 6, none⟩) (fun _ => rfl) v6
theorem Blk.below {w w' : World} {b B : Nat} {t : TypeId} {cs : List Value} (h : Blk w b t cs) (hb : Below B w w') (hB : b < B) : Blk w' b t cs := (hb.block b hB).trans h

set_option maxHeartbeats 800000 in
set_option maxRecDepth 100000 in
theorem code_findmethod0 (p : List LClass) (vc : Value) (n : Nat) (c slot : Int) (w0 w : World) (hp : RProg w0 vc p) (hb0 : Below w0.heap.size w0 w) (hs : SupOk p n) (hn : n ≤ p.length) (hc : -1 ≤ c) (hcn : c < n) (hz : szProg p ≤ 4194304) :
  Calls Tryz.prog 109 #[.agg #[vc], .int .i64 c, .int .i64 slot] w fun e w' =>
   ∃ (o : LMeth) (aa ca fa : Option Addr) (ac cc fc : Nat), e = .returned (.tuple #[.agg #[.int .i64 o.slot, .slice aa o.args.length ac, .int .i64 o.ret, .int .i64 o.locals, .int .i64 o.stack, .slice ca o.code.length cc, .slice fa o.frames.length fc], .bool (methOf p c slot).isSome]) ∧
    Found w0 p c slot o (.slice aa o.args.length ac) (.slice ca o.code.length cc) (.slice fa o.frames.length fc) ∧ Below w.heap.size w w' := by
 obtain ⟨a, b, off, cap, rfl, hcap, ha, hr⟩ := sl_open hp
 have HR := hide hr
 clear hp hr
 go_enter Tryz.func109, Tryz.ntmps109
 go_wp2
 generalize hW : (w.alloc _).alloc _ = W
 have hbel : Below w.heap.size w W := by rw [← hW]; exact box2_below _ _ _
 have hbox : W.cell? ⟨w.heap.size, 0, none⟩ = some (.slice a p.length cap) := by rw [← hW]; exact box2_fst _ _ _ _ 0
 have b1 : Blk W (w.heap.size + 1) 63 [.int .i64 0, .slice none 0 0, .int .i64 0, .int .i64 0, .int .i64 0, .slice none 0 0, .slice none 0 0] := by rw [← hW]; exact (by simpa using Blk.new (w.alloc _) _ _)
 have hsW : W.heap.size = w.heap.size + 2 := by rw [← hW]; simp
 clear hW
 go_loopw [8] (fun s wr => ∃ c' : Int, -1 ≤ c' ∧ c' < n ∧ s = .int .i64 c' ∧ methOf p c slot = methOf p c' slot ∧ Below W.heap.size W wr) (fun s _ => (intOf s + 1).toNat)
 case atStart => exact ⟨c, hc, hcn, rfl, rfl, Below.refl _ _⟩
 case round =>
  obtain ⟨c', h1, h2, rfl, hm, hbr⟩ := hrel
  have HM := hide hm
  clear hm
  obtain ⟨wo, rfl⟩ : ∃ wo : World, wo = wr := ⟨_, rfl⟩
  have hfin : Below w.heap.size w wo := hbel.trans (hbr.mono hbel.size)
  have e0 := Keeps.of_below hbr _ _ hbox
  have x1 := b1.below hbr (by omega)
  have f0 := x1.cell 0
  have f1 := x1.cell 1
  have f2 := x1.cell 2
  have f3 := x1.cell 3
  have f4 := x1.cell 4
  have f5 := x1.cell 5
  have f6 := x1.cell 6
  have g0 := x1.frozen 0
  have g1 := x1.frozen 1
  have g2 := x1.frozen 2
  have g3 := x1.frozen 3
  have g4 := x1.frozen 4
  have g5 := x1.frozen 5
  have g6 := x1.frozen 6
  simp only [List.getElem?_cons_zero, List.getElem?_cons_succ] at f0 f1 f2 f3 f4 f5 f6
  rcases Int.lt_or_le c' 0 with hneg | hpos
  ·go_wp2
   have hB := put7_blk x1 (.int .i64 0) (.slice none 0 0) (.int .i64 0) (.int .i64 0) (.int .i64 0) (.slice none 0 0) (.slice none 0 0)
   have hM := put7_mods wo (w.heap.size + 1) (.int .i64 0) (.slice none 0 0) (.int .i64 0) (.int .i64 0) (.int .i64 0) (.slice none 0 0) (.slice none 0 0)
   unfold put7 at hB hM
   generalize World.setCell _ _ _ = Z at hB hM ⊢
   have s0 : Z.cell? ⟨w.heap.size + 1, 0, none⟩ = some (.int .i64 0) := by rw [hB.cell]; rfl
   have s1 : Z.cell? ⟨w.heap.size + 1, 1, none⟩ = some (.slice none 0 0) := by rw [hB.cell]; rfl
   have s2 : Z.cell? ⟨w.heap.size + 1, 2, none⟩ = some (.int .i64 0) := by rw [hB.cell]; rfl
   have s3 : Z.cell? ⟨w.heap.size + 1, 3, none⟩ = some (.int .i64 0) := by rw [hB.cell]; rfl
   have s4 : Z.cell? ⟨w.heap.size + 1, 4, none⟩ = some (.int .i64 0) := by rw [hB.cell]; rfl
   have s5 : Z.cell? ⟨w.heap.size + 1, 5, none⟩ = some (.slice none 0 0) := by rw [hB.cell]; rfl
   have s6 : Z.cell? ⟨w.heap.size + 1, 6, none⟩ = some (.slice none 0 0) := by rw [hB.cell]; rfl
   refine bodyPost_ret (v := .tuple #[.agg #[.int .i64 0, .slice none 0 0, .int .i64 0, .int .i64 0, .int .i64 0, .slice none 0 0, .slice none 0 0], .bool false]) (by simp [results, Tryz.results109, go_sem, s0, s1, s2, s3, s4, s5, s6]) rfl ⟨⟨0, [], 0, 0, 0, [], []⟩, none, none, none, 0, 0, 0, by rw [unhide HM, methOf_neg p slot hneg]; rfl, ?_, hfin.trans (hM.below hfin.size (fun k hk e => by omega))⟩
   intro ck h
   rw [unhide HM, methOf_neg p slot hneg] at h
   cases h
  ·obtain ⟨i, rfl⟩ := Int.eq_ofNat_of_zero_le hpos
   have hi : i < p.length := by omega
   obtain rfl := ha (ne_nil_of_lt hi)
   obtain ⟨vf, vm, c0, c1, c2, hf, hmm⟩ := (unhide HR i hi).keep (Keeps.of_below (hb0.trans (hfin.mono hb0.size)))
   obtain ⟨vf', vm', c0', c1', c2', hf', hmm'⟩ := unhide HR i hi
   obtain rfl : vm' = vm := by have := Keeps.of_below (hb0.trans (hfin.mono hb0.size)) _ _ c2'; rw [c2] at this; injection this with this; exact this.symm
   obtain ⟨ma, mb, moff, mcap, rfl, hmcap, hma, hmr⟩ := sl_open hmm'
   have HMR := hide hmr
   have hlen : p[i].meths.length ≤ 4194304 := by
    have := szMeths_le p[i]; have := szClass_le (List.getElem_mem hi); omega
   have HX := hide (List.getElem?_eq_getElem hi)
   clear hmr hmm hf hmm' hf' c0' c1' c2'
   generalize p[i] = x at *
   go_wp2
   go_loopw [27] (fun s wr => ∃ k : Nat, k ≤ x.meths.length ∧ s = .int .i64 k ∧ (∀ (j : Nat) (hj : j < x.meths.length), j < k → x.meths[j].slot ≠ slot) ∧ Below wo.heap.size wo wr) (fun s _ => x.meths.length - (intOf s).toNat)
   case atStart => exact ⟨0, Nat.zero_le _, rfl, fun j _ h => absurd h (Nat.not_lt_zero j), Below.refl _ _⟩
   case round =>
    obtain ⟨k, hk, rfl, hno, hbr2⟩ := hrel
    have HNO := hide hno
    clear hno
    have hfin2 : Below w.heap.size w wr := hfin.trans (hbr2.mono hfin.size)
    by_cases hlt : k < x.meths.length
    ·obtain rfl := hma (ne_nil_of_lt hlt)
     obtain ⟨va, vcd, vfr, hv, m0, m1, m2, m3, m4, m5, m6⟩ := unhide HMR k hlt
     have hk2 := Keeps.of_below (hb0.trans (hfin2.mono hb0.size))
     replace m0 := hk2 _ _ m0
     replace m1 := hk2 _ _ m1
     replace m2 := hk2 _ _ m2
     replace m3 := hk2 _ _ m3
     replace m4 := hk2 _ _ m4
     replace m5 := hk2 _ _ m5
     replace m6 := hk2 _ _ m6
     have HV := hide hv
     obtain ⟨ala, _, _, alc, rfl, _⟩ := hv.1
     obtain ⟨cla, _, _, clc, rfl, _⟩ := hv.2.1
     obtain ⟨fla, _, _, flc, rfl, _⟩ := hv.2.2
     have hltb := cell_lt m0
     have HK := hide (List.getElem?_eq_getElem hlt)
     have HSL := hide (show x.meths[k].slot = x.meths[k].slot from rfl)
     clear hv hk2 c0 c1 c2
     by_cases hq : x.meths[k].slot = slot
     ·have hqb : (x.meths[k].slot == slot) = true := by simpa using hq
      have HME := hide (show methOf p c slot = some (i, k) by rw [unhide HM, methOf_step p hs slot (by omega) (unhide HX), slotIn_some hlt hq (unhide HNO)])
      have HMA := hide (show methAt p (i, k) = some x.meths[k] by unfold methAt; rw [unhide HX]; exact unhide HK)
      clear hq
      generalize x.meths[k] = m at *
      have y1 := x1.below hbr2 (by have := hbr.size; omega)
      have hlt1 := y1.lt
      have f0 := y1.cell 0
      have f1 := y1.cell 1
      have f2 := y1.cell 2
      have f3 := y1.cell 3
      have f4 := y1.cell 4
      have f5 := y1.cell 5
      have f6 := y1.cell 6
      have g0 := y1.frozen 0
      have g1 := y1.frozen 1
      have g2 := y1.frozen 2
      have g3 := y1.frozen 3
      have g4 := y1.frozen 4
      have g5 := y1.frozen 5
      have g6 := y1.frozen 6
      simp only [List.getElem?_cons_zero, List.getElem?_cons_succ] at f0 f1 f2 f3 f4 f5 f6
      go_wp2_with fail
      have hB := put7_blk y1 (.int .i64 m.slot) (.slice ala m.args.length alc) (.int .i64 m.ret) (.int .i64 m.locals) (.int .i64 m.stack) (.slice cla m.code.length clc) (.slice fla m.frames.length flc)
      have hM := put7_mods wr (w.heap.size + 1) (.int .i64 m.slot) (.slice ala m.args.length alc) (.int .i64 m.ret) (.int .i64 m.locals) (.int .i64 m.stack) (.slice cla m.code.length clc) (.slice fla m.frames.length flc)
      unfold put7 at hB hM
      generalize World.setCell _ _ _ = Z0 at hB hM ⊢
      replace hB := hB.alloc (.cells #[.int .i64 m.slot, .slice ala m.args.length alc, .int .i64 m.ret, .int .i64 m.locals, .int .i64 m.stack, .slice cla m.code.length clc, .slice fla m.frames.length flc] 63)
      have hM2 := hM.alloc (.cells #[.int .i64 m.slot, .slice ala m.args.length alc, .int .i64 m.ret, .int .i64 m.locals, .int .i64 m.stack, .slice cla m.code.length clc, .slice fla m.frames.length flc] 63)
      generalize Z0.alloc _ = Z at hB hM2 ⊢
      have hfz : Below w.heap.size w Z := by
       exact hfin2.trans (hM2.below hfin2.size (fun k hk e => by omega))
      have s0 : Z.cell? ⟨w.heap.size + 1, 0, none⟩ = some (.int .i64 m.slot) := by rw [hB.cell]; rfl
      have s1 : Z.cell? ⟨w.heap.size + 1, 1, none⟩ = some (.slice ala m.args.length alc) := by rw [hB.cell]; rfl
      have s2 : Z.cell? ⟨w.heap.size + 1, 2, none⟩ = some (.int .i64 m.ret) := by rw [hB.cell]; rfl
      have s3 : Z.cell? ⟨w.heap.size + 1, 3, none⟩ = some (.int .i64 m.locals) := by rw [hB.cell]; rfl
      have s4 : Z.cell? ⟨w.heap.size + 1, 4, none⟩ = some (.int .i64 m.stack) := by rw [hB.cell]; rfl
      have s5 : Z.cell? ⟨w.heap.size + 1, 5, none⟩ = some (.slice cla m.code.length clc) := by rw [hB.cell]; rfl
      have s6 : Z.cell? ⟨w.heap.size + 1, 6, none⟩ = some (.slice fla m.frames.length flc) := by rw [hB.cell]; rfl
      refine bodyPost_ret (v := .tuple #[.agg #[.int .i64 m.slot, .slice ala m.args.length alc, .int .i64 m.ret, .int .i64 m.locals, .int .i64 m.stack, .slice cla m.code.length clc, .slice fla m.frames.length flc], .bool true]) (by simp [results, Tryz.results109, go_sem, s0, s1, s2, s3, s4, s5, s6]) rfl ⟨m, ala, cla, fla, alc, clc, flc, by rw [show (methOf p c slot).isSome = true by rw [unhide HME]; rfl], ?_, hfz⟩
      intro ck h
      rw [unhide HME] at h
      injection h with h
      subst h
      exact ⟨unhide HMA, unhide HV⟩
     ·have hqb : (x.meths[k].slot == slot) = false := by simpa using hq
      go_wp2
      exact ⟨⟨k + 1, by omega, by go_num, fun j hj h => by
       rcases Nat.lt_or_ge j k with g | g
       ·exact unhide HNO j hj g
       ·obtain rfl : j = k := by omega
        exact hq, hbr2.trans ((box_below _ _).mono hbr2.size)⟩, by simp [intOf]; omega⟩
    ·have q0 := Keeps.of_below hbr2 _ _ e0
     have q1 := Keeps.of_below hbr2 _ _ c0
     go_wp2
     have hsup := supB_le (hs i x (by omega) (unhide HX))
     exact ⟨⟨x.sup, hsup.1, by omega, rfl, by rw [unhide HM, methOf_step p hs slot (by omega) (unhide HX), slotIn_none fun j hj => unhide HNO j hj (by omega)], hbr.trans (hbr2.mono hbr.size)⟩, by simp [intOf]; omega⟩

theorem code_findmethod (p : List LClass) (vc : Value) (n : Nat) (c slot : Int) (w : World) (hp : RProg w vc p) (hs : SupOk p n) (hn : n ≤ p.length) (hc : -1 ≤ c) (hcn : c < n) (hz : szProg p ≤ 4194304) :
  Calls Tryz.prog 109 #[.agg #[vc], .int .i64 c, .int .i64 slot] w fun e w' =>
   ∃ (o : LMeth) (aa ca fa : Option Addr) (ac cc fc : Nat), e = .returned (.tuple #[.agg #[.int .i64 o.slot, .slice aa o.args.length ac, .int .i64 o.ret, .int .i64 o.locals, .int .i64 o.stack, .slice ca o.code.length cc, .slice fa o.frames.length fc], .bool (methOf p c slot).isSome]) ∧
    Found w p c slot o (.slice aa o.args.length ac) (.slice ca o.code.length cc) (.slice fa o.frames.length fc) ∧ Below w.heap.size w w' :=
 code_findmethod0 p vc n c slot w w hp (Below.refl _ _) hs hn hc hcn hz
end Go.Proofs.YtiiokkllmchohaaGreat
