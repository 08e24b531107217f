/- The code's reader: programs. -/
import Derived.Defers
import Derived.Recover
import Derived.Test.YtiiokkllmchohaaGreatT20
/- ParseJ -/
namespace Go.Proofs.YtiiokkllmchohaaGreat
open Go.RowKit
attribute [local go_sem ↓] Go.wp_at_zero Go.wp_at_succ

theorem cls_some {n : Nat} {s r : List UInt8} {l : List LClass} (hp : pL pClass n s = some (l, r)) (w : World) (br : Nat) (h : CRd w br s) (hn : n ≤ 40) : Calls Tryz.prog 73 #[.int .i64 (n : Int), .func (.func 75) #[.pointer (some ⟨br, 0, none⟩)] #[]] w fun e w' =>
    ∃ a, e = .returned (.slice a l.length l.length) ∧ OwnCs w' w.heap.size w'.heap.size (.slice a l.length l.length) l ∧ CRd w' br r ∧ Mods (fun k => k = br) w w' :=
  (rd_list_class n s w br h hn).mono fun _ _ h => by
    obtain ⟨v, h1, h2, h3⟩ := h.1 l r hp
    obtain ⟨a, rfl⟩ := h3.form
    exact ⟨a, h1, h3, h2, h.2.2⟩
theorem cls_none {n : Nat} {s : List UInt8} (hp : pL pClass n s = none) (w : World) (br : Nat) (h : CRd w br s) (hn : n ≤ 40) : Calls Tryz.prog 73 #[.int .i64 (n : Int), .func (.func 75) #[.pointer (some ⟨br, 0, none⟩)] #[]] w fun e w' => e = .panicked (refC 1) ∧ Mods (fun k => k = br) w w' :=
  (rd_list_class n s w br h hn).mono fun _ _ h => ⟨h.2.1 hp, h.2.2⟩

set_option maxHeartbeats 1000000 in
set_option maxRecDepth 100000 in
theorem code_read (s : List UInt8) (w : World) : Calls Tryz.prog 38 #[.string ⟨s.toArray⟩] w fun e w' =>
    (∀ p, pProg s = some p → ∃ a, e = .returned (.agg #[.slice a p.length p.length]) ∧ OwnCs w' w.heap.size w'.heap.size (.slice a p.length p.length) p) ∧ (pProg s = none → e = .panicked (refC 1)) ∧ Mods (fun _ => False) w w' := by
  have hm0 : Mods (fun _ => False) w ((w.alloc (.cells #[.slice none 0 0] 24)).alloc (.cells #[.string ⟨s.toArray⟩] 122)) := ((Mods.refl _ w).alloc _).alloc _
  have b0 : Blk ((w.alloc (.cells #[.slice none 0 0] 24)).alloc (.cells #[.string ⟨s.toArray⟩] 122)) w.heap.size 24 [.slice none 0 0] := (Blk.new w #[.slice none 0 0] 24).alloc _
  have hR0 : CRd ((w.alloc (.cells #[.slice none 0 0] 24)).alloc (.cells #[.string ⟨s.toArray⟩] 122)) (w.heap.size + 1) s := by
    have := Blk.new (w.alloc (.cells #[.slice none 0 0] 24)) #[.string ⟨s.toArray⟩] 122
    unfold CRd
    simpa using this
  have hs0 : w.heap.size + 2 ≤ ((w.alloc (.cells #[.slice none 0 0] 24)).alloc (.cells #[.string ⟨s.toArray⟩] 122)).heap.size := by simp
  go_enter Tryz.func38, Tryz.ntmps38
  go_wp2_with fail
  generalize (w.alloc _).alloc _ = W at *
  have M0 := hide hm0
  have B0 := hide b0
  have R0 := hide hR0
  clear hm0 b0 hR0
  rcases p0 : pC 6 s with _ | ⟨n, s1⟩
  · have HN : Hid (pProg s = none) := by show _ = _; unfold pProg; rw [p0]; rfl
    refine Calls.mono (cnt_none p0 _ (w.heap.size + 1) (unhide R0)) ?_
    rintro e z ⟨rfl, hm⟩
    clear p0
    go_wp2_with fail
    refine ⟨rfl, fun m e => ?_, fun _ => rfl, (unhide M0).trans hm (fun k hk e => by omega)⟩
    rw [unhide HN] at e; cases e
  have P0 := hide p0
  have q0 := (pC_sound p0).1
  refine Calls.mono (cnt_some p0 _ (w.heap.size + 1) (unhide R0)) ?_
  rintro e w1 ⟨rfl, hR, hm⟩
  have M1 := hide ((unhide M0).trans hm (fun k hk e => by omega))
  have B1 := hide ((unhide B0).mods hm (by omega))
  have R1 := hide hR
  have hs1 := Nat.le_trans hs0 hm.size
  clear p0 hR hm M0 B0 R0 hs0
  go_wp2_with fail
  rcases p1 : pL pClass n s1 with _ | ⟨l, r⟩
  · have HN : Hid (pProg s = none) := by show _ = _; unfold pProg; rw [unhide P0]; simp only [Option.bind_some]; rw [p1]; rfl
    refine Calls.mono (cls_none p1 _ (w.heap.size + 1) (unhide R1) (by omega)) ?_
    rintro e z ⟨rfl, hm⟩
    clear p1
    go_wp2_with fail
    refine ⟨rfl, fun m e => ?_, fun _ => rfl, (unhide M1).trans hm (fun k hk e => by omega)⟩
    rw [unhide HN] at e; cases e
  have HQ : Hid (pProg s = if r = [] then some l else none) := by show _ = _; unfold pProg; rw [unhide P0]; simp only [Option.bind_some]; rw [p1]; rfl
  refine Calls.mono (cls_some p1 _ (w.heap.size + 1) (unhide R1) (by omega)) ?_
  rintro e w2 ⟨a, rfl, hO, hR, hm⟩
  have M2 := hide ((unhide M1).trans hm (fun k hk e => by omega))
  have B2 := (unhide B1).mods hm (by omega)
  have c0 : w2.cell? ⟨w.heap.size, 0, none⟩ = some (.slice none 0 0) := B2.cell 0
  have f0 := B2.frozen 0
  have HB2 := hide B2
  have O1 := hide hO
  have hs2 := Nat.le_trans hs1 hm.size
  have hlt1 : w.heap.size < w2.heap.size := by omega
  have hlt2 : w.heap.size + 1 < w2.heap.size := by omega
  clear p1 hm M1 B1 R1 hO B2
  cases r with
  | nil =>
    have HS : Hid (pProg s = some l) := by show _ = _; rw [unhide HQ]; rfl
    have r0 : w2.cell? ⟨w.heap.size + 1, 0, none⟩ = some (.string ⟨#[]⟩) := hR.cell 0
    clear hR HQ
    go_wp2_with fail
    have Z0 := ((unhide HB2).setCell 0 (.slice a l.length l.length)).alloc (.cells #[.slice a l.length l.length] 24)
    have Z1 := ((unhide M2).set (b := w.heap.size) (i := 0) (Nat.le_refl _) (.slice a l.length l.length)).alloc (.cells #[.slice a l.length l.length] 24)
    have Z2 : OwnCs ((w2.setCell ⟨w.heap.size, 0, none⟩ (.slice a l.length l.length)).alloc (.cells #[.slice a l.length l.length] 24)) w.heap.size ((w2.setCell ⟨w.heap.size, 0, none⟩ (.slice a l.length l.length)).alloc (.cells #[.slice a l.length l.length] 24)).heap.size (.slice a l.length l.length) l := by
      refine OwnSl.wide okCl (lo := w1.heap.size) (hi := w2.heap.size) (by omega) (by simp [World.setCell]) ?_
      exact ((unhide O1).set okCl (b := w.heap.size) (i := 0) (u := .slice a l.length l.length) (by omega)).stay okCl (fun k p q => Below.heap_alloc _ _ _ (by rw [size_set]; exact q))
    generalize World.alloc _ _ = Z at Z0 Z1 Z2 ⊢
    have z0 : Z.cell? ⟨w.heap.size, 0, none⟩ = some (.slice a l.length l.length) := Z0.cell 0
    refine bodyPost_ret (v := .agg #[.slice a l.length l.length]) (by simp [results, Tryz.results38, go_sem, z0]) rfl ⟨fun p e => ?_, fun e => ?_, Z1⟩
    · rw [unhide HS] at e
      simp only [Option.some.injEq] at e
      subst e
      exact ⟨a, rfl, Z2⟩
    · rw [unhide HS] at e; cases e
  | cons b t =>
    have HS : Hid (pProg s = none) := by show _ = _; rw [unhide HQ]; rfl
    have r0 : w2.cell? ⟨w.heap.size + 1, 0, none⟩ = some (.string ⟨(b :: t).toArray⟩) := hR.cell 0
    clear hR HQ
    go_wp2_with (go_at_call 76; refine (wire_giveUp _).mono ?_; rintro e w' ⟨rfl, rfl⟩)
    refine ⟨rfl, fun m e => ?_, fun _ => rfl, (unhide M2).alloc _⟩
    rw [unhide HS] at e; cases e

set_option maxHeartbeats 400000 in
theorem dec1 (s : List UInt8) (w : World) (bs bp : Nat) (cs : w.cell? ⟨bs, 0, none⟩ = some (.string ⟨s.toArray⟩)) (hb : Blk w bp 24 [.slice none 0 0]) : Calls Tryz.prog 37 #[.pointer (some ⟨bs, 0, none⟩), .pointer (some ⟨bp, 0, none⟩)] w fun e w' =>
    (∀ p, pProg s = some p → e = .returned (.tuple #[]) ∧ ∃ a, Blk w' bp 24 [.slice a p.length p.length] ∧ OwnCs w' w.heap.size w'.heap.size (.slice a p.length p.length) p) ∧ (pProg s = none → e = .panicked (refC 1) ∧ Blk w' bp 24 [.slice none 0 0]) ∧ Mods (fun k => k = bp) w w' := by
  have hlt := hb.lt
  go_enter Tryz.func37, Tryz.ntmps37
  go_wp2_with fail
  refine Calls.mono (code_read s _) ?_
  rintro e w1 ⟨h1, h2, hm⟩
  have B1 := hb.mods hm (fun f => f)
  have c0 : w1.cell? ⟨bp, 0, none⟩ = some (.slice none 0 0) := B1.cell 0
  have f0 := B1.frozen 0
  have HB := hide B1
  have M1 := hide (hm.mono (T := fun k => k = bp) (fun _ _ f => f.elim))
  have hsz := hm.size
  clear B1 hm
  rcases hp : pProg s with _ | p
  · obtain rfl := h2 hp
    have HP := hide hp
    clear hp
    go_wp2_with fail
    refine ⟨rfl, fun p e => ?_, fun _ => ⟨rfl, unhide HB⟩, unhide M1⟩
    rw [unhide HP] at e; cases e
  · obtain ⟨a, rfl, hO⟩ := h1 p hp
    have HP := hide hp
    have O1 := hide hO
    clear hp h1 h2 hO
    go_wp2_with fail
    go_end0
    refine ⟨fun p' e => ?_, fun e => ?_, (unhide M1).setCell (p := ⟨bp, 0, none⟩) (fun _ => rfl) _⟩
    · rw [unhide HP] at e
      simp only [Option.some.injEq] at e
      subst e
      refine ⟨rfl, a, (unhide HB).setCell 0 _, ?_⟩
      have := (unhide O1).set okCl (b := bp) (i := 0) (u := .slice a p.length p.length) hlt
      rwa [← size_set w1 bp 0 (.slice a p.length p.length)] at this
    · rw [unhide HP] at e; cases e
end Go.Proofs.YtiiokkllmchohaaGreat
/- The code's Decode: giving up is caught. -/
namespace Go.Proofs.YtiiokkllmchohaaGreat
open Go.RowKit

theorem catch_idle (p : Addr) (w : World) :
    CallsD Tryz.prog 72 #[.pointer (some p)] .returning w fun e u' w' => e = .returned (.tuple #[]) ∧ u' = .returning ∧ w' = w := by
  refine callsD_of_wpS Tryz.func72 rfl fun c₀ cs hu => ?_
  apply wpS_seq
  apply wpS_region
  simp [wpOpsS, go_sem, recoverD, hu, Tryz.ntmps72, Exit.thenS, Array.replicate]
  refine wpS_of_wp ?_
  go_wp2
  cases c₀
  simp_all [bodyPostS, results, Tryz.results72]
set_option maxHeartbeats 1000000 in
set_option maxRecDepth 100000 in
theorem catch_giving (p : Addr) (why x : Int) (w : World) (hc : w.cell? p = some (.int .i64 x)) (hz : w.frozen? p = false) :
    CallsD Tryz.prog 72 #[.pointer (some p)] (.panicking (refC why)) w fun e u' w' =>
      e = .returned (.tuple #[]) ∧ u' = .panicking [{ v := .iface 119 (.agg #[.int .i64 why]), recovered := true }] ∧ w' = (w.alloc (.cells #[.int .i64 why] 119)).setCell p (.int .i64 why) := by
  refine callsD_of_wpS Tryz.func72 rfl fun c₀ cs hu => ?_
  unfold refC at hu
  have hta : ∀ W : World, (Instr.typeAssert (.iface 119 (.agg #[.int .i64 why])) 20 119 true).run Tryz.prog W = .ok (.tuple #[.agg #[.int .i64 why], .bool true]) W := fun W => by kernel_rfl
  apply wpS_seq
  apply wpS_region
  simp [wpOpsS, go_sem, recoverD, hu, Tryz.ntmps72, Exit.thenS, Array.replicate]
  refine wpS_of_wp ?_
  have hc' : ∀ o, (w.alloc o).cell? p = some (.int .i64 x) := fun o => box_keeps w o _ _ hc
  have hz' : ∀ o, (w.alloc o).frozen? p = false := fun o => by rw [World.frozen?_alloc_old _ _ _ (Nat.ne_of_lt (cell_lt hc))]; exact hz
  go_wp2_with fail
  cases c₀
  simp_all [bodyPostS, results, Tryz.results72]

set_option maxHeartbeats 1000000 in
set_option maxRecDepth 100000 in
theorem code_attempt (s : List UInt8) (w : World) (bs bp : Nat) (cs : w.cell? ⟨bs, 0, none⟩ = some (.string ⟨s.toArray⟩)) (hb : Blk w bp 24 [.slice none 0 0]) : Calls Tryz.prog 36 #[.func (.func 37) #[] #[.pointer (some ⟨bs, 0, none⟩), .pointer (some ⟨bp, 0, none⟩)]] w fun e w' =>
    (∀ p, pProg s = some p → e = .returned (.int .i64 0) ∧ ∃ a, Blk w' bp 24 [.slice a p.length p.length] ∧ OwnCs w' w.heap.size w'.heap.size (.slice a p.length p.length) p) ∧ (pProg s = none → e = .returned (.int .i64 1) ∧ Blk w' bp 24 [.slice none 0 0]) ∧ Mods (fun k => k = bp) w w' := by
  have hmf : ∀ (fn : Fn) (first cap : Array Value) (w : World), (Instr.makeFunc fn first cap).run Tryz.prog w = .ok (.func fn first cap) w := fun _ _ _ _ => rfl
  have hlt := hb.lt
  have cs1 := box_keeps w (.cells #[.int .i64 0] 26) _ _ cs
  have hb1 := hb.alloc (.cells #[.int .i64 0] 26)
  have be := Blk.new w #[.int .i64 0] 26
  have hm0 := (Mods.refl (fun k => k = bp) w).alloc (.cells #[.int .i64 0] 26)
  have hs0 : (w.alloc (.cells #[.int .i64 0] 26)).heap.size = w.heap.size + 1 := by simp
  have HS0 := hide hs0
  clear hs0
  go_enter_defers Tryz.func36, Tryz.ntmps36
  go_wp2_with fail
  generalize w.alloc _ = W at *
  refine Calls.mono (dec1 s _ bs bp cs1 hb1) ?_
  rintro e w1 ⟨h1, h2, hm⟩
  have be1 := be.mods hm (by omega)
  have c0 : w1.cell? ⟨w.heap.size, 0, none⟩ = some (.int .i64 0) := be1.cell 0
  have f0 := be1.frozen 0
  have M1 := hide (hm0.trans hm (fun _ _ e => e))
  rcases hp : pProg s with _ | p
  · obtain ⟨rfl, hB⟩ := h2 hp
    have HP := hide hp
    clear hp h1 h2
    go_wp2_with fail
    refine leaves_cons (f := 72) (args := #[.pointer (some ⟨w.heap.size, 0, none⟩)]) (by simp) (by simp [go_sem]) ?_
    refine (catch_giving ⟨w.heap.size, 0, none⟩ 1 0 _ c0 f0).mono ?_
    rintro e u' w2 ⟨rfl, rfl, rfl⟩
    have Z0 := ((be1.alloc (.cells #[.int .i64 1] 119)).setCell 0 (.int .i64 1)).cell 0
    have Z1 := (hB.alloc (.cells #[.int .i64 1] 119)).setCell_ne (p := ⟨w.heap.size, 0, none⟩) (by simp only; omega) (.int .i64 1)
    have Z2 := ((unhide M1).alloc (.cells #[.int .i64 1] 119)).set (b := w.heap.size) (i := 0) (Nat.le_refl _) (.int .i64 1)
    generalize World.setCell _ _ _ = Z at Z0 Z1 Z2 ⊢
    replace Z0 : Z.cell? ⟨w.heap.size, 0, none⟩ = some (.int .i64 1) := Z0
    clear c0 f0
    simp [Leaves, settle, results, Tryz.results36, go_sem, Z0]
    exact ⟨fun p e => (by rw [unhide HP] at e; cases e), fun _ => Z1, Z2⟩
  · obtain ⟨rfl, a, hB, hO⟩ := h1 p hp
    have HP := hide hp
    clear hp h1 h2
    go_wp2_with fail
    have Z0 := (be1.setCell 0 (.int .i64 0)).cell 0
    have Z1 := hB.setCell_ne (p := ⟨w.heap.size, 0, none⟩) (by simp only; omega) (.int .i64 0)
    have Z2 := (unhide M1).set (b := w.heap.size) (i := 0) (Nat.le_refl _) (.int .i64 0)
    have hW := unhide HS0
    have Z3 := (hO.set okCl (b := w.heap.size) (i := 0) (u := .int .i64 0) (by omega)).wide okCl (lo' := w.heap.size) (hi' := w1.heap.size) (by omega) (Nat.le_refl _)
    rw [← size_set w1 w.heap.size 0 (.int .i64 0)] at Z3
    generalize World.setCell _ _ _ = Z at Z0 Z1 Z2 Z3 ⊢
    replace Z0 : Z.cell? ⟨w.heap.size, 0, none⟩ = some (.int .i64 0) := Z0
    clear c0 f0
    refine leaves_cons (f := 72) (args := #[.pointer (some ⟨w.heap.size, 0, none⟩)]) (by simp) (by simp [go_sem]) ?_
    refine (catch_idle ⟨w.heap.size, 0, none⟩ _).mono ?_
    rintro e u' w2 ⟨rfl, rfl, rfl⟩
    simp [Leaves, settle, results, Tryz.results36, go_sem, Z0]
    refine ⟨fun p' e => ?_, fun e => ?_, Z2⟩
    · rw [unhide HP] at e
      simp only [Option.some.injEq] at e
      subst e
      exact ⟨a, Z1, Z3⟩
    · rw [unhide HP] at e; cases e
end Go.Proofs.YtiiokkllmchohaaGreat
/- What the code's Decode answers. -/
namespace Go.Proofs.YtiiokkllmchohaaGreat
open Go.RowKit
attribute [local go_sem ↓] Go.wp_at_zero Go.wp_at_succ

theorem own_list {α : Type} {sz : Nat} {R : OwnE α} {w : World} {G : α → Nat → Nat → Prop} {g : Nat} {t : TypeId} {all : List Value} (hb : Blk w g t all) (hR : ∀ lo hi c x off, R w lo hi c x → (∀ i, i < sz → c[i]? = all[off + i]?) → c.length = sz → G x g off) :
    ∀ (l : List α) (lo hi : Nat) (cells pre : List Value), OwnL sz R w lo hi cells l → all = pre ++ cells → ∀ (j : Nat) (x : α), l[j]? = some x → G x g (pre.length + j * sz)
  | [], _, _, _, _, _, _, j, x, e => by simp at e
  | y :: r, lo, hi, cells, pre, ⟨c1, c2, mid, e1, hl, h1, h2⟩, ha, j, x, e => by
    cases j with
    | zero =>
      simp at e
      subst e
      refine hR lo mid c1 y _ h1 (fun i hi => ?_) hl
      rw [ha, e1, Nat.zero_mul, Nat.add_zero, List.getElem?_append_right (Nat.le_add_right _ _), Nat.add_sub_cancel_left, List.getElem?_append_left (by omega)]
    | succ j =>
      have := own_list hb hR r mid hi c2 (pre ++ c1) h2 (by rw [ha, e1, List.append_assoc]) j x (by simpa using e)
      rw [List.length_append, hl] at this
      rw [Nat.succ_mul]
      rwa [show pre.length + (j * sz + sz) = pre.length + sz + j * sz by omega]
theorem own_readD {α : Type} {sz : Nat} {R : OwnE α} {w : World} {G : α → Nat → Nat → Prop} {t : TypeId} (hR : ∀ g all lo hi c x off, Blk w g t all → R w lo hi c x → (∀ i, i < sz → c[i]? = all[off + i]?) → c.length = sz → G x g off) {lo hi : Nat} {v : Value} {l : List α} (h : OwnSl t sz R w lo hi v l) : SlAt sz G v l := by
  rcases h with ⟨rfl, rfl, _⟩ | ⟨hne, g, cells, _, rfl, hb, ho⟩
  · exact ⟨none, 0, 0, 0, rfl, Nat.le_refl _, ⟨fun e => absurd rfl e, .inl ⟨rfl, rfl⟩⟩, fun j x hj => by simp at hj⟩
  · refine ⟨some ⟨g, 0, none⟩, g, 0, l.length, rfl, Nat.le_refl _, ⟨fun _ => rfl, .inr (.inl rfl)⟩, fun j x hj => ?_⟩
    have := own_list hb (fun lo hi c x off r e hl => hR g cells lo hi c x off hb r e hl) l _ _ cells [] ho rfl j x hj
    simpa using this
theorem own_ts {w : World} {lo hi : Nat} {v : Value} {l : List Int} (h : OwnTs w lo hi v l) : SlAt 1 (RInt w) v l :=
  own_readD (fun g all lo hi c x off hb r e _ => by
    obtain ⟨rfl, _⟩ := r
    unfold RInt GInt
    rw [hb.cell, ← Nat.add_zero off, ← e 0 (by omega)]
    rfl) h
theorem own_is {w : World} {lo hi : Nat} {v : Value} {l : List LIns} (h : OwnIs w lo hi v l) : SlAt 3 (RIns w) v l :=
  own_readD (fun g all lo hi c x off hb r e _ => by
    obtain ⟨rfl, _⟩ := r
    refine ⟨?_, ?_, ?_⟩
    · rw [hb.cell, ← Nat.add_zero off, ← e 0 (by omega)]; rfl
    · rw [hb.cell, ← e 1 (by omega)]; rfl
    · rw [hb.cell, ← e 2 (by omega)]; rfl) h
theorem own_fs {w : World} {lo hi : Nat} {v : Value} {l : List LFrame} (h : OwnFs w lo hi v l) : SlAt 3 (RFrame w) v l :=
  own_readD (fun g all lo hi c x off hb r e _ => by
    obtain ⟨vl, vs, mid, rfl, h1, h2⟩ := r
    refine ⟨vl, vs, ?_, ?_, ?_, own_ts h1, own_ts h2⟩
    · rw [hb.cell, ← Nat.add_zero off, ← e 0 (by omega)]; rfl
    · rw [hb.cell, ← e 1 (by omega)]; rfl
    · rw [hb.cell, ← e 2 (by omega)]; rfl) h
theorem own_ms {w : World} {lo hi : Nat} {v : Value} {l : List LMeth} (h : OwnMs w lo hi v l) : SlAt 7 (RMeth w) v l :=
  own_readD (fun g all lo hi c x off hb r e _ => by
    obtain ⟨va, vc, vf, m1, m2, rfl, h1, h2, h3⟩ := r
    refine ⟨va, vc, vf, ⟨own_ts h1, own_is h2, own_fs h3⟩, ?_, ?_, ?_, ?_, ?_, ?_, ?_⟩
    · rw [hb.cell, ← Nat.add_zero off, ← e 0 (by omega)]; rfl
    · rw [hb.cell, ← e 1 (by omega)]; rfl
    · rw [hb.cell, ← e 2 (by omega)]; rfl
    · rw [hb.cell, ← e 3 (by omega)]; rfl
    · rw [hb.cell, ← e 4 (by omega)]; rfl
    · rw [hb.cell, ← e 5 (by omega)]; rfl
    · rw [hb.cell, ← e 6 (by omega)]; rfl) h
theorem own_cs {w : World} {lo hi : Nat} {v : Value} {l : List LClass} (h : OwnCs w lo hi v l) : RProg w v l :=
  own_readD (fun g all lo hi c x off hb r e _ => by
    obtain ⟨vf, vm, mid, rfl, h1, h2⟩ := r
    refine ⟨vf, vm, ?_, ?_, ?_, own_ts h1, own_ms h2⟩
    · rw [hb.cell, ← Nat.add_zero off, ← e 0 (by omega)]; rfl
    · rw [hb.cell, ← e 1 (by omega)]; rfl
    · rw [hb.cell, ← e 2 (by omega)]; rfl) h

theorem sum_le {α : Type} (f : α → Nat) (B : Nat) : ∀ (l : List α), (∀ x ∈ l, f x ≤ B) → (l.map f).sum ≤ l.length * B
  | [], _ => by simp
  | x :: r, h => by
    rw [List.map_cons, List.sum_cons, List.length_cons, Nat.succ_mul]
    have := h x (List.mem_cons_self ..)
    have := sum_le f B r (fun y hy => h y (List.mem_cons_of_mem _ hy))
    omega
theorem pMeth_sz {s r : List UInt8} {m : LMeth} (h : pMeth s = some (m, r)) : szMeth m ≤ 1000 := by
  obtain ⟨a, ha, h⟩ := bind_some_iff h
  obtain ⟨b, hb, h⟩ := bind_some_iff h
  obtain ⟨c, hc, h⟩ := bind_some_iff h
  obtain ⟨d, hd, h⟩ := bind_some_iff h
  obtain ⟨e, he, h⟩ := bind_some_iff h
  obtain ⟨f, hf, h⟩ := bind_some_iff h
  obtain ⟨g, hg, h⟩ := bind_some_iff h
  obtain ⟨i, hi, h⟩ := bind_some_iff h
  obtain ⟨j, hj, h⟩ := bind_some_iff h
  obtain ⟨k, hk, h⟩ := map_some_iff h
  cases h
  have b1 := (pC_sound hb).1
  have c0 := (pTs_sound hc).1
  have e1 := (pC_sound he).1
  have g1 := (pC_sound hg).1
  have i0 := (pL_sound (P := wfIns) (enc := encIns) (fun _ _ _ => pIns_sound) _ _ _ _ hi).1
  have j1 := (pC_sound hj).1
  obtain ⟨k0, k1, _⟩ := pL_sound (P := fun f => wfFrame f ∧ f.locals.length = e.1 ∧ f.stack.length ≤ 8) (enc := encFrame) (fun _ _ _ => pFrame_sound) _ _ _ _ hk
  have hs := sum_le szFrame 20 k.1 (fun f hf => by have := k1 f hf; unfold szFrame; omega)
  unfold szMeth
  simp only
  omega
theorem pClass_sz {s r : List UInt8} {x : LClass} (h : pClass s = some (x, r)) : szClass x ≤ 6100 := by
  obtain ⟨a, ha, h⟩ := bind_some_iff h
  obtain ⟨b, hb, h⟩ := bind_some_iff h
  obtain ⟨c, hc, h⟩ := bind_some_iff h
  obtain ⟨d, hd, h⟩ := bind_some_iff h
  obtain ⟨e, he, h⟩ := map_some_iff h
  cases h
  have b1 := (pC_sound hb).1
  have c0 := (pTs_sound hc).1
  have d1 := (pC_sound hd).1
  obtain ⟨e0, e1, _⟩ := pL_sound (P := fun m => szMeth m ≤ 1000) (enc := encMeth) (fun _ _ _ h => ⟨pMeth_sz h, (pMeth_sound h).2⟩) _ _ _ _ he
  have hs := sum_le szMeth 1000 e.1 e1
  unfold szClass
  simp only
  omega
theorem pProg_sz {s : List UInt8} {p : List LClass} (h : pProg s = some p) : szProg p ≤ 40000 := by
  obtain ⟨a, ha, h⟩ := bind_some_iff h
  obtain ⟨b, hb, h⟩ := bind_some_iff h
  split at h
  · cases h
    have a1 := (pC_sound ha).1
    obtain ⟨b0, b1, _⟩ := pL_sound (P := fun x => szClass x ≤ 6100) (enc := encClass) (fun _ _ _ h => ⟨pClass_sz h, (pClass_sound h).2⟩) _ _ _ _ hb
    have hs := sum_le szClass 6100 b.1 b1
    unfold szProg
    omega
  · cases h

set_option maxHeartbeats 1000000 in
set_option maxRecDepth 100000 in
theorem code_decode (s : List UInt8) (w : World) : Calls Tryz.prog 16 #[.string ⟨s.toArray⟩] w fun e w' =>
    (∀ p, codeDec s = some p → ∃ a, e = .returned (.tuple #[.agg #[.slice a p.length p.length], .int .i64 0]) ∧ OwnCs w' w.heap.size w'.heap.size (.slice a p.length p.length) p) ∧ (codeDec s = none → e = .returned (.tuple #[.agg #[.slice none 0 0], .int .i64 1])) ∧ Below w.heap.size w w' := by
  have hm0 : Mods (fun _ => False) w (((w.alloc (.cells #[.string ⟨s.toArray⟩] 9)).alloc (.cells #[.slice none 0 0] 24)).alloc (.cells #[.slice none 0 0] 24)) := (((Mods.refl _ w).alloc _).alloc _).alloc _
  have b0 : Blk (((w.alloc (.cells #[.string ⟨s.toArray⟩] 9)).alloc (.cells #[.slice none 0 0] 24)).alloc (.cells #[.slice none 0 0] 24)) w.heap.size 9 [.string ⟨s.toArray⟩] := ((Blk.new w _ _).alloc _).alloc _
  have b1 : Blk (((w.alloc (.cells #[.string ⟨s.toArray⟩] 9)).alloc (.cells #[.slice none 0 0] 24)).alloc (.cells #[.slice none 0 0] 24)) (w.heap.size + 1) 24 [.slice none 0 0] := by
    have := (Blk.new (w.alloc (.cells #[.string ⟨s.toArray⟩] 9)) #[.slice none 0 0] 24).alloc (.cells #[.slice none 0 0] 24)
    simpa using this
  have b2 : Blk (((w.alloc (.cells #[.string ⟨s.toArray⟩] 9)).alloc (.cells #[.slice none 0 0] 24)).alloc (.cells #[.slice none 0 0] 24)) (w.heap.size + 1 + 1) 24 [.slice none 0 0] := by
    have := Blk.new ((w.alloc (.cells #[.string ⟨s.toArray⟩] 9)).alloc (.cells #[.slice none 0 0] 24)) #[.slice none 0 0] 24
    simpa using this
  have hs0 : w.heap.size + 3 ≤ (((w.alloc (.cells #[.string ⟨s.toArray⟩] 9)).alloc (.cells #[.slice none 0 0] 24)).alloc (.cells #[.slice none 0 0] 24)).heap.size := by simp
  have hmf : ∀ (fn : Fn) (first cap : Array Value) (w : World), (Instr.makeFunc fn first cap).run Tryz.prog w = .ok (.func fn first cap) w := fun _ _ _ _ => rfl
  go_enter Tryz.func16, Tryz.ntmps16
  go_wp2_with fail
  generalize ((w.alloc _).alloc _).alloc _ = W at *
  refine Calls.mono (code_attempt s _ w.heap.size (w.heap.size + 1 + 1) (b0.cell 0) b2) ?_
  rintro e w1 ⟨h1, h2, hm⟩
  have c1 := b1.mods hm (by omega)
  have d0 : w1.cell? ⟨w.heap.size + 1, 0, none⟩ = some (.slice none 0 0) := c1.cell 0
  have f0 := c1.frozen 0
  have C1 := hide c1
  have hB := (hm0.mono (T := fun k => w.heap.size ≤ k) (fun _ _ f => f.elim)).trans hm (fun k hk e => by omega)
  have hbel : Below w.heap.size w w1 := hB.below (Nat.le_refl _) (fun k hk e => by omega)
  have hs1 := Nat.le_trans hs0 hm.size
  have HS0 := hide hs0
  clear hm0 b0 b1 b2 hs0 hB c1
  rcases hp : pProg s with _ | p
  · obtain ⟨rfl, _⟩ := h2 hp
    have HN : Hid (codeDec s = none) := by show _ = _; unfold codeDec; rw [hp]; rfl
    clear hp h1 h2 hm
    go_wp2_with fail
    have Z0 := (unhide C1).setCell 0 (.slice none 0 0)
    have Z1 := hbel.setCell (p := ⟨w.heap.size + 1, 0, none⟩) (Nat.le_succ _) (.slice none 0 0)
    generalize World.setCell _ _ _ = Z at Z0 Z1 ⊢
    have z0 : Z.cell? ⟨w.heap.size + 1, 0, none⟩ = some (.slice none 0 0) := Z0.cell 0
    refine bodyPost_ret (v := .tuple #[.agg #[.slice none 0 0], .int .i64 1]) (by simp [results, Tryz.results16, go_sem, z0]) rfl ⟨fun p e => ?_, fun _ => rfl, Z1⟩
    rw [unhide HN] at e; cases e
  · obtain ⟨rfl, a, hb, hO⟩ := h1 p hp
    obtain ⟨hwf, _⟩ := pProg_sound hp
    have hsz := pProg_sz hp
    have HQ : Hid (codeDec s = if formI p = 0 then some p else none) := by show _ = _; unfold codeDec; rw [hp]; rfl
    have cp : w1.cell? ⟨w.heap.size + 1 + 1, 0, none⟩ = some (.slice a p.length p.length) := hb.cell 0
    have O1 := hide hO
    have B1 := hide hb
    clear hp h1 h2 hm hO hb
    go_wp2_with fail
    refine Calls.mono (code_check p _ _ (own_cs (unhide O1)) hwf (by omega)) ?_
    rintro e w2 ⟨he, hb2⟩
    have e0 := Keeps.of_below hb2 _ _ d0
    have e1 := Keeps.of_below hb2 _ _ cp
    have C2 := (unhide C1).below hb2 (unhide C1).lt
    have g0 := C2.frozen 0
    have HC2 := hide C2
    have hf2 := hbel.trans (hb2.mono hbel.size)
    have O2 := hide ((unhide O1).stay okCl (fun k p q => hb2.block k q))
    have hsz2 := hb2.size
    clear d0 cp hbel f0 C2 hb2
    by_cases hF : formI p = 0
    · have HS : Hid (codeDec s = some p) := by show _ = _; rw [unhide HQ, if_pos hF]
      rw [hF] at he
      subst he
      clear hF
      go_wp2_with fail
      have Z0 := (unhide HC2).setCell 0 (.slice a p.length p.length)
      have Z1 := hf2.setCell (p := ⟨w.heap.size + 1, 0, none⟩) (Nat.le_succ _) (.slice a p.length p.length)
      have hlo : w.heap.size + 1 < W.heap.size := by have := unhide HS0; omega
      have Z2 := ((unhide O2).set okCl (b := w.heap.size + 1) (i := 0) (u := .slice a p.length p.length) hlo).wide okCl (lo' := w.heap.size) (hi' := w2.heap.size) (by omega) hsz2
      rw [← size_set w2 (w.heap.size + 1) 0 (.slice a p.length p.length)] at Z2
      generalize World.setCell _ _ _ = Z at Z0 Z1 Z2 ⊢
      have z0 : Z.cell? ⟨w.heap.size + 1, 0, none⟩ = some (.slice a p.length p.length) := Z0.cell 0
      refine bodyPost_ret (v := .tuple #[.agg #[.slice a p.length p.length], .int .i64 0]) (by simp [results, Tryz.results16, go_sem, z0]) rfl ⟨fun p' e => ?_, fun e => ?_, Z1⟩
      · rw [unhide HS] at e
        simp only [Option.some.injEq] at e
        subst e
        exact ⟨a, rfl, Z2⟩
      · rw [unhide HS] at e; cases e
    · have HS : Hid (codeDec s = none) := by show _ = _; rw [unhide HQ, if_neg hF]
      have hF' : (formI p != 0) = true := by simpa using hF
      subst he
      generalize formI p = fi at *
      go_wp2_with fail
      have Z0 := (unhide HC2).setCell 0 (.slice none 0 0)
      have Z1 := hf2.setCell (p := ⟨w.heap.size + 1, 0, none⟩) (Nat.le_succ _) (.slice none 0 0)
      generalize World.setCell _ _ _ = Z at Z0 Z1 ⊢
      have z0 : Z.cell? ⟨w.heap.size + 1, 0, none⟩ = some (.slice none 0 0) := Z0.cell 0
      refine bodyPost_ret (v := .tuple #[.agg #[.slice none 0 0], .int .i64 1]) (by simp [results, Tryz.results16, go_sem, z0]) rfl ⟨fun p' e => ?_, fun _ => rfl, Z1⟩
      rw [unhide HS] at e; cases e
end Go.Proofs.YtiiokkllmchohaaGreat
