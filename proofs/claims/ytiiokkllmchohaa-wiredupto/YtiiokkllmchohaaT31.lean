/- The code's Decode: giving up is caught. -/
import Derived.Defers
import Derived.Recover
import Derived.Test.YtiiokkllmchohaaT23
import Derived.Test.YtiiokkllmchohaaT25
import Derived.Test.YtiiokkllmchohaaT27
import Derived.Test.YtiiokkllmchohaaT30
/- DecA -/
namespace Go.Proofs.Ytiiokkllmchohaa
open Go.RowKit

theorem catch_idle (p : Addr) (w : World) :
    CallsD Try.prog 31 #[.pointer (some p)] .returning w fun e u' w' => e = .returned (.tuple #[]) ∧ u' = .returning ∧ w' = w := by
  refine callsD_of_wpS Try.func31 rfl fun c₀ cs hu => ?_
  apply wpS_seq
  apply wpS_region
  simp [wpOpsS, go_sem, recoverD, hu, Try.ntmps31, Exit.thenS, Array.replicate]
  refine wpS_of_wp ?_
  go_wp2
  cases c₀
  simp_all [bodyPostS, results, Try.results31]
set_option maxHeartbeats 1000000 in
set_option maxRecDepth 100000 in
theorem catch_giving (p : Addr) (why x : Int) (w : World) (hc : w.cell? p = some (.int .i64 x)) (hz : w.frozen? p = false) :
    CallsD Try.prog 31 #[.pointer (some p)] (.panicking (refC why)) w fun e u' w' =>
      e = .returned (.tuple #[]) ∧ u' = .panicking [{ v := .iface 79 (.agg #[.int .i64 why]), recovered := true }] ∧ w' = (w.alloc (.cells #[.int .i64 why] 79)).setCell p (.int .i64 why) := by
  refine callsD_of_wpS Try.func31 rfl fun c₀ cs hu => ?_
  unfold refC at hu
  have hta : ∀ W : World, (Instr.typeAssert (.iface 79 (.agg #[.int .i64 why])) 20 79 true).run Try.prog W = .ok (.tuple #[.agg #[.int .i64 why], .bool true]) W := fun W => by kernel_rfl
  apply wpS_seq
  apply wpS_region
  simp [wpOpsS, go_sem, recoverD, hu, Try.ntmps31, Exit.thenS, Array.replicate]
  refine wpS_of_wp ?_
  have hc' : ∀ o, (w.alloc o).cell? p = some (.int .i64 x) := fun o => box_keeps w o _ _ hc
  have hz' : ∀ o, (w.alloc o).frozen? p = false := fun o => by rw [World.frozen?_alloc_old _ _ _ (Nat.ne_of_lt (cell_lt hc))]; exact hz
  go_wp2_with fail
  cases c₀
  simp_all [bodyPostS, results, Try.results31]

set_option maxHeartbeats 1000000 in
set_option maxRecDepth 100000 in
theorem code_attempt (s : List UInt8) (w : World) (bs bp : Nat) (cs : w.cell? ⟨bs, 0, none⟩ = some (.string ⟨s.toArray⟩)) (hb : Blk w bp 24 [.slice none 0 0]) : Calls Try.prog 12 #[.func (.func 13) #[] #[.pointer (some ⟨bs, 0, none⟩), .pointer (some ⟨bp, 0, none⟩)]] w fun e w' =>
    (∀ p, pProg s = some p → e = .returned (.int .i64 0) ∧ ∃ a, Blk w' bp 24 [.slice a p.length p.length] ∧ OwnCs w' w.heap.size w'.heap.size (.slice a p.length p.length) p) ∧ (pProg s = none → e = .returned (.int .i64 1) ∧ Blk w' bp 24 [.slice none 0 0]) ∧ Mods (fun k => k = bp) w w' := by
  have hmf : ∀ (fn : Fn) (first cap : Array Value) (w : World), (Instr.makeFunc fn first cap).run Try.prog w = .ok (.func fn first cap) w := fun _ _ _ _ => rfl
  have hlt := hb.lt
  have cs1 := box_keeps w (.cells #[.int .i64 0] 25) _ _ cs
  have hb1 := hb.alloc (.cells #[.int .i64 0] 25)
  have be := Blk.new w #[.int .i64 0] 25
  have hm0 := (Mods.refl (fun k => k = bp) w).alloc (.cells #[.int .i64 0] 25)
  have hs0 : (w.alloc (.cells #[.int .i64 0] 25)).heap.size = w.heap.size + 1 := by simp
  have HS0 := hide hs0
  clear hs0
  go_enter_defers Try.func12, Try.ntmps12
  go_wp2_with fail
  generalize w.alloc _ = W at *
  refine Calls.mono (dec1 s _ bs bp cs1 hb1) ?_
  rintro e w1 ⟨h1, h2, hm⟩
  have be1 := be.mods hm (by omega)
  have c0 : w1.cell? ⟨w.heap.size, 0, none⟩ = some (.int .i64 0) := be1.cell 0
  have f0 := be1.frozen 0
  have M1 := hide (hm0.trans hm (fun _ _ e => e))
  rcases hp : pProg s with _ | p
  · obtain ⟨rfl, hB⟩ := h2 hp
    have HP := hide hp
    clear hp h1 h2
    go_wp2_with fail
    refine leaves_cons (f := 31) (args := #[.pointer (some ⟨w.heap.size, 0, none⟩)]) (by simp) (by simp [go_sem]) ?_
    refine (catch_giving ⟨w.heap.size, 0, none⟩ 1 0 _ c0 f0).mono ?_
    rintro e u' w2 ⟨rfl, rfl, rfl⟩
    have Z0 := ((be1.alloc (.cells #[.int .i64 1] 79)).setCell 0 (.int .i64 1)).cell 0
    have Z1 := (hB.alloc (.cells #[.int .i64 1] 79)).setCell_ne (p := ⟨w.heap.size, 0, none⟩) (by simp only; omega) (.int .i64 1)
    have Z2 := ((unhide M1).alloc (.cells #[.int .i64 1] 79)).set (b := w.heap.size) (i := 0) (Nat.le_refl _) (.int .i64 1)
    generalize World.setCell _ _ _ = Z at Z0 Z1 Z2 ⊢
    replace Z0 : Z.cell? ⟨w.heap.size, 0, none⟩ = some (.int .i64 1) := Z0
    clear c0 f0
    simp [Leaves, settle, results, Try.results12, go_sem, Z0]
    exact ⟨fun p e => (by rw [unhide HP] at e; cases e), fun _ => Z1, Z2⟩
  · obtain ⟨rfl, a, hB, hO⟩ := h1 p hp
    have HP := hide hp
    clear hp h1 h2
    go_wp2_with fail
    have Z0 := (be1.setCell 0 (.int .i64 0)).cell 0
    have Z1 := hB.setCell_ne (p := ⟨w.heap.size, 0, none⟩) (by simp only; omega) (.int .i64 0)
    have Z2 := (unhide M1).set (b := w.heap.size) (i := 0) (Nat.le_refl _) (.int .i64 0)
    have hW := unhide HS0
    have Z3 := (hO.set okCl (b := w.heap.size) (i := 0) (u := .int .i64 0) (by omega)).wide okCl (lo' := w.heap.size) (hi' := w1.heap.size) (by omega) (Nat.le_refl _)
    rw [← size_set w1 w.heap.size 0 (.int .i64 0)] at Z3
    generalize World.setCell _ _ _ = Z at Z0 Z1 Z2 Z3 ⊢
    replace Z0 : Z.cell? ⟨w.heap.size, 0, none⟩ = some (.int .i64 0) := Z0
    clear c0 f0
    refine leaves_cons (f := 31) (args := #[.pointer (some ⟨w.heap.size, 0, none⟩)]) (by simp) (by simp [go_sem]) ?_
    refine (catch_idle ⟨w.heap.size, 0, none⟩ _).mono ?_
    rintro e u' w2 ⟨rfl, rfl, rfl⟩
    simp [Leaves, settle, results, Try.results12, go_sem, Z0]
    refine ⟨fun p' e => ?_, fun e => ?_, Z2⟩
    · rw [unhide HP] at e
      simp only [Option.some.injEq] at e
      subst e
      exact ⟨a, Z1, Z3⟩
    · rw [unhide HP] at e; cases e
end Go.Proofs.Ytiiokkllmchohaa
/- What the code's Decode answers. -/
namespace Go.Proofs.Ytiiokkllmchohaa
open Go.RowKit
attribute [local go_sem ↓] Go.wp_at_zero Go.wp_at_succ

/-- What is one's own is read. -/
theorem own_list {α : Type} {sz : Nat} {R : OwnE α} {w : World} {G : α → Nat → Nat → Prop} {g : Nat} {t : TypeId} {all : List Value} (hb : Blk w g t all) (hR : ∀ lo hi c x off, R w lo hi c x → (∀ i, i < sz → c[i]? = all[off + i]?) → c.length = sz → G x g off) :
    ∀ (l : List α) (lo hi : Nat) (cells pre : List Value), OwnL sz R w lo hi cells l → all = pre ++ cells → ∀ (j : Nat) (x : α), l[j]? = some x → G x g (pre.length + j * sz)
  | [], _, _, _, _, _, _, j, x, e => by simp at e
  | y :: r, lo, hi, cells, pre, ⟨c1, c2, mid, e1, hl, h1, h2⟩, ha, j, x, e => by
    cases j with
    | zero =>
      simp at e
      subst e
      refine hR lo mid c1 y _ h1 (fun i hi => ?_) hl
      rw [ha, e1, Nat.zero_mul, Nat.add_zero, List.getElem?_append_right (Nat.le_add_right _ _), Nat.add_sub_cancel_left, List.getElem?_append_left (by omega)]
    | succ j =>
      have := own_list hb hR r mid hi c2 (pre ++ c1) h2 (by rw [ha, e1, List.append_assoc]) j x (by simpa using e)
      rw [List.length_append, hl] at this
      rw [Nat.succ_mul]
      rwa [show pre.length + (j * sz + sz) = pre.length + sz + j * sz by omega]
theorem own_read {α : Type} {sz : Nat} {R : OwnE α} {w : World} {G : α → Nat → Nat → Prop} {t : TypeId} (hR : ∀ g all lo hi c x off, Blk w g t all → R w lo hi c x → (∀ i, i < sz → c[i]? = all[off + i]?) → c.length = sz → G x g off) {lo hi : Nat} {v : Value} {l : List α} (h : OwnSl t sz R w lo hi v l) : SlAt sz G v l := by
  rcases h with ⟨rfl, rfl, _⟩ | ⟨hne, g, cells, _, rfl, hb, ho⟩
  · exact ⟨none, 0, 0, 0, rfl, Nat.le_refl _, ⟨fun e => absurd rfl e, .inl ⟨rfl, rfl⟩⟩, fun j x hj => by simp at hj⟩
  · refine ⟨some ⟨g, 0, none⟩, g, 0, l.length, rfl, Nat.le_refl _, ⟨fun _ => rfl, .inr (.inl rfl)⟩, fun j x hj => ?_⟩
    have := own_list hb (fun lo hi c x off r e hl => hR g cells lo hi c x off hb r e hl) l _ _ cells [] ho rfl j x hj
    simpa using this
theorem own_ts {w : World} {lo hi : Nat} {v : Value} {l : List Int} (h : OwnTs w lo hi v l) : SlAt 1 (RInt w) v l :=
  own_read (fun g all lo hi c x off hb r e _ => by
    obtain ⟨rfl, _⟩ := r
    unfold RInt GInt
    rw [hb.cell, ← Nat.add_zero off, ← e 0 (by omega)]
    rfl) h
theorem own_is {w : World} {lo hi : Nat} {v : Value} {l : List LIns} (h : OwnIs w lo hi v l) : SlAt 3 (RIns w) v l :=
  own_read (fun g all lo hi c x off hb r e _ => by
    obtain ⟨rfl, _⟩ := r
    refine ⟨?_, ?_, ?_⟩
    · rw [hb.cell, ← Nat.add_zero off, ← e 0 (by omega)]; rfl
    · rw [hb.cell, ← e 1 (by omega)]; rfl
    · rw [hb.cell, ← e 2 (by omega)]; rfl) h
theorem own_fs {w : World} {lo hi : Nat} {v : Value} {l : List LFrame} (h : OwnFs w lo hi v l) : SlAt 3 (RFrame w) v l :=
  own_read (fun g all lo hi c x off hb r e _ => by
    obtain ⟨vl, vs, mid, rfl, h1, h2⟩ := r
    refine ⟨vl, vs, ?_, ?_, ?_, own_ts h1, own_ts h2⟩
    · rw [hb.cell, ← Nat.add_zero off, ← e 0 (by omega)]; rfl
    · rw [hb.cell, ← e 1 (by omega)]; rfl
    · rw [hb.cell, ← e 2 (by omega)]; rfl) h
theorem own_ms {w : World} {lo hi : Nat} {v : Value} {l : List LMeth} (h : OwnMs w lo hi v l) : SlAt 7 (RMeth w) v l :=
  own_read (fun g all lo hi c x off hb r e _ => by
    obtain ⟨va, vc, vf, m1, m2, rfl, h1, h2, h3⟩ := r
    refine ⟨va, vc, vf, ⟨own_ts h1, own_is h2, own_fs h3⟩, ?_, ?_, ?_, ?_, ?_, ?_, ?_⟩
    · rw [hb.cell, ← Nat.add_zero off, ← e 0 (by omega)]; rfl
    · rw [hb.cell, ← e 1 (by omega)]; rfl
    · rw [hb.cell, ← e 2 (by omega)]; rfl
    · rw [hb.cell, ← e 3 (by omega)]; rfl
    · rw [hb.cell, ← e 4 (by omega)]; rfl
    · rw [hb.cell, ← e 5 (by omega)]; rfl
    · rw [hb.cell, ← e 6 (by omega)]; rfl) h
theorem own_cs {w : World} {lo hi : Nat} {v : Value} {l : List LClass} (h : OwnCs w lo hi v l) : RProg w v l :=
  own_read (fun g all lo hi c x off hb r e _ => by
    obtain ⟨vf, vm, mid, rfl, h1, h2⟩ := r
    refine ⟨vf, vm, ?_, ?_, ?_, own_ts h1, own_ms h2⟩
    · rw [hb.cell, ← Nat.add_zero off, ← e 0 (by omega)]; rfl
    · rw [hb.cell, ← e 1 (by omega)]; rfl
    · rw [hb.cell, ← e 2 (by omega)]; rfl) h

theorem sum_le {α : Type} (f : α → Nat) (B : Nat) : ∀ (l : List α), (∀ x ∈ l, f x ≤ B) → (l.map f).sum ≤ l.length * B
  | [], _ => by simp
  | x :: r, h => by
    rw [List.map_cons, List.sum_cons, List.length_cons, Nat.succ_mul]
    have := h x (List.mem_cons_self ..)
    have := sum_le f B r (fun y hy => h y (List.mem_cons_of_mem _ hy))
    omega
theorem pMeth_sz {s r : List UInt8} {m : LMeth} (h : pMeth s = some (m, r)) : szMeth m ≤ 1000 := by
  obtain ⟨a, ha, h⟩ := bind_some_iff h
  obtain ⟨b, hb, h⟩ := bind_some_iff h
  obtain ⟨c, hc, h⟩ := bind_some_iff h
  obtain ⟨d, hd, h⟩ := bind_some_iff h
  obtain ⟨e, he, h⟩ := bind_some_iff h
  obtain ⟨f, hf, h⟩ := bind_some_iff h
  obtain ⟨g, hg, h⟩ := bind_some_iff h
  obtain ⟨i, hi, h⟩ := bind_some_iff h
  obtain ⟨j, hj, h⟩ := bind_some_iff h
  obtain ⟨k, hk, h⟩ := map_some_iff h
  cases h
  have b1 := (pC_sound hb).1
  have c0 := (pTs_sound hc).1
  have e1 := (pC_sound he).1
  have g1 := (pC_sound hg).1
  have i0 := (pL_sound (P := wfIns) (enc := encIns) (fun _ _ _ => pIns_sound) _ _ _ _ hi).1
  have j1 := (pC_sound hj).1
  obtain ⟨k0, k1, _⟩ := pL_sound (P := fun f => wfFrame f ∧ f.locals.length = e.1 ∧ f.stack.length ≤ 8) (enc := encFrame) (fun _ _ _ => pFrame_sound) _ _ _ _ hk
  have hs := sum_le szFrame 20 k.1 (fun f hf => by have := k1 f hf; unfold szFrame; omega)
  unfold szMeth
  simp only
  omega
theorem pClass_sz {s r : List UInt8} {x : LClass} (h : pClass s = some (x, r)) : szClass x ≤ 6100 := by
  obtain ⟨a, ha, h⟩ := bind_some_iff h
  obtain ⟨b, hb, h⟩ := bind_some_iff h
  obtain ⟨c, hc, h⟩ := bind_some_iff h
  obtain ⟨d, hd, h⟩ := bind_some_iff h
  obtain ⟨e, he, h⟩ := map_some_iff h
  cases h
  have b1 := (pC_sound hb).1
  have c0 := (pTs_sound hc).1
  have d1 := (pC_sound hd).1
  obtain ⟨e0, e1, _⟩ := pL_sound (P := fun m => szMeth m ≤ 1000) (enc := encMeth) (fun _ _ _ h => ⟨pMeth_sz h, (pMeth_sound h).2⟩) _ _ _ _ he
  have hs := sum_le szMeth 1000 e.1 e1
  unfold szClass
  simp only
  omega
theorem pProg_sz {s : List UInt8} {p : List LClass} (h : pProg s = some p) : szProg p ≤ 40000 := by
  obtain ⟨a, ha, h⟩ := bind_some_iff h
  obtain ⟨b, hb, h⟩ := bind_some_iff h
  split at h
  · cases h
    have a1 := (pC_sound ha).1
    obtain ⟨b0, b1, _⟩ := pL_sound (P := fun x => szClass x ≤ 6100) (enc := encClass) (fun _ _ _ h => ⟨pClass_sz h, (pClass_sound h).2⟩) _ _ _ _ hb
    have hs := sum_le szClass 6100 b.1 b1
    unfold szProg
    omega
  · cases h

set_option maxHeartbeats 1000000 in
set_option maxRecDepth 100000 in
theorem code_decode (s : List UInt8) (w : World) : Calls Try.prog 6 #[.string ⟨s.toArray⟩] w fun e w' =>
    (∀ p, codeDec s = some p → ∃ a, e = .returned (.tuple #[.agg #[.slice a p.length p.length], .int .i64 0]) ∧ OwnCs w' w.heap.size w'.heap.size (.slice a p.length p.length) p) ∧ (codeDec s = none → e = .returned (.tuple #[.agg #[.slice none 0 0], .int .i64 1])) ∧ Below w.heap.size w w' := by
  have hm0 : Mods (fun _ => False) w (((w.alloc (.cells #[.string ⟨s.toArray⟩] 9)).alloc (.cells #[.slice none 0 0] 24)).alloc (.cells #[.slice none 0 0] 24)) := (((Mods.refl _ w).alloc _).alloc _).alloc _
  have b0 : Blk (((w.alloc (.cells #[.string ⟨s.toArray⟩] 9)).alloc (.cells #[.slice none 0 0] 24)).alloc (.cells #[.slice none 0 0] 24)) w.heap.size 9 [.string ⟨s.toArray⟩] := ((Blk.new w _ _).alloc _).alloc _
  have b1 : Blk (((w.alloc (.cells #[.string ⟨s.toArray⟩] 9)).alloc (.cells #[.slice none 0 0] 24)).alloc (.cells #[.slice none 0 0] 24)) (w.heap.size + 1) 24 [.slice none 0 0] := by
    have := (Blk.new (w.alloc (.cells #[.string ⟨s.toArray⟩] 9)) #[.slice none 0 0] 24).alloc (.cells #[.slice none 0 0] 24)
    simpa using this
  have b2 : Blk (((w.alloc (.cells #[.string ⟨s.toArray⟩] 9)).alloc (.cells #[.slice none 0 0] 24)).alloc (.cells #[.slice none 0 0] 24)) (w.heap.size + 1 + 1) 24 [.slice none 0 0] := by
    have := Blk.new ((w.alloc (.cells #[.string ⟨s.toArray⟩] 9)).alloc (.cells #[.slice none 0 0] 24)) #[.slice none 0 0] 24
    simpa using this
  have hs0 : w.heap.size + 3 ≤ (((w.alloc (.cells #[.string ⟨s.toArray⟩] 9)).alloc (.cells #[.slice none 0 0] 24)).alloc (.cells #[.slice none 0 0] 24)).heap.size := by simp
  have hmf : ∀ (fn : Fn) (first cap : Array Value) (w : World), (Instr.makeFunc fn first cap).run Try.prog w = .ok (.func fn first cap) w := fun _ _ _ _ => rfl
  go_enter Try.func6, Try.ntmps6
  go_wp2_with fail
  generalize ((w.alloc _).alloc _).alloc _ = W at *
  refine Calls.mono (code_attempt s _ w.heap.size (w.heap.size + 1 + 1) (b0.cell 0) b2) ?_
  rintro e w1 ⟨h1, h2, hm⟩
  have c1 := b1.mods hm (by omega)
  have d0 : w1.cell? ⟨w.heap.size + 1, 0, none⟩ = some (.slice none 0 0) := c1.cell 0
  have f0 := c1.frozen 0
  have C1 := hide c1
  have hB := (hm0.mono (T := fun k => w.heap.size ≤ k) (fun _ _ f => f.elim)).trans hm (fun k hk e => by omega)
  have hbel : Below w.heap.size w w1 := hB.below (Nat.le_refl _) (fun k hk e => by omega)
  have hs1 := Nat.le_trans hs0 hm.size
  have HS0 := hide hs0
  clear hm0 b0 b1 b2 hs0 hB c1
  rcases hp : pProg s with _ | p
  · obtain ⟨rfl, _⟩ := h2 hp
    have HN : Hid (codeDec s = none) := by show _ = _; unfold codeDec; rw [hp]; rfl
    clear hp h1 h2 hm
    go_wp2_with fail
    have Z0 := (unhide C1).setCell 0 (.slice none 0 0)
    have Z1 := hbel.setCell (p := ⟨w.heap.size + 1, 0, none⟩) (Nat.le_succ _) (.slice none 0 0)
    generalize World.setCell _ _ _ = Z at Z0 Z1 ⊢
    have z0 : Z.cell? ⟨w.heap.size + 1, 0, none⟩ = some (.slice none 0 0) := Z0.cell 0
    refine bodyPost_ret (v := .tuple #[.agg #[.slice none 0 0], .int .i64 1]) (by simp [results, Try.results6, go_sem, z0]) rfl ⟨fun p e => ?_, fun _ => rfl, Z1⟩
    rw [unhide HN] at e; cases e
  · obtain ⟨rfl, a, hb, hO⟩ := h1 p hp
    obtain ⟨hwf, _⟩ := pProg_sound hp
    have hsz := pProg_sz hp
    have HQ : Hid (codeDec s = if formI p = 0 then some p else none) := by show _ = _; unfold codeDec; rw [hp]; rfl
    have cp : w1.cell? ⟨w.heap.size + 1 + 1, 0, none⟩ = some (.slice a p.length p.length) := hb.cell 0
    have O1 := hide hO
    have B1 := hide hb
    clear hp h1 h2 hm hO hb
    go_wp2_with fail
    refine Calls.mono (code_check p _ _ (own_cs (unhide O1)) hwf (by omega)) ?_
    rintro e w2 ⟨he, hb2⟩
    have e0 := Keeps.of_below hb2 _ _ d0
    have e1 := Keeps.of_below hb2 _ _ cp
    have C2 := (unhide C1).below hb2 (unhide C1).lt
    have g0 := C2.frozen 0
    have HC2 := hide C2
    have hf2 := hbel.trans (hb2.mono hbel.size)
    have O2 := hide ((unhide O1).stay okCl (fun k p q => hb2.block k q))
    have hsz2 := hb2.size
    clear d0 cp hbel f0 C2 hb2
    by_cases hF : formI p = 0
    · have HS : Hid (codeDec s = some p) := by show _ = _; rw [unhide HQ, if_pos hF]
      rw [hF] at he
      subst he
      clear hF
      go_wp2_with fail
      have Z0 := (unhide HC2).setCell 0 (.slice a p.length p.length)
      have Z1 := hf2.setCell (p := ⟨w.heap.size + 1, 0, none⟩) (Nat.le_succ _) (.slice a p.length p.length)
      have hlo : w.heap.size + 1 < W.heap.size := by have := unhide HS0; omega
      have Z2 := ((unhide O2).set okCl (b := w.heap.size + 1) (i := 0) (u := .slice a p.length p.length) hlo).wide okCl (lo' := w.heap.size) (hi' := w2.heap.size) (by omega) hsz2
      rw [← size_set w2 (w.heap.size + 1) 0 (.slice a p.length p.length)] at Z2
      generalize World.setCell _ _ _ = Z at Z0 Z1 Z2 ⊢
      have z0 : Z.cell? ⟨w.heap.size + 1, 0, none⟩ = some (.slice a p.length p.length) := Z0.cell 0
      refine bodyPost_ret (v := .tuple #[.agg #[.slice a p.length p.length], .int .i64 0]) (by simp [results, Try.results6, go_sem, z0]) rfl ⟨fun p' e => ?_, fun e => ?_, Z1⟩
      · rw [unhide HS] at e
        simp only [Option.some.injEq] at e
        subst e
        exact ⟨a, rfl, Z2⟩
      · rw [unhide HS] at e; cases e
    · have HS : Hid (codeDec s = none) := by show _ = _; rw [unhide HQ, if_neg hF]
      have hF' : (formI p != 0) = true := by simpa using hF
      subst he
      generalize formI p = fi at *
      go_wp2_with fail
      have Z0 := (unhide HC2).setCell 0 (.slice none 0 0)
      have Z1 := hf2.setCell (p := ⟨w.heap.size + 1, 0, none⟩) (Nat.le_succ _) (.slice none 0 0)
      generalize World.setCell _ _ _ = Z at Z0 Z1 ⊢
      have z0 : Z.cell? ⟨w.heap.size + 1, 0, none⟩ = some (.slice none 0 0) := Z0.cell 0
      refine bodyPost_ret (v := .tuple #[.agg #[.slice none 0 0], .int .i64 1]) (by simp [results, Try.results6, go_sem, z0]) rfl ⟨fun p' e => ?_, fun _ => rfl, Z1⟩
      rw [unhide HS] at e; cases e
end Go.Proofs.Ytiiokkllmchohaa
/- The law: Decode is as the document says. -/
namespace Go.Proofs.Ytiiokkllmchohaa
open Go.RowKit
attribute [local go_sem ↓] Go.wp_at_zero Go.wp_at_succ

theorem dec_same (s : List UInt8) : codeDec s = decI s := by
  cases h : decI s with
  | some p => exact codeDec_iff.2 (decI_iff.1 h)
  | none =>
    cases h2 : codeDec s with
    | none => rfl
    | some p =>
      have := decI_iff.2 (codeDec_iff.1 h2)
      rw [h] at this; cases this
/-- The program that bytes are, or none; the error. -/
def decP (s : List UInt8) : List LClass := (decI s).getD []
def decE (s : List UInt8) : Int := if (decI s).isSome then 0 else 1
theorem code_decode' (s : List UInt8) (w : World) : Calls Try.prog 6 #[.string ⟨s.toArray⟩] w fun e w' =>
    ∃ a, e = .returned (.tuple #[.agg #[.slice a (decP s).length (decP s).length], .int .i64 (decE s)]) ∧ OwnCs w' w.heap.size w'.heap.size (.slice a (decP s).length (decP s).length) (decP s) ∧ Below w.heap.size w w' := by
  refine (code_decode s w).mono ?_
  rintro e w' ⟨h1, h2, hb⟩
  rw [dec_same] at h1 h2
  unfold decP decE
  cases hd : decI s with
  | some p =>
    obtain ⟨a, rfl, hO⟩ := h1 p hd
    exact ⟨a, rfl, hO, hb⟩
  | none =>
    obtain rfl := h2 hd
    exact ⟨none, rfl, .inl ⟨rfl, rfl, hb.size⟩, hb⟩
theorem ref_decode' (s : List UInt8) (w : World) (hs : s.length ≤ 1073741824) (hz : (rdP s).2.2 = false → szProg (rdP s).1 ≤ 4194304) : Calls Try.prog 20 #[.string ⟨s.toArray⟩] w fun e w' =>
    ∃ a cap, e = .returned (.tuple #[.agg #[.slice a (decP s).length cap], .int .i64 (decE s)]) ∧ RProg w' (.slice a (decP s).length cap) (decP s) ∧ Below w.heap.size w w' := by
  refine (ref_decode s w hs hz).mono ?_
  rintro e w' ⟨h1, h2, hb⟩
  unfold decP decE
  cases hd : decI s with
  | some p =>
    obtain ⟨v, rfl, hR⟩ := h1 p hd
    obtain ⟨a, b, off, cap, rfl, _⟩ := sl_open hR
    exact ⟨a, cap, rfl, hR, hb⟩
  | none =>
    obtain rfl := h2 hd
    exact ⟨none, 0, rfl, ⟨none, 0, 0, 0, rfl, Nat.le_refl _, ⟨fun e => absurd rfl e, .inl ⟨rfl, rfl⟩⟩, fun j x hj => by simp at hj⟩, hb⟩
theorem decP_form (s : List UInt8) : decP s = [] ∨ formI (decP s) = 0 := by
  unfold decP
  cases hd : decI s with
  | some p => exact .inr (decI_iff.1 hd).2.1
  | none => exact .inl rfl
theorem short_okM {m : LMeth} (h : shortM m) : okM m ∧ cMe m ≤ 83 := by
  obtain ⟨h1, h2, h3, h4, h5⟩ := h
  refine ⟨⟨by omega, by omega, by omega, fun f hf => ?_⟩, by unfold cMe; omega⟩
  have := h5 f hf
  unfold shortF at this
  omega
theorem short_okC {x : LClass} (h : shortC x) : okC x ∧ cCl x ≤ 3322 := by
  obtain ⟨h1, h2, h3⟩ := h
  have hs := sum_le cMe 83 x.meths (fun m hm => (short_okM (h3 m hm)).2)
  have hm : cMs x.meths ≤ 3320 := by
    have : x.meths.length * 83 ≤ 40 * 83 := Nat.mul_le_mul_right _ h2
    unfold cMs; omega
  exact ⟨⟨by omega, by omega, by omega, fun m hm => (short_okM (h3 m hm)).1⟩, by unfold cCl; omega⟩
theorem decP_ok (s : List UInt8) : (decP s).length ≤ 6 ∧ (∀ x ∈ decP s, okC x) ∧ cCs (decP s) ≤ 20000 ∧ szProg (decP s) ≤ 1000000 := by
  rcases decP_form s with h | h
  · rw [h]
    refine ⟨by simp, fun x hx => (by cases hx), by decide, by decide⟩
  · obtain ⟨h1, h2⟩ := form_short h
    have hs := sum_le cCl 3322 (decP s) (fun x hx => (short_okC (h2 x hx)).2)
    have hz := sum_le szClass 150000 (decP s) (fun x hx => by
      obtain ⟨s1, s2, s3⟩ := h2 x hx
      have hm := sum_le szMeth 3600 x.meths (fun m hm => by
        obtain ⟨t1, t2, t3, t4, t5⟩ := s3 m hm
        have hf := sum_le szFrame 84 m.frames (fun f hf => by
          have := t5 f hf
          unfold shortF at this
          unfold szFrame
          omega)
        have : m.frames.length * 84 ≤ 40 * 84 := Nat.mul_le_mul_right _ t4
        unfold szMeth
        omega)
      have : x.meths.length * 3600 ≤ 40 * 3600 := Nat.mul_le_mul_right _ s2
      unfold szClass
      omega)
    refine ⟨h1, fun x hx => (short_okC (h2 x hx)).1, ?_, ?_⟩
    · unfold cCs
      have : (decP s).length * 3322 ≤ 6 * 3322 := Nat.mul_le_mul_right _ h1
      omega
    · unfold szProg
      have : (decP s).length * 150000 ≤ 6 * 150000 := Nat.mul_le_mul_right _ h1
      omega
/-- What a look at one answer of Decode leaves. -/
structure KDid (w w' : World) (bh : Nat) (cs cs' : List Value) (n n' : Nat) (es es' : Nat → List Ent) : Prop where
  inv : KInv w' bh cs' n' es'
  nle : n' ≤ n + 20001
  cnt : ∀ j, j < 6 → (es' j).length ≤ (es j).length + 80004
  mods : Mods (fun k => k = bh ∨ ∃ f, OwnAt cs f k) w w'
  rows : ∀ f k, OwnAt cs' f k → OwnAt cs f k ∨ w.heap.size ≤ k

set_option maxHeartbeats 1000000 in
set_option maxRecDepth 100000 in
theorem law_decoded (s : List UInt8) (w : World) (bh : Nat) (cs : List Value) (n : Nat) (es : Nat → List Ent) (h : KInv w bh cs n es) (hs : s.length ≤ 1073741824) (hz : (rdP s).2.2 = false → szProg (rdP s).1 ≤ 4194304) (hn : n ≤ 200000) (hc : ∀ j, j < 6 → (es j).length ≤ 2000000) :
    Calls Try.prog 8 #[.pointer (some ⟨bh, 0, none⟩), .string ⟨s.toArray⟩] w fun e w' => e = .returned (.bool true) ∧ ∃ cs' n' es', KDid w w' bh cs cs' n n' es es' := by
  obtain ⟨k1, k2, k3, k4⟩ := decP_ok s
  go_enter Try.func8, Try.ntmps8
  go_wp2_with fail
  refine Calls.mono (code_decode' s w) ?_
  rintro e w1 ⟨a, rfl, hO, hb1⟩
  have RP := hide (ref_decode' s)
  generalize decP s = p at *
  generalize decE s = er at *
  have hs1 := hb1.size
  have M1 := (below_none hb1).trans ((Mods.refl (fun _ => False) w1).alloc (.cells #[.slice a p.length p.length] 24)) (fun _ _ f => f)
  have BP := Blk.new w1 #[.slice a p.length p.length] 24
  have O1 : OwnCs (w1.alloc (.cells #[.slice a p.length p.length] 24)) w.heap.size w1.heap.size (.slice a p.length p.length) p := hO.stay okCl (fun k _ hk => ((Mods.refl (fun _ => False) w1).alloc (.cells #[.slice a p.length p.length] 24)).block k hk (fun f => f))
  have hW1 : w1.heap.size < (w1.alloc (.cells #[.slice a p.length p.length] 24)).heap.size := by simp
  clear hO hb1
  go_wp2_with fail
  generalize w1.alloc _ = W1 at *
  refine Calls.mono ((unhide RP) W1 hs hz) ?_
  rintro e w2 ⟨a2, cap2, rfl, hR2, hb2⟩
  have hs2 := hb2.size
  have M2 := M1.trans (below_none hb2) (fun _ _ f => f)
  have BP2 := BP.below hb2 BP.lt
  have O2 := O1.stay okCl (fun k _ hk => (below_none hb2).block k (by omega) (fun f => f))
  have R2' : RProg (w2.alloc (.cells #[.slice a2 p.length cap2] 24)) (.slice a2 p.length cap2) p := prog_keep (box_keeps w2 _) hR2
  have M3 := M2.trans ((Mods.refl (fun _ => False) w2).alloc (.cells #[.slice a2 p.length cap2] 24)) (fun _ _ f => f)
  have BP3 := BP2.alloc (.cells #[.slice a2 p.length cap2] 24)
  have BQ3 := Blk.new w2 #[.slice a2 p.length cap2] 24
  have O3 := O2.stay okCl (fun k _ hk => ((Mods.refl (fun _ => False) w2).alloc (.cells #[.slice a2 p.length cap2] 24)).block k (by omega) (fun f => f))
  have p3 : w2.cell? ⟨w1.heap.size, 0, none⟩ = some (.slice a p.length p.length) := BP2.cell 0
  have hlt3 : w1.heap.size < w2.heap.size := by omega
  have hW2 : w2.heap.size < (w2.alloc (.cells #[.slice a2 p.length cap2] 24)).heap.size := by simp
  clear M1 BP O1 hR2 hb2 M2 BP2 O2 RP
  go_wp2_with fail
  generalize w2.alloc _ = W2 at *
  refine Calls.mono (same_program p _ _ W2 (own_cs O3) R2' (by omega)) ?_
  rintro e w4 ⟨rfl, hb4⟩
  have hs4 := hb4.size
  have M4 := M3.trans (below_none hb4) (fun _ _ f => f)
  have BP4 := BP3.below hb4 BP3.lt
  have O4 := O3.stay okCl (fun k _ hk => (below_none hb4).block k (by omega) (fun f => f))
  have p4 : w4.cell? ⟨w1.heap.size, 0, none⟩ = some (.slice a p.length p.length) := BP4.cell 0
  have K4 : KInv w4 bh cs n es := h.mods M4 (fun f => f) (fun _ _ _ f => f) (fun _ _ _ _ _ _ f => f)
  have F4 : KFree bh cs es w.heap.size w1.heap.size := KFree.new h (Nat.le_refl _) _
  clear M3 BP3 BQ3 O3 R2' p3 BP4 hb4
  go_wp2_with fail
  refine Calls.mono (keep_program p _ w4 bh cs n es w.heap.size w1.heap.size K4 O4 F4 (by omega) (by omega) (by omega) (fun j hj => by have := hc j hj; omega) k2 (by omega)) ?_
  rintro e w5 ⟨rfl, cs', es', K5, S5⟩
  have HK5 := hide K5
  have HS5 := hide S5
  have HM4 := hide M4
  have HC5 : ∀ j, j < 6 → (es' j).length ≤ 16777216 := fun j hj => by have := S5.cnt j hj; have := hc j hj; omega
  clear K4 O4 F4 p4 K5 S5 M4
  go_wp2_with fail
  refine Calls.mono (law_holds w5 bh cs' _ es' (unhide HK5) HC5) ?_
  rintro e w6 ⟨rfl, hb6⟩
  have HB6 := hide hb6
  clear hb6
  go_wp2_with ((go_at_call 18; refine (law_num _ _).mono ?_); rintro e z ⟨rfl, rfl⟩)
  go_ret
  have S5 := unhide HS5
  have M4 := unhide HM4
  have hb6 := unhide HB6
  have hsz := M4.size
  refine ⟨ret_bool (by simp), cs', _, es', ⟨(unhide HK5).below hb6, by omega, fun j hj => by have := S5.cnt j hj; omega, ?_, fun f k hf => ?_⟩⟩
  · refine (M4.mono (T := fun k => k = bh ∨ ∃ f, OwnAt cs f k) (fun _ _ f => f.elim)).trans (S5.mods.trans (below_none hb6) (fun _ _ f => f.elim)) (fun k hk hS => ?_)
    rcases hS with x | x | x
    · exact .inl x
    · exact .inr x
    · omega
  · rcases S5.rows f k hf with x | x
    · exact .inl x
    · exact .inr (by omega)
end Go.Proofs.Ytiiokkllmchohaa
