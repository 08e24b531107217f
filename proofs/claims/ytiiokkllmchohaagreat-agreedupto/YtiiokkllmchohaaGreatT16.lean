/- A class's own method of a number. -/
import Derived.Test.YtiiokkllmchohaaGreatT07
import Derived.Test.YtiiokkllmchohaaGreatT13
import Derived.Test.YtiiokkllmchohaaGreatT14
/- ChkA -/
namespace Go.Proofs.YtiiokkllmchohaaGreat
open Go.RowKit Go.Shelf
attribute [local go_sem ↓] Go.wp_at_zero Go.wp_at_succ
attribute [local go_sem] frz_drew

theorem aggMeth : AggOk Tryz.prog 63 7 := ⟨by kernel_rfl, by kernel_rfl⟩
def zero7 : List Value := [.int .i64 0, .slice none 0 0, .int .i64 0, .int .i64 0, .int .i64 0, .slice none 0 0, .slice none 0 0]
theorem zero7_one : ∀ v ∈ zero7, v.oneCell' = true := by
 intro v hv
 simp only [zero7, List.mem_cons, List.not_mem_nil, or_false] at hv
 rcases hv with rfl | rfl | rfl | rfl | rfl | rfl | rfl <;> rfl
def ownM (p : List LClass) (c k : Int) : Option LMeth := if 0 ≤ c ∧ 0 ≤ k then (p[c.toNat]?).bind fun x => x.meths[k.toNat]? else none
theorem ownM_some {p : List LClass} {c k : Nat} (hc : c < p.length) (hk : k < p[c].meths.length) : ownM p c k = some p[c].meths[k] := by
 unfold ownM
 rw [if_pos ⟨by omega, by omega⟩, Int.toNat_natCast, Int.toNat_natCast, List.getElem?_eq_getElem hc, Option.bind_some, List.getElem?_eq_getElem hk]
def OwnR (p : List LClass) (c k : Int) (w0 w w' : World) (e : Ending) : Prop :=
 (∀ m, ownM p c k = some m → ∃ va vco vf, e = .returned (.tuple #[methV m va vco vf, .bool true]) ∧ GVals w0.cell? m va vco vf) ∧ (ownM p c k = none → e = .returned (.tuple #[.agg zero7.toArray, .bool false])) ∧ Below w.heap.size w w'
set_option maxHeartbeats 1000000 in
set_option maxRecDepth 100000 in
theorem code_ownmeth (p : List LClass) (vc : Value) (c k : Int) (w0 w : World) (hp : RProg w0 vc p) (hb0 : Below w0.heap.size w0 w) (hpl : p.length ≤ 4194304) :
  Calls Tryz.prog 77 #[.agg #[vc], .int .i64 c, .int .i64 k] w fun e w' => OwnR p c k w0 w w' e := by
 have HP := hide hp
 obtain ⟨pa, pb, poff, pcap, rfl, hcap, hpa, hpr⟩ := sl_open hp
 have HPR := hide hpr
 clear hpr hp
 have hbel : Below w.heap.size w ((w.alloc (.cells #[.slice pa p.length pcap] 24)).alloc (.cells zero7.toArray 63)) := box2_below _ _ _
 have B0 : Blk ((w.alloc (.cells #[.slice pa p.length pcap] 24)).alloc (.cells zero7.toArray 63)) w.heap.size 24 [.slice pa p.length pcap] := (Blk.new w _ _).alloc _
 have B1 : Blk ((w.alloc (.cells #[.slice pa p.length pcap] 24)).alloc (.cells zero7.toArray 63)) (w.heap.size + 1) 63 zero7 := by
  have := Blk.new (w.alloc (.cells #[.slice pa p.length pcap] 24)) zero7.toArray 63
  rw [World.size_alloc] at this
  exact this
 have HRP := hide (prog_keep (Keeps.of_below (hb0.trans (hbel.mono hb0.size))) (unhide HP))
 go_enter Tryz.func77, Tryz.ntmps77
 go_wp2_with fail
 refine (code_hasclass p _ c _ (unhide HRP) hpl).mono ?_
 rintro e w1 ⟨rfl, hb1⟩
 replace B0 := B0.below hb1 B0.lt
 replace B1 := B1.below hb1 B1.lt
 have hbw := hbel.trans (hb1.mono hbel.size)
 have hbw0 := hb0.trans (hbw.mono hb0.size)
 have c0 : w1.cell? ⟨w.heap.size, 0, none⟩ = some (.slice pa p.length pcap) := B0.cell 0
 have c6 : ∃ v, w1.cell? ⟨w.heap.size + 1, 0, none⟩ = some v := ⟨_, B1.cell 0⟩
 clear hbel hb1 HRP c6
 by_cases hc : 0 ≤ c ∧ c < (p.length : Int)
 ·obtain ⟨n, rfl⟩ := Int.eq_ofNat_of_zero_le hc.1
  have hn : n < p.length := by omega
  obtain rfl := hpa (ne_nil_of_lt hn)
  have hpb : placeB (n : Int) p.length = true := by rw [placeB_iff]; omega
  obtain ⟨vf, vm, d0, d1, d2, hf, hmm⟩ := unhide HPR n hn
  obtain ⟨ma, mb, moff, mcap, rfl, hmcap, hma, hmr⟩ := sl_open hmm
  have e2 := Keeps.of_below hbw0 _ _ d2
  have hn1 : (n : Int) < (p.length : Int) := by omega
  have hn0 : (0 : Int) ≤ (n : Int) := by omega
  clear d0 d1 d2 hf hmm
  rw [hpb]
  by_cases hk : 0 ≤ k ∧ k < ((p[n].meths.length : Nat) : Int)
  ·obtain ⟨j, rfl⟩ := Int.eq_ofNat_of_zero_le hk.1
   have hj : j < p[n].meths.length := by omega
   obtain rfl := hma (ne_nil_of_lt hj)
   have HOM := hide (ownM_some hn hj)
   obtain ⟨va, vco, vf, hv, g0, g1, g2, g3, g4, g5, g6⟩ := hmr j hj
   have HV := hide hv
   obtain ⟨hva, hvc, hvf⟩ := hv
   obtain ⟨aa, _, _, acap, rfl, _⟩ := hva
   obtain ⟨ca, _, _, ccap, rfl, _⟩ := hvc
   obtain ⟨fa, _, _, fcap, rfl, _⟩ := hvf
   have kp := Keeps.of_below hbw0
   replace g0 := kp _ _ g0
   replace g1 := kp _ _ g1
   replace g2 := kp _ _ g2
   replace g3 := kp _ _ g3
   replace g4 := kp _ _ g4
   replace g5 := kp _ _ g5
   replace g6 := kp _ _ g6
   have hj0 : ¬ (j : Int) < 0 := by omega
   have hj1 : ¬ ((p[n].meths.length : Nat) : Int) ≤ (j : Int) := by omega
   have hj2 : (j : Int) < ((p[n].meths.length : Nat) : Int) := by omega
   have hj3 : (0 : Int) ≤ (j : Int) := by omega
   clear hmr kp hc hk
   generalize p[n].meths[j] = m at *
   generalize p[n].meths.length = ml at *
   go_wp2_with (refine wpList_store_blk aggMeth B1 0 [_, _, _, _, _, _, _] rfl (by simp [zero7]) (fun v hv => by simp only [List.mem_cons, List.not_mem_nil, or_false] at hv; rcases hv with rfl | rfl | rfl | rfl | rfl | rfl | rfl <;> rfl) (.tmp 6) (.tmp 36) rfl rfl rfl rfl ?_; intro w7 hB7 hM7 hs7)
   rw [putAt_all (by rfl)] at hB7
   refine bodyPost_ret (results_blk2 rfl aggMeth hB7 rfl rfl) rfl ?_
   refine ⟨fun m' e => ?_, fun e => (by rw [unhide HOM] at e; cases e), hbw.trans (hM7.below hbw.size (fun k hk e => by omega))⟩
   rw [unhide HOM] at e
   obtain rfl := Option.some.inj e
   exact ⟨_, _, _, rfl, unhide HV⟩
  ·have HOM : Hid (ownM p n k = none) := by
    show _ = _
    unfold ownM
    split
    ·rw [Int.toNat_natCast, List.getElem?_eq_getElem hn, Option.bind_some, List.getElem?_eq_none (by omega)]
    ·rfl
   clear hmr hma
   generalize p[n].meths.length = ml at *
   by_cases hk0 : k < 0
   ·clear hk hc
    go_wp2_with (refine wpList_store_blk aggMeth B1 0 zero7 rfl (by simp [zero7]) zero7_one (.tmp 6) (.tmp 27) rfl rfl rfl rfl ?_; intro w7 hB7 hM7 hs7)
    rw [putAt_all (by rfl)] at hB7
    refine bodyPost_ret (results_blk2 rfl aggMeth hB7 rfl rfl) rfl ?_
    exact ⟨fun m e => (by rw [unhide HOM] at e; cases e), fun _ => rfl, hbw.trans (hM7.below hbw.size (fun k hk e => by omega))⟩
   ·have hk1 : (ml : Int) ≤ k := by omega
    clear hk hc
    go_wp2_with (refine wpList_store_blk aggMeth B1 0 zero7 rfl (by simp [zero7]) zero7_one (.tmp 6) (.tmp 27) rfl rfl rfl rfl ?_; intro w7 hB7 hM7 hs7)
    rw [putAt_all (by rfl)] at hB7
    refine bodyPost_ret (results_blk2 rfl aggMeth hB7 rfl rfl) rfl ?_
    exact ⟨fun m e => (by rw [unhide HOM] at e; cases e), fun _ => rfl, hbw.trans (hM7.below hbw.size (fun k hk e => by omega))⟩
 ·have HOM : Hid (ownM p c k = none) := by
   show _ = _
   unfold ownM
   split
   ·rw [List.getElem?_eq_none (by omega)]; rfl
   ·rfl
  have hpb : placeB c p.length = false := by
   cases h : placeB c p.length with
   | false => rfl
   | true => exact absurd (placeB_iff.1 h) hc
  rw [hpb]
  clear hc
  go_wp2_with (refine wpList_store_blk aggMeth B1 0 zero7 rfl (by simp [zero7]) zero7_one (.tmp 6) (.tmp 27) rfl rfl rfl rfl ?_; intro w7 hB7 hM7 hs7)
  rw [putAt_all (by rfl)] at hB7
  refine bodyPost_ret (results_blk2 rfl aggMeth hB7 rfl rfl) rfl ?_
  exact ⟨fun m e => (by rw [unhide HOM] at e; cases e), fun _ => rfl, hbw.trans (hM7.below hbw.size (fun k hk e => by omega))⟩
end Go.Proofs.YtiiokkllmchohaaGreat
/- What Form says of a program, as the pass wants it (pure). -/
namespace Go.Proofs.YtiiokkllmchohaaGreat
open Go.RowKit

theorem form_all {p : List LClass} (h : formI p = 0) : (1 ≤ p.length ∧ p.length ≤ 6) ∧ (∀ (c : Nat) (x : LClass), p[c]? = some x → supB c x = true ∧ restB p c x = true) ∧ ∀ x ∈ p, ∀ m ∈ x.meths, codeB p m = true := by
 unfold formI at h
 split at h
 ·cases h
 ·rename_i h1
  split at h
  ·rename_i h2
   split at h
   ·rename_i h3
    refine ⟨by omega, fun c x hx => ?_, fun x hx m hm => ?_⟩
    ·have := List.all_eq_true.1 h2 c (List.mem_range.2 (List.getElem?_eq_some_iff.1 hx).1)
     unfold classB at this
     rw [hx] at this
     simpa using this
    ·exact List.all_eq_true.1 (List.all_eq_true.1 h3 x hx) m hm
   ·cases h
  ·cases h
theorem decl_ok {n : Nat} {t : Int} (h : declB n t = true) : tyOk n t := by
 unfold declB at h
 simp at h
 rcases h with rfl | h
 ·exact ⟨by omega, by omega⟩
 ·exact ⟨by omega, by omega⟩
theorem framed_ok {n : Nat} {t : Int} (h : framedB n t = true) : tyOk n t := by
 unfold framedB at h
 simp only [Bool.or_eq_true, beq_iff_eq] at h
 rcases h with (h | rfl) | rfl
 ·exact decl_ok h
 ·exact ⟨by omega, by omega⟩
 ·exact ⟨by omega, by omega⟩
theorem form_sup {p : List LClass} (h : formI p = 0) : SupOk p p.length := fun c x _ hx => ((form_all h).2.1 c x hx).1
theorem form_bare {p : List LClass} (h : formI p = 0) {c k : Nat} {x : LClass} {m : LMeth} (hx : p[c]? = some x) (hm : x.meths[k]? = some m) : bareB p.length m = true := by
 have h1 := ((form_all h).2.1 c x hx).2
 unfold restB at h1
 simp only [Bool.and_eq_true] at h1
 have h2 := List.all_eq_true.1 h1.2 k (List.mem_range.2 (List.getElem?_eq_some_iff.1 hm).1)
 rw [hm] at h2
 unfold headB at h2
 simp only [Bool.and_eq_true] at h2
 exact h2.1.1
theorem form_good {p : List LClass} (h : formI p = 0) (hz : szProg p ≤ 4194304) : Good p := by
 refine ⟨form_sup h, hz, fun a j h0 h1 hj => ?_, fun a b h0 h1 hm => ?_⟩
 ·have hmem : fieldT p a j ∈ fieldsOf p a := by
   unfold fieldT
   rw [Int.toNat_natCast, List.getD_eq_getElem?_getD, List.getElem?_eq_getElem hj]
   exact List.getElem_mem hj
  unfold fieldsOf at hmem
  obtain ⟨l, hl, ht⟩ := List.mem_flatten.1 hmem
  obtain ⟨c, _, rfl⟩ := List.mem_map.1 hl
  unfold ownFields at ht
  cases hx : p[c]? with
  | none => rw [hx] at ht; simp at ht
  | some x =>
   rw [hx] at ht
   have h2 := ((form_all h).2.1 c x hx).2
   unfold restB at h2
   simp only [Bool.and_eq_true] at h2
   exact decl_ok (List.all_eq_true.1 h2.1.1.1 _ (by simpa using ht))
 ·obtain ⟨n, rfl⟩ := Int.eq_ofNat_of_zero_le h0
  obtain ⟨ck, hck⟩ := Option.isSome_iff_exists.1 hm
  obtain ⟨i, j⟩ := ck
  obtain ⟨y, o, hy⟩ := methOf_some p (form_sup h) b n (by omega) hck
  obtain ⟨h2, h3, _, _⟩ := hy
  have hf : findM p (n : Int) b = o := findM_of hck (by unfold methAt; rw [h2]; exact h3)
  rw [hf]
  have hb := bareB_iff.1 (form_bare h h2 h3)
  exact ⟨fun t ht => decl_ok (List.all_eq_true.1 hb.2.2.2.1 t ht), decl_ok hb.2.2.2.2.1⟩
structure MethOk (p : List LClass) (c : Int) (m : LMeth) : Prop where
 ok : MOk p m
 ins : ∀ i ∈ m.code, insB p m i = true
 c40 : m.code.length ≤ 40
 c1 : 1 ≤ m.code.length
 fr : FrOk p m
 f40 : m.frames.length ≤ 40
 a7 : m.args.length ≤ 7
 bg : TyS p.length m.stack (beginS c m)
theorem frames_all {n : Nat} {m : LMeth} : ∀ (l : List LFrame) (k : Int), framesB n m k l = true → ∀ f ∈ l, frameB n m f = true
 | [], _, _, f, hf => by cases hf
 | g :: r, k, h, f, hf => by
  unfold framesB at h
  simp only [Bool.and_eq_true] at h
  rcases List.mem_cons.1 hf with rfl | hf
  ·exact h.1.2
  ·exact frames_all r _ h.2 f hf
theorem form_own {p : List LClass} (h : formI p = 0) {c k : Int} {m : LMeth} (hm : ownM p c k = some m) : 0 ≤ c ∧ c < (p.length : Int) ∧ MethOk p c m := by
 unfold ownM at hm
 split at hm
 ·rename_i hck
  cases hx : p[c.toNat]? with
  | none => rw [hx] at hm; cases hm
  | some x =>
   rw [hx, Option.bind_some] at hm
   have hlt := (List.getElem?_eq_some_iff.1 hx).1
   have hb := bareB_iff.1 (form_bare h hx hm)
   have hc := (form_all h).2.2 x (List.mem_of_getElem? hx) m (List.mem_of_getElem? hm)
   unfold codeB at hc
   simp only [Bool.and_eq_true, decide_eq_true_eq] at hc
   obtain ⟨⟨⟨⟨c1, c40⟩, f40⟩, hins⟩, hfr⟩ := hc
   obtain ⟨_, _, a3, ha, hr, hl, hl8, hs0, hs8⟩ := hb
   refine ⟨hck.1, by omega, ⟨hs8, hl8, decl_ok hr⟩, fun i hi => List.all_eq_true.1 hins i hi, c40, c1, fun f hf => ?_, f40, by omega, ?_⟩
   ·have hfb := frames_all _ _ hfr f hf
    unfold frameB at hfb
    simp only [Bool.and_eq_true, decide_eq_true_eq] at hfb
    obtain ⟨⟨⟨⟨_, e1⟩, e2⟩, e3⟩, e4⟩ := hfb
    refine ⟨by omega, by omega, fun t ht => ?_, fun t ht => framed_ok (List.all_eq_true.1 e4 t ht), e2⟩
    rcases List.mem_append.1 ht with h1 | h1
    ·exact framed_ok (List.all_eq_true.1 e3 t h1)
    ·obtain ⟨_, rfl⟩ := List.mem_replicate.1 h1
     exact ⟨by omega, by omega⟩
   ·refine ⟨fun t ht => ?_, fun t ht => (by cases ht), by simpa [beginS] using hs0⟩
    rcases List.mem_cons.1 ht with rfl | h1
    ·exact ⟨by omega, by omega⟩
    ·rcases List.mem_append.1 h1 with h1 | h1
     ·exact decl_ok (List.all_eq_true.1 ha t h1)
     ·obtain ⟨_, rfl⟩ := List.mem_replicate.1 h1
      exact ⟨by omega, by omega⟩
 ·cases hm
end Go.Proofs.YtiiokkllmchohaaGreat
/- Classes: ancestors, their fields and methods (pure). -/
namespace Go.Proofs.YtiiokkllmchohaaGreat
open Go.RowKit Go.Shelf

theorem desc_cons {p : List LClass} (hs : SupOk p p.length) {c : Nat} {x : LClass} (hx : p[c]? = some x) (o : Int) : descB p c o = ((c : Int) == o || descB p x.sup o) := by
 unfold descB
 rw [chainOf_cons p hs (List.getElem?_eq_some_iff.1 hx).1 hx, List.any_cons]
theorem desc_out {p : List LClass} {c : Int} (h : c < 0 ∨ (p.length : Int) ≤ c) (o : Int) : descB p c o = false := by
 unfold descB
 rcases h with h | h
 ·rw [chainOf_neg p h]; rfl
 ·unfold chainOf chain
  rw [if_neg (by omega), List.getElem?_eq_none (by omega)]; rfl
theorem desc_ind {p : List LClass} (hs : SupOk p p.length) {o : Int} (P : Int → Prop) (h0 : ∀ (c : Nat) (x : LClass), p[c]? = some x → (c : Int) = o → P c)
  (h1 : ∀ (c : Nat) (x : LClass), p[c]? = some x → descB p x.sup o = true → P x.sup → P c) (c : Int) (h : descB p c o = true) : P c := by
 have key : ∀ n : Nat, descB p n o = true → P n := by
  intro n
  induction n using Nat.strongRecOn with
  | ind n ih =>
   intro hd
   cases hx : p[n]? with
   | none => rw [desc_out (.inr (by have := List.getElem?_eq_none_iff.1 hx; omega))] at hd; cases hd
   | some x =>
    rw [desc_cons hs hx] at hd
    simp only [Bool.or_eq_true, beq_iff_eq] at hd
    rcases hd with hd | hd
    ·exact h0 n x hx hd
    ·have hb := supB_le (hs n x (List.getElem?_eq_some_iff.1 hx).1 hx)
     rcases Int.lt_or_le x.sup 0 with g | g
     ·rw [desc_out (.inl g)] at hd; cases hd
     ·obtain ⟨k, hk⟩ := Int.eq_ofNat_of_zero_le g
      refine h1 n x hx hd ?_
      rw [hk] at hd ⊢
      exact ih k (by omega) hd
 rcases Int.lt_or_le c 0 with g | g
 ·rw [desc_out (.inl g)] at h; cases h
 ·obtain ⟨k, rfl⟩ := Int.eq_ofNat_of_zero_le g
  exact key k h
theorem desc_refl {p : List LClass} (hs : SupOk p p.length) {c : Int} (h0 : 0 ≤ c) (h1 : c < (p.length : Int)) : descB p c c = true := by
 obtain ⟨k, rfl⟩ := Int.eq_ofNat_of_zero_le h0
 rw [desc_cons hs (List.getElem?_eq_getElem (i := k) (by omega))]
 simp
theorem desc_trans {p : List LClass} (hs : SupOk p p.length) {a b c : Int} (h1 : descB p a b = true) (h2 : descB p b c = true) : descB p a c = true := by
 refine desc_ind hs (fun a => descB p a c = true) (fun n x hx e => by rw [e]; exact h2) (fun n x hx _ ih => ?_) a h1
 rw [desc_cons hs hx, ih]
 simp
end Go.Proofs.YtiiokkllmchohaaGreat
/- A method that is found in a program that holds. -/
namespace Go.Proofs.YtiiokkllmchohaaGreat
open Go.RowKit Go.Shelf
attribute [local go_sem ↓] Go.wp_at_zero Go.wp_at_succ
attribute [local go_sem] frz_drew

def FindCR (p : List LClass) (c k : Int) (w w' : World) (e : Ending) : Prop :=
 (∀ m, formI p = 0 → ownM p c k = some m → ∃ va vco vf, e = .returned (.tuple #[methV m va vco vf, .int .i64 0]) ∧ GVals w.cell? m va vco vf) ∧ (formI p = 0 → ownM p c k = none → e = .returned (.tuple #[.agg zero7.toArray, .int .i64 4])) ∧
  (formI p ≠ 0 → e = .returned (.tuple #[.agg zero7.toArray, .int .i64 (formI p)])) ∧ Below w.heap.size w w'
set_option maxHeartbeats 1000000 in
set_option maxRecDepth 100000 in
theorem code_find (p : List LClass) (vc : Value) (c k : Int) (w : World) (hp : RProg w vc p) (hwf : wfProg p) (hz : szProg p ≤ 4194304) :
  Calls Tryz.prog 39 #[.agg #[vc], .int .i64 c, .int .i64 k] w fun e w' => FindCR p c k w w' e := by
 have HP := hide hp
 have hpl : p.length ≤ 4194304 := Nat.le_trans (szProg_len p) hz
 obtain ⟨pa, _, _, pcap, rfl, _⟩ := hp
 have hbel : Below w.heap.size w ((w.alloc (.cells #[.slice pa p.length pcap] 24)).alloc (.cells zero7.toArray 63)) := box2_below _ _ _
 have B0 : Blk ((w.alloc (.cells #[.slice pa p.length pcap] 24)).alloc (.cells zero7.toArray 63)) w.heap.size 24 [.slice pa p.length pcap] := (Blk.new w _ _).alloc _
 have B1 : Blk ((w.alloc (.cells #[.slice pa p.length pcap] 24)).alloc (.cells zero7.toArray 63)) (w.heap.size + 1) 63 zero7 := by
  have := Blk.new (w.alloc (.cells #[.slice pa p.length pcap] 24)) zero7.toArray 63
  rw [World.size_alloc] at this
  exact this
 have HRP := hide (prog_keep (Keeps.of_below hbel) (unhide HP))
 go_enter Tryz.func39, Tryz.ntmps39
 go_wp2_with fail
 refine (code_check p _ _ (unhide HRP) hwf hz).mono ?_
 rintro e w1 ⟨rfl, hb1⟩
 replace B0 := B0.below hb1 B0.lt
 replace B1 := B1.below hb1 B1.lt
 have hbw := hbel.trans (hb1.mono hbel.size)
 have c0 : w1.cell? ⟨w.heap.size, 0, none⟩ = some (.slice pa p.length pcap) := B0.cell 0
 clear hbel hb1 HRP
 by_cases hF : formI p = 0
 ·have HF := hide hF
  rw [hF]
  clear hF
  go_wp2_with fail
  refine (code_ownmeth p _ c k w _ (unhide HP) hbw hpl).mono ?_
  rintro e w2 ⟨h1, h2, hb2⟩
  have hbw2 := hbw.trans (hb2.mono hbw.size)
  cases hm : ownM p c k with
  | none =>
   obtain rfl := h2 hm
   have HM := hide hm
   have C1 := B1.below hb2 B1.lt
   clear hm h1 h2
   go_wp2_with (first
    | (refine wpList_store_blk aggMeth (Blk.new _ _ _) 0 zero7 rfl (by simp) zero7_one (.tmp 9) (.tmp 22) rfl rfl rfl rfl ?_; intro w3 hB3 hM3 hs3; have D1 := C1.below ((box_below w2 _).trans (hM3.below (by simp) (fun k hk e => by omega))) C1.lt)
    | (refine wpList_store_blk aggMeth D1 0 zero7 rfl (by simp [zero7]) zero7_one (.tmp 6) (.tmp 26) rfl rfl rfl rfl ?_; intro w7 hB7 hM7 hs7))
   rw [putAt_all (by rfl)] at hB7
   have hbw3 := hbw2.trans (((box_below w2 _).trans (hM3.below (by simp) (fun k hk e => by omega))).mono hbw2.size)
   refine bodyPost_ret (results_blk2 rfl aggMeth hB7 rfl rfl) rfl ?_
   exact ⟨fun m _ e => (by rw [unhide HM] at e; cases e), fun _ _ => rfl, fun e => absurd (unhide HF) e, hbw3.trans (hM7.below hbw3.size (fun k hk e => by omega))⟩
  | some m =>
   obtain ⟨va, vco, vf, rfl, hv⟩ := h1 m hm
   have HM := hide hm
   have HV := hide hv
   have C1 := B1.below hb2 B1.lt
   unfold methV
   obtain ⟨hva, hvc, hvf⟩ := hv
   obtain ⟨aa, _, _, acap, rfl, _⟩ := hva
   obtain ⟨ca, _, _, ccap, rfl, _⟩ := hvc
   obtain ⟨fa, _, _, fcap, rfl, _⟩ := hvf
   have hone : ∀ v ∈ [Value.int .i64 m.slot, .slice aa m.args.length acap, .int .i64 m.ret, .int .i64 m.locals, .int .i64 m.stack, .slice ca m.code.length ccap, .slice fa m.frames.length fcap], v.oneCell' = true := fun v hv => by
    simp only [List.mem_cons, List.not_mem_nil, or_false] at hv
    rcases hv with rfl | rfl | rfl | rfl | rfl | rfl | rfl <;> rfl
   clear hm h1 h2
   go_wp2_with (first
    | (refine wpList_store_blk aggMeth (Blk.new _ _ _) 0 _ rfl (by simp) hone (.tmp 9) (.tmp 22) rfl rfl rfl rfl ?_; intro w3 hB3 hM3 hs3; rw [putAt_all (by rfl)] at hB3; have D1 := C1.below ((box_below w2 _).trans (hM3.below (by simp) (fun k hk e => by omega))) C1.lt)
    | refine wpList_load_blk aggMeth hB3 0 _ rfl (fun j v e => by simpa using e) (.tmp 9) rfl rfl rfl ?_
    | (refine wpList_store_blk aggMeth D1 0 _ rfl (by simp [zero7]) hone (.tmp 6) (.tmp 27) rfl rfl rfl rfl ?_; intro w7 hB7 hM7 hs7))
   rw [putAt_all (by rfl)] at hB7
   have hbw3 := hbw2.trans (((box_below w2 _).trans (hM3.below (by simp) (fun k hk e => by omega))).mono hbw2.size)
   refine bodyPost_ret (results_blk2 rfl aggMeth hB7 rfl rfl) rfl ?_
   refine ⟨fun m' _ e => ?_, fun _ e => (by rw [unhide HM] at e; cases e), fun e => absurd (unhide HF) e, hbw3.trans (hM7.below hbw3.size (fun k hk e => by omega))⟩
   rw [unhide HM] at e
   obtain rfl := Option.some.inj e
   exact ⟨_, _, _, rfl, unhide HV⟩
 ·have HF := hide hF
  have hF' : (formI p != 0) = true := by simpa using hF
  clear hF
  go_wp2_with (refine wpList_store_blk aggMeth B1 0 zero7 rfl (by simp [zero7]) zero7_one (.tmp 6) (.tmp 15) rfl rfl rfl rfl ?_; intro w7 hB7 hM7 hs7)
  rw [putAt_all (by rfl)] at hB7
  refine bodyPost_ret (results_blk2 rfl aggMeth hB7 rfl rfl) rfl ?_
  exact ⟨fun m e => absurd e (unhide HF), fun e => absurd e (unhide HF), fun _ => rfl, hbw.trans (hM7.below hbw.size (fun k hk e => by omega))⟩
end Go.Proofs.YtiiokkllmchohaaGreat
