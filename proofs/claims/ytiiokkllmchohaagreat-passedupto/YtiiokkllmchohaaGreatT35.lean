/- The document's answer: the frame of an instruction. -/
import Derived.Test.YtiiokkllmchohaaGreatT34
namespace Go.Proofs.YtiiokkllmchohaaGreat
open Go.RowKit Go.Shelf
attribute [local go_sem ↓] Go.wp_at_zero Go.wp_at_succ
attribute [local go_sem] frz_drew
def frmAtL (m : LMeth) (i : Int) : Option LFrame := m.frames.find? fun f => f.pc == i
def FrmR (m : LMeth) (i : Int) (w0 w w' : World) (e : Ending) : Prop :=
 (∀ f, frmAtL m i = some f → ∃ vl vs, e = .returned (.agg #[.bool true, vl, vs]) ∧ StG w0.cell? ⟨f.locals, f.stack⟩ vl vs) ∧ (frmAtL m i = none → e = .returned (.agg #[.bool false, .slice none 0 0, .slice none 0 0])) ∧ Below w.heap.size w w'
theorem find_at {l : List LFrame} {q : LFrame → Bool} {k : Nat} (hk : k < l.length) (h : ∀ (j : Nat) (hj : j < l.length), j < k → q l[j] = false) (hq : q l[k] = true) : l.find? q = some l[k] := by
 rw [List.find?_eq_some_iff_getElem]
 exact ⟨hq, k, hk, rfl, fun j hj => by rw [h j (by omega) hj]; rfl⟩
set_option maxHeartbeats 1000000 in
set_option maxRecDepth 100000 in
theorem rs_frame (m : LMeth) (va vco vf : Value) (i : Int) (w0 w : World) (hv : GVals w0.cell? m va vco vf) (hw : Below w0.heap.size w0 w) (hf40 : m.frames.length ≤ 4194304) :
  Calls Tryz.prog 161 #[methV m va vco vf, .int .i64 i] w fun e w' => FrmR m i w0 w w' e := by
 unfold methV
 obtain ⟨aa, _, _, acap, rfl, _⟩ := hv.1
 obtain ⟨ca, _, _, ccap, rfl, _⟩ := hv.2.1
 obtain ⟨fa, fb, fo, fcap, rfl, _, hfa, hfr⟩ := sl_open hv.2.2
 have HFR := hide hfr
 clear hfr hv
 have hbel : Below w.heap.size w ((w.alloc (.cells #[.int .i64 m.slot, .slice aa m.args.length acap, .int .i64 m.ret, .int .i64 m.locals, .int .i64 m.stack, .slice ca m.code.length ccap, .slice fa m.frames.length fcap] 63)).alloc (.cells #[.bool false, .slice none 0 0, .slice none 0 0] 149)) := box2_below _ _ _
 have B0 := (Blk.new w #[.int .i64 m.slot, .slice aa m.args.length acap, .int .i64 m.ret, .int .i64 m.locals, .int .i64 m.stack, .slice ca m.code.length ccap, .slice fa m.frames.length fcap] 63).alloc (.cells #[.bool false, .slice none 0 0, .slice none 0 0] 149)
 have B1 := Blk.new (w.alloc (.cells #[.int .i64 m.slot, .slice aa m.args.length acap, .int .i64 m.ret, .int .i64 m.locals, .int .i64 m.stack, .slice ca m.code.length ccap, .slice fa m.frames.length fcap] 63)) #[.bool false, .slice none 0 0, .slice none 0 0] 149
 rw [World.size_alloc] at B1
 go_enter Tryz.func161, Tryz.ntmps161
 go_wp2_with fail
 generalize (w.alloc _).alloc _ = W at *
 have b6 : W.cell? ⟨w.heap.size, 6, none⟩ = some (.slice fa m.frames.length fcap) := B0.cell 6
 have hWs := hbel.size
 go_loopw [5] (fun s wr => ∃ k : Nat, k ≤ m.frames.length ∧ s = .int .i64 k ∧ wr = W ∧ ∀ (j : Nat) (hj : j < m.frames.length), j < k → (m.frames[j].pc == i) = false) (fun s _ => m.frames.length - (intOf s).toNat)
 case atStart => exact ⟨0, Nat.zero_le _, rfl, rfl, fun j _ h => (by omega)⟩
 case round =>
  obtain ⟨k, hk, rfl, rfl, hno⟩ := hrel
  by_cases hlt : k < m.frames.length
  ·obtain rfl := hfa (ne_nil_of_lt hlt)
   obtain ⟨vl, vs, f0, f1, f2, hl, hs⟩ := unhide HFR k hlt
   have g0 := Keeps.of_below (hw.trans (hbel.mono hw.size)) _ _ f0
   have g1 := Keeps.of_below (hw.trans (hbel.mono hw.size)) _ _ f1
   have g2 := Keeps.of_below (hw.trans (hbel.mono hw.size)) _ _ f2
   have HNX : Hid (∀ b, (m.frames[k].pc == i) = b → (b = true → frmAtL m i = some m.frames[k]) ∧ (b = false → ∀ (j : Nat) (hj : j < m.frames.length), j < k + 1 → (m.frames[j].pc == i) = false)) := fun b hb => ⟨fun e => find_at hlt hno (by rw [hb]; exact e), fun e j hj h => by
    by_cases ej : j = k
    ·subst ej; rw [hb]; exact e
    ·exact hno j hj (by omega)⟩
   have HSG := hide (show StG w0.cell? ⟨m.frames[k].locals, m.frames[k].stack⟩ vl vs from ⟨hl, hs⟩)
   clear hno
   generalize m.frames[k] = f at *
   obtain ⟨lla, _, _, llc, rfl, _⟩ := hl
   obtain ⟨ssa, _, _, ssc, rfl, _⟩ := hs
   have k0 : (0 : Int) ≤ (k : Int) := by omega
   have k1 : (k : Int) < (m.frames.length : Int) := by omega
   cases hq : (f.pc == i) with
   | false =>
    have HN := hide ((unhide HNX false hq).2 rfl)
    go_wp2_with fail
    exact ⟨⟨k + 1, by omega, by go_num, by first | rfl | trivial, unhide HN⟩, by simp [intOf]; omega⟩
   | true =>
    have HN := hide ((unhide HNX true hq).1 rfl)
    have hqe : f.pc = i := by simpa using hq
    clear hq
    have HO := hide (fun Y (hY : Mods (fun k => k = w.heap.size + 1) wr Y) => And.intro ((B0.mods hY (by omega)).cell 6) (And.intro (hY.cell g1 (by have := cell_lt f1; have := hw.size; dsimp only at *; omega)) (hY.cell g2 (by have := cell_lt f2; have := hw.size; dsimp only at *; omega))))
    go_wp2_with fail
    refine wp_region_noPanic ?_
    refine wp_region_held_drew (S := (fun w' => w'.cell? ⟨w.heap.size, 6, none⟩ = some (.slice (some ⟨fb, fo, none⟩) m.frames.length fcap) ∧ w'.cell? ⟨fb, fo + k * 3 + 1, none⟩ = some (.slice lla f.locals.length llc) ∧ w'.cell? ⟨fb, fo + k * 3 + 2, none⟩ = some (.slice ssa f.stack.length ssc))) (by kernel_rfl) ?_ (fun hHeld => ?_)
    ·exact ⟨b6, g1, g2⟩
    refine take_x (some 21) 0 rfl rfl ?_
    refine take_x (some 22) 1 rfl rfl ?_
    refine take_x (some 23) 2 rfl rfl ?_
    refine take_x (some 24) 3 rfl rfl ?_
    refine take_x (some 25) 4 rfl rfl ?_
    refine take_x (some 26) 5 rfl rfl ?_
    refine take_x (some 27) 6 rfl rfl ?_
    refine take_x (some 28) 7 rfl rfl ?_
    refine take_x (some 29) 8 rfl rfl ?_
    refine take_x (some 30) 9 rfl rfl ?_
    refine take_x (some 31) 10 rfl rfl ?_
    refine take_x (some 32) 11 rfl rfl ?_
    refine take_x (some 33) 12 rfl rfl ?_
    refine wpAnyH_ready (rs := [13]) (by kernel_rfl) (by simp) ?_
    refine AllReadyH.cons rfl (fun K hK => ?_) AllReadyH.nil
    refine wp_store_blk aggRS B1.drew 0 [.bool true, .slice lla f.locals.length llc, .slice ssa f.stack.length ssc] rfl (by simp) (fun u hu => by simp only [List.mem_cons, List.not_mem_nil, or_false] at hu; rcases hu with rfl | rfl | rfl <;> rfl) (.tmp 4) (.tmp 33) rfl rfl rfl ?_
    intro w6 hB6 hM6 hs6
    rw [putAt_all (by rfl)] at hB6
    have hM6' : Mods (fun k => k = w.heap.size + 1) wr w6 := ⟨hM6.os, hM6.tape, hM6.output, hM6.size, hM6.block⟩
    refine hK.out _ _ ((unhide HO) _ hM6') (fun hHeld => ?_)
    clear hK K
    try simp only [Act.put]
    refine wpAnyH_done (by kernel_rfl) ?_ _
    refine NoPanic.normal ?_
    go_wp2_with fail
    refine bodyPost_ret (results_blk rfl aggRS hB6 rfl rfl) rfl ?_
    refine ⟨fun f' e => ?_, fun e => (by rw [unhide HN] at e; cases e), hbel.trans (hM6'.below hbel.size (fun k hk e => by omega))⟩
    rw [unhide HN] at e
    cases e
    exact ⟨_, _, rfl, unhide HSG⟩
  ·have hnone : frmAtL m i = none := by
    unfold frmAtL
    rw [List.find?_eq_none]
    intro f hf
    obtain ⟨j, hj, rfl⟩ := List.getElem_of_mem hf
    rw [hno j hj (by omega)]
    simp
   have HN := hide hnone
   obtain rfl : k = m.frames.length := by omega
   have ke : ¬ (m.frames.length : Int) < (m.frames.length : Int) := by omega
   clear hno hnone
   go_wp2_with (refine wpList_store_blk aggRS B1 0 [.bool false, .slice none 0 0, .slice none 0 0] rfl (by simp) zeros3 (.tmp 4) (.tmp 34) rfl rfl rfl rfl ?_; intro w6 hB6 hM6 hs6; rw [putAt_all (by rfl)] at hB6)
   refine bodyPost_ret (results_blk rfl aggRS hB6 rfl rfl) rfl ?_
   exact ⟨fun f' e => (by rw [unhide HN] at e; cases e), fun _ => rfl, hbel.trans (hM6.below hbel.size (fun k hk e => by omega))⟩
end Go.Proofs.YtiiokkllmchohaaGreat
namespace Go.Proofs.YtiiokkllmchohaaGreat
open Go.RowKit Go.Shelf
def frS (f : LFrame) : TSt := ⟨f.locals, f.stack⟩
def handF (p : List LClass) (m : LMeth) (i : Nat) (h : Option TSt) : Option (Option TSt) := match frmAtL m i with
 | none => some h
 | some f => match h with
  | none => some (some (frS f))
  | some s => if underB p s (frS f) then some (some (frS f)) else none
def jmpOk (p : List LClass) (m : LMeth) (out : TSt) (i : Int) : Bool := match frmAtL m i with
 | none => false
 | some f => underB p out (frS f)
def refS (p : List LClass) (m : LMeth) (i : Nat) (h : Option TSt) : Option (Option TSt) := (handF p m i h).bind fun h' => match h' with
 | none => some none
 | some s => (rStep p m (insAt m i) s).bind fun out => if jumpsB (insAt m i) && !jmpOk p m out (insAt m i).a then none else some (if fallsB (insAt m i) then some out else none)
def refK (p : List LClass) (c : Int) (m : LMeth) : Nat → Option (Option TSt)
 | 0 => some (some (cutS m (beginS c m)))
 | k + 1 => (refK p c m k).bind (refS p m k)
def refPass (p : List LClass) (c : Int) (m : LMeth) : Bool := match refK p c m m.code.length with
 | some none => true
 | _ => false
theorem refK_none {p : List LClass} {c : Int} {m : LMeth} {k : Nat} (h : refK p c m k = none) : ∀ n, k ≤ n → refK p c m n = none := by
 intro n hn
 induction n with
 | zero =>
  obtain rfl : k = 0 := by omega
  exact h
 | succ n ih =>
  rcases Nat.lt_or_ge n k with h1 | h1
  ·obtain rfl : k = n + 1 := by omega
   exact h
  ·unfold refK
   rw [ih h1]; rfl
theorem refPass_no {p : List LClass} {c : Int} {m : LMeth} {k : Nat} {h : Option TSt} (hk : k < m.code.length) (h1 : refK p c m k = some h) (h2 : refS p m k h = none) : refPass p c m = false := by
 unfold refPass
 rw [refK_none (k := k + 1) (by unfold refK; rw [h1]; exact h2) _ (by omega)]
def StOk (p : List LClass) (m : LMeth) (s : TSt) : Prop := TIn p s ∧ (s.loc.length : Int) = m.locals ∧ (s.stk.length : Int) ≤ m.stack
theorem rStep_ok {p : List LClass} {m : LMeth} {x : LIns} {s s' : TSt} (G : Good p) (M : MOk p m) (hi : insB p m x = true) (h : StOk p m s) (e : rStep p m x s = some s') : StOk p m s' := by
 obtain ⟨h1, h2, h3⟩ := h
 have J := ins_ok (p := p) (m := m) (op := x.op) (a := x.a) (b := x.b) hi
 have hd : doS p m x s = some s' := by
  rw [← rStep_do h3 (fun t ht => (h1.1 t ht).1) (fun h => (J.cls (by omega)).1) (fun h => by
   have hc := J.cls (by omega)
   have hf := J.fld (by omega)
   obtain ⟨j, hj⟩ := Int.eq_ofNat_of_zero_le hf.1
   rw [hj]
   exact (G.fld x.a j hc.1 hc.2 (by omega)).1) (fun h => by
   have hc := J.cls (by omega)
   obtain ⟨a1, a2⟩ := G.arg x.a x.b hc.1 hc.2 (J.call h)
   exact ⟨fun t ht => (a1 t ht).1, a2.1⟩) M.ret.1]
  exact e
 refine ⟨do_tin G J h1 hd, ?_, ?_⟩
 ·rcases do_loc hd h3 with h | ⟨_, t, h⟩
  ·rw [h]; exact h2
  ·rw [h, List.length_set]; exact h2
 ·unfold rStep at e
  by_cases c1 : x.op = 1 ∧ s.loc.getD x.a.toNat 0 = 2
  ·rw [if_pos c1] at e; cases e
  rw [if_neg c1] at e
  by_cases c2 : s.stk.length < (rWants p m x).1.length
  ·rw [if_pos c2] at e; cases e
  rw [if_neg c2] at e
  by_cases c3 : (((s.stk.drop (s.stk.length - (rWants p m x).1.length)).zip (rWants p m x).1).all fun x => rFits p x.1 x.2) = true
  ·rw [if_pos c3] at e
   by_cases c4 : (((s.stk.take (s.stk.length - (rWants p m x).1.length) ++ (if x.op = 1 then [s.loc.getD x.a.toNat 0] else (rWants p m x).2).map (rLeft (s.stk.drop (s.stk.length - (rWants p m x).1.length)))).length : Nat) : Int) ≤ m.stack
   ·rw [if_pos c4] at e
    cases e
    exact c4
   ·rw [if_neg c4] at e; cases e
  ·rw [if_neg c3] at e; cases e
theorem framed_ty {n : Nat} {t : Int} (h : framedB (n : Int) t = true) : tyOk n t := by
 unfold framedB declB at h
 simp at h
 constructor <;> omega
theorem frame_ok {p : List LClass} {m : LMeth} (hfr : framesB p.length m (-1) m.frames = true) {i : Int} {f : LFrame} (h : frmAtL m i = some f) : StOk p m (frS f) := by
 have hm : f ∈ m.frames := List.mem_of_find?_eq_some h
 have a3 := (framesB_iff.1 hfr).2.2 f hm
 unfold frameB at a3
 simp only [Bool.and_eq_true, decide_eq_true_eq, List.all_eq_true] at a3
 obtain ⟨⟨⟨⟨b1, b2⟩, b3⟩, b4⟩, b5⟩ := a3
 exact ⟨⟨fun t ht => framed_ty (b4 t ht), fun t ht => framed_ty (b5 t ht)⟩, b2, b3⟩
structure PsI (w V : World) (p : List LClass) (m : LMeth) (bh : Nat) (vp vm1 vm5 vm6 : Value) (h : Option TSt) (vl vs : Value) : Prop where
 bel : Below w.heap.size w V
 b0 : Blk V w.heap.size 24 [vp]
 b1 : Blk V (w.heap.size + 1) 63 [.int .i64 m.slot, vm1, .int .i64 m.ret, .int .i64 m.locals, .int .i64 m.stack, vm5, vm6]
 bx : Blk V bh 149 [.bool h.isSome, vl, vs]
 st : ∀ s, h = some s → StG (sel (fun k => k ≠ bh) V) s vl vs ∧ StOk p m s
 no : h = none → vl = .slice none 0 0 ∧ vs = .slice none 0 0
 lo : w.heap.size + 1 < bh
section
variable {w V V' : World} {p : List LClass} {m : LMeth} {bh : Nat} {vp vm1 vm5 vm6 : Value} {h : Option TSt} {vl vs : Value}
theorem PsI.below (i : PsI w V p m bh vp vm1 vm5 vm6 h vl vs) (b : Below V.heap.size V V') : PsI w V' p m bh vp vm1 vm5 vm6 h vl vs :=
 ⟨i.bel.trans (b.mono i.bel.size), i.b0.below b i.b0.lt, i.b1.below b i.b1.lt, i.bx.below b i.bx.lt, fun s e => ⟨StG.keep (sel_mods (Mods.of_below b) fun k hk hS => ⟨fun e => by omega, hS⟩) (i.st s e).1, (i.st s e).2⟩, i.no, i.lo⟩
def hdS (h : Option TSt) : TSt := h.getD ⟨[], []⟩
theorem PsI.hand (i : PsI w V p m bh vp vm1 vm5 vm6 h vl vs) : StG V.cell? (hdS h) vl vs := by
 cases h with
 | none =>
  obtain ⟨rfl, rfl⟩ := i.no rfl
  exact ⟨nil_ints, nil_ints⟩
 | some s => exact StG.keep sel_world (i.st s rfl).1
theorem PsI.handT (i : PsI w V p m bh vp vm1 vm5 vm6 h vl vs) : TIn p (hdS h) := by
 cases h with
 | none => exact ⟨fun x hx => (by cases hx), fun x hx => (by cases hx)⟩
 | some s => exact (i.st s rfl).2.1
theorem PsI.put (i : PsI w V p m bh vp vm1 vm5 vm6 h vl vs) (hM : Mods (fun k => k = bh) V V') {h' : Option TSt} {vl' vs' : Value} (hB : Blk V' bh 149 [.bool h'.isSome, vl', vs']) (hs : ∀ s, h' = some s → StG (sel (fun k => k ≠ bh) V) s vl' vs' ∧ StOk p m s) (hn : h' = none → vl' = .slice none 0 0 ∧ vs' = .slice none 0 0) : PsI w V' p m bh vp vm1 vm5 vm6 h' vl' vs' := by
 have hlo := i.lo
 exact ⟨i.bel.trans (hM.below i.bel.size (fun k hk e => by omega)), i.b0.mods hM (by omega), i.b1.mods hM (by omega), hB, fun s e => ⟨StG.keep (sel_mods hM fun k _ hk => ⟨hk, hk⟩) (hs s e).1, (hs s e).2⟩, hn, i.lo⟩
end
section
variable {p : List LClass} {m : LMeth} {c : Int}
def CdOk (p : List LClass) (m : LMeth) (s : TSt) : Prop := s.loc.length = 8 ∧ Hi m s ∧ (s.stk.length : Int) ≤ m.stack ∧ TIn p s
theorem told_ok (hfr : framesB p.length m (-1) m.frames = true) (h8 : m.locals ≤ 8) {i : Int} {f : LFrame} (h : frmAtL m i = some f) : CdOk p m (toldS f) ∧ cutS m (toldS f) = frS f := by
 obtain ⟨o1, o2, o3⟩ := frame_ok hfr h
 have hl : (f.locals.length : Int) = m.locals := o2
 have hlen : (toldS f).loc.length = 8 := by unfold toldS; simp; omega
 refine ⟨⟨hlen, fun j hj hj8 => ?_, o3, ⟨fun x hx => ?_, o1.2⟩⟩, ?_⟩
 ·unfold toldS
  dsimp only
  rw [List.getD_eq_getElem?_getD, List.getElem?_append_right (by omega), List.getElem?_replicate, if_pos (by omega)]
  rfl
 ·unfold toldS at hx
  rcases List.mem_append.1 hx with h | h
  ·exact o1.1 x h
  ·rw [(List.mem_replicate.1 h).2]
   exact ⟨by omega, by omega⟩
 ·unfold cutS toldS frS
  dsimp only
  rw [show m.locals.toNat = f.locals.length by omega, List.take_left']
  rfl
theorem cut_len (h0 : 0 ≤ m.locals) (h8 : m.locals ≤ 8) {s : TSt} (hs : s.loc.length = 8) : ((cutS m s).loc.length : Int) = m.locals := by
 unfold cutS
 simp [hs]
 omega
theorem under_cut (h0 : 0 ≤ m.locals) (h8 : m.locals ≤ 8) {s t : TSt} (hs : s.loc.length = 8) (ht : t.loc.length = 8) (hi : Hi m t) : underB p (cutS m s) (cutS m t) = belowS p s t := by
 rw [← cut_below (p := p) hs ht hi h0 h8]
 unfold underB belowS
 have e : ((cutS m s).loc.length == (cutS m t).loc.length) = true := by
  have a := cut_len h0 h8 hs
  have b := cut_len h0 h8 ht
  simp
  omega
 rw [e, Bool.and_true, Bool.and_assoc, Bool.and_assoc, Bool.and_comm (((cutS m s).stk.zip _).all _)]
theorem hand_cut (hfr : framesB p.length m (-1) m.frames = true) (h0 : 0 ≤ m.locals) (h8 : m.locals ≤ 8) (i : Nat) (h : Option TSt) (hh : ∀ s, h = some s → CdOk p m s) :
  (∃ h', handF p m i (h.map (cutS m)) = some (h'.map (cutS m)) ∧ (∀ s, h' = some s → CdOk p m s) ∧ stepS p m i h = (match h' with | none => some none | some s => goS p m i s)) ∨ (handF p m i (h.map (cutS m)) = none ∧ stepS p m i h = none) := by
 unfold handF stepS frameAtS
 rw [show (m.frames.find? fun f => f.pc == (i : Int)) = frmAtL m i from rfl]
 cases hf : frmAtL m i with
 | none =>
  left
  refine ⟨h, rfl, hh, ?_⟩
  cases h <;> rfl
 | some f =>
  obtain ⟨t1, t2⟩ := told_ok hfr h8 hf
  cases h with
  | none => exact .inl ⟨some (toldS f), by rw [Option.map_some, t2]; rfl, fun s e => by cases e; exact t1, rfl⟩
  | some s =>
   have hs := hh s rfl
   have hu : underB p (cutS m s) (frS f) = belowS p s (toldS f) := by rw [← t2]; exact under_cut h0 h8 hs.1 t1.1 t1.2.1
   show (∃ h', (if underB p (cutS m s) (frS f) then some (some (frS f)) else none) = _ ∧ _ ∧ (if belowS p s (toldS f) then goS p m i (toldS f) else none) = _) ∨ ((if underB p (cutS m s) (frS f) then some (some (frS f)) else none) = none ∧ (if belowS p s (toldS f) then goS p m i (toldS f) else none) = none)
   rw [hu]
   cases belowS p s (toldS f) with
   | true => exact .inl ⟨some (toldS f), by rw [Option.map_some, t2]; rfl, fun s e => by cases e; exact t1, rfl⟩
   | false => exact .inr ⟨rfl, rfl⟩
theorem jmp_cut (hfr : framesB p.length m (-1) m.frames = true) (h0 : 0 ≤ m.locals) (h8 : m.locals ≤ 8) {s : TSt} (hs : s.loc.length = 8) (a : Int) : jmpOk p m (cutS m s) a = frOk p m s a := by
 unfold jmpOk frOk frameAtS
 rw [show (m.frames.find? fun f => f.pc == a) = frmAtL m a from rfl]
 cases hf : frmAtL m a with
 | none => rfl
 | some f =>
  obtain ⟨t1, t2⟩ := told_ok hfr h8 hf
  show underB p (cutS m s) (frS f) = belowS p s (toldS f)
  rw [← t2]
  exact under_cut h0 h8 hs t1.1 t1.2.1
theorem pass_refs (G : Good p) (M : MOk p m) (h0 : 0 ≤ m.locals) (hins : ∀ i ∈ m.code, insB p m i = true) (hfr : framesB p.length m (-1) m.frames = true) (hb : CdOk p m (beginS c m)) :
  ∀ i, i ≤ m.code.length → (∀ h, passK p c m i = some h → refK p c m i = some (h.map (cutS m)) ∧ (∀ s, h = some s → CdOk p m s) ∧ (0 < i → i = m.code.length → h = none)) ∧ (passK p c m i = none → refPass p c m = false) := by
 have h8 := M.loc
 intro i
 induction i with
 | zero =>
  intro _
  refine ⟨fun h e => ?_, fun e => by cases e⟩
  cases e
  exact ⟨rfl, fun s e => by cases e; exact hb, fun h => by omega⟩
 | succ i ih =>
  intro hi
  obtain ⟨A, B⟩ := ih (by omega)
  cases hp : passK p c m i with
  | none => exact ⟨fun h e => (by unfold passK at e; rw [hp] at e; cases e), fun _ => B hp⟩
  | some h =>
   obtain ⟨r1, r2, _⟩ := A h hp
   have eP : passK p c m (i + 1) = stepS p m i h := by unfold passK; rw [hp]; rfl
   have eR : refK p c m (i + 1) = refS p m i (h.map (cutS m)) := by unfold refK; rw [r1]; rfl
   rw [eP, eR]
   have hno : refS p m i (h.map (cutS m)) = none → refPass p c m = false := fun e => refPass_no (by omega) r1 e
   rcases hand_cut hfr h0 h8 i h r2 with ⟨h', e1, e2, e3⟩ | ⟨e1, e2⟩
   ·rw [e3]
    unfold refS at hno ⊢
    rw [e1, Option.bind_some] at hno ⊢
    cases h' with
    | none => exact ⟨fun h'' e => (by cases e; exact ⟨rfl, fun s e => (by cases e), fun _ _ => rfl⟩), fun e => (by cases e)⟩
    | some s =>
     obtain ⟨s1, s2, s3, s4⟩ := e2 s rfl
     have hmem : insAt m i ∈ m.code := by
      unfold insAt
      rw [List.getElem?_eq_getElem (show i < m.code.length by omega)]
      exact List.getElem_mem _
     have hins' := hins _ hmem
     have J := ins_ok (p := p) (m := m) (op := (insAt m i).op) (a := (insAt m i).a) (b := (insAt m i).b) hins'
     have hcut : rStep p m (insAt m i) (cutS m s) = (doS p m (insAt m i) s).map (cutS m) := by
      rw [rStep_do (by exact s3) (fun t ht => ((s4.1 t (List.mem_of_mem_take ht))).1) (fun h => (J.cls (by omega)).1) (fun h => by
       have hc := J.cls (by omega)
       have hf := J.fld (by omega)
       obtain ⟨j, hj⟩ := Int.eq_ofNat_of_zero_le hf.1
       rw [hj]
       exact (G.fld _ j hc.1 hc.2 (by omega)).1) (fun h => by
       have hc := J.cls (by omega)
       obtain ⟨a1, a2⟩ := G.arg _ _ hc.1 hc.2 (J.call h)
       exact ⟨fun t ht => (a1 t ht).1, a2.1⟩) M.ret.1]
      exact cut_do (fun h => by have := J.loc h; omega)
     have hnx : nextS p m i s = (doS p m (insAt m i) s).bind fun s' => if endB m i then none else some s' := rfl
     dsimp only [Option.map_some] at hno ⊢
     rw [hcut] at hno ⊢
     cases hd : doS p m (insAt m i) s with
     | none =>
      rw [hd] at hno
      refine ⟨fun h e => ?_, fun _ => hno rfl⟩
      unfold goS at e
      rw [hnx, hd] at e
      cases e
     | some s' =>
      rw [hd] at hno
      rw [Option.map_some, Option.bind_some] at hno ⊢
      have hl' := do_len hd s1 s3
      rw [jmp_cut hfr h0 h8 hl'.1] at hno ⊢
      cases hend : endB m i with
      | true =>
       have hgo : goS p m i s = none := by unfold goS; rw [hnx, hd, Option.bind_some, hend]; rfl
       refine ⟨fun h e => (by rw [hgo] at e; cases e), fun _ => ?_⟩
       cases hj : (jumpsB (insAt m i) && !frOk p m s' (insAt m i).a) with
       | true => exact hno (by rw [hj]; rfl)
       | false =>
        have hfall : fallsB (insAt m i) = true ∧ i + 1 = m.code.length := by
         unfold endB onwardL at hend
         cases hf : fallsB (insAt m i) with
         | true =>
          refine ⟨rfl, ?_⟩
          rw [hf] at hend
          cases hjj : jumpsB (insAt m i) with
          | true =>
           rw [hjj] at hend
           have ha := J.jmp (by unfold jumpsB at hjj; simp only [Bool.or_eq_true, beq_iff_eq] at hjj; omega)
           simp at hend
           omega
          | false =>
           rw [hjj] at hend
           simp at hend
           omega
         | false =>
          rw [hf] at hend
          cases hjj : jumpsB (insAt m i) with
          | true =>
           rw [hjj] at hend
           have ha := J.jmp (by unfold jumpsB at hjj; simp only [Bool.or_eq_true, beq_iff_eq] at hjj; omega)
           simp at hend
           omega
          | false => rw [hjj] at hend; simp at hend
        have eR2 : refK p c m m.code.length = some (some (cutS m s')) := by
         rw [← hfall.2, eR]
         unfold refS
         rw [e1, Option.bind_some]
         dsimp only [Option.map_some]
         rw [hcut, hd, Option.map_some, Option.bind_some, jmp_cut hfr h0 h8 hl'.1, hj, hfall.1]
         rfl
        unfold refPass
        rw [eR2]
      | false =>
       have hns : nextS p m i s = some s' := by rw [hnx, hd, Option.bind_some, hend]; rfl
       have hgo : goS p m i s = if jumpsB (insAt m i) && !frOk p m s' (insAt m i).a then none else some (if fallsB (insAt m i) then some s' else none) := by
        unfold goS
        rw [hns, Option.bind_some]
        have hall : ((onwardL (insAt m i) i).all fun x => !x.2 || frOk p m s' x.1) = !(jumpsB (insAt m i) && !frOk p m s' (insAt m i).a) := by
         unfold onwardL
         cases jumpsB (insAt m i) <;> cases fallsB (insAt m i) <;> simp
        rw [hall]
        cases (jumpsB (insAt m i) && !frOk p m s' (insAt m i).a) <;> rfl
       rw [hgo]
       have hok : CdOk p m s' := by
        obtain ⟨q1, q2⟩ := next_len hns s1 s3
        exact ⟨q1, (hi_kept hins).nx i s s' (by omega) s2 s1 s3 hns, q2, next_tin G hins (by omega) s4 hns⟩
       cases hj : (jumpsB (insAt m i) && !frOk p m s' (insAt m i).a) with
       | true => exact ⟨fun h e => (by cases e), fun _ => hno (by rw [hj]; rfl)⟩
       | false =>
        cases hf : fallsB (insAt m i) with
        | true =>
         refine ⟨fun h e => ?_, fun e => by cases e⟩
         cases e
         refine ⟨rfl, fun s e => (by cases e; exact hok), fun _ hlast => ?_⟩
         exfalso
         unfold endB onwardL at hend
         rw [hf] at hend
         cases hjj : jumpsB (insAt m i) with
         | true => rw [hjj] at hend; simp at hend; omega
         | false => rw [hjj] at hend; simp at hend; omega
        | false => exact ⟨fun h e => (by cases e; exact ⟨rfl, fun s e => (by cases e), fun _ _ => rfl⟩), fun e => (by cases e)⟩
   ·rw [e2]
    unfold refS at hno
    rw [e1] at hno
    exact ⟨fun h e => (by cases e), fun _ => hno rfl⟩
theorem passes_same (G : Good p) (M : MOk p m) (h0 : 0 ≤ m.locals) (hins : ∀ i ∈ m.code, insB p m i = true) (hfr : framesB p.length m (-1) m.frames = true) (hb : CdOk p m (beginS c m)) (hc1 : 1 ≤ m.code.length) : refPass p c m = passB p c m := by
 obtain ⟨A, B⟩ := pass_refs (c := c) G M h0 hins hfr hb m.code.length (Nat.le_refl _)
 unfold passB
 cases hp : passK p c m m.code.length with
 | none => rw [B hp]; rfl
 | some h =>
  obtain ⟨r1, _, r3⟩ := A h hp
  obtain rfl := r3 (by omega) rfl
  unfold refPass
  rw [r1]
  rfl
end
def cReach (p : List LClass) (out : TSt) (i : Nat) (x : List (Option TSt) × Bool) : Option (List (Option TSt) × Bool) :=
 match x.1.getD i none with
 | none => some (x.1.set i (some out), true)
 | some t => if t.stk.length = out.stk.length then (if underB p (rJoin p t out) t then some x else some (x.1.set i (some (rJoin p t out)), true)) else none
def cReachL (p : List LClass) (n : Nat) (out : TSt) : List Int → List (Option TSt) × Bool → Option (List (Option TSt) × Bool)
 | [], x => some x
 | y :: l, x => if (n : Int) ≤ y then none else (cReach p out y.toNat x).bind (cReachL p n out l)
def cAt (p : List LClass) (m : LMeth) (i : Nat) (x : List (Option TSt) × Bool) : Option (List (Option TSt) × Bool) :=
 match x.1.getD i none with
 | none => some x
 | some s => (rStep p m (insAt m i) s).bind fun out => cReachL p m.code.length out (goesL (insAt m i) i) x
def cRound (p : List LClass) (m : LMeth) (R : List (Option TSt)) : Nat → Option (List (Option TSt) × Bool)
 | 0 => some (R, false)
 | k + 1 => (cRound p m R k).bind (cAt p m k)
def cSolve (p : List LClass) (m : LMeth) : Nat → List (Option TSt) → Option (Option (List (Option TSt)))
 | 0, _ => none
 | n + 1, R => match cRound p m R m.code.length with
  | none => some none
  | some (R', true) => cSolve p m n R'
  | some (R', false) => some (some R')
def cStart (c : Int) (m : LMeth) : List (Option TSt) := (List.replicate m.code.length none).set 0 (some (cutS m (beginS c m)))
theorem getD_rep {α : Type} {n i : Nat} (x d : α) (h : i < n) : (List.replicate n x).getD i d = x := by
 rw [List.getD_eq_getElem?_getD, List.getElem?_replicate, if_pos h]
 rfl
section
variable {p : List LClass} {m : LMeth} {c : Int}
structure Cuts (p : List LClass) (m : LMeth) (s : SvSt) (R : List (Option TSt)) : Prop where
 ok : SvOk p m s
 cd : AllQ (CdOk p m) s
 len : R.length = m.code.length
 at_ : ∀ i, i < m.code.length → R.getD i none = (solOf s i).map (cutS m)
theorem cd_kept (G : Good p) (hins : ∀ i ∈ m.code, insB p m i = true) : Kept p m (CdOk p m) := by
 refine ⟨fun i s n hi hq hl hk e => ?_, fun s t hq ht hl => ?_⟩
 ·obtain ⟨q1, q2⟩ := next_len e hl hk
  exact ⟨q1, (hi_kept hins).nx i s n hi hq.2.1 hl hk e, q2, next_tin G hins hi hq.2.2.2 e⟩
 ·obtain ⟨j1, j2⟩ := joinS_len p s t
  exact ⟨by rw [j2]; exact hl, (hi_kept hins).jn s t hq.2.1 ht.2.1 hl, by rw [j1]; exact hq.2.2.1, join_tin hl hq.2.2.2 ht.2.2.2⟩
theorem Cuts.put {s : SvSt} {R : List (Option TSt)} (C : Cuts p m s R) (h40 : m.code.length ≤ 40) {i : Nat} (hi : i < m.code.length) {x : TSt} (hx : CdOk p m x) : Cuts p m (putP s i x) (R.set i (some (cutS m x))) := by
 refine ⟨⟨by simp [putP, C.ok.l1], by simp [putP, C.ok.l2], by simp [putP, C.ok.l3], fun j hj => ?_⟩, put_q C.ok C.cd hx, by simp [C.len], fun j hj => ?_⟩
 ·by_cases e : j = i
  ·subst e
   show ((s.st.set j x).getD j zeroS).loc.length = 8 ∧ _
   unfold putP
   dsimp only
   rw [getD_set_self (by rw [C.ok.l1]; exact hj)]
   exact ⟨hx.1, hx.2.2.1⟩
  ·unfold putP
   dsimp only
   rw [getD_set_ne e]
   exact C.ok.ok j hj
 ·by_cases e : j = i
  ·subst e
   unfold solOf putP
   dsimp only
   rw [getD_set_self (by rw [C.len]; exact hj), getD_set_self (by rw [C.ok.l2]; omega), getD_set_self (by rw [C.ok.l1]; omega)]
   rfl
  ·unfold solOf putP
   dsimp only
   rw [getD_set_ne e, getD_set_ne e, getD_set_ne e]
   exact C.at_ j hj
theorem cuts_reach (hs : SupOk p p.length) (h40 : m.code.length ≤ 40) (K : Kept p m (CdOk p m)) (h0 : 0 ≤ m.locals) (h8 : m.locals ≤ 8) {s : SvSt} {R : List (Option TSt)} (C : Cuts p m s R) {i : Nat} (hi : i < m.code.length) {g : TSt} (hg : CdOk p m g) (b : Bool) :
  (∀ s', reachP p i g s = some s' → ∃ R', cReach p (cutS m g) i (R, b) = some (R', b || chgB p i g s) ∧ Cuts p m s' R') ∧ (reachP p i g s = none → cReach p (cutS m g) i (R, b) = none) := by
 have hR := C.at_ i hi
 unfold cReach reachP chgB
 dsimp only
 rw [hR]
 unfold solOf
 cases hre : s.re.getD i false with
 | false => exact ⟨fun s' e => (by cases e; exact ⟨_, by simp, C.put h40 hi hg⟩), fun e => by cases e⟩
 | true =>
  have ht := C.cd i (by omega) hre
  generalize s.st.getD i zeroS = t at *
  have hkt : (cutS m t).stk = t.stk := rfl
  have hkg : (cutS m g).stk = g.stk := rfl
  simp only [if_true, Option.map_some, hkt, hkg]
  by_cases hn : t.stk.length = g.stk.length
  ·simp only [if_pos hn]
   have hj := K.jn t g ht hg ht.1
   have hu : underB p (rJoin p (cutS m t) (cutS m g)) (cutS m t) = belowS p g t := by
    rw [cut_join ht.1 hg.1 hn h8, under_cut h0 h8 hj.1 ht.1 ht.2.1, join_self_below hs ht.1 hg.1 hn ht.2.2.2]
   rw [hu]
   cases hb : belowS p g t with
   | true => exact ⟨fun s' e => (by cases e; exact ⟨R, by simp, C⟩), fun e => by cases e⟩
   | false =>
    simp only [Bool.false_eq_true, if_false]
    rw [cut_join ht.1 hg.1 hn h8]
    exact ⟨fun s' e => (by cases e; exact ⟨_, by simp, C.put h40 hi hj⟩), fun e => by cases e⟩
  ·rw [if_neg hn]
   have hb : belowS p g t = false := by
    cases hb : belowS p g t with
    | false => rfl
    | true =>
     exfalso
     unfold belowS at hb
     simp only [Bool.and_eq_true, beq_iff_eq] at hb
     omega
   rw [hb, if_neg (by simp), if_neg hn]
   exact ⟨fun s' e => (by cases e), fun _ => rfl⟩
theorem cuts_reachL (hs : SupOk p p.length) (h40 : m.code.length ≤ 40) (K : Kept p m (CdOk p m)) (h0 : 0 ≤ m.locals) (h8 : m.locals ≤ 8) {g : TSt} (hg : CdOk p m g) : ∀ (l : List (Int × Bool)) (x : SvSt × Bool) (R : List (Option TSt)), Cuts p m x.1 R → (∀ y ∈ l, 0 ≤ y.1 ∧ y.1 < (m.code.length : Int)) →
  (∀ x', rReach p g l x = some x' → ∃ R', cReachL p m.code.length (cutS m g) (l.map (·.1)) (R, x.2) = some (R', x'.2) ∧ Cuts p m x'.1 R') ∧ (rReach p g l x = none → cReachL p m.code.length (cutS m g) (l.map (·.1)) (R, x.2) = none)
 | [], x, R, C, _ => ⟨fun x' e => (by cases e; exact ⟨R, rfl, C⟩), fun e => by cases e⟩
 | y :: l, x, R, C, hl => by
  obtain ⟨y0, y1⟩ := hl y (by simp)
  obtain ⟨A, B⟩ := cuts_reach hs h40 K h0 h8 C (i := y.1.toNat) (by omega) hg x.2
  unfold rReach
  rw [List.map_cons]
  unfold cReachL
  rw [if_neg (by omega)]
  cases hr : reachP p y.1.toNat g x.1 with
  | none => rw [B hr]; exact ⟨fun x' e => (by cases e), fun _ => rfl⟩
  | some s' =>
   obtain ⟨R', e1, C'⟩ := A s' hr
   rw [e1, Option.bind_some, Option.bind_some]
   exact cuts_reachL hs h40 K h0 h8 hg l (s', x.2 || chgB p y.1.toNat g x.1) R' C' (fun z hz => hl z (by simp [hz]))
theorem cuts_at (G : Good p) (M : MOk p m) (h40 : m.code.length ≤ 40) (h0 : 0 ≤ m.locals) (hins : ∀ i ∈ m.code, insB p m i = true) {x : SvSt × Bool} {R : List (Option TSt)} (C : Cuts p m x.1 R) {i : Nat} (hi : i < m.code.length) :
  (∀ x', rAt p m i x = some x' → ∃ R', cAt p m i (R, x.2) = some (R', x'.2) ∧ Cuts p m x'.1 R') ∧ (rAt p m i x = none → cAt p m i (R, x.2) = none) := by
 have hR := C.at_ i hi
 have K := cd_kept G hins
 unfold cAt rAt
 dsimp only
 rw [hR]
 unfold solOf
 cases hre : x.1.re.getD i false with
 | false => exact ⟨fun x' e => (by cases e; exact ⟨R, rfl, C⟩), fun e => by cases e⟩
 | true =>
  obtain ⟨s1, s2, s3, s4⟩ := C.cd i (by omega) hre
  generalize hst : x.1.st.getD i zeroS = s at *
  simp only [if_true, Option.map_some]
  have hmem : insAt m i ∈ m.code := by
   unfold insAt
   rw [List.getElem?_eq_getElem hi]
   exact List.getElem_mem _
  have J := ins_ok (p := p) (m := m) (op := (insAt m i).op) (a := (insAt m i).a) (b := (insAt m i).b) (hins _ hmem)
  have hcut : rStep p m (insAt m i) (cutS m s) = (doS p m (insAt m i) s).map (cutS m) := by
   rw [rStep_do (by exact s3) (fun t ht => ((s4.1 t (List.mem_of_mem_take ht))).1) (fun h => (J.cls (by omega)).1) (fun h => by
    have hc := J.cls (by omega)
    have hf := J.fld (by omega)
    obtain ⟨j, hj⟩ := Int.eq_ofNat_of_zero_le hf.1
    rw [hj]
    exact (G.fld _ j hc.1 hc.2 (by omega)).1) (fun h => by
    have hc := J.cls (by omega)
    obtain ⟨a1, a2⟩ := G.arg _ _ hc.1 hc.2 (J.call h)
    exact ⟨fun t ht => (a1 t ht).1, a2.1⟩) M.ret.1]
   exact cut_do (fun h => by have := J.loc h; omega)
  rw [hcut]
  have hnx : nextS p m i s = (doS p m (insAt m i) s).bind fun s' => if endB m i then none else some s' := rfl
  rw [hnx]
  cases hd : doS p m (insAt m i) s with
  | none => exact ⟨fun x' e => (by cases e), fun _ => rfl⟩
  | some s' =>
   rw [Option.map_some, Option.bind_some, Option.bind_some]
   cases hend : endB m i with
   | true =>
    refine ⟨fun x' e => (by cases e), fun _ => ?_⟩
    have hfall : fallsB (insAt m i) = true ∧ i + 1 = m.code.length := by
     unfold endB onwardL at hend
     cases hf : fallsB (insAt m i) with
     | true =>
      refine ⟨rfl, ?_⟩
      rw [hf] at hend
      cases hjj : jumpsB (insAt m i) with
      | true =>
       rw [hjj] at hend
       have ha := J.jmp (by unfold jumpsB at hjj; simp only [Bool.or_eq_true, beq_iff_eq] at hjj; omega)
       simp at hend
       omega
      | false =>
       rw [hjj] at hend
       simp at hend
       omega
     | false =>
      rw [hf] at hend
      cases hjj : jumpsB (insAt m i) with
      | true =>
       rw [hjj] at hend
       have ha := J.jmp (by unfold jumpsB at hjj; simp only [Bool.or_eq_true, beq_iff_eq] at hjj; omega)
       simp at hend
       omega
      | false => rw [hjj] at hend; simp at hend
    unfold goesL
    rw [hfall.1, if_pos rfl, List.singleton_append]
    unfold cReachL
    rw [if_pos (by omega)]
   | false =>
    have hns : nextS p m i s = some s' := by rw [hnx, hd, Option.bind_some, hend]; rfl
    have hok := K.nx i s s' hi ⟨s1, s2, s3, s4⟩ s1 s3 hns
    have hin := onward_in hi hins hns
    rw [goesL_is]
    exact cuts_reachL G.sup h40 K h0 M.loc hok _ x R C (fun y hy => hin y (List.mem_reverse.1 hy))
theorem cuts_round (G : Good p) (M : MOk p m) (h40 : m.code.length ≤ 40) (h0 : 0 ≤ m.locals) (hins : ∀ i ∈ m.code, insB p m i = true) {s : SvSt} {R : List (Option TSt)} (C : Cuts p m s R) : ∀ (k : Nat), k ≤ m.code.length →
  (∀ x', rRound p m s k = some x' → ∃ R', cRound p m R k = some (R', x'.2) ∧ Cuts p m x'.1 R') ∧ (rRound p m s k = none → cRound p m R k = none)
 | 0, _ => ⟨fun x' e => (by cases e; exact ⟨R, rfl, C⟩), fun e => by cases e⟩
 | k + 1, hk => by
  obtain ⟨A, B⟩ := cuts_round G M h40 h0 hins C k (by omega)
  unfold rRound cRound
  cases hr : rRound p m s k with
  | none => rw [B hr]; exact ⟨fun x' e => (by cases e), fun _ => rfl⟩
  | some x =>
   obtain ⟨R', e1, C'⟩ := A x hr
   rw [e1, Option.bind_some, Option.bind_some]
   exact cuts_at G M h40 h0 hins C' (by omega)
theorem cuts_solve (G : Good p) (M : MOk p m) (h40 : m.code.length ≤ 40) (h0 : 0 ≤ m.locals) (hins : ∀ i ∈ m.code, insB p m i = true) : ∀ (n : Nat) (s : SvSt) (R : List (Option TSt)), Cuts p m s R → ∀ r, rSolve p m n s = some r → ∃ r', cSolve p m n R = some r' ∧ (r = none → r' = none) ∧ ∀ s', r = some s' → ∃ R', r' = some R' ∧ Cuts p m s' R'
 | 0, s, R, C, r, e => by cases e
 | n + 1, s, R, C, r, e => by
  obtain ⟨A, B⟩ := cuts_round G M h40 h0 hins C m.code.length (Nat.le_refl _)
  unfold rSolve at e
  unfold cSolve
  cases hr : rRound p m s m.code.length with
  | none =>
   rw [hr] at e
   cases e
   rw [B hr]
   exact ⟨none, rfl, fun _ => rfl, fun s' e => (by cases e)⟩
  | some x =>
   obtain ⟨R', e1, C'⟩ := A x hr
   obtain ⟨s1, b⟩ := x
   rw [hr] at e
   rw [e1]
   cases b with
   | true => exact cuts_solve G M h40 h0 hins n s1 R' C' r e
   | false =>
    cases e
    exact ⟨_, rfl, fun e => (by cases e), fun s' e => (by cases e; exact ⟨R', rfl, C'⟩)⟩
theorem cuts_start (h40 : m.code.length ≤ 40) (h1 : 1 ≤ m.code.length) (hk0 : 0 ≤ m.stack) (hb : CdOk p m (beginS c m)) : Cuts p m (putP sv0 0 (beginS c m)) (cStart c m) := by
 have C0 : Cuts p m sv0 (List.replicate m.code.length none) := by
  refine ⟨⟨by simp [sv0], by simp [sv0], by simp [sv0], fun i hi => ?_⟩, fun i hi hr => ?_, by simp, fun i hi => ?_⟩
  ·have : sv0.st.getD i zeroS = zeroS := getD_rep _ _ hi
   rw [this]
   exact ⟨rfl, by show ((0 : Nat) : Int) ≤ m.stack; omega⟩
  ·exfalso
   have : sv0.re.getD i false = false := getD_rep _ _ hi
   rw [this] at hr
   cases hr
  ·have : sv0.re.getD i false = false := getD_rep _ _ (by omega)
   unfold solOf
   rw [this]
   rw [getD_rep _ _ hi]
   rfl
 exact C0.put h40 (by omega) hb
end
def plcK (m : LMeth) (R : List (Option TSt)) (at_ : Nat) : Nat → Bool
 | 0 => false
 | k + 1 => plcK m R at_ k || ((R.getD k none).isSome && jumpsB (insAt m k) && ((insAt m k).a == (at_ : Int)))
def frR (m : LMeth) (R : List (Option TSt)) (pl : Bool) : Nat → List LFrame
 | 0 => []
 | k + 1 => frR m R pl k ++ (if (!pl || plcK m R k m.code.length) && (R.getD k none).isSome then [⟨(k : Int), ((R.getD k none).getD ⟨[], []⟩).loc, ((R.getD k none).getD ⟨[], []⟩).stk⟩] else [])
section
variable {p : List LClass} {m : LMeth} {c : Int}
theorem Cuts.isSome {s : SvSt} {R : List (Option TSt)} (C : Cuts p m s R) {i : Nat} (hi : i < m.code.length) : (R.getD i none).isSome = s.re.getD i false := by
 rw [C.at_ i hi]
 unfold solOf
 cases s.re.getD i false <;> rfl
theorem plcK_is {s : SvSt} {R : List (Option TSt)} (C : Cuts p m s R) (hins : ∀ i ∈ m.code, insB p m i = true) (at_ : Nat) : plcK m R at_ m.code.length = placB m s at_ := by
 have key : ∀ n, n ≤ m.code.length → plcK m R at_ n = (List.range n).any fun i => s.re.getD i false && jumpsB (insAt m i) && ((insAt m i).a.toNat == at_) := by
  intro n
  induction n with
  | zero => intro _; rfl
  | succ n ih =>
   intro hn
   unfold plcK
   rw [ih (by omega), List.range_succ, List.any_append, List.any_cons, List.any_nil, Bool.or_false, C.isSome (by omega)]
   congr 1
   cases hj : jumpsB (insAt m n) with
   | false => simp
   | true =>
    have hmem : insAt m n ∈ m.code := by
     unfold insAt
     rw [List.getElem?_eq_getElem (show n < m.code.length by omega)]
     exact List.getElem_mem _
    have J := ins_ok (p := p) (m := m) (op := (insAt m n).op) (a := (insAt m n).a) (b := (insAt m n).b) (hins _ hmem)
    have ha := J.jmp (by unfold jumpsB at hj; simp only [Bool.or_eq_true, beq_iff_eq] at hj; omega)
    congr 1
    rw [Bool.eq_iff_iff, beq_iff_eq, beq_iff_eq]
    omega
 exact key _ (Nat.le_refl _)
theorem frR_all {s : SvSt} {R : List (Option TSt)} (C : Cuts p m s R) : ∀ n, n ≤ m.code.length → frR m R false n = frmL m s n := by
 intro n
 induction n with
 | zero => intro _; rfl
 | succ n ih =>
  intro hn
  unfold frR frmL
  rw [ih (by omega), C.isSome (by omega), C.at_ n (by omega)]
  unfold solOf
  cases s.re.getD n false <;> rfl
theorem frR_plc {s : SvSt} {R : List (Option TSt)} (C : Cuts p m s R) (hins : ∀ i ∈ m.code, insB p m i = true) : frR m R true m.code.length = certL m s := by
 have key : ∀ n, n ≤ m.code.length → frR m R true n = (frmL m s n).filter fun f => placB m s f.pc.toNat := by
  intro n
  induction n with
  | zero => intro _; rfl
  | succ n ih =>
   intro hn
   unfold frR frmL
   rw [ih (by omega), List.filter_append, plcK_is C hins, C.isSome (by omega), C.at_ n (by omega)]
   unfold solOf
   cases s.re.getD n false with
   | false => simp
   | true =>
    cases hp : placB m s n with
    | false => simp [hp]
    | true => simp [hp, cutS]
 exact key _ (Nat.le_refl _)
theorem frmL_alike {s s' : SvSt} (h : ∀ i, i < 40 → s.re.getD i false = s'.re.getD i false ∧ (s.re.getD i false = true → s.st.getD i zeroS = s'.st.getD i zeroS)) : ∀ n, n ≤ 40 → frmL m s n = frmL m s' n := by
 intro n
 induction n with
 | zero => intro _; rfl
 | succ n ih =>
  intro hn
  unfold frmL
  obtain ⟨h1, h2⟩ := h n (by omega)
  rw [ih (by omega)]
  congr 1
  rw [← h1]
  cases hr : s.re.getD n false with
  | false => rfl
  | true => rw [h2 hr]
theorem certL_alike {s s' : SvSt} (h40 : m.code.length ≤ 40) (h : ∀ i, i < 40 → s.re.getD i false = s'.re.getD i false ∧ (s.re.getD i false = true → s.st.getD i zeroS = s'.st.getD i zeroS)) : certL m s = certL m s' := by
 unfold certL
 rw [frmL_alike h _ h40]
 congr 1
 funext f
 unfold placB
 rw [Bool.eq_iff_iff, List.any_eq_true, List.any_eq_true]
 constructor
 ·rintro ⟨i, hi, e⟩
  exact ⟨i, hi, by rw [← (h i (by rw [List.mem_range] at hi; omega)).1]; exact e⟩
 ·rintro ⟨i, hi, e⟩
  exact ⟨i, hi, by rw [(h i (by rw [List.mem_range] at hi; omega)).1]; exact e⟩
theorem solved_ends (hF : formI p = 0) (hz : szProg p ≤ 4194304) {k : Int} (hown : ownM p c k = some m) (hb : CdOk p m (beginS c m)) (h1 : 1 ≤ m.code.length) (h0 : 0 ≤ m.locals) {N : Nat} {r : Option SvSt} (e : solveN p m N (putP sv0 0 (beginS c m)) = some r) :
  ∃ n r', cSolve p m n (cStart c m) = some r' ∧ (r = none → r' = none) ∧ ∀ s, r = some s → ∃ R, r' = some R ∧ R.length = m.code.length ∧ frR m R true m.code.length = certL m s ∧ frR m R false m.code.length = frmL m s m.code.length := by
 have hs := form_sup hF
 obtain ⟨_, _, O⟩ := form_own hF hown
 have h6 := (form_all hF).1.2
 have G := form_good hF hz
 have hk0 : 0 ≤ m.stack := by have := O.bg.2.2; have h : ((beginS c m).stk.length : Int) = 0 := rfl; omega
 have I := start_inv (p := p) (c := c) O.a7 hk0
 obtain ⟨r1, e1⟩ := rSolve_ends hs h6 O.ok.stk O.c40 O.ins (mu p (putP sv0 0 (beginS c m)) + 1) _ I.ok (by omega)
 obtain ⟨a1, a2⟩ := solvers_same hF hz hown e e1
 obtain ⟨r2, e2, b1, b2⟩ := cuts_solve G O.ok O.c40 h0 O.ins _ _ _ (cuts_start O.c40 h1 hk0 hb) r1 e1
 refine ⟨_, r2, e2, fun h => b1 (a1.1 h), fun s hsr => ?_⟩
 cases hr1 : r1 with
 | none =>
  have := a1.2 hr1
  rw [hsr] at this
  cases this
 | some s1 =>
  obtain ⟨R, h3, C⟩ := b2 s1 hr1
  have al := a2 s s1 hsr hr1
  exact ⟨R, h3, C.len, by rw [frR_plc C O.ins]; exact (certL_alike O.c40 al).symm, by rw [frR_all C _ (Nat.le_refl _)]; exact (frmL_alike al _ O.c40).symm⟩
end
section
variable {p : List LClass} {m : LMeth}
theorem cReachL_append (n : Nat) (out : TSt) : ∀ (l l' : List Int) (x : List (Option TSt) × Bool), cReachL p n out (l ++ l') x = (cReachL p n out l x).bind (cReachL p n out l')
 | [], l', x => rfl
 | y :: l, l', x => by
  rw [List.cons_append]
  unfold cReachL
  by_cases h : (n : Int) ≤ y
  ·rw [if_pos h, if_pos h]; rfl
  ·rw [if_neg h, if_neg h]
   cases cReach p out y.toNat x with
   | none => rfl
   | some x' => exact cReachL_append n out l l' x'
theorem cReachL_snoc (n : Nat) (out : TSt) (l : List Int) (y : Int) (x : List (Option TSt) × Bool) : cReachL p n out (l ++ [y]) x = (cReachL p n out l x).bind fun x => if (n : Int) ≤ y then none else cReach p out y.toNat x := by
 rw [cReachL_append]
 congr 1
 funext x'
 unfold cReachL
 by_cases h : (n : Int) ≤ y
 ·rw [if_pos h, if_pos h]
 ·rw [if_neg h, if_neg h]
  cases cReach p out y.toNat x' with
  | none => rfl
  | some x' => rfl
theorem cReachL_none {n : Nat} {out : TSt} {l : List Int} {j : Nat} {x : List (Option TSt) × Bool} (h : cReachL p n out (l.take j) x = none) : cReachL p n out l x = none := by
 have e := cReachL_append (p := p) n out (l.take j) (l.drop j) x
 rw [List.take_append_drop] at e
 rw [e, h]
 rfl
theorem cRound_none {R : List (Option TSt)} {k : Nat} (h : cRound p m R k = none) : ∀ n, k ≤ n → cRound p m R n = none := by
 intro n hn
 induction n with
 | zero =>
  obtain rfl : k = 0 := by omega
  exact h
 | succ n ih =>
  rcases Nat.lt_or_ge n k with h1 | h1
  ·obtain rfl : k = n + 1 := by omega
   exact h
  ·unfold cRound
   rw [ih h1]; rfl
def cJn (p : List LClass) (r : Option TSt) (out : TSt) : Option TSt := match r with
 | none => some out
 | some t => if t.stk.length = out.stk.length then some (rJoin p t out) else none
def cSm (p : List LClass) (r : Option TSt) (x : TSt) : Bool := match r with
 | none => false
 | some t => underB p x t
theorem cReach_is (out : TSt) (i : Nat) (x : List (Option TSt) × Bool) : cReach p out i x = (cJn p (x.1.getD i none) out).bind fun g => if cSm p (x.1.getD i none) g then some x else some (x.1.set i (some g), true) := by
 unfold cReach cJn cSm
 cases x.1.getD i none with
 | none => rfl
 | some t =>
  dsimp only
  by_cases h : t.stk.length = out.stk.length
  ·rw [if_pos h, if_pos h]; rfl
  ·rw [if_neg h, if_neg h]; rfl
theorem cSolve_no {R : List (Option TSt)} {r : Option (List (Option TSt))} {g k : Nat} (h : cSolve p m g R = some r) (hk : k ≤ m.code.length) (e : cRound p m R k = none) : r = none := by
 cases g with
 | zero => cases h
 | succ g =>
  unfold cSolve at h
  rw [cRound_none e _ hk] at h
  cases h
  rfl
theorem rJoin_ok {s t : TSt} (hs : StOk p m s) (ht : StOk p m t) (hk : s.stk.length = t.stk.length) : StOk p m (rJoin p s t) := by
 obtain ⟨a1, a2, a3⟩ := hs
 obtain ⟨b1, b2, b3⟩ := ht
 refine ⟨⟨fun x hx => ?_, fun x hx => ?_⟩, ?_, ?_⟩
 ·unfold rJoin at hx
  obtain ⟨y, hy, rfl⟩ := List.mem_map.1 hx
  exact joinB_in (b1.1 _ (List.of_mem_zip (a := y.1) (b := y.2) hy).2)
 ·unfold rJoin at hx
  obtain ⟨y, hy, rfl⟩ := List.mem_map.1 hx
  exact joinB_in (b1.2 _ (List.of_mem_zip (a := y.1) (b := y.2) hy).2)
 ·unfold rJoin
  simp
  omega
 ·unfold rJoin
  simp
  omega
theorem cJn_ok {r : Option TSt} {out g : TSt} (hr : ∀ s, r = some s → StOk p m s) (ho : StOk p m out) (e : cJn p r out = some g) : StOk p m g := by
 unfold cJn at e
 cases r with
 | none => cases e; exact ho
 | some t =>
  dsimp only at e
  split at e
  ·rename_i h
   cases e
   exact rJoin_ok (hr t rfl) ho h
  ·cases e
end
end Go.Proofs.YtiiokkllmchohaaGreat
