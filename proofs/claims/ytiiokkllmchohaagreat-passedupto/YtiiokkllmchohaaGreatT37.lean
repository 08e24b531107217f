/- The document's pass, walked. -/
import Derived.Deep.LoopGhost
import Derived.Deep.DeepCutAuto
import Derived.Test.YtiiokkllmchohaaGreatT01
import Derived.Test.YtiiokkllmchohaaGreatT35
import Derived.Test.YtiiokkllmchohaaGreatT36
namespace Go.Proofs.YtiiokkllmchohaaGreat
open Go.RowKit Go.Shelf
attribute [local go_sem ↓] Go.wp_at_zero Go.wp_at_succ
attribute [local go_sem] frz_drew
theorem handF_some {p : List LClass} {m : LMeth} {k : Nat} {h : Option TSt} {f : LFrame} (hf : frmAtL m (k : Int) = some f) : handF p m k h = if h.isSome && !underB p (hdS h) (frS f) then none else some (some (frS f)) := by
 unfold handF
 rw [hf]
 cases h with
 | none => rfl
 | some s =>
  show (if underB p s (frS f) then some (some (frS f)) else none) = _
  cases hu : underB p s (frS f) <;> simp [hdS, hu]
def frO (m : LMeth) (i : Int) : TSt := hdS ((frmAtL m i).map frS)
theorem FrmR.form {m : LMeth} {i : Int} {w0 w w' : World} {e : Ending} (h : FrmR m i w0 w w' e) : ∃ q a n c a' n' c', e = .returned (.agg #[.bool q, .slice a n c, .slice a' n' c']) ∧ q = (frmAtL m i).isSome ∧ StG w0.cell? (frO m i) (.slice a n c) (.slice a' n' c') ∧ Below w.heap.size w w' := by
 obtain ⟨h1, h2, h3⟩ := h
 unfold frO
 cases hf : frmAtL m i with
 | none => exact ⟨false, _, _, _, _, _, _, h2 hf, rfl, ⟨nil_ints, nil_ints⟩, h3⟩
 | some f =>
  obtain ⟨vl, vs, rfl, hS⟩ := h1 f hf
  obtain ⟨a, _, _, c, rfl, _⟩ := hS.1
  obtain ⟨a', _, _, c', rfl, _⟩ := hS.2
  exact ⟨true, _, _, _, _, _, _, rfl, rfl, hS, h3⟩
theorem frO_ok {p : List LClass} {m : LMeth} (hfr : framesB p.length m (-1) m.frames = true) (i : Int) : TIn p (frO m i) := by
 unfold frO
 cases hf : frmAtL m i with
 | none => exact ⟨fun x hx => (by cases hx), fun x hx => (by cases hx)⟩
 | some f => exact (frame_ok hfr hf).1
theorem jmpOk_is (p : List LClass) (m : LMeth) (out : TSt) (a : Int) : jmpOk p m out a = ((frmAtL m a).isSome && underB p out (frO m a)) := by
 unfold jmpOk frO
 cases frmAtL m a <;> rfl
theorem StepR.form {p : List LClass} {m : LMeth} {x : LIns} {s : TSt} {w w' : World} {e : Ending} (h : StepR p m x s w w' e) : ∃ q a n c a' n' c' ok, e = .returned (.tuple #[.agg #[.bool q, .slice a n c, .slice a' n' c'], .bool ok]) ∧ (∀ s', rStep p m x s = some s' → q = true ∧ ok = true ∧ NewSt w.heap.size w' s' (.slice a n c) (.slice a' n' c')) ∧ (rStep p m x s = none → ok = false) ∧ Below w.heap.size w w' := by
 obtain ⟨h1, h2, h3⟩ := h
 cases hr : rStep p m x s with
 | none =>
  obtain ⟨q, a, n, c, a', n', c', rfl⟩ := h2 hr
  exact ⟨q, a, n, c, a', n', c', false, rfl, fun s' e => (by cases e), fun _ => rfl, h3⟩
 | some s' =>
  obtain ⟨vl, vs, rfl, hS⟩ := h1 s' hr
  obtain ⟨a, _, _, c, rfl, _⟩ := hS.1
  obtain ⟨a', _, _, c', rfl, _⟩ := hS.2
  exact ⟨true, _, _, _, _, _, _, true, rfl, fun s e => (by cases e; exact ⟨rfl, rfl, hS⟩), fun e => (by cases e), h3⟩
def goK (p : List LClass) (m : LMeth) (x : LIns) (out : TSt) : Nat → Option (Option TSt)
 | 0 => some none
 | j + 1 => (goK p m x out j).bind fun h => if fallsB x && (j == 0) then some (some out) else if jmpOk p m out x.a then some h else none
theorem goK_all (p : List LClass) (m : LMeth) (x : LIns) (out : TSt) (i : Nat) : goK p m x out (goesL x i).length = if jumpsB x && !jmpOk p m out x.a then none else some (if fallsB x then some out else none) := by
 unfold goesL
 cases hf : fallsB x <;> cases hj : jumpsB x <;> cases hk : jmpOk p m out x.a <;> simp [goK, hf, hk]
theorem goK_none {p : List LClass} {m : LMeth} {x : LIns} {out : TSt} {j : Nat} (h : goK p m x out j = none) : ∀ n, j ≤ n → goK p m x out n = none := by
 intro n hn
 induction n with
 | zero =>
  obtain rfl : j = 0 := by omega
  exact h
 | succ n ih =>
  rcases Nat.lt_or_ge n j with h1 | h1
  ·obtain rfl : j = n + 1 := by omega
   exact h
  ·unfold goK
   rw [ih h1]; rfl
theorem goesL_at {x : LIns} {i j : Nat} {y : Int} (h : (goesL x i)[j]? = some y) : (y = (i : Int) + 1 ∧ j = 0 ∧ x.op ≠ 7 ↔ (fallsB x && (j == 0)) = true) ∧ ((fallsB x && (j == 0)) = false → y = x.a) := by
 unfold goesL at h
 have h7 : fallsB x = true → x.op ≠ 7 := fun h e => by unfold fallsB at h; rw [e] at h; cases h
 have h8 : fallsB x = false → jumpsB x = true → x.op = 7 := fun h e => by
  unfold fallsB at h; unfold jumpsB at e
  simp at h e
  omega
 cases hf : fallsB x <;> cases hj : jumpsB x <;> simp only [hf, hj, if_true, if_false, Bool.false_eq_true, List.append_nil, List.nil_append, List.singleton_append] at h ⊢
 ·cases h
 ·match j, h with
  | 0, h => cases h; simp [h8 hf hj]
 ·match j, h with
  | 0, h => cases h; simp [h7 hf]
 ·match j, h with
  | 0, h => cases h; simp [h7 hf]
  | 1, h => cases h; simp
theorem ref_go {p : List LClass} {m : LMeth} {k : Nat} {h : Option TSt} {s out : TSt} (hh : handF p m k h = some (some s)) (hr : rStep p m (insAt m k) s = some out) : refS p m k h = goK p m (insAt m k) out (goesL (insAt m k) k).length := by
 unfold refS
 rw [hh, Option.bind_some]
 dsimp only
 rw [hr, Option.bind_some, goK_all]
structure OutB (V : World) (p : List LClass) (m : LMeth) (bh bo : Nat) (out : TSt) (vl vs : Value) : Prop where
 blk : Blk V bo 149 [.bool true, vl, vs]
 st : StG (sel (fun k => k ≠ bh) V) out vl vs
 ok : StOk p m out
 ne : bh < bo
theorem OutB.below {V V' : World} {p : List LClass} {m : LMeth} {bh bo : Nat} {out : TSt} {vl vs : Value} (i : OutB V p m bh bo out vl vs) (b : Below V.heap.size V V') : OutB V' p m bh bo out vl vs :=
 ⟨i.blk.below b i.blk.lt, StG.keep (sel_mods (Mods.of_below b) fun k hk hS => ⟨fun e => by omega, hS⟩) i.st, i.ok, i.ne⟩
theorem OutB.mods {V V' : World} {p : List LClass} {m : LMeth} {bh bo : Nat} {out : TSt} {vl vs : Value} (i : OutB V p m bh bo out vl vs) (hM : Mods (fun k => k = bh) V V') : OutB V' p m bh bo out vl vs :=
 ⟨i.blk.mods hM (by have := i.ne; omega), StG.keep (sel_mods hM fun k _ hk => ⟨hk, hk⟩) i.st, i.ok, i.ne⟩
theorem ints_openG {g : Addr → Option Value} {v : Value} {l : List Int} (h : SlAt 1 (GInt g) v l) : ∃ a b o c, v = .slice a l.length c ∧ l.length ≤ c ∧ (l ≠ [] → a = some ⟨b, o, none⟩) ∧ ∀ (j : Nat) (hj : j < l.length), g ⟨b, o + j, none⟩ = some (.int .i64 l[j]) := by
 obtain ⟨a, b, o, c, e, h1, h2, h3⟩ := sl_open h
 refine ⟨a, b, o, c, e, h1, h2, fun j hj => ?_⟩
 have h9 : g ⟨b, o + j * 1, none⟩ = some (.int .i64 l[j]) := h3 j hj
 rw [Nat.mul_one] at h9
 exact h9
theorem one3 {q : Bool} {a a' : Option Addr} {n c n' c' : Nat} : ∀ u ∈ [Value.bool q, .slice a n c, .slice a' n' c'], u.oneCell' = true := fun u hu => by
 simp only [List.mem_cons, List.not_mem_nil, or_false] at hu
 rcases hu with rfl | rfl | rfl <;> rfl
set_option maxHeartbeats 2000000 in
set_option maxRecDepth 100000 in
theorem rs_pass (p : List LClass) (vc : Value) (c : Int) (m : LMeth) (va vco vf : Value) (w : World) (hp : RProg w vc p) (hv : GVals w.cell? m va vco vf) (hF : formI p = 0) (hz : szProg p ≤ 4194304) (M : MOk p m) (hins : ∀ i ∈ m.code, insB p m i = true) (hfr : framesB p.length m (-1) m.frames = true) (hf40 : m.frames.length ≤ 40) (h40 : m.code.length ≤ 40) (hc0 : 0 ≤ c) (hc1 : c < (p.length : Int)) (h1 : 1 + (m.args.length : Int) ≤ m.locals) (hb : CdOk p m (beginS c m)) :
  Calls Tryz.prog 105 #[.agg #[vc], .int .i64 c, methV m va vco vf] w fun e w' => e = .returned (.bool (refPass p c m)) ∧ Below w.heap.size w w' := by
 have HP := hide hp
 have HV := hide hv
 have G := form_good hF hz
 have hpl : p.length ≤ 4194304 := Nat.le_trans (szProg_len p) hz
 have HBG := hide (fun w hv => rs_begin c m va vco vf w hv hc0 (by omega) h1 M.loc)
 have HFM := hide (fun (i : Int) V hbV => rs_frame m va vco vf i w V hv hbV (by omega))
 have HST := hide (fun (x : LIns) s ib vl vs w hp hv hi hS tS hl hk => rs_step p vc m va vco vf x s ib vl vs w hp hv hF hz M hi hS tS hl hk)
 have HGO := hide (fun (i : Nat) w hv hi => rs_goes m va vco vf i w hv hi h40)
 unfold methV at HBG HFM HST HGO ⊢
 obtain ⟨pa, _, _, pcap, rfl, _⟩ := hp
 obtain ⟨aa, _, _, acap, rfl, _⟩ := hv.1
 obtain ⟨ca, cb, off, ccap, rfl, _, hca, hcr⟩ := sl_open hv.2.1
 obtain ⟨fa, _, _, fcap, rfl, _⟩ := hv.2.2
 have HCR := hide hcr
 clear hcr hv
 have hbel : Below w.heap.size w ((w.alloc (.cells #[.slice pa p.length pcap] 24)).alloc (.cells #[.int .i64 m.slot, .slice aa m.args.length acap, .int .i64 m.ret, .int .i64 m.locals, .int .i64 m.stack, .slice ca m.code.length ccap, .slice fa m.frames.length fcap] 63)) := box2_below _ _ _
 have B0 := (Blk.new w #[.slice pa p.length pcap] 24).alloc (.cells #[.int .i64 m.slot, .slice aa m.args.length acap, .int .i64 m.ret, .int .i64 m.locals, .int .i64 m.stack, .slice ca m.code.length ccap, .slice fa m.frames.length fcap] 63)
 have B1 := Blk.new (w.alloc (.cells #[.slice pa p.length pcap] 24)) #[.int .i64 m.slot, .slice aa m.args.length acap, .int .i64 m.ret, .int .i64 m.locals, .int .i64 m.stack, .slice ca m.code.length ccap, .slice fa m.frames.length fcap] 63
 rw [World.size_alloc] at B1
 go_enter Tryz.func105, Tryz.ntmps105
 go_wp2_with fail
 generalize (w.alloc _).alloc _ = W at *
 refine (unhide HBG W (GVals.keep (Keeps.of_below hbel) (unhide HV))).mono ?_
 rintro e U ⟨vl0, rfl, hS0, hb0⟩
 have hbU := hbel.trans (hb0.mono hbel.size)
 have hvl0 : ∃ a n c, vl0 = .slice a n c := by obtain ⟨a, _, _, c, rfl, _⟩ := hS0.1; exact ⟨a, _, c, rfl⟩
 obtain ⟨a0, n0, c0, rfl⟩ := hvl0
 have hbx := box_below U (.cells #[.bool true, .slice a0 n0 c0, .slice none 0 0] 149)
 have hWs := B1.lt
 have hUs := hb0.size
 have hcb : StOk p m (cutS m (beginS c m)) := ⟨⟨fun x hx => hb.2.2.2.1 x (List.mem_of_mem_take hx), hb.2.2.2.2⟩, cut_len (by omega) M.loc hb.1, hb.2.2.1⟩
 have HI0 : Hid (PsI w (U.alloc (.cells #[.bool true, .slice a0 n0 c0, .slice none 0 0] 149)) p m U.heap.size (.slice pa p.length pcap) (.slice aa m.args.length acap) (.slice ca m.code.length ccap) (.slice fa m.frames.length fcap) (some (cutS m (beginS c m))) (.slice a0 n0 c0) (.slice none 0 0)) :=
  ⟨hbU.trans (hbx.mono hbU.size), (B0.below hb0 B0.lt).alloc _, (B1.below hb0 B1.lt).alloc _, Blk.new U _ _, fun s e => ⟨by cases e; exact StG.keep (sel_mods (Mods.of_below hbx) fun k hk hS => ⟨fun e => by omega, by omega⟩) hS0, by cases e; exact hcb⟩, fun e => (by cases e), by omega⟩
 have HC := hide hca
 clear hS0 B0 B1 hb0
 go_wp2_with fail
 obtain ⟨bh, hbh⟩ : ∃ bh, bh = U.heap.size := ⟨_, rfl⟩
 rw [← hbh] at HI0 ⊢
 go_loopg [8] m.code.length (fun g i V => ∃ (k : Nat) (h : Option TSt) (vl vs : Value), k ≤ m.code.length ∧ g = m.code.length - k ∧ i = .int .i64 k ∧ refK p c m k = some h ∧ PsI w V p m bh (.slice pa p.length pcap) (.slice aa m.args.length acap) (.slice ca m.code.length ccap) (.slice fa m.frames.length fcap) h vl vs)
 case atStart => exact ⟨0, _, _, _, Nat.zero_le _, rfl, rfl, rfl, unhide HI0⟩
 case round =>
  clear HI0 hbx hbh hUs hbU
  obtain ⟨k, h, vl, vs, hk, hgk, rfl, hK, hI⟩ := hrel
  have HI := hide hI
  have HK := hide hK
  have HGK := hide hgk
  have m5 : wr.cell? ⟨w.heap.size + 1, 5, none⟩ = some (.slice ca m.code.length ccap) := hI.b1.cell 5
  clear hK hgk
  by_cases hlt : k < m.code.length
  rotate_left
  ·obtain rfl : k = m.code.length := by omega
   have ke : ¬ (m.code.length : Int) < (m.code.length : Int) := by omega
   have g0 : wr.cell? ⟨bh, 0, none⟩ = some (.bool h.isSome) := hI.bx.cell 0
   have hR : (!h.isSome) = refPass p c m := by
    unfold refPass
    rw [unhide HK]
    cases h <;> rfl
   have HR := hide hR
   generalize h.isSome = q at *
   have hbl := hI.bel
   clear hI hR
   go_wp2_with fail
   go_ret
   exact ⟨ret_bool (unhide HR), hbl⟩
  have m0 : wr.cell? ⟨w.heap.size + 1, 0, none⟩ = some (.int .i64 m.slot) := hI.b1.cell 0
  have m1 : wr.cell? ⟨w.heap.size + 1, 1, none⟩ = some (.slice aa m.args.length acap) := hI.b1.cell 1
  have m2 : wr.cell? ⟨w.heap.size + 1, 2, none⟩ = some (.int .i64 m.ret) := hI.b1.cell 2
  have m3 : wr.cell? ⟨w.heap.size + 1, 3, none⟩ = some (.int .i64 m.locals) := hI.b1.cell 3
  have m4 : wr.cell? ⟨w.heap.size + 1, 4, none⟩ = some (.int .i64 m.stack) := hI.b1.cell 4
  have m6 : wr.cell? ⟨w.heap.size + 1, 6, none⟩ = some (.slice fa m.frames.length fcap) := hI.b1.cell 6
  have k1 : (k : Int) < (m.code.length : Int) := by omega
  have k0 : (0 : Int) ≤ (k : Int) := by omega
  obtain rfl := unhide HC (ne_nil_of_lt hlt)
  obtain ⟨vla, vln, vlc, rfl⟩ : ∃ a n c, vl = .slice a n c := by obtain ⟨a, _, _, c, rfl, _⟩ := hI.hand.1; exact ⟨a, _, c, rfl⟩
  obtain ⟨vsa, vsn, vsc, rfl⟩ : ∃ a n c, vs = .slice a n c := by obtain ⟨a, _, _, c, rfl, _⟩ := hI.hand.2; exact ⟨a, _, c, rfl⟩
  clear hI
  go_wp2_with fail
  refine (unhide HFM (k : Int) wr (unhide HI).bel).mono ?_
  rintro e V1 hFR
  obtain ⟨q, fla, fln, flc, fsa, fsn, fsc, rfl, hq, hSf, hb1⟩ := hFR.form
  clear m0 m1 m2 m3 m4 m5 m6 hFR
  have I1 := (unhide HI).below hb1
  have hbx := box_below V1 (.cells #[.bool q, .slice fla fln flc, .slice fsa fsn fsc] 149)
  have I2 := I1.below hbx
  have A9 := Blk.new V1 #[.bool q, .slice fla fln flc, .slice fsa fsn fsc] 149
  have g9 : (V1.alloc (.cells #[.bool q, .slice fla fln flc, .slice fsa fsn fsc] 149)).cell? ⟨V1.heap.size, 0, none⟩ = some (.bool q) := A9.cell 0
  obtain ⟨bf, hbf⟩ : ∃ bf, bf = V1.heap.size := ⟨_, rfl⟩
  have hne9 : bh ≠ bf := by have := (unhide HI).bx.lt; have := hb1.size; omega
  have HI2 := hide I2
  have HQ := hide hq
  have HSF := hide hSf
  have HA9 := hide A9
  clear hbx I1 I2 hq hSf A9
  go_upto_if 31 with fail
  generalize V1.alloc _ = V2 at *
  rw [← hbf] at HA9 g9 ⊢
  have HC2 := hide (And.intro hb1 hbf)
  clear hb1 hbf
  go_cut [] (fun wx => ∃ (h2 : Option TSt) (vl2 vs2 : Value), handF p m k h = some h2 ∧ PsI w wx p m bh (.slice pa p.length pcap) (.slice aa m.args.length acap) (.slice (some ⟨cb, off, none⟩) m.code.length ccap) (.slice fa m.frames.length fcap) h2 vl2 vs2)
  case first =>
   cases q with
   | false =>
    have HH : Hid (handF p m k h = some h) := by
     show _ = _
     unfold handF
     cases hf : frmAtL m (k : Int) with
     | none => rfl
     | some f => have h9 := unhide HQ; rw [hf] at h9; cases h9
    go_wp2_with fail
    go_meet
    case rel => exact ⟨h, _, _, unhide HH, unhide HI2⟩
   | true =>
    obtain ⟨f, hf⟩ : ∃ f, frmAtL m (k : Int) = some f := by
     have h9 := unhide HQ
     cases hf : frmAtL m (k : Int) with
     | none => rw [hf] at h9; cases h9
     | some f => exact ⟨f, rfl⟩
    have I2 := unhide HI2
    have A9 := unhide HA9
    have hSf : StG w.cell? (frS f) (.slice fla fln flc) (.slice fsa fsn fsc) := by have h9 := unhide HSF; unfold frO at h9; rw [hf] at h9; exact h9
    have g91 : V2.cell? ⟨bf, 1, none⟩ = some (.slice fla fln flc) := A9.cell 1
    have g92 : V2.cell? ⟨bf, 2, none⟩ = some (.slice fsa fsn fsc) := A9.cell 2
    have g7 : V2.cell? ⟨bh, 0, none⟩ = some (.bool h.isSome) := I2.bx.cell 0
    have g71 : V2.cell? ⟨bh, 1, none⟩ = some (.slice vla vln vlc) := I2.bx.cell 1
    have g72 : V2.cell? ⟨bh, 2, none⟩ = some (.slice vsa vsn vsc) := I2.bx.cell 2
    have p7 : V2.cell? ⟨w.heap.size, 0, none⟩ = some (.slice pa p.length pcap) := I2.b0.cell 0
    have hfo := frame_ok hfr hf
    have hSf2 := StG.keep (Keeps.of_below I2.bel) hSf
    have hmb := M.loc
    have hmk := M.stk
    have HSW := hide hSf
    have HHF := hide (handF_some (p := p) (h := h) hf)
    have hhl : (hdS h).loc.length ≤ 8 ∧ (hdS h).stk.length ≤ 8 := by
     cases h with
     | none => exact ⟨by simp [hdS], by simp [hdS]⟩
     | some s =>
      obtain ⟨_, o2, o3⟩ := (I2.st s rfl).2
      exact ⟨by show s.loc.length ≤ 8; omega, by show s.stk.length ≤ 8; omega⟩
    obtain ⟨hq, hhq⟩ : ∃ hq, hq = h.isSome := ⟨_, rfl⟩
    rw [← hhq] at g7
    have HHQ := hide hhq
    clear hf hhq hSf HQ HSF
    go_wp2_with fail
    refine (rs_under p _ (hdS h) (frS f) hq true _ _ _ _ V2 (prog_keep (Keeps.of_below I2.bel) (unhide HP)) G.sup hpl I2.hand hSf2 I2.handT hfo.1 (by omega) (by omega)).mono ?_
    rintro e V3 ⟨rfl, hb3⟩
    have I3 := I2.below hb3
    have A3 := A9.below hb3 A9.lt
    have g73 : V3.cell? ⟨bh, 0, none⟩ = some (.bool hq) := by rw [unhide HHQ]; exact I3.bx.cell 0
    have g93 : V3.cell? ⟨bf, 0, none⟩ = some (.bool true) := A3.cell 0
    have g94 : V3.cell? ⟨bf, 1, none⟩ = some (.slice fla fln flc) := A3.cell 1
    have g95 : V3.cell? ⟨bf, 2, none⟩ = some (.slice fsa fsn fsc) := A3.cell 2
    rw [← unhide HHQ] at HHF
    have hbx9 := I3.bx
    clear g9 g91 g92 g7 g71 g72 p7 I2 A9 hSf2 hhl A3 HA9 HI2
    by_cases hcase : (hq && !underB p (hdS h) (frS f)) = true
    ·have HNO : Hid (refPass p c m = false) := refPass_no hlt (unhide HK) (by unfold refS; rw [unhide HHF, if_pos hcase]; rfl)
     have hq1 : hq = true := by revert hcase; cases hq <;> simp
     have hu1 : underB p (hdS h) (frS f) = false := by revert hcase; cases underB p (hdS h) (frS f) <;> simp
     rw [hu1]
     rw [hq1] at g73
     have hfin := I3.bel
     clear hcase hu1 I3 hbx9 HHF
     go_wp2_with fail
     go_ret
     exact ⟨ret_bool (unhide HNO).symm, hfin⟩
    ·have HH2 : Hid (handF p m k h = some (some (frS f))) := by show _ = _; rw [unhide HHF, if_neg hcase]
     have hor : hq = false ∨ (hq = true ∧ underB p (hdS h) (frS f) = true) := by
      revert hcase
      cases hq <;> cases underB p (hdS h) (frS f) <;> simp
     have HI3 := hide I3
     have HFO := hide hfo
     generalize underB p (hdS h) (frS f) = uu at *
     clear hcase I3 HHF HHQ hfo
     rcases hor with rfl | ⟨rfl, rfl⟩
     ·go_wp2_with (refine wpList_store_blk aggRS hbx9 0 [.bool true, .slice fla fln flc, .slice fsa fsn fsc] rfl (by simp) one3 (.tmp 7) (.tmp 42) rfl rfl rfl rfl ?_; intro V4 hB4 hM4 hs4; rw [putAt_all (by rfl)] at hB4)
      go_meet
      case rel => exact ⟨some (frS f), _, _, unhide HH2, (unhide HI3).put hM4 hB4 (fun s e => by cases e; exact ⟨StG.keep (world_sel (Mods.of_below (unhide HI3).bel) fun k hk => ⟨by omega, by have := (unhide HI3).lo; omega⟩) (unhide HSW), unhide HFO⟩) (fun e => by cases e)⟩
     ·go_wp2_with (refine wpList_store_blk aggRS hbx9 0 [.bool true, .slice fla fln flc, .slice fsa fsn fsc] rfl (by simp) one3 (.tmp 7) (.tmp 42) rfl rfl rfl rfl ?_; intro V4 hB4 hM4 hs4; rw [putAt_all (by rfl)] at hB4)
      go_meet
      case rel => exact ⟨some (frS f), _, _, unhide HH2, (unhide HI3).put hM4 hB4 (fun s e => by cases e; exact ⟨StG.keep (world_sel (Mods.of_below (unhide HI3).bel) fun k hk => ⟨by omega, by have := (unhide HI3).lo; omega⟩) (unhide HSW), unhide HFO⟩) (fun e => by cases e)⟩
  case rest =>
   obtain ⟨h2, vl2, vs2, hh2, I3⟩ := hcut
   have HH2 := hide hh2
   clear HI2 HQ HSF HA9 g9 HC2 hh2
   obtain ⟨vla2, vln2, vlc2, rfl⟩ : ∃ a n c, vl2 = .slice a n c := by obtain ⟨a, _, _, c, rfl, _⟩ := I3.hand.1; exact ⟨a, _, c, rfl⟩
   obtain ⟨vsa2, vsn2, vsc2, rfl⟩ : ∃ a n c, vs2 = .slice a n c := by obtain ⟨a, _, _, c, rfl, _⟩ := I3.hand.2; exact ⟨a, _, c, rfl⟩
   have g7 : wc.cell? ⟨bh, 0, none⟩ = some (.bool h2.isSome) := I3.bx.cell 0
   have HI3 := hide I3
   cases h2 with
   | none =>
    dsimp only [Option.isSome] at g7
    have HN : Hid (refK p c m (k + 1) = some none) := by
     show _ = _
     unfold refK
     rw [unhide HK, Option.bind_some]
     unfold refS
     rw [unhide HH2]
     rfl
    clear I3
    go_wp2_with fail
    go_roundg (m.code.length - (k + 1))
    case measure => have := unhide HGK; omega
    case rel => exact ⟨k + 1, none, _, _, by omega, rfl, by go_num, unhide HN, unhide HI3⟩
   | some s =>
    dsimp only [Option.isSome] at g7
    obtain ⟨hSS, hSO⟩ := I3.st s rfl
    have hIA : insAt m k = m.code[k] := by unfold insAt; rw [List.getElem?_eq_getElem hlt]; rfl
    have hmem : insAt m k ∈ m.code := by rw [hIA]; exact List.getElem_mem _
    obtain ⟨x0, x1, x2⟩ := unhide HCR k hlt
    rw [← hIA] at x0 x1 x2
    obtain ⟨x, hx⟩ : ∃ x, x = insAt m k := ⟨_, rfl⟩
    rw [← hx] at x0 x1 x2 hmem
    have HX := hide hx
    have HX0 := hide (And.intro x0 (And.intro x1 x2))
    have HO := hide (fun Y (hY : Below wc.heap.size wc Y) => And.intro (((unhide HI3).below hY).b0.cell 0) (And.intro (((unhide HI3).below hY).b1.cell 0) (And.intro (((unhide HI3).below hY).b1.cell 1) (And.intro (((unhide HI3).below hY).b1.cell 2) (And.intro (((unhide HI3).below hY).b1.cell 3) (And.intro (((unhide HI3).below hY).b1.cell 4) (And.intro (((unhide HI3).below hY).b1.cell 5) (And.intro (((unhide HI3).below hY).b1.cell 6) (And.intro (((unhide HI3).below hY).bx.cell 0) (And.intro (((unhide HI3).below hY).bx.cell 1) (And.intro (((unhide HI3).below hY).bx.cell 2) (And.intro (Keeps.of_below ((unhide HI3).below hY).bel _ _ x0) (And.intro (Keeps.of_below ((unhide HI3).below hY).bel _ _ x1) (Keeps.of_below ((unhide HI3).below hY).bel _ _ x2))))))))))))))
    clear hx hIA x0 x1 x2
    go_upto_region 12 with fail
    have hlo := I3.bx.lt
    go_cut [11, 12] (fun s11 s12 wx => (rStep p m x s = none ∧ s12 = .bool false ∧ Below w.heap.size w wx) ∨ ∃ (out : TSt) (bo : Nat) (oa oa' : Option Addr) (on oc on' oc' : Nat), rStep p m x s = some out ∧ s11 = .pointer (some ⟨bo, 0, none⟩) ∧ s12 = .bool true ∧ PsI w wx p m bh (.slice pa p.length pcap) (.slice aa m.args.length acap) (.slice (some ⟨cb, off, none⟩) m.code.length ccap) (.slice fa m.frames.length fcap) (some s) (.slice vla2 vln2 vlc2) (.slice vsa2 vsn2 vsc2) ∧ OutB wx p m bh bo out (.slice oa on oc) (.slice oa' on' oc'))
    case first =>
     clear g7
     refine wp_region_noPanic ?_
     refine wp_region_held_drew (S := (fun w' => w'.cell? ⟨w.heap.size, 0, none⟩ = some (.slice pa p.length pcap) ∧ w'.cell? ⟨w.heap.size + 1, 0, none⟩ = some (.int .i64 m.slot) ∧ w'.cell? ⟨w.heap.size + 1, 1, none⟩ = some (.slice aa m.args.length acap) ∧ w'.cell? ⟨w.heap.size + 1, 2, none⟩ = some (.int .i64 m.ret) ∧ w'.cell? ⟨w.heap.size + 1, 3, none⟩ = some (.int .i64 m.locals) ∧ w'.cell? ⟨w.heap.size + 1, 4, none⟩ = some (.int .i64 m.stack) ∧ w'.cell? ⟨w.heap.size + 1, 5, none⟩ = some (.slice (some ⟨cb, off, none⟩) m.code.length ccap) ∧ w'.cell? ⟨w.heap.size + 1, 6, none⟩ = some (.slice fa m.frames.length fcap) ∧ w'.cell? ⟨bh, 0, none⟩ = some (.bool true) ∧ w'.cell? ⟨bh, 1, none⟩ = some (.slice vla2 vln2 vlc2) ∧ w'.cell? ⟨bh, 2, none⟩ = some (.slice vsa2 vsn2 vsc2) ∧ w'.cell? ⟨cb, off + k * 3, none⟩ = some (.int .i64 x.op) ∧ w'.cell? ⟨cb, off + k * 3 + 1, none⟩ = some (.int .i64 x.a) ∧ w'.cell? ⟨cb, off + k * 3 + 2, none⟩ = some (.int .i64 x.b))) (by kernel_rfl) ?_ (fun hHeld => ?_)
     ·exact (unhide HO) _ drew_below
     refine take_x (some 47) 0 rfl rfl ?_
     refine take_x (some 48) 1 rfl rfl ?_
     refine take_x (some 49) 2 rfl rfl ?_
     refine take_x (some 50) 3 rfl rfl ?_
     refine take_x (some 51) 4 rfl rfl ?_
     refine take_x (some 52) 5 rfl rfl ?_
     refine take_x (some 53) 6 rfl rfl ?_
     refine take_x (some 54) 7 rfl rfl ?_
     refine wpAnyH_ready (rs := [8, 12]) (by kernel_rfl) (by simp) ?_
     refine AllReadyH.cons rfl (fun K hK => ?_) (AllReadyH.cons rfl (fun K hK => ?_) AllReadyH.nil)
     ·go_simp
      refine (unhide HST x s true _ _ wc.drew (prog_keep (Keeps.of_below drew_below) (prog_keep (Keeps.of_below I3.bel) (unhide HP))) (GVals.keep (Keeps.of_below drew_below) (GVals.keep (Keeps.of_below I3.bel) (unhide HV))) (hins _ hmem) (StG.keep (Keeps.of_below drew_below) (StG.keep sel_world hSS)) hSO.1 hSO.2.1 hSO.2.2).mono ?_
      rintro e w2 hSt
      obtain ⟨q2, oa, on, oc, oa', on', oc', ok, rfl, hS1, hS2, hb2'⟩ := hSt.form
      have hb2 : Below wc.heap.size wc w2 := ⟨hb2'.os, hb2'.tape, hb2'.output, hb2'.size, hb2'.block⟩
      have hz2 := hb2.size
      have hdr : wc.drew.heap.size = wc.heap.size := rfl
      have HS := hide (And.intro hS1 hS2)
      clear hSt hS1 hS2 hb2'
      go_wp2_with fail
      refine hK.out _ _ ((unhide HO) _ hb2) (fun hHeld => ?_)
      clear hK K
      try simp only [Act.put, List.setIfInBounds_toArray, List.set_cons_zero, List.set_cons_succ]
      refine take_x (some 46) 9 rfl rfl ?_
      refine take_x (some 56) 10 rfl rfl ?_
      refine take_x (some 57) 11 rfl rfl ?_
      refine wpAnyH_ready (rs := [12]) (by kernel_rfl) (by simp) ?_
      refine AllReadyH.cons rfl (fun K hK => ?_) AllReadyH.nil
      go_simp
      have hb3 : Below wc.heap.size wc (w2.alloc (.cells #[.bool false, .slice none 0 0, .slice none 0 0] 149)) := hb2.alloc hb2.size _
      have B4 := Blk.new w2 #[.bool false, .slice none 0 0, .slice none 0 0] 149
      have HE : Hid (∀ s', rStep p m x s = some s' → NewSt wc.heap.size (w2.alloc (.cells #[.bool false, .slice none 0 0, .slice none 0 0] 149)) s' (.slice oa on oc) (.slice oa' on' oc')) := fun s' e => StG.keep (sel_mods (Mods.of_below (box_below w2 _)) fun k hk hS => ⟨fun e => by omega, hS⟩) ((unhide HS).1 s' e).2.2
      refine hK.out _ _ ((unhide HO) _ hb3) (fun hHeld => ?_)
      clear hK K
      try simp only [Act.put, List.setIfInBounds_toArray, List.set_cons_zero, List.set_cons_succ]
      obtain ⟨b4, hb4⟩ : ∃ b, b = w2.heap.size := ⟨_, rfl⟩
      have hb4' : wc.heap.size ≤ b4 := by omega
      rw [← hb4] at B4 ⊢
      have hnot : Hid (∀ s', rStep p m x s = some s' → StG (sel (fun k => k ≠ bh ∧ k ≠ b4) (w2.alloc (.cells #[.bool false, .slice none 0 0, .slice none 0 0] 149))) s' (.slice oa on oc) (.slice oa' on' oc')) := fun s' e => StG.keep (sel_mods (Mods.of_below (box_below w2 _)) fun k hk hS => ⟨fun e => by omega, by (try dsimp only at hS); omega, by omega⟩) ((unhide HS).1 s' e).2.2
      generalize w2.alloc _ = V at *
      clear hb4 hb2 hz2 hHeld HE hdr
      refine wpAnyH_ready (rs := [13]) (by kernel_rfl) (by simp) ?_
      refine AllReadyH.cons rfl (fun K hK => ?_) AllReadyH.nil
      refine wp_store_blk aggRS B4 0 [.bool q2, .slice oa on oc, .slice oa' on' oc'] rfl (by simp) one3 (.tmp 11) (.tmp 56) rfl rfl rfl ?_
      intro w6 hB6 hM6 hs6
      rw [putAt_all (by rfl)] at hB6
      have hb6 : Below wc.heap.size wc w6 := hb3.trans (hM6.below hb3.size (fun k hk e => by omega))
      refine hK.out _ _ ((unhide HO) _ hb6) (fun hHeld => ?_)
      clear hK K
      try simp only [Act.put, List.setIfInBounds_toArray]
      refine take_x (some 12) 14 rfl rfl ?_
      refine wpAnyH_done (by kernel_rfl) ?_ _
      refine NoPanic.normal ?_
      have I6 := I3.below hb6
      have hE6 : Hid (∀ s', rStep p m x s = some s' → StG (sel (fun k => k ≠ bh) w6) s' (.slice oa on oc) (.slice oa' on' oc')) := fun s' e => StG.keep (sel_mods hM6 fun k hk hS => ⟨hS.2, hS.1⟩) (unhide hnot s' e)
      clear hHeld hM6 hs6 B4 hnot hb3
      go_wp2_with fail
      go_meet
      case rel =>
       cases hr : rStep p m x s with
       | none => exact .inl ⟨rfl, by rw [(unhide HS).2 hr], I6.bel⟩
       | some out =>
        obtain ⟨e1, e2, _⟩ := (unhide HS).1 out hr
        subst e1 e2
        exact .inr ⟨out, b4, oa, oa', on, oc, on', oc', rfl, rfl, rfl, I6, hB6, unhide hE6 out hr, rStep_ok G M (hins _ hmem) hSO hr, by omega⟩
     ·go_simp
      have hz1 := box_below wc.drew (.cells #[.bool false, .slice none 0 0, .slice none 0 0] 149)
      have hz2 : Below wc.heap.size wc (wc.drew.alloc (.cells #[.bool false, .slice none 0 0, .slice none 0 0] 149)) := ⟨hz1.os, hz1.tape, hz1.output, hz1.size, hz1.block⟩
      refine hK.out _ _ ((unhide HO) _ hz2) (fun hHeld => ?_)
      clear hK K
      try simp only [Act.put, List.setIfInBounds_toArray, List.set_cons_zero, List.set_cons_succ]
      refine wpAnyH_ready (rs := [8]) (by kernel_rfl) (by simp) ?_
      refine AllReadyH.cons rfl (fun K hK => ?_) AllReadyH.nil
      go_simp
      refine (unhide HST x s true _ _ _ (prog_keep (Keeps.of_below hz2) (prog_keep (Keeps.of_below I3.bel) (unhide HP))) (GVals.keep (Keeps.of_below hz2) (GVals.keep (Keeps.of_below I3.bel) (unhide HV))) (hins _ hmem) (StG.keep (Keeps.of_below hz2) (StG.keep sel_world hSS)) hSO.1 hSO.2.1 hSO.2.2).mono ?_
      rintro e V hSt
      obtain ⟨q2, oa, on, oc, oa', on', oc', ok, rfl, hS1, hS2, hb2'⟩ := hSt.form
      have hb2 : Below (wc.heap.size + 1) (wc.drew.alloc (.cells #[.bool false, .slice none 0 0, .slice none 0 0] 149)) V := ⟨hb2'.os, hb2'.tape, hb2'.output, by have := hb2'.size; simpa using this, fun i hi => hb2'.block i (by simpa using hi)⟩
      have hb3 : Below wc.heap.size wc V := hz2.trans (hb2.mono (by simp))
      have B4' : Blk (wc.drew.alloc (.cells #[.bool false, .slice none 0 0, .slice none 0 0] 149)) wc.heap.size 149 [.bool false, .slice none 0 0, .slice none 0 0] := Blk.new wc.drew #[.bool false, .slice none 0 0, .slice none 0 0] 149
      have B4 := B4'.below hb2 (by omega)
      have hsz : (wc.drew.alloc (.cells #[.bool false, .slice none 0 0, .slice none 0 0] 149)).heap.size = wc.heap.size + 1 := by simp
      have HS := hide (And.intro hS1 hS2)
      obtain ⟨b4, hb4⟩ : ∃ b, b = wc.heap.size := ⟨_, rfl⟩
      have hnot : Hid (∀ s', rStep p m x s = some s' → StG (sel (fun k => k ≠ bh ∧ k ≠ b4) V) s' (.slice oa on oc) (.slice oa' on' oc')) := fun s' e => StG.keep (sel_mods (Mods.refl (fun _ => False) V) fun k hk hS => ⟨fun e => e, by (try dsimp only at hS); omega, by (try dsimp only at hS); omega⟩) ((unhide HS).1 s' e).2.2
      clear hSt hS1 hS2 hb2' hsz
      go_wp2_with fail
      refine hK.out _ _ ((unhide HO) _ hb3) (fun hHeld => ?_)
      clear hK K
      try simp only [Act.put, List.setIfInBounds_toArray, List.set_cons_zero, List.set_cons_succ]
      refine take_x (some 46) 9 rfl rfl ?_
      refine take_x (some 56) 10 rfl rfl ?_
      refine take_x (some 57) 11 rfl rfl ?_
      have hb4' : wc.heap.size ≤ b4 := by omega
      rw [← hb4] at B4 ⊢
      clear hb4 hb2 hz2 hz1 hHeld B4'
      refine wpAnyH_ready (rs := [13]) (by kernel_rfl) (by simp) ?_
      refine AllReadyH.cons rfl (fun K hK => ?_) AllReadyH.nil
      refine wp_store_blk aggRS B4 0 [.bool q2, .slice oa on oc, .slice oa' on' oc'] rfl (by simp) one3 (.tmp 11) (.tmp 56) rfl rfl rfl ?_
      intro w6 hB6 hM6 hs6
      rw [putAt_all (by rfl)] at hB6
      have hb6 : Below wc.heap.size wc w6 := hb3.trans (hM6.below hb3.size (fun k hk e => by omega))
      refine hK.out _ _ ((unhide HO) _ hb6) (fun hHeld => ?_)
      clear hK K
      try simp only [Act.put, List.setIfInBounds_toArray]
      refine take_x (some 12) 14 rfl rfl ?_
      refine wpAnyH_done (by kernel_rfl) ?_ _
      refine NoPanic.normal ?_
      have I6 := I3.below hb6
      have hE6 : Hid (∀ s', rStep p m x s = some s' → StG (sel (fun k => k ≠ bh) w6) s' (.slice oa on oc) (.slice oa' on' oc')) := fun s' e => StG.keep (sel_mods hM6 fun k hk hS => ⟨hS.2, hS.1⟩) (unhide hnot s' e)
      clear hHeld hM6 hs6 B4 hnot hb3
      go_wp2_with fail
      go_meet
      case rel =>
       cases hr : rStep p m x s with
       | none => exact .inl ⟨rfl, by rw [(unhide HS).2 hr], I6.bel⟩
       | some out =>
        obtain ⟨e1, e2, _⟩ := (unhide HS).1 out hr
        subst e1 e2
        exact .inr ⟨out, b4, oa, oa', on, oc, on', oc', rfl, rfl, rfl, I6, hB6, unhide hE6 out hr, rStep_ok G M (hins _ hmem) hSO hr, by omega⟩
    case rest =>
     clear g7 HO hlo hSS hSO HI3 I3
     rcases hcut with ⟨hn, rfl, hbl⟩ | ⟨out, bo, oa, oa', on, oc, on', oc', hs, rfl, rfl, I4, OB⟩
     ·have HNO : Hid (refPass p c m = false) := refPass_no hlt (unhide HK) (by unfold refS; rw [unhide HH2, Option.bind_some]; dsimp only; rw [← unhide HX, hn]; rfl)
      clear hn
      go_wp2_with fail
      go_ret
      exact ⟨ret_bool (unhide HNO).symm, hbl⟩
     ·have HG : Hid (refS p m k h = goK p m x out (goesL x k).length) := by show _ = _; have h9 := ref_go (unhide HH2) (by rw [← unhide HX]; exact hs); rw [← unhide HX] at h9; exact h9
      have HI4 := hide I4
      have HOB := hide OB
      have hbx4 := I4.bx
      clear hs I4 OB
      go_upto_region 16 with (refine wpList_store_blk aggRS hbx4 0 [.bool false, .slice none 0 0, .slice none 0 0] rfl (by simp) zeros3 (.tmp 7) (.tmp 60) rfl rfl rfl rfl ?_; intro V5 hB5 hM5 hs5; rw [putAt_all (by rfl)] at hB5)
      have I5 : PsI w V5 p m bh (.slice pa p.length pcap) (.slice aa m.args.length acap) (.slice (some ⟨cb, off, none⟩) m.code.length ccap) (.slice fa m.frames.length fcap) none (.slice none 0 0) (.slice none 0 0) := (unhide HI4).put hM5 hB5 (fun s e => by cases e) (fun _ => ⟨rfl, rfl⟩)
      have OB5 := (unhide HOB).mods hM5
      have m0 : V5.cell? ⟨w.heap.size + 1, 0, none⟩ = some (.int .i64 m.slot) := I5.b1.cell 0
      have m1 : V5.cell? ⟨w.heap.size + 1, 1, none⟩ = some (.slice aa m.args.length acap) := I5.b1.cell 1
      have m2 : V5.cell? ⟨w.heap.size + 1, 2, none⟩ = some (.int .i64 m.ret) := I5.b1.cell 2
      have m3 : V5.cell? ⟨w.heap.size + 1, 3, none⟩ = some (.int .i64 m.locals) := I5.b1.cell 3
      have m4 : V5.cell? ⟨w.heap.size + 1, 4, none⟩ = some (.int .i64 m.stack) := I5.b1.cell 4
      have m5 : V5.cell? ⟨w.heap.size + 1, 5, none⟩ = some (.slice (some ⟨cb, off, none⟩) m.code.length ccap) := I5.b1.cell 5
      have m6 : V5.cell? ⟨w.heap.size + 1, 6, none⟩ = some (.slice fa m.frames.length fcap) := I5.b1.cell 6
      have HI5 := hide I5
      have HOB5 := hide OB5
      clear HI4 HOB hbx4 hB5 hM5 hs5 I5 OB5
      go_wp2_with fail
      refine (unhide HGO k V5 (GVals.keep (Keeps.of_below (unhide HI5).bel) (unhide HV)) hlt).mono ?_
      rintro e V6 ⟨v, rfl, hL, hb6⟩
      rw [← unhide HX] at hL
      obtain ⟨gl, hgl⟩ : ∃ gl, gl = goesL x k := ⟨_, rfl⟩
      rw [← hgl] at hL HG
      obtain ⟨la, lb, lo, lc, rfl, _, hlh, hlr⟩ := ints_openG hL
      have HI6 := hide ((unhide HI5).below hb6)
      have HOB6 := hide ((unhide HOB5).below hb6)
      have HL6 : Hid (∀ (j : Nat) (hj : j < gl.length), sel (fun k => k ≠ bh) V6 ⟨lb, lo + j, none⟩ = some (.int .i64 gl[j])) := fun j hj => sel_mods (Mods.refl (fun _ => False) V6) (fun k hk hS => ⟨fun e => e, by have := (unhide HI5).bx.lt; (try dsimp only at hS); omega⟩) _ _ (hlr j hj)
      have hg2 : gl.length ≤ 2 := by rw [hgl]; unfold goesL; cases fallsB x <;> cases jumpsB x <;> simp
      have HLH := hide hlh
      have HGL := hide hgl
      clear m0 m1 m2 m3 m4 m5 m6 hL hlr hlh hgl hb6 HI5 HOB5
      go_wp2_with fail
      go_loopg [14] gl.length (fun g i V => ∃ (j : Nat) (h3 : Option TSt) (vl3 vs3 : Value), j ≤ gl.length ∧ g = gl.length - j ∧ i = .int .i64 j ∧ goK p m x out j = some h3 ∧ PsI w V p m bh (.slice pa p.length pcap) (.slice aa m.args.length acap) (.slice (some ⟨cb, off, none⟩) m.code.length ccap) (.slice fa m.frames.length fcap) h3 vl3 vs3 ∧ OutB V p m bh bo out (.slice oa on oc) (.slice oa' on' oc') ∧ ∀ (j : Nat) (hj : j < gl.length), sel (fun k => k ≠ bh) V ⟨lb, lo + j, none⟩ = some (.int .i64 gl[j]))
      case atStart => exact ⟨0, none, _, _, Nat.zero_le _, rfl, rfl, rfl, unhide HI6, unhide HOB6, unhide HL6⟩
      case round =>
       clear HI6 HOB6 HL6
       obtain ⟨j, h3, vl3, vs3, hj, hgj, rfl, hgo, I7, OB7, L7⟩ := hrel
       have HI7 := hide I7
       have HOB7 := hide OB7
       have HL7 := hide L7
       have HGJ := hide hgj
       have HGO7 := hide hgo
       clear hgj hgo
       by_cases hjl : j < gl.length
       rotate_left
       ·obtain rfl : j = gl.length := by omega
        have ke2 : ¬ (gl.length : Int) < (gl.length : Int) := by omega
        have HN : Hid (refK p c m (k + 1) = some h3) := by
         show _ = _
         unfold refK
         rw [unhide HK, Option.bind_some, unhide HG]
         exact unhide HGO7
        clear I7 OB7 L7
        go_wp2_with fail
        go_roundg (m.code.length - (k + 1))
        case measure => have := unhide HGK; omega
        case rel => exact ⟨k + 1, h3, _, _, by omega, rfl, by go_num, unhide HN, unhide HI7⟩
       obtain rfl := unhide HLH (ne_nil_of_lt hjl)
       have j0 : (0 : Int) ≤ (j : Int) := by omega
       have j1 : (j : Int) < (gl.length : Int) := by omega
       have y0 := (sel_some (L7 j hjl)).2
       obtain ⟨y, hy⟩ : ∃ y, y = gl[j] := ⟨_, rfl⟩
       have hga := goesL_at (x := x) (i := k) (j := j) (y := y) (by rw [← unhide HGL, hy, List.getElem?_eq_getElem hjl])
       rw [← hy] at y0
       have HLY : Hid (sel (fun k => k ≠ bh) wr ⟨lb, lo + j, none⟩ = some (.int .i64 y)) := by rw [hy]; exact L7 j hjl
       have x0 := Keeps.of_below I7.bel _ _ (unhide HX0).1
       have m5 : wr.cell? ⟨w.heap.size + 1, 5, none⟩ = some (.slice (some ⟨cb, off, none⟩) m.code.length ccap) := I7.b1.cell 5
       have HGA := hide hga
       clear hy hga I7 OB7 L7
       go_upto_region 20 with fail
       go_cut [89] (fun s89 wx => s89 = .bool (fallsB x && (j == 0)) ∧ wx = wr)
       case first =>
        have HY0 := hide y0
        by_cases e1 : y = (k : Int) + 1
        ·have f1 : (y == (k : Int) + 1) = true := by simpa using e1
         by_cases e2 : j = 0
         ·have f2 : ((j : Int) == 0) = true := by simpa using e2
          by_cases e3 : x.op = 7
          ·have HB : Hid ((fallsB x && (j == 0)) = false) := Bool.eq_false_iff.2 (fun h => ((unhide HGA).1.2 h).2.2 e3)
           have f3 : (x.op != 7) = false := by simpa using e3
           clear e1 e2 e3
           clear HGA
           go_wp2_with fail
           go_meet
           case rel => exact ⟨by rw [unhide HB], rfl⟩
          ·have HB : Hid ((fallsB x && (j == 0)) = true) := (unhide HGA).1.1 ⟨e1, e2, e3⟩
           have f3 : (x.op != 7) = true := by simpa using e3
           clear e1 e2 e3
           clear HGA
           go_wp2_with fail
           go_meet
           case rel => exact ⟨by rw [unhide HB], rfl⟩
         ·have HB : Hid ((fallsB x && (j == 0)) = false) := Bool.eq_false_iff.2 (fun h => e2 ((unhide HGA).1.2 h).2.1)
          have f2 : ((j : Int) == 0) = false := by simpa using e2
          clear e1 e2
          clear HGA
          go_wp2_with fail
          go_meet
          case rel => exact ⟨by rw [unhide HB], rfl⟩
        ·have HB : Hid ((fallsB x && (j == 0)) = false) := Bool.eq_false_iff.2 (fun h => e1 ((unhide HGA).1.2 h).1)
         have f1 : (y == (k : Int) + 1) = false := by simpa using e1
         clear e1
         clear HGA
         go_wp2_with fail
         go_meet
         case rel => exact ⟨by rw [unhide HB], rfl⟩
       case rest =>
        obtain ⟨h89, hwc⟩ := hcut
        subst h89
        subst hwc
        rename World => U7
        clear x0 m5 y0
        obtain ⟨bb, hbb⟩ : ∃ bb, bb = (fallsB x && (j == 0)) := ⟨_, rfl⟩
        rw [← hbb]
        cases bb with
        | true =>
         have HN : Hid (goK p m x out (j + 1) = some (some out)) := by show _ = _; unfold goK; rw [unhide HGO7, Option.bind_some, ← hbb]; rfl
         have OB7 := unhide HOB7
         have o0 : U7.cell? ⟨bo, 0, none⟩ = some (.bool true) := OB7.blk.cell 0
         have o1 : U7.cell? ⟨bo, 1, none⟩ = some (.slice oa on oc) := OB7.blk.cell 1
         have o2 : U7.cell? ⟨bo, 2, none⟩ = some (.slice oa' on' oc') := OB7.blk.cell 2
         have hbx7 := (unhide HI7).bx
         clear OB7 hbb
         go_wp2_with (refine wpList_store_blk aggRS hbx7 0 [.bool true, .slice oa on oc, .slice oa' on' oc'] rfl (by simp) one3 (.tmp 7) (.tmp 90) rfl rfl rfl rfl ?_; intro V8 hB8 hM8 hs8; rw [putAt_all (by rfl)] at hB8)
         go_roundg (gl.length - (j + 1))
         case measure => have := unhide HGJ; omega
         case rel => exact ⟨j + 1, some out, _, _, by omega, rfl, by go_num, unhide HN, (unhide HI7).put hM8 hB8 (fun s e => by cases e; exact ⟨(unhide HOB7).st, (unhide HOB7).ok⟩) (fun e => by cases e), (unhide HOB7).mods hM8, fun j' hj' => sel_mods hM8 (fun k _ hk => ⟨hk, hk⟩) _ _ (unhide HL7 j' hj')⟩
        | false =>
         have hya := (unhide HGA).2 hbb.symm
         subst hya
         have HBB := hide hbb
         have HO := hide (fun Y (hY : Below U7.heap.size U7 Y) => And.intro (((unhide HI7).below hY).b1.cell 0) (And.intro (((unhide HI7).below hY).b1.cell 1) (And.intro (((unhide HI7).below hY).b1.cell 2) (And.intro (((unhide HI7).below hY).b1.cell 3) (And.intro (((unhide HI7).below hY).b1.cell 4) (And.intro (((unhide HI7).below hY).b1.cell 5) (And.intro (((unhide HI7).below hY).b1.cell 6) (Keeps.of_below hY _ _ (sel_some (unhide HLY)).2))))))))
         clear hbb
         go_upto_region 22 with fail
         go_cut [15] (fun s15 wx => ∃ (bg : Nat) (ga ga' : Option Addr) (gn gc gn' gc' : Nat), s15 = .pointer (some ⟨bg, 0, none⟩) ∧ Blk wx bg 149 [.bool (frmAtL m x.a).isSome, .slice ga gn gc, .slice ga' gn' gc'] ∧ StG w.cell? (frO m x.a) (.slice ga gn gc) (.slice ga' gn' gc') ∧ Below U7.heap.size U7 wx)
         case first =>
          refine wp_region_noPanic ?_
          refine wp_region_held_drew (S := (fun w' => w'.cell? ⟨w.heap.size + 1, 0, none⟩ = some (.int .i64 m.slot) ∧ w'.cell? ⟨w.heap.size + 1, 1, none⟩ = some (.slice aa m.args.length acap) ∧ w'.cell? ⟨w.heap.size + 1, 2, none⟩ = some (.int .i64 m.ret) ∧ w'.cell? ⟨w.heap.size + 1, 3, none⟩ = some (.int .i64 m.locals) ∧ w'.cell? ⟨w.heap.size + 1, 4, none⟩ = some (.int .i64 m.stack) ∧ w'.cell? ⟨w.heap.size + 1, 5, none⟩ = some (.slice (some ⟨cb, off, none⟩) m.code.length ccap) ∧ w'.cell? ⟨w.heap.size + 1, 6, none⟩ = some (.slice fa m.frames.length fcap) ∧ w'.cell? ⟨lb, lo + j, none⟩ = some (.int .i64 x.a))) (by kernel_rfl) ?_ (fun hHeld => ?_)
          ·exact (unhide HO) _ drew_below
          refine take_x (some 91) 0 rfl rfl ?_
          refine take_x (some 92) 1 rfl rfl ?_
          refine take_x (some 93) 2 rfl rfl ?_
          refine take_x (some 94) 3 rfl rfl ?_
          refine take_x (some 95) 4 rfl rfl ?_
          refine wpAnyH_ready (rs := [5, 6]) (by kernel_rfl) (by simp) ?_
          refine AllReadyH.cons rfl (fun K hK => ?_) (AllReadyH.cons rfl (fun K hK => ?_) AllReadyH.nil)
          ·go_simp
           refine (unhide HFM x.a U7.drew (unhide HI7).bel.drew).mono ?_
           rintro e w2 hFR
           obtain ⟨q2, oa2, on2, oc2, oa2', on2', oc2', rfl, hq2, hS2, hb2'⟩ := hFR.form
           have hb2 : Below U7.heap.size U7 w2 := ⟨hb2'.os, hb2'.tape, hb2'.output, hb2'.size, hb2'.block⟩
           have hz2 := hb2.size
           have HS := hide (And.intro hq2 hS2)
           clear hFR hq2 hS2 hb2'
           go_wp2_with fail
           refine hK.out _ _ ((unhide HO) _ hb2) (fun hHeld => ?_)
           clear hK K
           try simp only [Act.put, List.setIfInBounds_toArray, List.set_cons_zero, List.set_cons_succ]
           refine wpAnyH_ready (rs := [6]) (by kernel_rfl) (by simp) ?_
           refine AllReadyH.cons rfl (fun K hK => ?_) AllReadyH.nil
           go_simp
           have hb3 : Below U7.heap.size U7 (w2.alloc (.cells #[.bool false, .slice none 0 0, .slice none 0 0] 149)) := hb2.alloc hb2.size _
           have B4 := Blk.new w2 #[.bool false, .slice none 0 0, .slice none 0 0] 149
           refine hK.out _ _ ((unhide HO) _ hb3) (fun hHeld => ?_)
           clear hK K
           try simp only [Act.put, List.setIfInBounds_toArray, List.set_cons_zero, List.set_cons_succ]
           obtain ⟨b4, hb4⟩ : ∃ b, b = w2.heap.size := ⟨_, rfl⟩
           have hb4' : U7.heap.size ≤ b4 := by omega
           rw [← hb4] at B4 ⊢
           generalize w2.alloc _ = V at *
           clear hb4 hb2 hz2 hHeld
           refine wpAnyH_ready (rs := [7]) (by kernel_rfl) (by simp) ?_
           refine AllReadyH.cons rfl (fun K hK => ?_) AllReadyH.nil
           refine wp_store_blk aggRS B4 0 [.bool q2, .slice oa2 on2 oc2, .slice oa2' on2' oc2'] rfl (by simp) one3 (.tmp 15) (.tmp 96) rfl rfl rfl ?_
           intro w6 hB6 hM6 hs6
           rw [putAt_all (by rfl)] at hB6
           have hb6 : Below U7.heap.size U7 w6 := hb3.trans (hM6.below hb3.size (fun k hk e => by omega))
           refine hK.out _ _ ((unhide HO) _ hb6) (fun hHeld => ?_)
           clear hK K
           try simp only [Act.put, List.setIfInBounds_toArray]
           refine wpAnyH_done (by kernel_rfl) ?_ _
           refine NoPanic.normal ?_
           clear hHeld hM6 hs6 B4 hb3
           go_wp2_with fail
           go_meet
           case rel =>
            obtain ⟨e1, e2⟩ := unhide HS
            subst e1
            exact ⟨b4, oa2, oa2', on2, oc2, on2', oc2', rfl, hB6, e2, hb6⟩
          ·go_simp
           have hz1 := box_below U7.drew (.cells #[.bool false, .slice none 0 0, .slice none 0 0] 149)
           have hz2 : Below U7.heap.size U7 (U7.drew.alloc (.cells #[.bool false, .slice none 0 0, .slice none 0 0] 149)) := ⟨hz1.os, hz1.tape, hz1.output, hz1.size, hz1.block⟩
           refine hK.out _ _ ((unhide HO) _ hz2) (fun hHeld => ?_)
           clear hK K
           try simp only [Act.put, List.setIfInBounds_toArray, List.set_cons_zero, List.set_cons_succ]
           refine wpAnyH_ready (rs := [5]) (by kernel_rfl) (by simp) ?_
           refine AllReadyH.cons rfl (fun K hK => ?_) AllReadyH.nil
           go_simp
           refine (unhide HFM x.a _ ((unhide HI7).bel.trans (hz2.mono (unhide HI7).bel.size))).mono ?_
           rintro e V hFR
           obtain ⟨q2, oa2, on2, oc2, oa2', on2', oc2', rfl, hq2, hS2, hb2'⟩ := hFR.form
           have hb2 : Below (U7.heap.size + 1) (U7.drew.alloc (.cells #[.bool false, .slice none 0 0, .slice none 0 0] 149)) V := ⟨hb2'.os, hb2'.tape, hb2'.output, by have := hb2'.size; simpa using this, fun i hi => hb2'.block i (by simpa using hi)⟩
           have hb3 : Below U7.heap.size U7 V := hz2.trans (hb2.mono (by simp))
           have B4' : Blk (U7.drew.alloc (.cells #[.bool false, .slice none 0 0, .slice none 0 0] 149)) U7.heap.size 149 [.bool false, .slice none 0 0, .slice none 0 0] := Blk.new U7.drew #[.bool false, .slice none 0 0, .slice none 0 0] 149
           have B4 := B4'.below hb2 (by omega)
           have HS := hide (And.intro hq2 hS2)
           clear hFR hq2 hS2 hb2'
           go_wp2_with fail
           refine hK.out _ _ ((unhide HO) _ hb3) (fun hHeld => ?_)
           clear hK K
           try simp only [Act.put, List.setIfInBounds_toArray, List.set_cons_zero, List.set_cons_succ]
           obtain ⟨b4, hb4⟩ : ∃ b, b = U7.heap.size := ⟨_, rfl⟩
           have hb4' : U7.heap.size ≤ b4 := by omega
           rw [← hb4] at B4 ⊢
           clear hb4 hb2 hz2 hz1 hHeld B4'
           refine wpAnyH_ready (rs := [7]) (by kernel_rfl) (by simp) ?_
           refine AllReadyH.cons rfl (fun K hK => ?_) AllReadyH.nil
           refine wp_store_blk aggRS B4 0 [.bool q2, .slice oa2 on2 oc2, .slice oa2' on2' oc2'] rfl (by simp) one3 (.tmp 15) (.tmp 96) rfl rfl rfl ?_
           intro w6 hB6 hM6 hs6
           rw [putAt_all (by rfl)] at hB6
           have hb6 : Below U7.heap.size U7 w6 := hb3.trans (hM6.below hb3.size (fun k hk e => by omega))
           refine hK.out _ _ ((unhide HO) _ hb6) (fun hHeld => ?_)
           clear hK K
           try simp only [Act.put, List.setIfInBounds_toArray]
           refine wpAnyH_done (by kernel_rfl) ?_ _
           refine NoPanic.normal ?_
           clear hHeld hM6 hs6 B4 hb3
           go_wp2_with fail
           go_meet
           case rel =>
            obtain ⟨e1, e2⟩ := unhide HS
            subst e1
            exact ⟨b4, oa2, oa2', on2, oc2, on2', oc2', rfl, hB6, e2, hb6⟩
         case rest =>
          rename World => U8
          obtain ⟨bg, ga, ga', gn, gc, gn', gc', rfl, hBg, hSg, hb8⟩ := hcut
          clear HO
          have I8 := (unhide HI7).below hb8
          have OB8 := (unhide HOB7).below hb8
          have HL8 : Hid (∀ (j : Nat) (hj : j < gl.length), sel (fun k => k ≠ bh) U8 ⟨lb, lo + j, none⟩ = some (.int .i64 gl[j])) := fun j' hj' => sel_mods (Mods.of_below hb8) (fun k hk hS => ⟨fun e => by omega, hS⟩) _ _ (unhide HL7 j' hj')
          clear hb8 HI7 HOB7 HL7 HLY
          have p0 : U8.cell? ⟨w.heap.size, 0, none⟩ = some (.slice pa p.length pcap) := I8.b0.cell 0
          have o0 : U8.cell? ⟨bo, 0, none⟩ = some (.bool true) := OB8.blk.cell 0
          have o1 : U8.cell? ⟨bo, 1, none⟩ = some (.slice oa on oc) := OB8.blk.cell 1
          have o2 : U8.cell? ⟨bo, 2, none⟩ = some (.slice oa' on' oc') := OB8.blk.cell 2
          have g0 : U8.cell? ⟨bg, 0, none⟩ = some (.bool (frmAtL m x.a).isSome) := hBg.cell 0
          have g1 : U8.cell? ⟨bg, 1, none⟩ = some (.slice ga gn gc) := hBg.cell 1
          have g2 : U8.cell? ⟨bg, 2, none⟩ = some (.slice ga' gn' gc') := hBg.cell 2
          have HJ := hide (jmpOk_is p m out x.a)
          have hot := frO_ok (p := p) (m := m) hfr x.a
          have hSg2 := StG.keep (Keeps.of_below I8.bel) hSg
          have hmb := M.loc
          have hmk := M.stk
          have hol := OB8.ok.2
          obtain ⟨gq, hgq⟩ : ∃ gq, gq = (frmAtL m x.a).isSome := ⟨_, rfl⟩
          rw [← hgq] at g0 HJ hBg
          have HI8 := hide I8
          have HOB8 := hide OB8
          have HBg := hide hBg
          clear hgq hSg hBg
          go_wp2_with fail
          refine (rs_under p _ out (frO m x.a) true gq _ _ _ _ U8 (prog_keep (Keeps.of_below I8.bel) (unhide HP)) G.sup hpl (StG.keep sel_world OB8.st) hSg2 OB8.ok.1 hot (by omega) (by omega)).mono ?_
          rintro e U9 ⟨rfl, hb9⟩
          have I9 := (unhide HI8).below hb9
          have OB9 := (unhide HOB8).below hb9
          have HL9 : Hid (∀ (j : Nat) (hj : j < gl.length), sel (fun k => k ≠ bh) U9 ⟨lb, lo + j, none⟩ = some (.int .i64 gl[j])) := fun j' hj' => sel_mods (Mods.of_below hb9) (fun k hk hS => ⟨fun e => by omega, hS⟩) _ _ (unhide HL8 j' hj')
          have q0 : U9.cell? ⟨bg, 0, none⟩ = some (.bool gq) := ((unhide HBg).below hb9 (unhide HBg).lt).cell 0
          have hfin := I9.bel
          have HI9 := hide I9
          have HOB9 := hide OB9
          clear p0 o0 o1 o2 g0 g1 g2 I8 OB8 hot hSg2 hol HI8 HOB8 HL8 HBg hb9 I9 OB9
          obtain ⟨uu, huu⟩ : ∃ uu, uu = underB p out (frO m x.a) := ⟨_, rfl⟩
          rw [← huu] at HJ ⊢
          clear huu
          have hstep : Hid (goK p m x out (j + 1) = if gq && uu then some h3 else none) := by
           show _ = _
           unfold goK
           rw [unhide HGO7, Option.bind_some, ← unhide HBB, unhide HJ]
           rfl
          cases gq with
          | false =>
           have HNO : Hid (refPass p c m = false) := refPass_no hlt (unhide HK) (by rw [unhide HG]; exact goK_none (unhide hstep) _ (by omega))
           clear hstep
           go_wp2_with fail
           go_ret
           exact ⟨ret_bool (unhide HNO).symm, hfin⟩
          | true =>
           cases uu with
           | false =>
            have HNO : Hid (refPass p c m = false) := refPass_no hlt (unhide HK) (by rw [unhide HG]; exact goK_none (unhide hstep) _ (by omega))
            clear hstep
            go_wp2_with fail
            go_ret
            exact ⟨ret_bool (unhide HNO).symm, hfin⟩
           | true =>
            go_wp2_with fail
            go_roundg (gl.length - (j + 1))
            case measure => have := unhide HGJ; omega
            case rel => exact ⟨j + 1, h3, _, _, by omega, rfl, by go_num, unhide hstep, unhide HI9, unhide HOB9, unhide HL9⟩
end Go.Proofs.YtiiokkllmchohaaGreat
namespace Go.Proofs.YtiiokkllmchohaaGreat
open Go.RowKit Go.Shelf
structure RowS (V : World) (p : List LClass) (m : LMeth) (B lb : Nat) (R : List (Option TSt)) (cs : List Value) : Prop where
 blk : Blk V lb 149 cs
 len : cs.length = R.length * 3
 row : ∀ i r, R[i]? = some r → ∃ vl vs, cs[i * 3]? = some (.bool r.isSome) ∧ cs[i * 3 + 1]? = some vl ∧ cs[i * 3 + 2]? = some vs ∧ StG (sel (fun k => B ≤ k ∧ k ≠ lb) V) (hdS r) vl vs ∧ ∀ s, r = some s → StOk p m s
section
variable {w V V' : World} {p : List LClass} {m : LMeth} {B lb : Nat} {R : List (Option TSt)} {cs : List Value} {vp vm1 vm5 vm6 : Value}
theorem RowS.below (h : RowS V p m B lb R cs) (b : Below V.heap.size V V') : RowS V' p m B lb R cs :=
 ⟨h.blk.below b h.blk.lt, h.len, fun i r e => by
  obtain ⟨vl, vs, a, b', c, d, f⟩ := h.row i r e
  exact ⟨vl, vs, a, b', c, StG.keep (sel_mods (Mods.of_below b) fun k hk hS => ⟨fun e => by omega, hS⟩) d, f⟩⟩
theorem RowS.set (h : RowS V p m B lb R cs) {i : Nat} (hi : i < R.length) {g : TSt} {vl vs : Value} (hM : Mods (fun k => k = lb) V V') (hB : Blk V' lb 149 (putAt cs (i * 3) [.bool true, vl, vs])) (hS : StG (sel (fun k => B ≤ k ∧ k ≠ lb) V) g vl vs) (hO : StOk p m g) : RowS V' p m B lb (R.set i (some g)) (putAt cs (i * 3) [.bool true, vl, vs]) := by
 have hf : i * 3 + [Value.bool true, vl, vs].length ≤ cs.length := by have := h.len; simp; omega
 have h3 : [Value.bool true, vl, vs].length = 3 := rfl
 refine ⟨hB, by rw [putAt_length hf, List.length_set]; exact h.len, fun j r e => ?_⟩
 by_cases ej : j = i
 ·subst ej
  rw [List.getElem?_set_self hi] at e
  cases e
  refine ⟨vl, vs, ?_, ?_, ?_, StG.keep (sel_mods hM fun k _ hk => ⟨hk.2, hk⟩) hS, fun s e => by cases e; exact hO⟩
  ·rw [putAt_get hf, if_neg (by omega), if_pos (by omega), show j * 3 - j * 3 = 0 by omega]; rfl
  ·rw [putAt_get hf, if_neg (by omega), if_pos (by omega), show j * 3 + 1 - j * 3 = 1 by omega]; rfl
  ·rw [putAt_get hf, if_neg (by omega), if_pos (by omega), show j * 3 + 2 - j * 3 = 2 by omega]; rfl
 ·rw [List.getElem?_set_ne (fun e => ej e.symm)] at e
  obtain ⟨vl', vs', a, b, c, d, f⟩ := h.row j r e
  have key : ∀ d v, d < 3 → cs[j * 3 + d]? = some v → (putAt cs (i * 3) [.bool true, vl, vs])[j * 3 + d]? = some v := fun d v hd e => by
   rw [putAt_get hf]
   by_cases q : j * 3 + d < i * 3
   ·rw [if_pos q]; exact e
   ·rw [if_neg q, if_neg (by omega)]; exact e
  exact ⟨vl', vs', key 0 _ (by omega) a, key 1 _ (by omega) b, key 2 _ (by omega) c, StG.keep (sel_mods hM fun k _ hk => ⟨hk.2, hk⟩) d, f⟩
theorem RowS.new {n : Nat} (hB : Blk V lb 149 (madeCells (Value.agg #[.bool false, .slice none 0 0, .slice none 0 0]).cells (n * 3)).toList) : RowS V p m B lb (List.replicate n none) (madeCells (Value.agg #[.bool false, .slice none 0 0, .slice none 0 0]).cells (n * 3)).toList := by
 refine ⟨hB, by rw [made_len, List.length_replicate], fun i r e => ?_⟩
 rw [List.getElem?_replicate] at e
 split at e
 ·rename_i hi
  cases e
  refine ⟨.slice none 0 0, .slice none 0 0, ?_, ?_, ?_, ⟨nil_ints, nil_ints⟩, fun s e => by cases e⟩
  ·rw [made_get _ _ _ (by omega) (by decide), show i * 3 % (Value.agg #[.bool false, .slice none 0 0, .slice none 0 0]).cells.size = 0 from by show i * 3 % 3 = 0; omega]; rfl
  ·rw [made_get _ _ _ (by omega) (by decide), show (i * 3 + 1) % (Value.agg #[.bool false, .slice none 0 0, .slice none 0 0]).cells.size = 1 from by show (i * 3 + 1) % 3 = 1; omega]; rfl
  ·rw [made_get _ _ _ (by omega) (by decide), show (i * 3 + 2) % (Value.agg #[.bool false, .slice none 0 0, .slice none 0 0]).cells.size = 2 from by show (i * 3 + 2) % 3 = 2; omega]; rfl
 ·cases e
structure SvI (w V : World) (p : List LClass) (m : LMeth) (lb : Nat) (vp vm1 vm5 vm6 : Value) (R : List (Option TSt)) (cs : List Value) : Prop where
 bel : Below w.heap.size w V
 b0 : Blk V w.heap.size 24 [vp]
 b1 : Blk V (w.heap.size + 1) 63 [.int .i64 m.slot, vm1, .int .i64 m.ret, .int .i64 m.locals, .int .i64 m.stack, vm5, vm6]
 rows : RowS V p m w.heap.size lb R cs
 len : R.length = m.code.length
 lo : w.heap.size + 1 < lb
theorem SvI.below (i : SvI w V p m lb vp vm1 vm5 vm6 R cs) (b : Below V.heap.size V V') : SvI w V' p m lb vp vm1 vm5 vm6 R cs :=
 ⟨i.bel.trans (b.mono i.bel.size), i.b0.below b i.b0.lt, i.b1.below b i.b1.lt, i.rows.below b, i.len, i.lo⟩
theorem SvI.set (i : SvI w V p m lb vp vm1 vm5 vm6 R cs) {k : Nat} (hk : k < R.length) {g : TSt} {vl vs : Value} (hM : Mods (fun k => k = lb) V V') (hB : Blk V' lb 149 (putAt cs (k * 3) [.bool true, vl, vs])) (hS : StG (sel (fun k => w.heap.size ≤ k ∧ k ≠ lb) V) g vl vs) (hO : StOk p m g) : SvI w V' p m lb vp vm1 vm5 vm6 (R.set k (some g)) (putAt cs (k * 3) [.bool true, vl, vs]) := by
 have hlo := i.lo
 exact ⟨i.bel.trans (hM.below i.bel.size (fun k hk e => by omega)), i.b0.mods hM (by omega), i.b1.mods hM (by omega), i.rows.set hk hM hB hS hO, by rw [List.length_set]; exact i.len, i.lo⟩
theorem RowS.at_ (h : RowS V p m B lb R cs) {i : Nat} (hi : i < R.length) : ∃ a n c a' n' c', V.cell? ⟨lb, i * 3, none⟩ = some (.bool (R.getD i none).isSome) ∧ V.cell? ⟨lb, i * 3 + 1, none⟩ = some (.slice a n c) ∧ V.cell? ⟨lb, i * 3 + 2, none⟩ = some (.slice a' n' c') ∧ StG (sel (fun k => B ≤ k ∧ k ≠ lb) V) (hdS (R.getD i none)) (.slice a n c) (.slice a' n' c') ∧ ∀ s, R.getD i none = some s → StOk p m s := by
 have e : R[i]? = some (R.getD i none) := by rw [List.getD_eq_getElem?_getD, List.getElem?_eq_getElem hi]; rfl
 obtain ⟨vl, vs, h0, h1, h2, hS, hO⟩ := h.row i _ e
 obtain ⟨a, _, _, c, rfl, _⟩ := hS.1
 obtain ⟨a', _, _, c', rfl, _⟩ := hS.2
 exact ⟨_, _, _, _, _, _, (h.blk.cell _).trans h0, (h.blk.cell _).trans h1, (h.blk.cell _).trans h2, hS, hO⟩
end
structure OutS (V : World) (p : List LClass) (m : LMeth) (B lb bo : Nat) (out : TSt) (vl vs : Value) : Prop where
 blk : Blk V bo 149 [.bool true, vl, vs]
 st : StG (sel (fun k => B ≤ k ∧ k ≠ lb) V) out vl vs
 ok : StOk p m out
 ne : lb < bo
theorem OutS.below {V V' : World} {p : List LClass} {m : LMeth} {B lb bo : Nat} {out : TSt} {vl vs : Value} (i : OutS V p m B lb bo out vl vs) (b : Below V.heap.size V V') : OutS V' p m B lb bo out vl vs :=
 ⟨i.blk.below b i.blk.lt, StG.keep (sel_mods (Mods.of_below b) fun k hk hS => ⟨fun e => by omega, hS⟩) i.st, i.ok, i.ne⟩
theorem OutS.mods {V V' : World} {p : List LClass} {m : LMeth} {B lb bo : Nat} {out : TSt} {vl vs : Value} (i : OutS V p m B lb bo out vl vs) (hM : Mods (fun k => k = lb) V V') : OutS V' p m B lb bo out vl vs :=
 ⟨i.blk.mods hM (by have := i.ne; omega), StG.keep (sel_mods hM fun k _ hk => ⟨hk.2, hk⟩) i.st, i.ok, i.ne⟩
theorem goesL_nn {p : List LClass} {m : LMeth} {x : LIns} {k : Nat} (hi : insB p m x = true) {y : Int} (hy : y ∈ goesL x k) : 0 ≤ y := by
 unfold goesL at hy
 rcases List.mem_append.1 hy with h | h
 ·split at h
  ·obtain rfl := List.mem_singleton.1 h
   omega
  ·cases h
 ·split at h
  ·rename_i hj
   obtain rfl := List.mem_singleton.1 h
   have J := ins_ok (p := p) (m := m) (op := x.op) (a := x.a) (b := x.b) hi
   have ha := J.jmp (by unfold jumpsB at hj; simp only [Bool.or_eq_true, beq_iff_eq] at hj; omega)
   omega
  ·cases h
def SolvdR (p : List LClass) (m : LMeth) (r : Option (List (Option TSt))) (w w' : World) (e : Ending) : Prop :=
 (r = none → e = .returned (.tuple #[.slice none 0 0, .bool false])) ∧ (∀ R, r = some R → ∃ lb cs, e = .returned (.tuple #[.slice (some ⟨lb, 0, none⟩) m.code.length m.code.length, .bool true]) ∧ RowS w' p m w.heap.size lb R cs ∧ R.length = m.code.length ∧ w.heap.size ≤ lb) ∧ Below w.heap.size w w'
theorem infoRS : (Tryz.prog.info? 149).map (fun i => (i.zero, i.size, i.bytes)) = some (some (.agg #[.bool false, .slice none 0 0, .slice none 0 0]), 3, 56) := by kernel_rfl
theorem RjR.form {p : List LClass} {r : Option TSt} {out : TSt} {oa oa' : Option Addr} {on oc on' oc' : Nat} {w w' : World} {e : Ending} {S : Nat → Prop} [DecidablePred S] (h : RjR p r.isSome true (hdS r) out (.slice oa on oc) (.slice oa' on' oc') w w' e) (hS : StG (sel S w) out (.slice oa on oc) (.slice oa' on' oc')) (hw : ∀ k, w.heap.size ≤ k → S k) :
  ∃ q a n c a' n' c' ok, e = .returned (.tuple #[.agg #[.bool q, .slice a n c, .slice a' n' c'], .bool ok]) ∧ (∀ g, cJn p r out = some g → q = true ∧ ok = true ∧ StG (sel S w') g (.slice a n c) (.slice a' n' c')) ∧ (cJn p r out = none → ok = false) ∧ Below w.heap.size w w' := by
 obtain ⟨h1, h2, h3, hb⟩ := h
 have hk : GLe (sel S w) (sel S w') := sel_mods (Mods.of_below hb) fun k hk hS => ⟨fun e => by omega, hS⟩
 cases r with
 | none =>
  have e1 := h1 rfl
  exact ⟨true, _, _, _, _, _, _, true, e1, fun g e => (by cases e; exact ⟨rfl, rfl, StG.keep hk hS⟩), fun e => (by cases e), hb⟩
 | some t =>
  by_cases hn : t.stk.length = out.stk.length
  ·obtain ⟨vl, vs, rfl, hN⟩ := h3 rfl hn
   have hN' := StG.keep (g' := sel S w') (sel_mods (Mods.refl (fun _ => False) w') fun k hk hS => ⟨fun e => e, hw k hS⟩) hN
   obtain ⟨a, _, _, c, rfl, _⟩ := hN'.1
   obtain ⟨a', _, _, c', rfl, _⟩ := hN'.2
   refine ⟨true, _, _, _, _, _, _, true, rfl, fun g e => ?_, fun e => ?_, hb⟩
   ·unfold cJn at e
    dsimp only at e
    rw [if_pos hn] at e
    cases e
    exact ⟨rfl, rfl, hN'⟩
   ·unfold cJn at e
    dsimp only at e
    rw [if_pos hn] at e
    cases e
  ·have e1 := h2 rfl hn
   refine ⟨false, _, _, _, _, _, _, false, e1, fun g e => ?_, fun _ => rfl, hb⟩
   unfold cJn at e
   dsimp only at e
   rw [if_neg hn] at e
   cases e
end Go.Proofs.YtiiokkllmchohaaGreat
