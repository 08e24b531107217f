/- A run whose steps are known to be in order, told by a test. -/
import Derived.Test.YtiiokkllmchohaaGreatT08
import Derived.Test.YtiiokkllmchohaaGreatT17
import Derived.Test.YtiiokkllmchohaaGreatT29
import Derived.Test.YtiiokkllmchohaaGreatT32
import Derived.Test.YtiiokkllmchohaaGreatT35
import Derived.Test.YtiiokkllmchohaaGreatT36
/- AwkP -/
namespace Go.Proofs.YtiiokkllmchohaaGreat
open Go.RowKit Go.Shelf

instance (n : Nat) (t : Int) : Decidable (tyOk n t) := inferInstanceAs (Decidable (0 ≤ t ∧ t < (n : Int) + 3))
def frOkB (p : List LClass) (f : MFr) : Bool :=
 f.m.code.all (insB p f.m) && decide (f.m.code.length ≤ 40) && decide (f.pc ≤ f.m.code.length) && f.m.code.all (fun i => (wantsM p f.m.ret i.op i.a i.b).all (fun t => decide (tyOk p.length t)) && decide ((wantsM p f.m.ret i.op i.a i.b).length ≤ 4194304)) && f.stk.all (fun v => decide (tyOk p.length v.kind)) && decide (f.stk.length ≤ 4194303) && decide (f.loc.length ≤ 4194304) && decide (f.m.locals = (f.loc.length : Int))
theorem frOkB_sound {p : List LClass} {f : MFr} (h : frOkB p f = true) : FrOkM p f := by
 unfold frOkB at h
 simp only [Bool.and_eq_true, decide_eq_true_eq, List.all_eq_true] at h
 obtain ⟨⟨⟨⟨⟨⟨⟨h1, h2⟩, h3⟩, h4⟩, h5⟩, h6⟩, h7⟩, h8⟩ := h
 exact ⟨h1, h2, h3, fun i hi => (h4 i hi).1, fun i hi => (h4 i hi).2, h5, h6, h7, h8⟩
def objB (o : Option Nat) (q : Nat → Bool) : Bool := match o with
 | none => true
 | some k => q k
theorem objB_sound {o : Option Nat} {q : Nat → Bool} (h : objB o q = true) {k : Nat} (hk : o = some k) : q k = true := by
 subst hk
 exact h
def in1 (op : Int) : Bool := op == 2 || op == 14 || op == 15 || op == 8 || op == 18 || op == 10 || op == 17 || op == 19 || op == 13
def in2 (op : Int) : Bool := op == 3 || op == 4 || op == 5 || op == 6 || op == 20 || op == 11
def doOkB (p : List LClass) (st : MaSt) (f : MFr) (op b : Int) : Bool :=
 (!in1 op || decide (1 ≤ f.stk.length)) && (!in2 op || decide (2 ≤ f.stk.length)) && decide (f.m.locals = (f.loc.length : Int)) && decide (f.stk.length < 4194303) && decide (f.loc.length ≤ 4194304) &&
  (!(op == 10) || objB (topV f.stk).obj (fun k => decide (b.toNat < (objAt st k).flds.length))) && (!(op == 11) || objB (topV f.stk.dropLast).obj (fun k => decide (b.toNat < (objAt st k).flds.length))) &&
  (!(op == 17) || objB (topV f.stk).obj (fun k => decide (0 ≤ (objAt st k).cls) && decide ((objAt st k).cls < (p.length : Int)))) && st.objs.all (fun o => decide (o.flds.length ≤ 4194304)) && decide (st.objs.length ≤ 100) && decide (st.out.length ≤ 4194304)
theorem doOkB_sound {p : List LClass} {st : MaSt} {f : MFr} {op b : Int} (h : doOkB p st f op b = true) : DoOk p st f op b := by
 unfold doOkB at h
 simp only [Bool.and_eq_true, Bool.or_eq_true, Bool.not_eq_true', decide_eq_true_eq, List.all_eq_true] at h
 obtain ⟨⟨⟨⟨⟨⟨⟨⟨⟨⟨h1, h2⟩, h3⟩, h4⟩, h5⟩, h6⟩, h7⟩, h8⟩, h9⟩, h10⟩, h11⟩ := h
 refine ⟨⟨fun ho => ?_, fun ho => ?_⟩, h3, h4, h5, fun ho k hk => ?_, fun ho k hk => ?_, fun ho k hk => ?_, fun k => ?_, h10, h11⟩
 ·rcases h1 with h1 | h1
  ·exfalso
   have : in1 op = true := by
    unfold in1
    rcases ho with rfl | rfl | rfl | rfl | rfl | rfl | rfl | rfl | rfl <;> rfl
   rw [this] at h1; cases h1
  ·exact h1
 ·rcases h2 with h2 | h2
  ·exfalso
   have : in2 op = true := by
    unfold in2
    rcases ho with rfl | rfl | rfl | rfl | rfl | rfl <;> rfl
   rw [this] at h2; cases h2
  ·exact h2
 ·subst ho
  rcases h6 with h6 | h6
  ·cases h6
  ·simpa using objB_sound h6 hk
 ·subst ho
  rcases h7 with h7 | h7
  ·cases h7
  ·simpa using objB_sound h7 hk
 ·subst ho
  rcases h8 with h8 | h8
  ·cases h8
  ·simpa using objB_sound h8 hk
 ·unfold objAt
  cases e : st.objs[k]? with
  | none => simp
  | some o => exact h9 o (List.mem_of_getElem? e)
def callOkB (p : List LClass) (st : MaSt) (f : MFr) (a b : Int) : Bool :=
 decide ((findM p a b).args.length + 1 ≤ f.stk.length) && objB (topV (f.stk.take (f.stk.length - (findM p a b).args.length))).obj (fun k => decide (0 ≤ (objAt st k).cls) && decide ((objAt st k).cls < (p.length : Int)) && (methOf p (objAt st k).cls b).isSome && decide (1 + ((findM p a b).args.length : Int) ≤ (findM p (objAt st k).cls b).locals) && decide ((findM p (objAt st k).cls b).locals ≤ 8))
theorem callOkB_sound {p : List LClass} {st : MaSt} {f : MFr} {a b : Int} (h : callOkB p st f a b = true) : CallOk p st f a b := by
 unfold callOkB at h
 simp only [Bool.and_eq_true, decide_eq_true_eq] at h
 refine ⟨h.1, fun k hk => ?_⟩
 have := objB_sound h.2 hk
 simp only [Bool.and_eq_true, decide_eq_true_eq] at this
 obtain ⟨⟨⟨⟨h1, h2⟩, h3⟩, h4⟩, h5⟩ := this
 exact ⟨h1, h2, h3, h4, h5⟩
def stepOkB (p : List LClass) (fuel : Int) (st : MaSt) : Bool :=
 decide (st.frames.length ≤ 30) && st.frames.all (fun g => decide (g.stk.length ≤ 4194304)) && decide ((st.steps : Int) ≤ fuel) && match st.frames.getLast? with
  | none => true
  | some f => frOkB p f && (lookP p fuel st.steps f != 0 || (doOkB p st f (insAt f.m f.pc).op (insAt f.m f.pc).b && ((insAt f.m f.pc).op != 12 || callOkB p st f (insAt f.m f.pc).a (insAt f.m f.pc).b)))
theorem stepOkB_sound {p : List LClass} {fuel : Int} {st : MaSt} (h : stepOkB p fuel st = true) : StepOk p fuel st := by
 unfold stepOkB at h
 simp only [Bool.and_eq_true, decide_eq_true_eq, List.all_eq_true] at h
 obtain ⟨⟨⟨h1, h2⟩, h3⟩, h4⟩ := h
 have key : ∀ f, st.frames.getLast? = some f → frOkB p f = true ∧ (lookP p fuel st.steps f = 0 → doOkB p st f (insAt f.m f.pc).op (insAt f.m f.pc).b = true ∧ ((insAt f.m f.pc).op = 12 → callOkB p st f (insAt f.m f.pc).a (insAt f.m f.pc).b = true)) := fun f hf => by
  rw [hf] at h4
  simp only [Bool.and_eq_true, Bool.or_eq_true, bne_iff_ne, ne_eq] at h4
  refine ⟨h4.1, fun hl => ?_⟩
  rcases h4.2 with h | h
  ·exact absurd hl h
  ·refine ⟨h.1, fun ho => ?_⟩
   rcases h.2 with h | h
   ·exact absurd ho h
   ·exact h
 exact ⟨fun f hf => frOkB_sound (key f hf).1, fun f hf hl => doOkB_sound ((key f hf).2 hl).1, fun f hf hl ho => callOkB_sound (((key f hf).2 hl).2 ho), h1, h2, h3⟩
def runOkB (p : List LClass) (fuel : Int) : Nat → MaSt → Bool
 | 0, _ => true
 | n + 1, st => stepOkB p fuel st && match stepM p fuel st with
  | .inl st' => runOkB p fuel n st'
  | .inr _ => true
theorem runOkB_sound {p : List LClass} {fuel : Int} : ∀ (n : Nat) (st : MaSt), runOkB p fuel n st = true → RunOk p fuel n st
 | 0, _, _ => trivial
 | n + 1, st, h => by
  unfold runOkB at h
  simp only [Bool.and_eq_true] at h
  refine ⟨stepOkB_sound h.1, fun st' hs => ?_⟩
  have h2 := h.2
  rw [hs] at h2
  exact runOkB_sound n st' h2
end Go.Proofs.YtiiokkllmchohaaGreat
/- The code's Run, of a program that holds, a method that is there. -/
namespace Go.Proofs.YtiiokkllmchohaaGreat
open Go.RowKit Go.Shelf
attribute [local go_sem ↓] Go.wp_at_zero Go.wp_at_succ
attribute [local go_sem] frz_drew

set_option maxHeartbeats 1000000 in
set_option maxRecDepth 100000 in
theorem code_takes (p : List LClass) (vc : Value) (c slot : Int) (n : Nat) (w : World) (hp : RProg w vc p) (hs : SupOk p p.length) (hz : szProg p ≤ 4194304) (c0 : 0 ≤ c) (c1 : c < (p.length : Int)) (hm : (methOf p c slot).isSome = true) (hn : (findM p c slot).args.length = n) (hi : ∀ t ∈ (findM p c slot).args, t = 0) (hn4 : n ≤ 4194304) :
  Calls Tryz.prog 59 #[.agg #[vc], .int .i64 c, .int .i64 slot, .int .i64 (n : Int)] w fun e w' => e = .returned (.bool true) ∧ Below w.heap.size w w' := by
 obtain ⟨ck, hck⟩ := Option.isSome_iff_exists.1 hm
 have HP := hide hp
 have HCK := hide hck
 obtain ⟨pa, _, _, pcap, rfl, _⟩ := hp
 have hbel := box_below w (.cells #[.slice pa p.length pcap] 24)
 have B0 := Blk.new w #[.slice pa p.length pcap] 24
 clear hck
 go_enter Tryz.func59, Tryz.ntmps59
 go_wp2_with fail
 generalize w.alloc _ = W at *
 refine (code_hasclass p _ c W (prog_keep (Keeps.of_below hbel) (unhide HP)) (Nat.le_trans (szProg_len p) hz)).mono ?_
 rintro e w1 ⟨rfl, hb1⟩
 rw [show placeB c p.length = true by unfold placeB; simp; omega]
 have hbw1 := hbel.trans (hb1.mono hbel.size)
 have q0 : w1.cell? ⟨w.heap.size, 0, none⟩ = some (.slice pa p.length pcap) := (B0.below hb1 B0.lt).cell 0
 go_wp2_with fail
 refine (code_findmethod0 p _ p.length c slot w w1 (unhide HP) hbw1 hs (Nat.le_refl _) (by omega) c1 hz).mono ?_
 rintro e w2 ⟨o, aa, ca, fa, ac, cc, fc, rfl, hfm, hb2⟩
 obtain ⟨hma, hmv⟩ := hfm ck (unhide HCK)
 obtain rfl := findM_of (unhide HCK) hma
 have hme : (methOf p c slot).isSome = true := hm
 rw [hme]
 obtain ⟨hva, _, _⟩ := hmv
 obtain ⟨sa, sb, soff, scap, hse, _, hsa, hsr⟩ := ints_open hva
 simp only [Value.slice.injEq, true_and] at hse
 obtain ⟨rfl, rfl⟩ := hse
 generalize findM p c slot = o at *
 have HI := hide hi
 have HSR := hide hsr
 have HSA := hide hsa
 subst hn
 have hone : ∀ v ∈ [Value.int .i64 o.slot, .slice aa o.args.length ac, .int .i64 o.ret, .int .i64 o.locals, .int .i64 o.stack, .slice ca o.code.length cc, .slice fa o.frames.length fc], v.oneCell' = true := fun v hv => by
  simp only [List.mem_cons, List.not_mem_nil, or_false] at hv
  rcases hv with rfl | rfl | rfl | rfl | rfl | rfl | rfl <;> rfl
 clear hfm hma hme hva hsr hsa hi
 go_wp2_with (refine wpList_store_blk aggMeth (Blk.new w2 #[.int .i64 0, .slice none 0 0, .int .i64 0, .int .i64 0, .int .i64 0, .slice none 0 0, .slice none 0 0] 63) 0 _ rfl (by simp) hone (.tmp 9) (.tmp 22) rfl rfl rfl rfl ?_; intro w3 hB3 hM3 hs3; rw [putAt_all (by rfl)] at hB3; have m1 : w3.cell? ⟨w2.heap.size, 1, none⟩ = some (.slice aa o.args.length ac) := hB3.cell 1)
 have hb3 := (box_below w2 _).trans (hM3.below (by simp) (fun k hk e => by omega))
 have hbw3 := (hbw1.trans (hb2.mono hbw1.size)).trans (hb3.mono (hbw1.trans (hb2.mono hbw1.size)).size)
 go_loopw [36] (fun i wr => ∃ (k : Nat), k ≤ o.args.length ∧ i = .int .i64 k ∧ wr = w3) (fun i _ => o.args.length - (intOf i).toNat)
 case atStart => exact ⟨0, Nat.zero_le _, rfl, rfl⟩
 case round =>
  obtain ⟨k, hk, rfl, rfl⟩ := hrel
  by_cases hlt : k < o.args.length
  ·obtain rfl := (unhide HSA) (ne_nil_of_lt hlt)
   have r0 := Keeps.of_below hbw3 _ _ ((unhide HSR) k hlt)
   have hz0 := (unhide HI) _ (List.getElem_mem hlt)
   rw [hz0] at r0
   have k0 : (0 : Int) ≤ (k : Int) := by omega
   have k1 : (k : Int) < (o.args.length : Int) := by omega
   clear hz0
   go_wp2_with fail
   refine ⟨⟨k + 1, by omega, by go_num, trivial⟩, by simp [intOf]; omega⟩
  ·obtain rfl : k = o.args.length := by omega
   go_wp2_with fail
   go_ret
   exact ⟨rfl, hbw3⟩
def RunX (p : List LClass) (c slot : Int) (R : MaSt × Int) (w w' : World) (e : Ending) : Prop :=
 ∃ vpr, e = .returned (.tuple #[.agg #[.int .i64 R.2, .int .i64 (if R.2 = 1 then tellV R.1 R.1.told (findM p c slot).ret else 0), vpr, .int .i64 (R.1.steps : Int)], .int .i64 0]) ∧ w'.ownsRow w.heap.size 3 1 vpr R.1.out.length (R.1.out.map (Value.int .i64)) ∧ Below w.heap.size w w'
set_option maxHeartbeats 1000000 in
set_option maxRecDepth 100000 in
theorem code_run (p : List LClass) (vp : Value) (c slot : Int) (args : List Int) (va : Value) (fuel : Int) (w : World) (hp : RProg w vp p) (hwf : wfProg p) (hz : szProg p ≤ 4194304) (hF : formI p = 0) (hal : ∀ a b, (methOf p a b).isSome = true → 0 ≤ a → a < (p.length : Int) → (findM p a b).args.length ≤ 4194303) (c0 : 0 ≤ c) (c1 : c < (p.length : Int)) (hm : (methOf p c slot).isSome = true) (hva : SlAt 1 (RInt w) va args) (hn : (findM p c slot).args.length = args.length) (hi : ∀ t ∈ (findM p c slot).args, t = 0) (hl : 1 + (args.length : Int) ≤ (findM p c slot).locals) (hl8 : (findM p c slot).locals ≤ 8) (hfu : fuel ≤ 5000) (hf0 : 0 ≤ fuel)
  (N : Nat) (R : MaSt × Int) (hok : RunOk p fuel N (startM p c slot args)) (hrun : runM p fuel N (startM p c slot args) = some R) :
  Calls Tryz.prog 27 #[.agg #[vp], .int .i64 c, .int .i64 slot, va, .int .i64 fuel, .bool true] w fun e w' => RunX p c slot R w w' e := by
 have G := form_good hF hz
 have HP := hide hp
 have HR := hide (And.intro hok hrun)
 have HVA := hide hva
 obtain ⟨aa, _, _, acap, rfl, _⟩ := hva
 obtain ⟨pa, _, _, pcap, rfl, _⟩ := hp
 have hbel : Below w.heap.size w ((w.alloc (.cells #[.slice pa p.length pcap] 24)).alloc (.cells #[.int .i64 0, .int .i64 0, .slice none 0 0, .int .i64 0] 69)) := box2_below _ _ _
 have B0 := (Blk.new w #[.slice pa p.length pcap] 24).alloc (.cells #[.int .i64 0, .int .i64 0, .slice none 0 0, .int .i64 0] 69)
 have B1 := Blk.new (w.alloc (.cells #[.slice pa p.length pcap] 24)) #[.int .i64 0, .int .i64 0, .slice none 0 0, .int .i64 0] 69
 rw [World.size_alloc] at B1
 have hal4 : args.length ≤ 4194304 := by omega
 have hn0 : ¬ fuel < 0 := by omega
 have hn5 : ¬ 5000 < fuel := by omega
 have HF := hide hF
 have HS := hide (And.intro hm (And.intro hn hi))
 clear hok hrun hF hm hn hi
 go_enter Tryz.func27, Tryz.ntmps27
 go_wp2_with fail
 generalize (w.alloc _).alloc _ = W at *
 refine (code_check p _ W (prog_keep (Keeps.of_below hbel) (unhide HP)) hwf hz).mono ?_
 rintro e w1 ⟨rfl, hb1⟩
 rw [unhide HF]
 have hbw1 := hbel.trans (hb1.mono hbel.size)
 have C0 := B0.below hb1 (by have := B0.lt; omega)
 have C1 := B1.below hb1 (by have := B1.lt; omega)
 have q0 : w1.cell? ⟨w.heap.size, 0, none⟩ = some (.slice pa p.length pcap) := C0.cell 0
 go_wp2_with fail
 obtain ⟨hm, hn, hi⟩ := unhide HS
 refine (code_takes p _ c slot args.length w1 (prog_keep (Keeps.of_below hbw1) (unhide HP)) G.sup hz c0 c1 hm hn hi hal4).mono ?_
 rintro e w2 ⟨rfl, hb2⟩
 have hbw2 := hbw1.trans (hb2.mono hbw1.size)
 have D0 := C0.below hb2 C0.lt
 have D1 := C1.below hb2 C1.lt
 have q2 : w2.cell? ⟨w.heap.size, 0, none⟩ = some (.slice pa p.length pcap) := D0.cell 0
 have HM := hide hm
 clear hm hn hi q0
 go_wp2_with fail
 refine (ma_run p _ c slot args _ fuel w2 (prog_keep (Keeps.of_below hbw2) (unhide HP)) G hal c0 c1 (unhide HM) (ints_keep (Keeps.of_below hbw2) (unhide HVA)) hl hl8 hfu hf0 N R (unhide HR).1 (unhide HR).2 true (.inl rfl)).mono ?_
 rintro e w3 ⟨vpr, rfl, hpr, hb3⟩
 have E1 := D1.below hb3 D1.lt
 obtain ⟨pra, prc, rfl⟩ := own_form hpr
 generalize hvv : (if R.2 = 1 then tellV R.1 R.1.told (findM p c slot).ret else 0) = vv at *
 have HVV := hide hvv
 have HPR := hide hpr
 clear hvv hpr
 go_wp2_with (refine wpList_store_blk aggOut E1 0 [.int .i64 R.2, .int .i64 vv, .slice pra R.1.out.length prc, .int .i64 (R.1.steps : Int)] rfl (by simp) (fun v hv => by simp only [List.mem_cons, List.not_mem_nil, or_false] at hv; rcases hv with rfl | rfl | rfl | rfl <;> rfl) (.tmp 12) (.tmp 52) rfl rfl rfl rfl ?_; intro w4 hB4 hM4 hs4; rw [putAt_all (by rfl)] at hB4)
 refine bodyPost_ret (results_blk2 rfl aggOut hB4 rfl rfl) rfl ?_
 have hbw3 := hbw2.trans (hb3.mono hbw2.size)
 refine ⟨_, by rw [unhide HVV]; rfl, own_base (own_mods (unhide HPR) hM4 (fun g hg e => ?_)) hbw2.size, hbw3.trans (hM4.below hbw3.size (fun k hk e => by omega))⟩
 have := ((unhide HPR).lt g hg).1
 have := D1.lt
 omega
end Go.Proofs.YtiiokkllmchohaaGreat
/- The code's takesNumbers, whatever it answers. -/
namespace Go.Proofs.YtiiokkllmchohaaGreat
open Go.RowKit Go.Shelf
attribute [local go_sem ↓] Go.wp_at_zero Go.wp_at_succ
attribute [local go_sem] frz_drew

end Go.Proofs.YtiiokkllmchohaaGreat
/- The code's Run, whatever it answers. -/
namespace Go.Proofs.YtiiokkllmchohaaGreat
open Go.RowKit Go.Shelf
attribute [local go_sem ↓] Go.wp_at_zero Go.wp_at_succ
attribute [local go_sem] frz_drew

end Go.Proofs.YtiiokkllmchohaaGreat
/- The laws' own helpers: passes, sameOutcome. -/
namespace Go.Proofs.YtiiokkllmchohaaGreat
open Go.RowKit Go.Shelf
attribute [local go_sem ↓] Go.wp_at_zero Go.wp_at_succ
attribute [local go_sem] frz_drew

theorem checkI_own {p : List LClass} {c k : Int} {m : LMeth} (hF : formI p = 0) (h : ownM p c k = some m) : checkI p c k = if passB p c m then 0 else 5 := by
 unfold checkI
 rw [if_pos hF, h]
set_option maxHeartbeats 1000000 in
set_option maxRecDepth 100000 in
theorem keep_passes (p : List LClass) (vc : Value) (w : World) (hp : RProg w vc p) (hwf : wfProg p) (hF : formI p = 0) (hz : szProg p ≤ 4194304) :
  Calls Tryz.prog 26 #[.agg #[vc]] w fun e w' => e = .returned (.bool (passAllB p)) ∧ Below w.heap.size w w' := by
 have hpl : p.length ≤ 4194304 := Nat.le_trans (szProg_len p) hz
 have HP := hide hp
 obtain ⟨pa, pb, poff, pcap, rfl, _, hpa, hpr⟩ := sl_open hp
 have HPR := hide hpr
 have HF := hide hF
 clear hp hpr hF
 go_enter Tryz.func26, Tryz.ntmps26
 go_wp2_with fail
 generalize hW : w.alloc _ = W
 have hbel : Below w.heap.size w W := by rw [← hW]; exact box_below _ _
 have hbox : W.cell? ⟨w.heap.size, 0, none⟩ = some (.slice pa p.length pcap) := by rw [← hW]; exact box_cell _ _ _ 0
 clear hW
 go_loopw [3] (fun s wr => ∃ c : Nat, c ≤ p.length ∧ s = .int .i64 c ∧ (List.range c).all (passCB p) = true ∧ Below W.heap.size W wr) (fun s _ => p.length - (intOf s).toNat)
 case atStart => exact ⟨0, Nat.zero_le _, rfl, rfl, Below.refl _ _⟩
 case round =>
  obtain ⟨c, hc, rfl, hall, hbr⟩ := hrel
  obtain ⟨wo, rfl⟩ : ∃ wo : World, wo = wr := ⟨_, rfl⟩
  have hfin : Below w.heap.size w wo := hbel.trans (hbr.mono hbel.size)
  have e0 := Keeps.of_below hbr _ _ hbox
  by_cases hlt : c < p.length
  ·obtain rfl := hpa (ne_nil_of_lt hlt)
   obtain ⟨vf, vm, c0, c1, c2, hf, hmt⟩ := unhide HPR c hlt
   have hxl : szClass p[c] ≤ 4194304 := Nat.le_trans (szClass_le (List.getElem_mem hlt)) hz
   have HO := hide (fun (k : Nat) (hk : k < p[c].meths.length) => checkI_own (unhide HF) (ownM_some hlt hk))
   have HNO := hide (fun h : p[c].meths.all (passB p (c : Int)) = false => range_no (f := passCB p) hlt (by rw [passCB_at hlt]; exact h))
   have HS := hide (show p[c].meths.all (passB p (c : Int)) = true → (List.range (c + 1)).all (passCB p) = true from fun h => by rw [range_snoc _ _ hall, passCB_at hlt]; exact h)
   clear hall
   generalize p[c] = x at *
   obtain ⟨ma, mb, moff, mcap, rfl, hmcap, hma, hmr⟩ := sl_open hmt
   have hms : x.meths.length ≤ 4194304 := Nat.le_trans (szMeths_le x) hxl
   have HC2 := hide c2
   have hk0 : (0 : Int) ≤ (c : Int) := by omega
   have hk1 : (c : Int) < (p.length : Int) := by omega
   clear hmr hmt c0 c1 c2 hf hma
   go_wp2_with fail
   go_loopw [4] (fun s wr => ∃ k : Nat, k ≤ x.meths.length ∧ s = .int .i64 k ∧ (x.meths.take k).all (passB p (c : Int)) = true ∧ Below W.heap.size W wr) (fun s _ => x.meths.length - (intOf s).toNat)
   case atStart => exact ⟨0, Nat.zero_le _, rfl, rfl, hbr⟩
   case round =>
    obtain ⟨k, hk, rfl, hall2, hbr2⟩ := hrel
    have hf2 : Below w.heap.size w wr := hbel.trans (hbr2.mono hbel.size)
    have e1 := Keeps.of_below hbr2 _ _ hbox
    have g2 := Keeps.of_below hf2 _ _ (unhide HC2)
    have hlt0 := cell_lt e1
    have hlt1 := cell_lt g2
    by_cases hlt2 : k < x.meths.length
    ·have HN2 := hide (fun h : passB p (c : Int) x.meths[k] = false => all_no (f := passB p (c : Int)) hlt2 h)
     have hS2 := all_snoc (f := passB p (c : Int)) hlt2
     rw [hall2, Bool.true_and] at hS2
     have HS2 := hide hS2
     have HCH := hide (unhide HO k hlt2)
     clear hS2 hall2
     generalize x.meths[k] = m at *
     go_wp2_with fail
     refine (code_chk p _ (c : Int) (k : Int) wr (prog_keep (Keeps.of_below hf2) (unhide HP)) hwf hz).mono ?_
     rintro e w1 ⟨rfl, hb1⟩
     rw [unhide HCH]
     have hbn := hbr2.trans (hb1.mono hbr2.size)
     cases hq : passB p (c : Int) m with
     | false =>
      have HQ := hide (unhide HNO (unhide HN2 hq))
      clear hq e1 g2
      go_wp2_with fail
      go_ret
      exact ⟨ret_bool (show false = passAllB p from (unhide HQ).symm), hbel.trans (hbn.mono hbel.size)⟩
     | true =>
      have HQ := hide hq
      clear hq e1 g2
      go_wp2_with fail
      refine ⟨⟨k + 1, by omega, by go_num, by rw [unhide HS2, unhide HQ], hbn⟩, by simp [intOf]; omega⟩
    ·have hmall : x.meths.all (passB p (c : Int)) = true := by rw [← hall2, List.take_of_length_le (by omega)]
     have HM := hide hmall
     clear hall2 hmall
     go_wp2
     refine ⟨⟨c + 1, by omega, by go_num, unhide HS (unhide HM), hbr2⟩, by simp [intOf]; omega⟩
  ·obtain rfl : c = p.length := by omega
   have HA := hide hall
   clear hall
   go_wp2
   go_ret
   exact ⟨ret_bool (show true = passAllB p from (unhide HA).symm), hfin⟩
end Go.Proofs.YtiiokkllmchohaaGreat
/- The document's example: what is told of it, reckoned. -/
namespace Go.Proofs.YtiiokkllmchohaaGreat
open Go.RowKit Go.Shelf

theorem exP_chk : checkI exP 0 1 = 0 := by kernel_rfl
def exM0 : LMeth := ⟨0, [], 0, 1, 2, [⟨1, 0, 0⟩, ⟨10, 0, 0⟩, ⟨13, 0, 0⟩], []⟩
theorem exP_own : ownM exP 0 0 = some exM0 := by kernel_rfl
theorem exP_inf : (solveN exP exM0 9 (putP sv0 0 (beginS 0 exM0))).map (fun r => r.map fun s => (frmL exM0 s exM0.code.length).length) = some (some 3) := by kernel_rfl
theorem exP_run : (runM exP 100 30 (startM exP 0 1 [7])).map (fun R => (R.2, if R.2 = 1 then tellV R.1 R.1.told (findM exP 0 1).ret else 0)) = some (1, 7) := by kernel_rfl
theorem exP_ok : runOkB exP 100 30 (startM exP 0 1 [7]) = true := by kernel_rfl
theorem exP_sz : szProg exP ≤ 4194304 := by decide
theorem find_len {p : List LClass} {n : Nat} (h : ∀ x ∈ p, ∀ m ∈ x.meths, m.args.length ≤ n) (a b : Int) : (findM p a b).args.length ≤ n := by
 unfold findM
 cases e : methOf p a b with
 | none => simp
 | some ck =>
  rw [Option.bind_some]
  cases e2 : methAt p ck with
  | none => simp
  | some o =>
   unfold methAt at e2
   cases e3 : p[ck.1]? with
   | none => rw [e3] at e2; simp at e2
   | some x =>
    rw [e3] at e2
    exact h x (List.mem_of_getElem? e3) o (List.mem_of_getElem? (by simpa using e2))
theorem exP_len (a b : Int) : (findM exP a b).args.length ≤ 3 := find_len (by decide) a b
end Go.Proofs.YtiiokkllmchohaaGreat
/- The document's example, made by the keeper. -/
namespace Go.Proofs.YtiiokkllmchohaaGreat
open Go.RowKit Go.Shelf
attribute [local go_sem ↓] Go.wp_at_zero Go.wp_at_succ
attribute [local go_sem] frz_drew

theorem blk_new_here {W : World} {cs : Array Value} {t : TypeId} {b : Nat} (h : b = W.heap.size) : Blk (W.alloc (.cells cs t)) b t cs.toList := h ▸ Blk.new W cs t
set_option maxHeartbeats 2000000 in
set_option maxRecDepth 100000 in
theorem keep_cell (w : World) : Calls Tryz.prog 33 #[] w fun e w' => ∃ v, e = .returned (.agg #[v]) ∧ RProg w' v exP ∧ Below w.heap.size w w' := by
 go_enter Tryz.func33, Tryz.ntmps33
 go_wp2_with fail
 have hbel : Below w.heap.size w (((((((((w.alloc (.cells #[.slice (some ⟨w.heap.size + 1 + 1 + 1 + 1 + 1 + 1 + 1 + 1, 0, none⟩) 1 1] 24)).alloc (.cells #[.int .i64 1, .int .i64 0, .int .i64 0, .int .i64 10, .int .i64 0, .int .i64 0, .int .i64 13, .int .i64 0, .int .i64 0] 60)).alloc (.cells #[.int .i64 0, .slice none 0 0, .int .i64 0, .int .i64 1, .int .i64 2, .slice (some ⟨w.heap.size + 1, 0, none⟩) 3 3, .slice none 0 0] 63)).alloc (.cells #[.int .i64 0] 43)).alloc (.cells #[.int .i64 1, .int .i64 0, .int .i64 0, .int .i64 1, .int .i64 1, .int .i64 0, .int .i64 11, .int .i64 0, .int .i64 0, .int .i64 1, .int .i64 0, .int .i64 0, .int .i64 12, .int .i64 0, .int .i64 0, .int .i64 13, .int .i64 0, .int .i64 0] 60)).alloc (.cells #[.int .i64 1, .slice (some ⟨w.heap.size + 1 + 1 + 1, 0, none⟩) 1 1, .int .i64 0, .int .i64 2, .int .i64 3, .slice (some ⟨w.heap.size + 1 + 1 + 1 + 1, 0, none⟩) 6 6, .slice none 0 0] 63)).alloc (.cells #[.int .i64 0] 43)).alloc (.cells #[.int .i64 0, .slice none 0 0, .int .i64 0, .int .i64 1, .int .i64 2, .slice (some ⟨w.heap.size + 1, 0, none⟩) 3 3, .slice none 0 0, .int .i64 1, .slice (some ⟨w.heap.size + 1 + 1 + 1, 0, none⟩) 1 1, .int .i64 0, .int .i64 2, .int .i64 3, .slice (some ⟨w.heap.size + 1 + 1 + 1 + 1, 0, none⟩) 6 6, .slice none 0 0] 63)).alloc (.cells #[.int .i64 (-1), .slice (some ⟨w.heap.size + 1 + 1 + 1 + 1 + 1 + 1, 0, none⟩) 1 1, .slice (some ⟨w.heap.size + 1 + 1 + 1 + 1 + 1 + 1 + 1, 0, none⟩) 2 2] 66)) := by
  repeat' (first | exact Below.refl _ _ | (refine Below.alloc ?_ (by simp; try omega) _))
 generalize hF : World.alloc _ _ = F at hbel ⊢
 have B0 : Blk F w.heap.size 24 [.slice (some ⟨w.heap.size + 1 + 1 + 1 + 1 + 1 + 1 + 1 + 1, 0, none⟩) 1 1] := by rw [← hF]; exact Blk.alloc (Blk.alloc (Blk.alloc (Blk.alloc (Blk.alloc (Blk.alloc (Blk.alloc (Blk.alloc (blk_new_here (by simp)) _) _) _) _) _) _) _) _
 have B1 : Blk F (w.heap.size + 1) 60 (codeCells [⟨1, 0, 0⟩, ⟨10, 0, 0⟩, ⟨13, 0, 0⟩] ++ []) := by rw [← hF]; exact Blk.alloc (Blk.alloc (Blk.alloc (Blk.alloc (Blk.alloc (Blk.alloc (Blk.alloc (blk_new_here (by simp)) _) _) _) _) _) _) _
 have B3 : Blk F (w.heap.size + 1 + 1 + 1) 43 (([0] : List Int).map (Value.int .i64) ++ []) := by rw [← hF]; exact Blk.alloc (Blk.alloc (Blk.alloc (Blk.alloc (Blk.alloc (blk_new_here (by simp)) _) _) _) _) _
 have B4 : Blk F (w.heap.size + 1 + 1 + 1 + 1) 60 (codeCells [⟨1, 0, 0⟩, ⟨1, 1, 0⟩, ⟨11, 0, 0⟩, ⟨1, 0, 0⟩, ⟨12, 0, 0⟩, ⟨13, 0, 0⟩] ++ []) := by rw [← hF]; exact Blk.alloc (Blk.alloc (Blk.alloc (Blk.alloc (blk_new_here (by simp)) _) _) _) _
 have B6 : Blk F (w.heap.size + 1 + 1 + 1 + 1 + 1 + 1) 43 (([0] : List Int).map (Value.int .i64) ++ []) := by rw [← hF]; exact Blk.alloc (Blk.alloc (blk_new_here (by simp)) _) _
 have B7 : Blk F (w.heap.size + 1 + 1 + 1 + 1 + 1 + 1 + 1) 63 [.int .i64 0, .slice none 0 0, .int .i64 0, .int .i64 1, .int .i64 2, .slice (some ⟨w.heap.size + 1, 0, none⟩) 3 3, .slice none 0 0, .int .i64 1, .slice (some ⟨w.heap.size + 1 + 1 + 1, 0, none⟩) 1 1, .int .i64 0, .int .i64 2, .int .i64 3, .slice (some ⟨w.heap.size + 1 + 1 + 1 + 1, 0, none⟩) 6 6, .slice none 0 0] := by rw [← hF]; exact Blk.alloc (blk_new_here (by simp)) _
 have B8 : Blk F (w.heap.size + 1 + 1 + 1 + 1 + 1 + 1 + 1 + 1) 66 [.int .i64 (-1), .slice (some ⟨w.heap.size + 1 + 1 + 1 + 1 + 1 + 1, 0, none⟩) 1 1, .slice (some ⟨w.heap.size + 1 + 1 + 1 + 1 + 1 + 1 + 1, 0, none⟩) 2 2] := by rw [← hF]; exact blk_new_here (by simp)
 clear hF
 have nilS : ∀ {α : Type} (sz : Nat) (R : α → Nat → Nat → Prop), SlAt sz R (.slice none 0 0) [] := fun sz R => ⟨none, 0, 0, 0, rfl, Nat.le_refl _, ⟨fun e => absurd rfl e, .inl ⟨rfl, rfl⟩⟩, fun j x hj => by simp at hj⟩
 have s1 : SlAt 3 (RIns F) (.slice (some ⟨w.heap.size + 1, 0, none⟩) 3 3) [⟨1, 0, 0⟩, ⟨10, 0, 0⟩, ⟨13, 0, 0⟩] := code_keep (cellS_le [60] F) (code_of_blk (cap := 3) B1 (by simp) (by decide))
 have s3 : SlAt 1 (RInt F) (.slice (some ⟨w.heap.size + 1 + 1 + 1, 0, none⟩) 1 1) [0] := ints_keep (cellS_le tT F) (ints_of_blk (cap := 1) B3 (by simp) (by decide))
 have s4 : SlAt 3 (RIns F) (.slice (some ⟨w.heap.size + 1 + 1 + 1 + 1, 0, none⟩) 6 6) [⟨1, 0, 0⟩, ⟨1, 1, 0⟩, ⟨11, 0, 0⟩, ⟨1, 0, 0⟩, ⟨12, 0, 0⟩, ⟨13, 0, 0⟩] := code_keep (cellS_le [60] F) (code_of_blk (cap := 6) B4 (by simp) (by decide))
 have s6 : SlAt 1 (RInt F) (.slice (some ⟨w.heap.size + 1 + 1 + 1 + 1 + 1 + 1, 0, none⟩) 1 1) [0] := ints_keep (cellS_le tT F) (ints_of_blk (cap := 1) B6 (by simp) (by decide))
 have s7 : SlAt 7 (RMeth F) (.slice (some ⟨w.heap.size + 1 + 1 + 1 + 1 + 1 + 1 + 1, 0, none⟩) 2 2) [⟨0, [], 0, 1, 2, [⟨1, 0, 0⟩, ⟨10, 0, 0⟩, ⟨13, 0, 0⟩], []⟩, ⟨1, [0], 0, 2, 3, [⟨1, 0, 0⟩, ⟨1, 1, 0⟩, ⟨11, 0, 0⟩, ⟨1, 0, 0⟩, ⟨12, 0, 0⟩, ⟨13, 0, 0⟩], []⟩] := by
  refine ⟨some ⟨_, 0, none⟩, _, 0, 2, rfl, by decide, ⟨fun _ => rfl, .inr (.inl rfl)⟩, fun j x hj => ?_⟩
  match j, hj with
  | 0, hj =>
   simp at hj
   subst hj
   exact ⟨.slice none 0 0, _, .slice none 0 0, ⟨nilS 1 _, s1, nilS 3 _⟩, B7.cell 0, B7.cell 1, B7.cell 2, B7.cell 3, B7.cell 4, B7.cell 5, B7.cell 6⟩
  | 1, hj =>
   simp at hj
   subst hj
   exact ⟨_, _, .slice none 0 0, ⟨s3, s4, nilS 3 _⟩, B7.cell 7, B7.cell 8, B7.cell 9, B7.cell 10, B7.cell 11, B7.cell 12, B7.cell 13⟩
  | n + 2, hj => simp at hj
 have c0 : F.cell? ⟨w.heap.size, 0, none⟩ = some (.slice (some ⟨w.heap.size + 1 + 1 + 1 + 1 + 1 + 1 + 1 + 1, 0, none⟩) 1 1) := B0.cell 0
 refine bodyPost_ret (v := .agg #[.slice (some ⟨w.heap.size + 1 + 1 + 1 + 1 + 1 + 1 + 1 + 1, 0, none⟩) 1 1]) (by simp [results, Tryz.results33, go_sem, c0]) rfl ⟨_, rfl, ?_, hbel⟩
 refine ⟨some ⟨_, 0, none⟩, _, 0, 1, rfl, by decide, ⟨fun _ => rfl, .inr (.inl rfl)⟩, fun j x hj => ?_⟩
 match j, hj with
 | 0, hj =>
  simp [exP] at hj
  subst hj
  exact ⟨_, _, B8.cell 0, B8.cell 1, B8.cell 2, s6, s7⟩
 | n + 1, hj => simp [exP] at hj
end Go.Proofs.YtiiokkllmchohaaGreat
/- The document's example, awake. -/
namespace Go.Proofs.YtiiokkllmchohaaGreat
open Go.RowKit Go.Shelf
attribute [local go_sem ↓] Go.wp_at_zero Go.wp_at_succ
attribute [local go_sem] frz_drew

set_option maxHeartbeats 1000000 in
set_option maxRecDepth 100000 in
theorem keep_awake (w : World) : Calls Tryz.prog 13 #[] w fun e w' => e = .returned (.bool true) ∧ Below w.heap.size w w' := by
 obtain ⟨R, hR, hR2⟩ := Option.map_eq_some_iff.1 exP_run
 simp only [Prod.mk.injEq] at hR2
 obtain ⟨hR2, hR7⟩ := hR2
 obtain ⟨r, hr, hr2⟩ := Option.map_eq_some_iff.1 exP_inf
 obtain ⟨s, hs, hs3⟩ := Option.map_eq_some_iff.1 hr2
 subst hs
 have HR := hide (And.intro hR (And.intro hR2 hR7))
 have HI := hide (And.intro hr hs3)
 clear hR hR2 hR7 hr hs3 hr2
 go_enter Tryz.func13, Tryz.ntmps13
 go_wp2_with fail
 refine (keep_cell w).mono ?_
 rintro e w1 ⟨v1, rfl, hp1, hb1⟩
 go_wp2_with fail
 refine (code_form exP _ w1 hp1 exP_wf exP_sz).mono ?_
 rintro e w2 ⟨rfl, hb2⟩
 rw [exP_form]
 have hbw2 := hb1.trans (hb2.mono hb1.size)
 clear hp1 hb1 hb2
 go_wp2_with fail
 refine (keep_cell w2).mono ?_
 rintro e w3 ⟨v3, rfl, hp3, hb3⟩
 go_wp2_with fail
 refine (code_chk exP _ 0 1 w3 hp3 exP_wf exP_sz).mono ?_
 rintro e w4 ⟨rfl, hb4⟩
 rw [exP_chk]
 have hbw3 := hbw2.trans (hb3.mono hbw2.size)
 have hbw4 := hbw3.trans (hb4.mono hbw3.size)
 clear hp3 hb3 hb4 hbw2 hbw3
 go_wp2_with fail
 refine (keep_cell w4).mono ?_
 rintro e w5 ⟨v5, rfl, hp5, hb5⟩
 have hbw5 := hbw4.trans (hb5.mono hbw4.size)
 clear hbw4 hb5
 go_wp2_with fail
 have B5 := Blk.new w5 #[.int .i64 7] 3
 have hb6 := box_below w5 (.cells #[.int .i64 7] 3)
 have s6 : SlAt 1 (RInt (w5.alloc (.cells #[.int .i64 7] 3))) (.slice (some ⟨w5.heap.size, 0, none⟩) 1 1) [7] := ints_keep (cellS_le [3] _) (ints_of_blk (l := [7]) (rest := []) (cap := 1) B5 (by simp) (by decide))
 generalize w5.alloc _ = W6 at *
 have hbw6 := hbw5.trans (hb6.mono hbw5.size)
 refine (code_run exP _ 0 1 [7] _ 100 W6 (prog_keep (Keeps.of_below hb6) hp5) exP_wf exP_sz exP_form (fun a b _ _ _ => Nat.le_trans (exP_len a b) (by decide)) (by decide) (by decide) (by decide) s6 (by decide) (by decide) (by decide) (by decide) (by decide) (by decide) 30 R (runOkB_sound _ _ exP_ok) (unhide HR).1).mono ?_
 rintro e w7 ⟨vpr, rfl, hpr, hb7⟩
 rw [(unhide HR).2.2, (unhide HR).2.1]
 have hbw7 := hbw6.trans (hb7.mono hbw6.size)
 obtain ⟨pra, prc, rfl⟩ := own_form hpr
 clear hpr hb7 hbw6 hb6 s6 B5 hp5 hbw5 W6
 go_wp2_with (refine wpList_store_blk aggOut (Blk.new w7 #[.int .i64 0, .int .i64 0, .slice none 0 0, .int .i64 0] 69) 0 [.int .i64 1, .int .i64 7, .slice pra R.1.out.length prc, .int .i64 (R.1.steps : Int)] rfl (by simp) (fun v hv => by simp only [List.mem_cons, List.not_mem_nil, or_false] at hv; rcases hv with rfl | rfl | rfl | rfl <;> rfl) (.tmp 3) (.tmp 15) rfl rfl rfl rfl ?_; intro w8 hB8 hM8 hs8; rw [putAt_all (by rfl)] at hB8)
 have hb8 := (box_below w7 _).trans (hM8.below (by simp) (fun k hk e => by omega))
 have hbw8 := hbw7.trans (hb8.mono hbw7.size)
 clear hb8 hM8 hs8 hbw7
 refine (keep_cell w8).mono ?_
 rintro e w9 ⟨v9, rfl, hp9, hb9⟩
 have hbw9 := hbw8.trans (hb9.mono hbw8.size)
 have hB9 := hB8.below hb9 hB8.lt
 clear hb9 hbw8 hB8
 go_wp2_with fail
 refine (code_infer exP _ 0 0 w9 hp9 exP_wf exP_sz 9 (some s) (fun m _ hm => by obtain rfl := Option.some.inj (exP_own.symm.trans hm); exact (unhide HI).1)).mono ?_
 rintro e w10 ⟨_, _, hI, hb10⟩
 obtain ⟨vf, rfl, cs, hfr, _⟩ := (hI exP_form exM0 exP_own).2 s rfl
 rw [(unhide HI).2] at hfr
 obtain ⟨fa, fc, rfl⟩ := own_form hfr
 have hbw10 := hbw9.trans (hb10.mono hbw9.size)
 have hB10 := hB9.below hb10 hB9.lt
 have q0 : w10.cell? ⟨w7.heap.size, 0, none⟩ = some (.int .i64 1) := hB10.cell 0
 have q1 : w10.cell? ⟨w7.heap.size, 1, none⟩ = some (.int .i64 7) := hB10.cell 1
 clear hI hfr hp9 hb10 hbw9 hB9
 go_wp2_with fail
 go_ret
 exact ⟨rfl, hbw10⟩
end Go.Proofs.YtiiokkllmchohaaGreat
/- What is written of programs that hold: their sizes. The keeper's pick. -/
namespace Go.Proofs.YtiiokkllmchohaaGreat
open Go.RowKit Go.Shelf
attribute [local go_sem ↓] Go.wp_at_zero Go.wp_at_succ
attribute [local go_sem] frz_drew

theorem sum_bound {α : Type} (f : α → Nat) (B : Nat) : ∀ l : List α, (∀ x ∈ l, f x ≤ B) → (l.map f).sum ≤ l.length * B
 | [], _ => by simp
 | x :: l, h => by
  have h1 := sum_bound f B l (fun y hy => h y (List.mem_cons_of_mem _ hy))
  have h2 := h x List.mem_cons_self
  rw [List.map_cons, List.sum_cons, List.length_cons, Nat.succ_mul]
  omega
theorem form_sz {p : List LClass} (h : formI p = 0) : szProg p ≤ 1048576 := by
 obtain ⟨h1, h2⟩ := form_short h
 have hf : ∀ x ∈ p, szClass x ≤ 142764 := fun x hx => by
  obtain ⟨a1, a2, a3⟩ := h2 x hx
  have hm : ∀ m ∈ x.meths, szMeth m ≤ 3568 := fun m hm => by
   obtain ⟨b1, b2, b3, b4, b5⟩ := a3 m hm
   have hfr : ∀ f ∈ m.frames, szFrame f ≤ 84 := fun f hf => by
    obtain ⟨c1, c2⟩ := b5 f hf
    unfold szFrame
    omega
   have := sum_bound szFrame 84 m.frames hfr
   have : m.frames.length * 84 ≤ 40 * 84 := Nat.mul_le_mul_right _ b4
   unfold szMeth
   omega
  have := sum_bound szMeth 3568 x.meths hm
  have : x.meths.length * 3568 ≤ 40 * 3568 := Nat.mul_le_mul_right _ a2
  unfold szClass
  omega
 have := sum_bound szClass 142764 p hf
 have : p.length * 142764 ≤ 6 * 142764 := Nat.mul_le_mul_right _ h1
 unfold szProg
 omega
end Go.Proofs.YtiiokkllmchohaaGreat
