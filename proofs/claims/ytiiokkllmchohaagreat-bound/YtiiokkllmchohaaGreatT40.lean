/- A run whose steps are known to be in order, told by a test. -/
import Derived.Test.YtiiokkllmchohaaGreatT17
import Derived.Test.YtiiokkllmchohaaGreatT18
import Derived.Test.YtiiokkllmchohaaGreatT32
import Derived.Test.YtiiokkllmchohaaGreatT34
import Derived.Test.YtiiokkllmchohaaGreatT37
import Derived.Test.YtiiokkllmchohaaGreatT38
import Derived.Test.YtiiokkllmchohaaGreatT39
/- AwkP -/
namespace Go.Proofs.YtiiokkllmchohaaGreat
open Go.RowKit Go.Shelf

instance (n : Nat) (t : Int) : Decidable (tyOk n t) := inferInstanceAs (Decidable (0 ≤ t ∧ t < (n : Int) + 3))
def frOkB (p : List LClass) (f : MFr) : Bool :=
  f.m.code.all (insB p f.m) && decide (f.m.code.length ≤ 40) && decide (f.pc ≤ f.m.code.length) && f.m.code.all (fun i => (wantsM p f.m.ret i.op i.a i.b).all (fun t => decide (tyOk p.length t)) && decide ((wantsM p f.m.ret i.op i.a i.b).length ≤ 4194304)) && f.stk.all (fun v => decide (tyOk p.length v.kind)) && decide (f.stk.length ≤ 4194303) && decide (f.loc.length ≤ 4194304) && decide (f.m.locals = (f.loc.length : Int))
theorem frOkB_sound {p : List LClass} {f : MFr} (h : frOkB p f = true) : FrOkM p f := by
  unfold frOkB at h
  simp only [Bool.and_eq_true, decide_eq_true_eq, List.all_eq_true] at h
  obtain ⟨⟨⟨⟨⟨⟨⟨h1, h2⟩, h3⟩, h4⟩, h5⟩, h6⟩, h7⟩, h8⟩ := h
  exact ⟨h1, h2, h3, fun i hi => (h4 i hi).1, fun i hi => (h4 i hi).2, h5, h6, h7, h8⟩
def objB (o : Option Nat) (q : Nat → Bool) : Bool := match o with
  | none => true
  | some k => q k
theorem objB_sound {o : Option Nat} {q : Nat → Bool} (h : objB o q = true) {k : Nat} (hk : o = some k) : q k = true := by
  subst hk
  exact h
def in1 (op : Int) : Bool := op == 2 || op == 14 || op == 15 || op == 8 || op == 18 || op == 10 || op == 17 || op == 19 || op == 13
def in2 (op : Int) : Bool := op == 3 || op == 4 || op == 5 || op == 6 || op == 20 || op == 11
def doOkB (p : List LClass) (st : MaSt) (f : MFr) (op b : Int) : Bool :=
  (!in1 op || decide (1 ≤ f.stk.length)) && (!in2 op || decide (2 ≤ f.stk.length)) && decide (f.m.locals = (f.loc.length : Int)) && decide (f.stk.length < 4194303) && decide (f.loc.length ≤ 4194304) &&
    (!(op == 10) || objB (topV f.stk).obj (fun k => decide (b.toNat < (objAt st k).flds.length))) && (!(op == 11) || objB (topV f.stk.dropLast).obj (fun k => decide (b.toNat < (objAt st k).flds.length))) &&
    (!(op == 17) || objB (topV f.stk).obj (fun k => decide (0 ≤ (objAt st k).cls) && decide ((objAt st k).cls < (p.length : Int)))) && st.objs.all (fun o => decide (o.flds.length ≤ 4194304)) && decide (st.objs.length ≤ 100) && decide (st.out.length ≤ 4194304)
theorem doOkB_sound {p : List LClass} {st : MaSt} {f : MFr} {op b : Int} (h : doOkB p st f op b = true) : DoOk p st f op b := by
  unfold doOkB at h
  simp only [Bool.and_eq_true, Bool.or_eq_true, Bool.not_eq_true', decide_eq_true_eq, List.all_eq_true] at h
  obtain ⟨⟨⟨⟨⟨⟨⟨⟨⟨⟨h1, h2⟩, h3⟩, h4⟩, h5⟩, h6⟩, h7⟩, h8⟩, h9⟩, h10⟩, h11⟩ := h
  refine ⟨⟨fun ho => ?_, fun ho => ?_⟩, h3, h4, h5, fun ho k hk => ?_, fun ho k hk => ?_, fun ho k hk => ?_, fun k => ?_, h10, h11⟩
  · rcases h1 with h1 | h1
    · exfalso
      have : in1 op = true := by
        unfold in1
        rcases ho with rfl | rfl | rfl | rfl | rfl | rfl | rfl | rfl | rfl <;> rfl
      rw [this] at h1; cases h1
    · exact h1
  · rcases h2 with h2 | h2
    · exfalso
      have : in2 op = true := by
        unfold in2
        rcases ho with rfl | rfl | rfl | rfl | rfl | rfl <;> rfl
      rw [this] at h2; cases h2
    · exact h2
  · subst ho
    rcases h6 with h6 | h6
    · cases h6
    · simpa using objB_sound h6 hk
  · subst ho
    rcases h7 with h7 | h7
    · cases h7
    · simpa using objB_sound h7 hk
  · subst ho
    rcases h8 with h8 | h8
    · cases h8
    · simpa using objB_sound h8 hk
  · unfold objAt
    cases e : st.objs[k]? with
    | none => simp
    | some o => exact h9 o (List.mem_of_getElem? e)
def callOkB (p : List LClass) (st : MaSt) (f : MFr) (a b : Int) : Bool :=
  decide ((findM p a b).args.length + 1 ≤ f.stk.length) && objB (topV (f.stk.take (f.stk.length - (findM p a b).args.length))).obj (fun k => decide (0 ≤ (objAt st k).cls) && decide ((objAt st k).cls < (p.length : Int)) && (methOf p (objAt st k).cls b).isSome && decide (1 + ((findM p a b).args.length : Int) ≤ (findM p (objAt st k).cls b).locals) && decide ((findM p (objAt st k).cls b).locals ≤ 8))
theorem callOkB_sound {p : List LClass} {st : MaSt} {f : MFr} {a b : Int} (h : callOkB p st f a b = true) : CallOk p st f a b := by
  unfold callOkB at h
  simp only [Bool.and_eq_true, decide_eq_true_eq] at h
  refine ⟨h.1, fun k hk => ?_⟩
  have := objB_sound h.2 hk
  simp only [Bool.and_eq_true, decide_eq_true_eq] at this
  obtain ⟨⟨⟨⟨h1, h2⟩, h3⟩, h4⟩, h5⟩ := this
  exact ⟨h1, h2, h3, h4, h5⟩
def stepOkB (p : List LClass) (fuel : Int) (st : MaSt) : Bool :=
  decide (st.frames.length ≤ 30) && st.frames.all (fun g => decide (g.stk.length ≤ 4194304)) && decide ((st.steps : Int) ≤ fuel) && match st.frames.getLast? with
    | none => true
    | some f => frOkB p f && (lookP p fuel st.steps f != 0 || (doOkB p st f (insAt f.m f.pc).op (insAt f.m f.pc).b && ((insAt f.m f.pc).op != 12 || callOkB p st f (insAt f.m f.pc).a (insAt f.m f.pc).b)))
theorem stepOkB_sound {p : List LClass} {fuel : Int} {st : MaSt} (h : stepOkB p fuel st = true) : StepOk p fuel st := by
  unfold stepOkB at h
  simp only [Bool.and_eq_true, decide_eq_true_eq, List.all_eq_true] at h
  obtain ⟨⟨⟨h1, h2⟩, h3⟩, h4⟩ := h
  have key : ∀ f, st.frames.getLast? = some f → frOkB p f = true ∧ (lookP p fuel st.steps f = 0 → doOkB p st f (insAt f.m f.pc).op (insAt f.m f.pc).b = true ∧ ((insAt f.m f.pc).op = 12 → callOkB p st f (insAt f.m f.pc).a (insAt f.m f.pc).b = true)) := fun f hf => by
    rw [hf] at h4
    simp only [Bool.and_eq_true, Bool.or_eq_true, bne_iff_ne, ne_eq] at h4
    refine ⟨h4.1, fun hl => ?_⟩
    rcases h4.2 with h | h
    · exact absurd hl h
    · refine ⟨h.1, fun ho => ?_⟩
      rcases h.2 with h | h
      · exact absurd ho h
      · exact h
  exact ⟨fun f hf => frOkB_sound (key f hf).1, fun f hf hl => doOkB_sound ((key f hf).2 hl).1, fun f hf hl ho => callOkB_sound (((key f hf).2 hl).2 ho), h1, h2, h3⟩
def runOkB (p : List LClass) (fuel : Int) : Nat → MaSt → Bool
  | 0, _ => true
  | n + 1, st => stepOkB p fuel st && match stepM p fuel st with
    | .inl st' => runOkB p fuel n st'
    | .inr _ => true
theorem runOkB_sound {p : List LClass} {fuel : Int} : ∀ (n : Nat) (st : MaSt), runOkB p fuel n st = true → RunOk p fuel n st
  | 0, _, _ => trivial
  | n + 1, st, h => by
    unfold runOkB at h
    simp only [Bool.and_eq_true] at h
    refine ⟨stepOkB_sound h.1, fun st' hs => ?_⟩
    have h2 := h.2
    rw [hs] at h2
    exact runOkB_sound n st' h2
end Go.Proofs.YtiiokkllmchohaaGreat
/- The code's Run, of a program that holds, a method that is there. -/
namespace Go.Proofs.YtiiokkllmchohaaGreat
open Go.RowKit Go.Shelf
attribute [local go_sem ↓] Go.wp_at_zero Go.wp_at_succ
attribute [local go_sem] frz_drew

set_option maxHeartbeats 1000000 in
set_option maxRecDepth 100000 in
theorem code_takes (p : List LClass) (vc : Value) (c slot : Int) (n : Nat) (w : World) (hp : RProg w vc p) (hs : SupOk p p.length) (hz : szProg p ≤ 4194304) (c0 : 0 ≤ c) (c1 : c < (p.length : Int)) (hm : (methOf p c slot).isSome = true) (hn : (findM p c slot).args.length = n) (hi : ∀ t ∈ (findM p c slot).args, t = 0) (hn4 : n ≤ 4194304) :
    Calls Tryz.prog 59 #[.agg #[vc], .int .i64 c, .int .i64 slot, .int .i64 (n : Int)] w fun e w' => e = .returned (.bool true) ∧ Below w.heap.size w w' := by
  obtain ⟨ck, hck⟩ := Option.isSome_iff_exists.1 hm
  have HP := hide hp
  have HCK := hide hck
  obtain ⟨pa, _, _, pcap, rfl, _⟩ := hp
  have hbel := box_below w (.cells #[.slice pa p.length pcap] 24)
  have B0 := Blk.new w #[.slice pa p.length pcap] 24
  clear hck
  go_enter Tryz.func59, Tryz.ntmps59
  go_wp2_with fail
  generalize w.alloc _ = W at *
  refine (code_hasclass p _ c W (prog_keep (Keeps.of_below hbel) (unhide HP)) (Nat.le_trans (szProg_len p) hz)).mono ?_
  rintro e w1 ⟨rfl, hb1⟩
  rw [show placeB c p.length = true by unfold placeB; simp; omega]
  have hbw1 := hbel.trans (hb1.mono hbel.size)
  have q0 : w1.cell? ⟨w.heap.size, 0, none⟩ = some (.slice pa p.length pcap) := (B0.below hb1 B0.lt).cell 0
  go_wp2_with fail
  refine (code_findmethod0 p _ p.length c slot w w1 (unhide HP) hbw1 hs (Nat.le_refl _) (by omega) c1 hz).mono ?_
  rintro e w2 ⟨o, aa, ca, fa, ac, cc, fc, rfl, hfm, hb2⟩
  obtain ⟨hma, hmv⟩ := hfm ck (unhide HCK)
  obtain rfl := findM_of (unhide HCK) hma
  have hme : (methOf p c slot).isSome = true := hm
  rw [hme]
  obtain ⟨hva, _, _⟩ := hmv
  obtain ⟨sa, sb, soff, scap, hse, _, hsa, hsr⟩ := ints_open hva
  simp only [Value.slice.injEq, true_and] at hse
  obtain ⟨rfl, rfl⟩ := hse
  generalize findM p c slot = o at *
  have HI := hide hi
  have HSR := hide hsr
  have HSA := hide hsa
  subst hn
  have hone : ∀ v ∈ [Value.int .i64 o.slot, .slice aa o.args.length ac, .int .i64 o.ret, .int .i64 o.locals, .int .i64 o.stack, .slice ca o.code.length cc, .slice fa o.frames.length fc], v.oneCell' = true := fun v hv => by
    simp only [List.mem_cons, List.not_mem_nil, or_false] at hv
    rcases hv with rfl | rfl | rfl | rfl | rfl | rfl | rfl <;> rfl
  clear hfm hma hme hva hsr hsa hi
  go_wp2_with (refine wpList_store_blk aggMeth (Blk.new w2 #[.int .i64 0, .slice none 0 0, .int .i64 0, .int .i64 0, .int .i64 0, .slice none 0 0, .slice none 0 0] 63) 0 _ rfl (by simp) hone (.tmp 9) (.tmp 22) rfl rfl rfl rfl ?_; intro w3 hB3 hM3 hs3; rw [putAt_all (by rfl)] at hB3; have m1 : w3.cell? ⟨w2.heap.size, 1, none⟩ = some (.slice aa o.args.length ac) := hB3.cell 1)
  have hb3 := (box_below w2 _).trans (hM3.below (by simp) (fun k hk e => by omega))
  have hbw3 := (hbw1.trans (hb2.mono hbw1.size)).trans (hb3.mono (hbw1.trans (hb2.mono hbw1.size)).size)
  go_loopw [36] (fun i wr => ∃ (k : Nat), k ≤ o.args.length ∧ i = .int .i64 k ∧ wr = w3) (fun i _ => o.args.length - (intOf i).toNat)
  case atStart => exact ⟨0, Nat.zero_le _, rfl, rfl⟩
  case round =>
    obtain ⟨k, hk, rfl, rfl⟩ := hrel
    by_cases hlt : k < o.args.length
    · obtain rfl := (unhide HSA) (ne_nil_of_lt hlt)
      have r0 := Keeps.of_below hbw3 _ _ ((unhide HSR) k hlt)
      have hz0 := (unhide HI) _ (List.getElem_mem hlt)
      rw [hz0] at r0
      have k0 : (0 : Int) ≤ (k : Int) := by omega
      have k1 : (k : Int) < (o.args.length : Int) := by omega
      clear hz0
      go_wp2_with fail
      refine ⟨⟨k + 1, by omega, by go_num, trivial⟩, by simp [intOf]; omega⟩
    · obtain rfl : k = o.args.length := by omega
      go_wp2_with fail
      go_ret
      exact ⟨rfl, hbw3⟩
def RunX (p : List LClass) (c slot : Int) (R : MaSt × Int) (w w' : World) (e : Ending) : Prop :=
  ∃ vpr, e = .returned (.tuple #[.agg #[.int .i64 R.2, .int .i64 (if R.2 = 1 then tellV R.1 R.1.told (findM p c slot).ret else 0), vpr, .int .i64 (R.1.steps : Int)], .int .i64 0]) ∧ w'.ownsRow w.heap.size 3 1 vpr R.1.out.length (R.1.out.map (Value.int .i64)) ∧ Below w.heap.size w w'
set_option maxHeartbeats 1000000 in
set_option maxRecDepth 100000 in
theorem code_run (p : List LClass) (vp : Value) (c slot : Int) (args : List Int) (va : Value) (fuel : Int) (w : World) (hp : RProg w vp p) (hwf : wfProg p) (hz : szProg p ≤ 4194304) (hF : formI p = 0) (hal : ∀ a b, (methOf p a b).isSome = true → 0 ≤ a → a < (p.length : Int) → (findM p a b).args.length ≤ 4194303) (c0 : 0 ≤ c) (c1 : c < (p.length : Int)) (hm : (methOf p c slot).isSome = true) (hva : SlAt 1 (RInt w) va args) (hn : (findM p c slot).args.length = args.length) (hi : ∀ t ∈ (findM p c slot).args, t = 0) (hl : 1 + (args.length : Int) ≤ (findM p c slot).locals) (hl8 : (findM p c slot).locals ≤ 8) (hfu : fuel ≤ 5000) (hf0 : 0 ≤ fuel)
    (N : Nat) (R : MaSt × Int) (hok : RunOk p fuel N (startM p c slot args)) (hrun : runM p fuel N (startM p c slot args) = some R) :
    Calls Tryz.prog 27 #[.agg #[vp], .int .i64 c, .int .i64 slot, va, .int .i64 fuel, .bool true] w fun e w' => RunX p c slot R w w' e := by
  have G := form_good hF hz
  have HP := hide hp
  have HR := hide (And.intro hok hrun)
  have HVA := hide hva
  obtain ⟨aa, _, _, acap, rfl, _⟩ := hva
  obtain ⟨pa, _, _, pcap, rfl, _⟩ := hp
  have hbel : Below w.heap.size w ((w.alloc (.cells #[.slice pa p.length pcap] 24)).alloc (.cells #[.int .i64 0, .int .i64 0, .slice none 0 0, .int .i64 0] 69)) := box2_below _ _ _
  have B0 := (Blk.new w #[.slice pa p.length pcap] 24).alloc (.cells #[.int .i64 0, .int .i64 0, .slice none 0 0, .int .i64 0] 69)
  have B1 := Blk.new (w.alloc (.cells #[.slice pa p.length pcap] 24)) #[.int .i64 0, .int .i64 0, .slice none 0 0, .int .i64 0] 69
  rw [World.size_alloc] at B1
  have hal4 : args.length ≤ 4194304 := by omega
  have hn0 : ¬ fuel < 0 := by omega
  have hn5 : ¬ 5000 < fuel := by omega
  have HF := hide hF
  have HS := hide (And.intro hm (And.intro hn hi))
  clear hok hrun hF hm hn hi
  go_enter Tryz.func27, Tryz.ntmps27
  go_wp2_with fail
  generalize (w.alloc _).alloc _ = W at *
  refine (code_check p _ W (prog_keep (Keeps.of_below hbel) (unhide HP)) hwf hz).mono ?_
  rintro e w1 ⟨rfl, hb1⟩
  rw [unhide HF]
  have hbw1 := hbel.trans (hb1.mono hbel.size)
  have C0 := B0.below hb1 (by have := B0.lt; omega)
  have C1 := B1.below hb1 (by have := B1.lt; omega)
  have q0 : w1.cell? ⟨w.heap.size, 0, none⟩ = some (.slice pa p.length pcap) := C0.cell 0
  go_wp2_with fail
  obtain ⟨hm, hn, hi⟩ := unhide HS
  refine (code_takes p _ c slot args.length w1 (prog_keep (Keeps.of_below hbw1) (unhide HP)) G.sup hz c0 c1 hm hn hi hal4).mono ?_
  rintro e w2 ⟨rfl, hb2⟩
  have hbw2 := hbw1.trans (hb2.mono hbw1.size)
  have D0 := C0.below hb2 C0.lt
  have D1 := C1.below hb2 C1.lt
  have q2 : w2.cell? ⟨w.heap.size, 0, none⟩ = some (.slice pa p.length pcap) := D0.cell 0
  have HM := hide hm
  clear hm hn hi q0
  go_wp2_with fail
  refine (ma_run p _ c slot args _ fuel w2 (prog_keep (Keeps.of_below hbw2) (unhide HP)) G hal c0 c1 (unhide HM) (ints_keep (Keeps.of_below hbw2) (unhide HVA)) hl hl8 hfu hf0 N R (unhide HR).1 (unhide HR).2 true (.inl rfl)).mono ?_
  rintro e w3 ⟨vpr, rfl, hpr, hb3⟩
  have E1 := D1.below hb3 D1.lt
  obtain ⟨pra, prc, rfl⟩ := own_form hpr
  generalize hvv : (if R.2 = 1 then tellV R.1 R.1.told (findM p c slot).ret else 0) = vv at *
  have HVV := hide hvv
  have HPR := hide hpr
  clear hvv hpr
  go_wp2_with (refine wpList_store_blk aggOut E1 0 [.int .i64 R.2, .int .i64 vv, .slice pra R.1.out.length prc, .int .i64 (R.1.steps : Int)] rfl (by simp) (fun v hv => by simp only [List.mem_cons, List.not_mem_nil, or_false] at hv; rcases hv with rfl | rfl | rfl | rfl <;> rfl) (.tmp 12) (.tmp 52) rfl rfl rfl rfl ?_; intro w4 hB4 hM4 hs4; rw [putAt_all (by rfl)] at hB4)
  refine bodyPost_ret (results_blk2 rfl aggOut hB4 rfl rfl) rfl ?_
  have hbw3 := hbw2.trans (hb3.mono hbw2.size)
  refine ⟨_, by rw [unhide HVV]; rfl, own_base (own_mods (unhide HPR) hM4 (fun g hg e => ?_)) hbw2.size, hbw3.trans (hM4.below hbw3.size (fun k hk e => by omega))⟩
  have := ((unhide HPR).lt g hg).1
  have := D1.lt
  omega
end Go.Proofs.YtiiokkllmchohaaGreat
/- The document's example: what is told of it, reckoned. -/
namespace Go.Proofs.YtiiokkllmchohaaGreat
open Go.RowKit Go.Shelf

theorem exP_chk : checkI exP 0 1 = 0 := by kernel_rfl
def exM0 : LMeth := ⟨0, [], 0, 1, 2, [⟨1, 0, 0⟩, ⟨10, 0, 0⟩, ⟨13, 0, 0⟩], []⟩
theorem exP_own : ownM exP 0 0 = some exM0 := by kernel_rfl
theorem exP_inf : (solveN exP exM0 9 (putP sv0 0 (beginS 0 exM0))).map (fun r => r.map fun s => (frmL exM0 s exM0.code.length).length) = some (some 3) := by kernel_rfl
theorem exP_run : (runM exP 100 30 (startM exP 0 1 [7])).map (fun R => (R.2, if R.2 = 1 then tellV R.1 R.1.told (findM exP 0 1).ret else 0)) = some (1, 7) := by kernel_rfl
theorem exP_ok : runOkB exP 100 30 (startM exP 0 1 [7]) = true := by kernel_rfl
theorem exP_sz : szProg exP ≤ 4194304 := by decide
theorem find_len {p : List LClass} {n : Nat} (h : ∀ x ∈ p, ∀ m ∈ x.meths, m.args.length ≤ n) (a b : Int) : (findM p a b).args.length ≤ n := by
  unfold findM
  cases e : methOf p a b with
  | none => simp
  | some ck =>
    rw [Option.bind_some]
    cases e2 : methAt p ck with
    | none => simp
    | some o =>
      unfold methAt at e2
      cases e3 : p[ck.1]? with
      | none => rw [e3] at e2; simp at e2
      | some x =>
        rw [e3] at e2
        exact h x (List.mem_of_getElem? e3) o (List.mem_of_getElem? (by simpa using e2))
theorem exP_len (a b : Int) : (findM exP a b).args.length ≤ 3 := find_len (by decide) a b
end Go.Proofs.YtiiokkllmchohaaGreat
/- The document's example, made by the keeper. -/
namespace Go.Proofs.YtiiokkllmchohaaGreat
open Go.RowKit Go.Shelf
attribute [local go_sem ↓] Go.wp_at_zero Go.wp_at_succ
attribute [local go_sem] frz_drew

theorem blk_new_here {W : World} {cs : Array Value} {t : TypeId} {b : Nat} (h : b = W.heap.size) : Blk (W.alloc (.cells cs t)) b t cs.toList := h ▸ Blk.new W cs t
set_option maxHeartbeats 2000000 in
set_option maxRecDepth 100000 in
theorem keep_cell (w : World) : Calls Tryz.prog 33 #[] w fun e w' => ∃ v, e = .returned (.agg #[v]) ∧ RProg w' v exP ∧ Below w.heap.size w w' := by
  go_enter Tryz.func33, Tryz.ntmps33
  go_wp2_with fail
  have hbel : Below w.heap.size w (((((((((w.alloc (.cells #[.slice (some ⟨w.heap.size + 1 + 1 + 1 + 1 + 1 + 1 + 1 + 1, 0, none⟩) 1 1] 24)).alloc (.cells #[.int .i64 1, .int .i64 0, .int .i64 0, .int .i64 10, .int .i64 0, .int .i64 0, .int .i64 13, .int .i64 0, .int .i64 0] 60)).alloc (.cells #[.int .i64 0, .slice none 0 0, .int .i64 0, .int .i64 1, .int .i64 2, .slice (some ⟨w.heap.size + 1, 0, none⟩) 3 3, .slice none 0 0] 63)).alloc (.cells #[.int .i64 0] 43)).alloc (.cells #[.int .i64 1, .int .i64 0, .int .i64 0, .int .i64 1, .int .i64 1, .int .i64 0, .int .i64 11, .int .i64 0, .int .i64 0, .int .i64 1, .int .i64 0, .int .i64 0, .int .i64 12, .int .i64 0, .int .i64 0, .int .i64 13, .int .i64 0, .int .i64 0] 60)).alloc (.cells #[.int .i64 1, .slice (some ⟨w.heap.size + 1 + 1 + 1, 0, none⟩) 1 1, .int .i64 0, .int .i64 2, .int .i64 3, .slice (some ⟨w.heap.size + 1 + 1 + 1 + 1, 0, none⟩) 6 6, .slice none 0 0] 63)).alloc (.cells #[.int .i64 0] 43)).alloc (.cells #[.int .i64 0, .slice none 0 0, .int .i64 0, .int .i64 1, .int .i64 2, .slice (some ⟨w.heap.size + 1, 0, none⟩) 3 3, .slice none 0 0, .int .i64 1, .slice (some ⟨w.heap.size + 1 + 1 + 1, 0, none⟩) 1 1, .int .i64 0, .int .i64 2, .int .i64 3, .slice (some ⟨w.heap.size + 1 + 1 + 1 + 1, 0, none⟩) 6 6, .slice none 0 0] 63)).alloc (.cells #[.int .i64 (-1), .slice (some ⟨w.heap.size + 1 + 1 + 1 + 1 + 1 + 1, 0, none⟩) 1 1, .slice (some ⟨w.heap.size + 1 + 1 + 1 + 1 + 1 + 1 + 1, 0, none⟩) 2 2] 66)) := by
    repeat' (first | exact Below.refl _ _ | (refine Below.alloc ?_ (by simp; try omega) _))
  generalize hF : World.alloc _ _ = F at hbel ⊢
  have B0 : Blk F w.heap.size 24 [.slice (some ⟨w.heap.size + 1 + 1 + 1 + 1 + 1 + 1 + 1 + 1, 0, none⟩) 1 1] := by rw [← hF]; exact Blk.alloc (Blk.alloc (Blk.alloc (Blk.alloc (Blk.alloc (Blk.alloc (Blk.alloc (Blk.alloc (blk_new_here (by simp)) _) _) _) _) _) _) _) _
  have B1 : Blk F (w.heap.size + 1) 60 (codeCells [⟨1, 0, 0⟩, ⟨10, 0, 0⟩, ⟨13, 0, 0⟩] ++ []) := by rw [← hF]; exact Blk.alloc (Blk.alloc (Blk.alloc (Blk.alloc (Blk.alloc (Blk.alloc (Blk.alloc (blk_new_here (by simp)) _) _) _) _) _) _) _
  have B3 : Blk F (w.heap.size + 1 + 1 + 1) 43 (([0] : List Int).map (Value.int .i64) ++ []) := by rw [← hF]; exact Blk.alloc (Blk.alloc (Blk.alloc (Blk.alloc (Blk.alloc (blk_new_here (by simp)) _) _) _) _) _
  have B4 : Blk F (w.heap.size + 1 + 1 + 1 + 1) 60 (codeCells [⟨1, 0, 0⟩, ⟨1, 1, 0⟩, ⟨11, 0, 0⟩, ⟨1, 0, 0⟩, ⟨12, 0, 0⟩, ⟨13, 0, 0⟩] ++ []) := by rw [← hF]; exact Blk.alloc (Blk.alloc (Blk.alloc (Blk.alloc (blk_new_here (by simp)) _) _) _) _
  have B6 : Blk F (w.heap.size + 1 + 1 + 1 + 1 + 1 + 1) 43 (([0] : List Int).map (Value.int .i64) ++ []) := by rw [← hF]; exact Blk.alloc (Blk.alloc (blk_new_here (by simp)) _) _
  have B7 : Blk F (w.heap.size + 1 + 1 + 1 + 1 + 1 + 1 + 1) 63 [.int .i64 0, .slice none 0 0, .int .i64 0, .int .i64 1, .int .i64 2, .slice (some ⟨w.heap.size + 1, 0, none⟩) 3 3, .slice none 0 0, .int .i64 1, .slice (some ⟨w.heap.size + 1 + 1 + 1, 0, none⟩) 1 1, .int .i64 0, .int .i64 2, .int .i64 3, .slice (some ⟨w.heap.size + 1 + 1 + 1 + 1, 0, none⟩) 6 6, .slice none 0 0] := by rw [← hF]; exact Blk.alloc (blk_new_here (by simp)) _
  have B8 : Blk F (w.heap.size + 1 + 1 + 1 + 1 + 1 + 1 + 1 + 1) 66 [.int .i64 (-1), .slice (some ⟨w.heap.size + 1 + 1 + 1 + 1 + 1 + 1, 0, none⟩) 1 1, .slice (some ⟨w.heap.size + 1 + 1 + 1 + 1 + 1 + 1 + 1, 0, none⟩) 2 2] := by rw [← hF]; exact blk_new_here (by simp)
  clear hF
  have nilS : ∀ {α : Type} (sz : Nat) (R : α → Nat → Nat → Prop), SlAt sz R (.slice none 0 0) [] := fun sz R => ⟨none, 0, 0, 0, rfl, Nat.le_refl _, ⟨fun e => absurd rfl e, .inl ⟨rfl, rfl⟩⟩, fun j x hj => by simp at hj⟩
  have s1 : SlAt 3 (RIns F) (.slice (some ⟨w.heap.size + 1, 0, none⟩) 3 3) [⟨1, 0, 0⟩, ⟨10, 0, 0⟩, ⟨13, 0, 0⟩] := code_keep (cellS_le [60] F) (code_of_blk (cap := 3) B1 (by simp) (by decide))
  have s3 : SlAt 1 (RInt F) (.slice (some ⟨w.heap.size + 1 + 1 + 1, 0, none⟩) 1 1) [0] := ints_keep (cellS_le tT F) (ints_of_blk (cap := 1) B3 (by simp) (by decide))
  have s4 : SlAt 3 (RIns F) (.slice (some ⟨w.heap.size + 1 + 1 + 1 + 1, 0, none⟩) 6 6) [⟨1, 0, 0⟩, ⟨1, 1, 0⟩, ⟨11, 0, 0⟩, ⟨1, 0, 0⟩, ⟨12, 0, 0⟩, ⟨13, 0, 0⟩] := code_keep (cellS_le [60] F) (code_of_blk (cap := 6) B4 (by simp) (by decide))
  have s6 : SlAt 1 (RInt F) (.slice (some ⟨w.heap.size + 1 + 1 + 1 + 1 + 1 + 1, 0, none⟩) 1 1) [0] := ints_keep (cellS_le tT F) (ints_of_blk (cap := 1) B6 (by simp) (by decide))
  have s7 : SlAt 7 (RMeth F) (.slice (some ⟨w.heap.size + 1 + 1 + 1 + 1 + 1 + 1 + 1, 0, none⟩) 2 2) [⟨0, [], 0, 1, 2, [⟨1, 0, 0⟩, ⟨10, 0, 0⟩, ⟨13, 0, 0⟩], []⟩, ⟨1, [0], 0, 2, 3, [⟨1, 0, 0⟩, ⟨1, 1, 0⟩, ⟨11, 0, 0⟩, ⟨1, 0, 0⟩, ⟨12, 0, 0⟩, ⟨13, 0, 0⟩], []⟩] := by
    refine ⟨some ⟨_, 0, none⟩, _, 0, 2, rfl, by decide, ⟨fun _ => rfl, .inr (.inl rfl)⟩, fun j x hj => ?_⟩
    match j, hj with
    | 0, hj =>
      simp at hj
      subst hj
      exact ⟨.slice none 0 0, _, .slice none 0 0, ⟨nilS 1 _, s1, nilS 3 _⟩, B7.cell 0, B7.cell 1, B7.cell 2, B7.cell 3, B7.cell 4, B7.cell 5, B7.cell 6⟩
    | 1, hj =>
      simp at hj
      subst hj
      exact ⟨_, _, .slice none 0 0, ⟨s3, s4, nilS 3 _⟩, B7.cell 7, B7.cell 8, B7.cell 9, B7.cell 10, B7.cell 11, B7.cell 12, B7.cell 13⟩
    | n + 2, hj => simp at hj
  have c0 : F.cell? ⟨w.heap.size, 0, none⟩ = some (.slice (some ⟨w.heap.size + 1 + 1 + 1 + 1 + 1 + 1 + 1 + 1, 0, none⟩) 1 1) := B0.cell 0
  refine bodyPost_ret (v := .agg #[.slice (some ⟨w.heap.size + 1 + 1 + 1 + 1 + 1 + 1 + 1 + 1, 0, none⟩) 1 1]) (by simp [results, Tryz.results33, go_sem, c0]) rfl ⟨_, rfl, ?_, hbel⟩
  refine ⟨some ⟨_, 0, none⟩, _, 0, 1, rfl, by decide, ⟨fun _ => rfl, .inr (.inl rfl)⟩, fun j x hj => ?_⟩
  match j, hj with
  | 0, hj =>
    simp [exP] at hj
    subst hj
    exact ⟨_, _, B8.cell 0, B8.cell 1, B8.cell 2, s6, s7⟩
  | n + 1, hj => simp [exP] at hj
end Go.Proofs.YtiiokkllmchohaaGreat
/- The document's example, awake. -/
namespace Go.Proofs.YtiiokkllmchohaaGreat
open Go.RowKit Go.Shelf
attribute [local go_sem ↓] Go.wp_at_zero Go.wp_at_succ
attribute [local go_sem] frz_drew

set_option maxHeartbeats 1000000 in
set_option maxRecDepth 100000 in
theorem keep_awake (w : World) : Calls Tryz.prog 13 #[] w fun e w' => e = .returned (.bool true) ∧ Below w.heap.size w w' := by
  obtain ⟨R, hR, hR2⟩ := Option.map_eq_some_iff.1 exP_run
  simp only [Prod.mk.injEq] at hR2
  obtain ⟨hR2, hR7⟩ := hR2
  obtain ⟨r, hr, hr2⟩ := Option.map_eq_some_iff.1 exP_inf
  obtain ⟨s, hs, hs3⟩ := Option.map_eq_some_iff.1 hr2
  subst hs
  have HR := hide (And.intro hR (And.intro hR2 hR7))
  have HI := hide (And.intro hr hs3)
  clear hR hR2 hR7 hr hs3 hr2
  go_enter Tryz.func13, Tryz.ntmps13
  go_wp2_with fail
  refine (keep_cell w).mono ?_
  rintro e w1 ⟨v1, rfl, hp1, hb1⟩
  go_wp2_with fail
  refine (code_form exP _ w1 hp1 exP_wf exP_sz).mono ?_
  rintro e w2 ⟨rfl, hb2⟩
  rw [exP_form]
  have hbw2 := hb1.trans (hb2.mono hb1.size)
  clear hp1 hb1 hb2
  go_wp2_with fail
  refine (keep_cell w2).mono ?_
  rintro e w3 ⟨v3, rfl, hp3, hb3⟩
  go_wp2_with fail
  refine (code_chk exP _ 0 1 w3 hp3 exP_wf exP_sz).mono ?_
  rintro e w4 ⟨rfl, hb4⟩
  rw [exP_chk]
  have hbw3 := hbw2.trans (hb3.mono hbw2.size)
  have hbw4 := hbw3.trans (hb4.mono hbw3.size)
  clear hp3 hb3 hb4 hbw2 hbw3
  go_wp2_with fail
  refine (keep_cell w4).mono ?_
  rintro e w5 ⟨v5, rfl, hp5, hb5⟩
  have hbw5 := hbw4.trans (hb5.mono hbw4.size)
  clear hbw4 hb5
  go_wp2_with fail
  have B5 := Blk.new w5 #[.int .i64 7] 3
  have hb6 := box_below w5 (.cells #[.int .i64 7] 3)
  have s6 : SlAt 1 (RInt (w5.alloc (.cells #[.int .i64 7] 3))) (.slice (some ⟨w5.heap.size, 0, none⟩) 1 1) [7] := ints_keep (cellS_le [3] _) (ints_of_blk (l := [7]) (rest := []) (cap := 1) B5 (by simp) (by decide))
  generalize w5.alloc _ = W6 at *
  have hbw6 := hbw5.trans (hb6.mono hbw5.size)
  refine (code_run exP _ 0 1 [7] _ 100 W6 (prog_keep (Keeps.of_below hb6) hp5) exP_wf exP_sz exP_form (fun a b _ _ _ => Nat.le_trans (exP_len a b) (by decide)) (by decide) (by decide) (by decide) s6 (by decide) (by decide) (by decide) (by decide) (by decide) (by decide) 30 R (runOkB_sound _ _ exP_ok) (unhide HR).1).mono ?_
  rintro e w7 ⟨vpr, rfl, hpr, hb7⟩
  rw [(unhide HR).2.2, (unhide HR).2.1]
  have hbw7 := hbw6.trans (hb7.mono hbw6.size)
  obtain ⟨pra, prc, rfl⟩ := own_form hpr
  clear hpr hb7 hbw6 hb6 s6 B5 hp5 hbw5 W6
  go_wp2_with (refine wpList_store_blk aggOut (Blk.new w7 #[.int .i64 0, .int .i64 0, .slice none 0 0, .int .i64 0] 69) 0 [.int .i64 1, .int .i64 7, .slice pra R.1.out.length prc, .int .i64 (R.1.steps : Int)] rfl (by simp) (fun v hv => by simp only [List.mem_cons, List.not_mem_nil, or_false] at hv; rcases hv with rfl | rfl | rfl | rfl <;> rfl) (.tmp 3) (.tmp 15) rfl rfl rfl rfl ?_; intro w8 hB8 hM8 hs8; rw [putAt_all (by rfl)] at hB8)
  have hb8 := (box_below w7 _).trans (hM8.below (by simp) (fun k hk e => by omega))
  have hbw8 := hbw7.trans (hb8.mono hbw7.size)
  clear hb8 hM8 hs8 hbw7
  refine (keep_cell w8).mono ?_
  rintro e w9 ⟨v9, rfl, hp9, hb9⟩
  have hbw9 := hbw8.trans (hb9.mono hbw8.size)
  have hB9 := hB8.below hb9 hB8.lt
  clear hb9 hbw8 hB8
  go_wp2_with fail
  refine (code_infer exP _ 0 0 w9 hp9 exP_wf exP_sz 9 (some s) (fun m _ hm => by obtain rfl := Option.some.inj (exP_own.symm.trans hm); exact (unhide HI).1)).mono ?_
  rintro e w10 ⟨_, _, hI, hb10⟩
  obtain ⟨vf, rfl, cs, hfr, _⟩ := (hI exP_form exM0 exP_own).2 s rfl
  rw [(unhide HI).2] at hfr
  obtain ⟨fa, fc, rfl⟩ := own_form hfr
  have hbw10 := hbw9.trans (hb10.mono hbw9.size)
  have hB10 := hB9.below hb10 hB9.lt
  have q0 : w10.cell? ⟨w7.heap.size, 0, none⟩ = some (.int .i64 1) := hB10.cell 0
  have q1 : w10.cell? ⟨w7.heap.size, 1, none⟩ = some (.int .i64 7) := hB10.cell 1
  clear hI hfr hp9 hb10 hbw9 hB9
  go_wp2_with fail
  go_ret
  exact ⟨rfl, hbw10⟩
end Go.Proofs.YtiiokkllmchohaaGreat
/- The law Reckoned: the method that it makes. -/
namespace Go.Proofs.YtiiokkllmchohaaGreat
open Go.RowKit Go.Shelf
attribute [local go_sem ↓] Go.wp_at_zero Go.wp_at_succ
attribute [local go_sem] frz_drew

theorem app_exk {P : Program} {W : World} (t ty e : TypeId) (i : TypeInfo) (z : Value) (size bytes k : Nat) (ht : P.underlying t = some (.slice e)) (hi : P.info? e = some i) (hz : i.zero = some z)
    (hsize : i.size = size) (hby : i.bytes = bytes) (hzs : z.cells.size = size) (hsz : 0 < size) (base : Nat) (v : Value) (n : Nat) (xs : List Value) (hown : W.ownsRow base e size v n xs)
    (news : Array Value) (hl : news.size = k * size) (h1 : ∀ u ∈ news.toList, u.oneCell' = true) (H : Nat) (hH : W.heap.size = H) (h63 : n + k ≤ maxLen) (hbytes : (n + k) * bytes ≤ 140737488355328) (hbase : base ≤ W.heap.size) :
    ∃ v' W', (Builtin.append_ #[t, t] ty #[v, .slice (some ⟨H, 0, none⟩) k k]).run P (W.alloc (.cells news e)) = .ok v' W' ∧ W'.ownsRow base e size v' (n + k) (xs ++ news.toList) ∧
      Mods (fun k => v.ownBlock = some k) W W' ∧ (v'.ownBlock = v.ownBlock ∨ ∃ k, H ≤ k ∧ v'.ownBlock = some k) := by
  subst hH
  obtain ⟨v', w', hr, h2, h3, _, h5⟩ := run_append_own_at (P := P) (W.alloc (.cells news e)) base t ty e i z size bytes ht hi hz hsize hby hzs hsz v n xs (own_mods hown ((Mods.refl (fun _ => False) W).alloc _) (fun _ _ f => f)) ⟨W.heap.size, 0, none⟩ k k news.toList (by simpa using hl)
    (fun j u h => by
      have := (Blk.new W news e).cell j
      rw [show (⟨W.heap.size, 0, none⟩ : Addr).add j = ⟨W.heap.size, j, none⟩ by unfold Addr.add; split <;> simp_all, this]
      exact h) h1 h63 hbytes (by simp; omega)
  refine ⟨v', w', hr, h2, ((Mods.refl _ W).alloc _).grown h3 (fun k e _ => e), ?_⟩
  rcases h5 with h5 | h5
  · exact .inl h5
  · exact .inr ⟨_, by simp, h5⟩
set_option maxRecDepth 100000 in
theorem keep_pickI (c n : Int) (w : World) (hc : -9223372036854775808 ≤ c ∧ c ≤ 9223372036854775807) (hn : 0 < n) (hn2 : n ≤ 1099511627776) :
    Calls Tryz.prog 17 #[.int .i64 c, .int .i64 n] w fun e w' => e = .returned (.int .i64 (pickI c n)) ∧ w' = w := by
  have hn0 : n ≠ 0 := by omega
  unfold pickI
  go_enter Tryz.func17, Tryz.ntmps17
  by_cases h0 : c < 0
  · rw [if_pos h0]
    go_wp2_with fail
    have e1 : -(c + 1).tmod n = (-(c + 1)) % n := by rw [← Int.neg_tmod]; exact Int.tmod_eq_emod_of_nonneg (by omega)
    rw [e1]
    have a1 := Int.emod_nonneg (-(c + 1)) hn0
    have a2 := Int.emod_lt_of_pos (-(c + 1)) hn
    go_ret
    exact ⟨rfl, rfl⟩
  · rw [if_neg h0]
    go_wp2_with fail
    have a1 := Int.emod_nonneg c hn0
    have a2 := Int.emod_lt_of_pos c hn
    go_ret
    exact ⟨rfl, rfl⟩
end Go.Proofs.YtiiokkllmchohaaGreat
/- The code's takesNumbers, whatever it answers. -/
namespace Go.Proofs.YtiiokkllmchohaaGreat
open Go.RowKit Go.Shelf
attribute [local go_sem ↓] Go.wp_at_zero Go.wp_at_succ
attribute [local go_sem] frz_drew

def takesB (p : List LClass) (c slot : Int) (n : Nat) : Bool := placeB c p.length && (methOf p c slot).isSome && decide ((findM p c slot).args.length = n) && (findM p c slot).args.all (· == 0)
theorem takesB_iff {p : List LClass} {c slot : Int} {n : Nat} : takesB p c slot n = true ↔ (0 ≤ c ∧ c < (p.length : Int)) ∧ (methOf p c slot).isSome = true ∧ (findM p c slot).args.length = n ∧ ∀ t ∈ (findM p c slot).args, t = 0 := by
  unfold takesB
  simp only [Bool.and_eq_true, placeB_iff, decide_eq_true_eq, List.all_eq_true, beq_iff_eq, and_assoc]
set_option maxHeartbeats 1000000 in
set_option maxRecDepth 100000 in
theorem code_takesB (p : List LClass) (vc : Value) (c slot : Int) (n : Nat) (w : World) (hp : RProg w vc p) (hs : SupOk p p.length) (hz : szProg p ≤ 4194304) (hn4 : n ≤ 4194304) :
    Calls Tryz.prog 59 #[.agg #[vc], .int .i64 c, .int .i64 slot, .int .i64 (n : Int)] w fun e w' => e = .returned (.bool (takesB p c slot n)) ∧ Below w.heap.size w w' := by
  by_cases hT : takesB p c slot n = true
  · rw [hT]
    obtain ⟨⟨h0, h1⟩, h2, h3, h4⟩ := takesB_iff.1 hT
    exact code_takes p vc c slot n w hp hs hz h0 h1 h2 h3 h4 hn4
  rw [Bool.not_eq_true] at hT
  rw [hT]
  have HT := hide hT
  clear hT
  have HP := hide hp
  obtain ⟨pa, _, _, pcap, rfl, _⟩ := hp
  have hbel := box_below w (.cells #[.slice pa p.length pcap] 24)
  have B0 := Blk.new w #[.slice pa p.length pcap] 24
  go_enter Tryz.func59, Tryz.ntmps59
  go_wp2_with fail
  generalize w.alloc _ = W at *
  refine (code_hasclass p _ c W (prog_keep (Keeps.of_below hbel) (unhide HP)) (Nat.le_trans (szProg_len p) hz)).mono ?_
  rintro e w1 ⟨rfl, hb1⟩
  have hbw1 := hbel.trans (hb1.mono hbel.size)
  cases hpl : placeB c p.length with
  | false =>
    clear hpl
    go_wp2_with fail
    go_ret
    exact ⟨rfl, hbw1⟩
  | true =>
  obtain ⟨c0, c1⟩ := placeB_iff.1 hpl
  have HPL := hide hpl
  clear hpl
  have q0 : w1.cell? ⟨w.heap.size, 0, none⟩ = some (.slice pa p.length pcap) := (B0.below hb1 B0.lt).cell 0
  go_wp2_with fail
  refine (code_findmethod0 p _ p.length c slot w w1 (unhide HP) hbw1 hs (Nat.le_refl _) (by omega) c1 hz).mono ?_
  rintro e w2 ⟨o, aa, ca, fa, ac, cc, fc, rfl, hfm, hb2⟩
  have hbw2 := hbw1.trans (hb2.mono hbw1.size)
  have hone : ∀ v ∈ [Value.int .i64 o.slot, .slice aa o.args.length ac, .int .i64 o.ret, .int .i64 o.locals, .int .i64 o.stack, .slice ca o.code.length cc, .slice fa o.frames.length fc], v.oneCell' = true := fun v hv => by
    simp only [List.mem_cons, List.not_mem_nil, or_false] at hv
    rcases hv with rfl | rfl | rfl | rfl | rfl | rfl | rfl <;> rfl
  cases hme : (methOf p c slot).isSome with
  | false =>
    clear hfm hme
    go_wp2_with (refine wpList_store_blk aggMeth (Blk.new w2 #[.int .i64 0, .slice none 0 0, .int .i64 0, .int .i64 0, .int .i64 0, .slice none 0 0, .slice none 0 0] 63) 0 _ rfl (by simp) hone (.tmp 9) (.tmp 22) rfl rfl rfl rfl ?_; intro w3 hB3 hM3 hs3; rw [putAt_all (by rfl)] at hB3; have m1 : w3.cell? ⟨w2.heap.size, 1, none⟩ = some (.slice aa o.args.length ac) := hB3.cell 1)
    have hb3 := (box_below w2 _).trans (hM3.below (by simp) (fun k hk e => by omega))
    go_ret
    exact ⟨rfl, hbw2.trans (hb3.mono hbw2.size)⟩
  | true =>
  obtain ⟨ck, hck⟩ := Option.isSome_iff_exists.1 hme
  obtain ⟨hma, hmv⟩ := hfm ck hck
  obtain rfl := findM_of hck hma
  have HTT : Hid (¬ ((findM p c slot).args.length = n ∧ (findM p c slot).args.all (· == 0) = true)) := by
    intro h
    have h1 := unhide HT
    unfold takesB at h1
    rw [unhide HPL, hme, decide_eq_true h.1, h.2] at h1
    cases h1
  obtain ⟨hva, _, _⟩ := hmv
  obtain ⟨sa, sb, soff, scap, hse, _, hsa, hsr⟩ := ints_open hva
  simp only [Value.slice.injEq, true_and] at hse
  obtain ⟨rfl, rfl⟩ := hse
  clear hck
  generalize findM p c slot = o at *
  have HSR := hide hsr
  have HSA := hide hsa
  clear hfm hma hme hva hsr hsa
  by_cases hn : o.args.length = n
  · subst hn
    go_wp2_with (refine wpList_store_blk aggMeth (Blk.new w2 #[.int .i64 0, .slice none 0 0, .int .i64 0, .int .i64 0, .int .i64 0, .slice none 0 0, .slice none 0 0] 63) 0 _ rfl (by simp) hone (.tmp 9) (.tmp 22) rfl rfl rfl rfl ?_; intro w3 hB3 hM3 hs3; rw [putAt_all (by rfl)] at hB3; have m1 : w3.cell? ⟨w2.heap.size, 1, none⟩ = some (.slice aa o.args.length ac) := hB3.cell 1)
    have hb3 := (box_below w2 _).trans (hM3.below (by simp) (fun k hk e => by omega))
    have hbw3 := hbw2.trans (hb3.mono hbw2.size)
    go_loopw [36] (fun i wr => ∃ (k : Nat), k ≤ o.args.length ∧ i = .int .i64 k ∧ (o.args.take k).all (· == 0) = true ∧ wr = w3) (fun i _ => o.args.length - (intOf i).toNat)
    case atStart => exact ⟨0, Nat.zero_le _, rfl, rfl, rfl⟩
    case round =>
      obtain ⟨k, hk, rfl, hall, rfl⟩ := hrel
      by_cases hlt : k < o.args.length
      · obtain rfl := (unhide HSA) (ne_nil_of_lt hlt)
        have r0 := Keeps.of_below hbw3 _ _ ((unhide HSR) k hlt)
        have hS := all_snoc (f := fun t : Int => t == 0) hlt
        rw [hall, Bool.true_and] at hS
        have HS := hide hS
        have k0 : (0 : Int) ≤ (k : Int) := by omega
        have k1 : (k : Int) < (o.args.length : Int) := by omega
        clear hS hall
        generalize o.args[k] = t at *
        by_cases ht : t = 0
        · subst ht
          go_wp2_with fail
          refine ⟨⟨k + 1, by omega, by go_num, by rw [unhide HS]; rfl, trivial⟩, by simp [intOf]; omega⟩
        · have ht' : (t != 0) = true := by simpa using ht
          go_wp2_with fail
          go_ret
          exact ⟨rfl, hbw3⟩
      · obtain rfl : k = o.args.length := by omega
        exact absurd ⟨by first | trivial | rfl, by rw [List.take_length] at hall; exact hall⟩ (unhide HTT)
  · have hn' : ((o.args.length : Int) != (n : Int)) = true := by
      simp only [bne_iff_ne, ne_eq]; omega
    go_wp2_with (refine wpList_store_blk aggMeth (Blk.new w2 #[.int .i64 0, .slice none 0 0, .int .i64 0, .int .i64 0, .int .i64 0, .slice none 0 0, .slice none 0 0] 63) 0 _ rfl (by simp) hone (.tmp 9) (.tmp 22) rfl rfl rfl rfl ?_; intro w3 hB3 hM3 hs3; rw [putAt_all (by rfl)] at hB3; have m1 : w3.cell? ⟨w2.heap.size, 1, none⟩ = some (.slice aa o.args.length ac) := hB3.cell 1)
    have hb3 := (box_below w2 _).trans (hM3.below (by simp) (fun k hk e => by omega))
    go_ret
    exact ⟨rfl, hbw2.trans (hb3.mono hbw2.size)⟩
end Go.Proofs.YtiiokkllmchohaaGreat
/- The code's Run, whatever it answers. -/
namespace Go.Proofs.YtiiokkllmchohaaGreat
open Go.RowKit Go.Shelf
attribute [local go_sem ↓] Go.wp_at_zero Go.wp_at_succ
attribute [local go_sem] frz_drew

set_option maxHeartbeats 1000000 in
set_option maxRecDepth 100000 in
theorem run1 (p : List LClass) (vc : Value) (b0 : Nat) (w : World) (hB : Blk w b0 24 [vc]) (hp : RProg w vc p) (hF : formI p = 0) (hz : szProg p ≤ 4194304) :
    Calls Tryz.prog 60 #[.pointer (some ⟨b0, 0, none⟩)] w fun e w' => MustR (passAllB p) w w' e := by
  have HP := hide hp
  obtain ⟨pa, _, _, pcap, rfl, _⟩ := hp
  have q0 : w.cell? ⟨b0, 0, none⟩ = some (.slice pa p.length pcap) := hB.cell 0
  have HF := hide hF
  clear hB hF
  go_enter Tryz.func60, Tryz.ntmps60
  go_wp2_with fail
  refine (pass_all p _ _ (unhide HP) (unhide HF) hz).mono ?_
  rintro e w1 ⟨h1, h2, hb⟩
  cases hq : passAllB p with
  | true =>
    obtain rfl := h1 hq
    have HQ := hide hq
    clear hq h1 h2
    go_wp2_with fail
    go_end0
    exact ⟨fun _ => rfl, fun e => (by rw [unhide HQ] at e; cases e), hb⟩
  | false =>
    obtain rfl := h2 hq
    have HQ := hide hq
    clear hq h1 h2
    go_wp2_with fail
    exact ⟨rfl, fun e => (by rw [unhide HQ] at e; cases e), fun _ => rfl, hb⟩
set_option maxHeartbeats 1000000 in
set_option maxRecDepth 100000 in
theorem run_attempt (p : List LClass) (vc : Value) (b0 : Nat) (w : World) (hB : Blk w b0 24 [vc]) (hp : RProg w vc p) (hF : formI p = 0) (hz : szProg p ≤ 4194304) :
    Calls Tryz.prog 36 #[.func (.func 60) #[] #[.pointer (some ⟨b0, 0, none⟩)]] w fun e w' => AttR (passAllB p) w w' e := by
  have hmf : ∀ (fn : Fn) (first cap : Array Value) (w : World), (Instr.makeFunc fn first cap).run Tryz.prog w = .ok (.func fn first cap) w := fun _ _ _ _ => rfl
  have hbw := box_below w (.cells #[.int .i64 0] 26)
  have H1 := hide (And.intro (hB.below hbw hB.lt) (prog_keep (Keeps.of_below hbw) hp))
  have be := Blk.new w #[.int .i64 0] 26
  have HF := hide hF
  clear hB hp hF
  go_enter_defers Tryz.func36, Tryz.ntmps36
  go_wp2_with fail
  generalize w.alloc _ = W at *
  refine Calls.mono (run1 p vc b0 _ (unhide H1).1 (unhide H1).2 (unhide HF) hz) ?_
  rintro e w1 ⟨h1, h2, hb⟩
  have be1 := be.below hb be.lt
  have c0 : w1.cell? ⟨w.heap.size, 0, none⟩ = some (.int .i64 0) := be1.cell 0
  have f0 := be1.frozen 0
  have hb1 := hbw.trans (hb.mono hbw.size)
  have HB := hide hb1
  cases hq : passAllB p with
  | false =>
    obtain rfl := h2 hq
    have HQ := hide hq
    clear hq h1 h2 hb hb1
    go_wp2_with fail
    refine leaves_cons (f := 72) (args := #[.pointer (some ⟨w.heap.size, 0, none⟩)]) (by simp) (by simp [go_sem]) ?_
    refine (catch_giving ⟨w.heap.size, 0, none⟩ 5 0 _ c0 f0).mono ?_
    rintro e u' w2 ⟨rfl, rfl, rfl⟩
    have Z0 := ((be1.alloc (.cells #[.int .i64 5] 119)).setCell 0 (.int .i64 5)).cell 0
    have Z2 := ((unhide HB).alloc (unhide HB).size (.cells #[.int .i64 5] 119)).setCell (p := ⟨w.heap.size, 0, none⟩) (Nat.le_refl _) (.int .i64 5)
    generalize World.setCell _ _ _ = Z at Z0 Z2 ⊢
    replace Z0 : Z.cell? ⟨w.heap.size, 0, none⟩ = some (.int .i64 5) := Z0
    clear c0 f0
    simp [Leaves, settle, results, Tryz.results36, go_sem, Z0]
    exact ⟨by rw [unhide HQ]; rfl, Z2⟩
  | true =>
    obtain rfl := h1 hq
    have HQ := hide hq
    clear hq h1 h2 hb hb1
    go_wp2_with fail
    have Z0 := (be1.setCell 0 (.int .i64 0)).cell 0
    have Z2 := (unhide HB).setCell (p := ⟨w.heap.size, 0, none⟩) (Nat.le_refl _) (.int .i64 0)
    generalize World.setCell _ _ _ = Z at Z0 Z2 ⊢
    replace Z0 : Z.cell? ⟨w.heap.size, 0, none⟩ = some (.int .i64 0) := Z0
    clear c0 f0
    refine leaves_cons (f := 72) (args := #[.pointer (some ⟨w.heap.size, 0, none⟩)]) (by simp) (by simp [go_sem]) ?_
    refine (catch_idle ⟨w.heap.size, 0, none⟩ _).mono ?_
    rintro e u' w2 ⟨rfl, rfl, rfl⟩
    simp [Leaves, settle, results, Tryz.results36, go_sem, Z0]
    exact ⟨by rw [unhide HQ]; rfl, Z2⟩
def runE (p : List LClass) (c slot : Int) (n : Nat) (fuel : Int) (ask : Bool) : Int :=
  if formI p = 0 then (if takesB p c slot n = true ∧ 0 ≤ fuel ∧ fuel ≤ 5000 then (if ask = true ∨ passAllB p = true then 0 else 5) else 4) else formI p
def runF (p : List LClass) (c slot : Int) (args : List Int) (fuel : Int) : MaSt × Int := (runM p fuel (fuel.toNat + 1) (startM p c slot args)).getD (st00, 0)
theorem runF_is {p : List LClass} {c slot : Int} {args : List Int} {fuel : Int} (hF : formI p = 0) (hz : szProg p ≤ 4194304) (hT : takesB p c slot args.length = true) (h0 : 0 ≤ fuel) (h5 : fuel ≤ 5000) :
    Inv p fuel (startM p c slot args) ∧ runM p fuel (fuel.toNat + 1) (startM p c slot args) = some (runF p c slot args fuel) := by
  obtain ⟨⟨c0, c1⟩, hm, hn, hi⟩ := takesB_iff.1 hT
  have I : Inv p fuel (startM p c slot args) := Inv.start hF h0 c0 c1 hm hn
  obtain ⟨R, hR⟩ := run_ends hF hz h5 (fuel.toNat + 1) _ I (by show fuel < ((0 : Nat) : Int) + _; omega)
  refine ⟨I, ?_⟩
  unfold runF
  rw [hR]; rfl
theorem runF_sound {p : List LClass} {c slot : Int} {args : List Int} {fuel : Int} (hF : formI p = 0) (hz : szProg p ≤ 4194304) (hT : takesB p c slot args.length = true) (h0 : 0 ≤ fuel) (h5 : fuel ≤ 5000) (hP : passAllB p = true) : (runF p c slot args fuel).2 ≠ 5 := by
  obtain ⟨I, hR⟩ := runF_is hF hz hT h0 h5
  obtain ⟨⟨c0, c1⟩, hm, hn, hi⟩ := takesB_iff.1 hT
  have hA : PassAll p := passAllB_iff.1 hP
  exact snd_run hF hz h5 hA _ _ _ I (TInv.start hF hA hm hn hi) hR
def RunZ (p : List LClass) (c slot : Int) (R : MaSt × Int) (er : Int) (w w' : World) (e : Ending) : Prop :=
  (er = 0 → RunX p c slot R w w' e) ∧ (er ≠ 0 → e = .returned (.tuple #[.agg #[.int .i64 0, .int .i64 0, .slice none 0 0, .int .i64 0], .int .i64 er])) ∧ Below w.heap.size w w'
theorem runZ_of {p : List LClass} {c slot : Int} {R : MaSt × Int} {w w' : World} {e : Ending} (h : RunX p c slot R w w' e) : RunZ p c slot R 0 w w' e := by
  have h2 := h
  obtain ⟨_, _, _, hb⟩ := h2
  exact ⟨fun _ => h, fun e => absurd rfl e, hb⟩
theorem zeros4 : ∀ v ∈ [Value.int .i64 0, .int .i64 0, .slice none 0 0, .int .i64 0], v.oneCell' = true := fun v hv => by
  simp only [List.mem_cons, List.not_mem_nil, or_false] at hv
  rcases hv with rfl | rfl | rfl | rfl <;> rfl
set_option maxHeartbeats 1000000 in
set_option maxRecDepth 100000 in
theorem code_runZ (p : List LClass) (vp : Value) (c slot : Int) (args : List Int) (va : Value) (fuel : Int) (ask : Bool) (w : World) (hp : RProg w vp p) (hwf : wfProg p) (hz : szProg p ≤ 4194304) (hva : SlAt 1 (RInt w) va args) (hal4 : args.length ≤ 4194304) :
    Calls Tryz.prog 27 #[.agg #[vp], .int .i64 c, .int .i64 slot, va, .int .i64 fuel, .bool ask] w fun e w' => RunZ p c slot (runF p c slot args fuel) (runE p c slot args.length fuel ask) w w' e := by
  have hal : formI p = 0 → ∀ a b, (methOf p a b).isSome = true → 0 ≤ a → a < (p.length : Int) → (findM p a b).args.length ≤ 4194303 := fun hF a b hm _ _ => by
    have := (bareB_iff.1 (form_find hF hm)).2.2.1
    omega
  by_cases hask : formI p = 0 ∧ (takesB p c slot args.length = true ∧ 0 ≤ fuel ∧ fuel ≤ 5000) ∧ ask = true
  · obtain ⟨hF, hT, rfl⟩ := hask
    have hE : runE p c slot args.length fuel true = 0 := by unfold runE; rw [if_pos hF, if_pos hT, if_pos (.inl rfl)]
    rw [hE]
    obtain ⟨I, hR⟩ := runF_is hF hz hT.1 hT.2.1 hT.2.2
    obtain ⟨⟨c0, c1⟩, hm, hn, hi⟩ := takesB_iff.1 hT.1
    have hb := bareB_iff.1 (form_find hF hm)
    exact (code_run p vp c slot args va fuel w hp hwf hz hF (hal hF) c0 c1 hm hva hn hi (by omega) hb.2.2.2.2.2.2.1 hT.2.2 hT.2.1 _ _ (Inv.run hF hz hT.2.2 _ _ I) hR).mono fun e w' h => runZ_of h
  obtain ⟨R, hR0⟩ : ∃ R, R = runF p c slot args fuel := ⟨_, rfl⟩
  obtain ⟨er, hE0⟩ : ∃ er, er = runE p c slot args.length fuel ask := ⟨_, rfl⟩
  rw [← hR0, ← hE0]
  have HR0 := hide hR0
  have HE0 := hide hE0
  clear hR0 hE0
  have HP := hide hp
  have HVA := hide hva
  obtain ⟨aa, _, _, acap, rfl, _⟩ := hva
  obtain ⟨pa, _, _, pcap, rfl, _⟩ := hp
  have hbel : Below w.heap.size w ((w.alloc (.cells #[.slice pa p.length pcap] 24)).alloc (.cells #[.int .i64 0, .int .i64 0, .slice none 0 0, .int .i64 0] 69)) := box2_below _ _ _
  have B0 := (Blk.new w #[.slice pa p.length pcap] 24).alloc (.cells #[.int .i64 0, .int .i64 0, .slice none 0 0, .int .i64 0] 69)
  have B1 := Blk.new (w.alloc (.cells #[.slice pa p.length pcap] 24)) #[.int .i64 0, .int .i64 0, .slice none 0 0, .int .i64 0] 69
  rw [World.size_alloc] at B1
  have hmf : ∀ (fn : Fn) (first cap : Array Value) (w : World), (Instr.makeFunc fn first cap).run Tryz.prog w = .ok (.func fn first cap) w := fun _ _ _ _ => rfl
  go_enter Tryz.func27, Tryz.ntmps27
  go_wp2_with fail
  generalize (w.alloc _).alloc _ = W at *
  refine (code_check p _ W (prog_keep (Keeps.of_below hbel) (unhide HP)) hwf hz).mono ?_
  rintro e w1 ⟨rfl, hb1⟩
  have hbw1 := hbel.trans (hb1.mono hbel.size)
  have C0 := B0.below hb1 (by have := B0.lt; omega)
  have C1 := B1.below hb1 (by have := B1.lt; omega)
  by_cases hF : formI p = 0
  · have G := form_good hF hz
    have HF := hide hF
    rw [hF]
    have q0 : w1.cell? ⟨w.heap.size, 0, none⟩ = some (.slice pa p.length pcap) := C0.cell 0
    have HAS := hide hask
    clear hF hask
    go_wp2_with fail
    refine (code_takesB p _ c slot args.length w1 (prog_keep (Keeps.of_below hbw1) (unhide HP)) G.sup hz hal4).mono ?_
    rintro e w2 ⟨rfl, hb2⟩
    have hbw2 := hbw1.trans (hb2.mono hbw1.size)
    have D0 := C0.below hb2 C0.lt
    have D1 := C1.below hb2 C1.lt
    have q2 : w2.cell? ⟨w.heap.size, 0, none⟩ = some (.slice pa p.length pcap) := D0.cell 0
    clear q0
    cases hT : takesB p c slot args.length with
    | false =>
      have HE : er = 4 := by rw [unhide HE0]; unfold runE; rw [if_pos (unhide HF), if_neg (by rw [hT]; simp)]
      subst HE
      clear hT
      go_wp2_with (refine wpList_store_blk aggOut D1 0 [.int .i64 0, .int .i64 0, .slice none 0 0, .int .i64 0] rfl (by simp) zeros4 (.tmp 12) (.tmp 37) rfl rfl rfl rfl ?_; intro w4 hB4 hM4 hs4; rw [putAt_all (by rfl)] at hB4)
      refine bodyPost_ret (results_blk2 rfl aggOut hB4 rfl rfl) rfl ?_
      exact ⟨fun e => (by cases e), fun _ => rfl, hbw2.trans (hM4.below hbw2.size (fun k hk e => by omega))⟩
    | true =>
      have HT := hide hT
      clear hT
      by_cases h0 : fuel < 0
      · have HE : er = 4 := by rw [unhide HE0]; unfold runE; rw [if_pos (unhide HF), if_neg (by omega)]
        subst HE
        go_wp2_with (refine wpList_store_blk aggOut D1 0 [.int .i64 0, .int .i64 0, .slice none 0 0, .int .i64 0] rfl (by simp) zeros4 (.tmp 12) (.tmp 37) rfl rfl rfl rfl ?_; intro w4 hB4 hM4 hs4; rw [putAt_all (by rfl)] at hB4)
        refine bodyPost_ret (results_blk2 rfl aggOut hB4 rfl rfl) rfl ?_
        exact ⟨fun e => (by cases e), fun _ => rfl, hbw2.trans (hM4.below hbw2.size (fun k hk e => by omega))⟩
      by_cases h5 : 5000 < fuel
      · have HE : er = 4 := by rw [unhide HE0]; unfold runE; rw [if_pos (unhide HF), if_neg (by omega)]
        subst HE
        go_wp2_with (refine wpList_store_blk aggOut D1 0 [.int .i64 0, .int .i64 0, .slice none 0 0, .int .i64 0] rfl (by simp) zeros4 (.tmp 12) (.tmp 37) rfl rfl rfl rfl ?_; intro w4 hB4 hM4 hs4; rw [putAt_all (by rfl)] at hB4)
        refine bodyPost_ret (results_blk2 rfl aggOut hB4 rfl rfl) rfl ?_
        exact ⟨fun e => (by cases e), fun _ => rfl, hbw2.trans (hM4.below hbw2.size (fun k hk e => by omega))⟩
      cases ask with
      | true => exact absurd ⟨unhide HF, ⟨unhide HT, by omega, by omega⟩, rfl⟩ (unhide HAS)
      | false =>
        have HE1 : Hid (er = if passAllB p = true then 0 else 5) := by
          show _ = _
          rw [unhide HE0]
          unfold runE
          rw [if_pos (unhide HF), if_pos ⟨unhide HT, by omega, by omega⟩]
          simp
        go_wp2_with fail
        refine (run_attempt p _ w.heap.size w2 D0 (prog_keep (Keeps.of_below hbw2) (unhide HP)) (unhide HF) hz).mono ?_
        rintro e w3 ⟨rfl, hb3⟩
        have hbw3 := hbw2.trans (hb3.mono hbw2.size)
        have E0 := D0.below hb3 D0.lt
        have E1 := D1.below hb3 D1.lt
        cases hPA : passAllB p with
        | false =>
          have HE : er = 5 := by rw [unhide HE1, hPA]; rfl
          subst HE
          clear hPA q2
          rw [show (if false = true then (0 : Int) else 5) = 5 from rfl]
          go_wp2_with (refine wpList_store_blk aggOut E1 0 [.int .i64 0, .int .i64 0, .slice none 0 0, .int .i64 0] rfl (by simp) zeros4 (.tmp 12) (.tmp 44) rfl rfl rfl rfl ?_; intro w4 hB4 hM4 hs4; rw [putAt_all (by rfl)] at hB4)
          refine bodyPost_ret (results_blk2 rfl aggOut hB4 rfl rfl) rfl ?_
          exact ⟨fun e => (by cases e), fun _ => rfl, hbw3.trans (hM4.below hbw3.size (fun k hk e => by omega))⟩
        | true =>
          have HE : er = 0 := by rw [unhide HE1, hPA]; rfl
          subst HE
          have HPA := hide hPA
          have q3 : w3.cell? ⟨w.heap.size, 0, none⟩ = some (.slice pa p.length pcap) := E0.cell 0
          clear hPA q2
          rw [show (if true = true then (0 : Int) else 5) = 0 from rfl]
          go_wp2_with fail
          obtain ⟨I, hR⟩ := runF_is (unhide HF) hz (unhide HT) (by omega : 0 ≤ fuel) (by omega)
          have hn5 := runF_sound (unhide HF) hz (unhide HT) (by omega : 0 ≤ fuel) (by omega) (unhide HPA)
          obtain ⟨⟨c0, c1⟩, hm, hn, hi⟩ := takesB_iff.1 (unhide HT)
          have hb := bareB_iff.1 (form_find (unhide HF) hm)
          refine (ma_run p _ c slot args _ fuel w3 (prog_keep (Keeps.of_below hbw3) (unhide HP)) G (hal (unhide HF)) c0 c1 hm (ints_keep (Keeps.of_below hbw3) (unhide HVA)) (by omega) hb.2.2.2.2.2.2.1 (by omega) (by omega) _ _ (Inv.run (unhide HF) hz (by omega) _ _ I) hR false (.inr hn5)).mono ?_
          rintro e w5 ⟨vpr, rfl, hpr, hb5⟩
          have F1 := E1.below hb5 E1.lt
          obtain ⟨pra, prc, rfl⟩ := own_form hpr
          rw [← unhide HR0] at hpr ⊢
          generalize hvv : (if R.2 = 1 then tellV R.1 R.1.told (findM p c slot).ret else 0) = vv at *
          have HVV := hide hvv
          have HPR := hide hpr
          clear hvv hpr hm hn hi hb I hR hn5 c0 c1
          go_wp2_with (refine wpList_store_blk aggOut F1 0 [.int .i64 R.2, .int .i64 vv, .slice pra R.1.out.length prc, .int .i64 (R.1.steps : Int)] rfl (by simp) (fun v hv => by simp only [List.mem_cons, List.not_mem_nil, or_false] at hv; rcases hv with rfl | rfl | rfl | rfl <;> rfl) (.tmp 12) (.tmp 52) rfl rfl rfl rfl ?_; intro w4 hB4 hM4 hs4; rw [putAt_all (by rfl)] at hB4)
          refine bodyPost_ret (results_blk2 rfl aggOut hB4 rfl rfl) rfl ?_
          have hbw5 := hbw3.trans (hb5.mono hbw3.size)
          refine runZ_of ⟨_, by rw [unhide HVV]; rfl, own_base (own_mods (unhide HPR) hM4 (fun g hg e => ?_)) hbw3.size, hbw5.trans (hM4.below hbw5.size (fun k hk e => by omega))⟩
          have := ((unhide HPR).lt g hg).1
          have := E1.lt
          omega
  · have HE : er = formI p := by rw [unhide HE0]; unfold runE; rw [if_neg hF]
    subst HE
    have HF := hide hF
    have hF' : (formI p != 0) = true := by simpa using hF
    clear hF hask
    go_wp2_with (refine wpList_store_blk aggOut C1 0 [.int .i64 0, .int .i64 0, .slice none 0 0, .int .i64 0] rfl (by simp) zeros4 (.tmp 12) (.tmp 20) rfl rfl rfl rfl ?_; intro w4 hB4 hM4 hs4; rw [putAt_all (by rfl)] at hB4)
    refine bodyPost_ret (results_blk2 rfl aggOut hB4 rfl rfl) rfl ?_
    exact ⟨fun e => absurd e (unhide HF), fun _ => rfl, hbw1.trans (hM4.below hbw1.size (fun k hk e => by omega))⟩
end Go.Proofs.YtiiokkllmchohaaGreat
/- The laws' own helpers: passes, sameOutcome. -/
namespace Go.Proofs.YtiiokkllmchohaaGreat
open Go.RowKit Go.Shelf
attribute [local go_sem ↓] Go.wp_at_zero Go.wp_at_succ
attribute [local go_sem] frz_drew

set_option maxHeartbeats 1000000 in
set_option maxRecDepth 100000 in
theorem keep_same (k v s : Int) (va vb : Value) (out : List Int) (w : World) (ha : SlAt 1 (RInt w) va out) (hb : SlAt 1 (RInt w) vb out) (hl : out.length ≤ 4194304) :
    Calls Tryz.prog 29 #[.agg #[.int .i64 k, .int .i64 v, va, .int .i64 s], .agg #[.int .i64 k, .int .i64 v, vb, .int .i64 s]] w fun e w' => e = .returned (.bool true) ∧ Below w.heap.size w w' := by
  obtain ⟨aa, ab, aoff, acap, rfl, _, haa, har⟩ := ints_open ha
  obtain ⟨ba, bb, boff, bcap, rfl, _, hba, hbr⟩ := ints_open hb
  have HA := hide har
  have HB := hide hbr
  clear ha hb har hbr
  have hbel : Below w.heap.size w ((w.alloc (.cells #[.int .i64 k, .int .i64 v, .slice aa out.length acap, .int .i64 s] 69)).alloc (.cells #[.int .i64 k, .int .i64 v, .slice ba out.length bcap, .int .i64 s] 69)) := box2_below _ _ _
  have B0 := (Blk.new w #[.int .i64 k, .int .i64 v, .slice aa out.length acap, .int .i64 s] 69).alloc (.cells #[.int .i64 k, .int .i64 v, .slice ba out.length bcap, .int .i64 s] 69)
  have B1 := Blk.new (w.alloc (.cells #[.int .i64 k, .int .i64 v, .slice aa out.length acap, .int .i64 s] 69)) #[.int .i64 k, .int .i64 v, .slice ba out.length bcap, .int .i64 s] 69
  rw [World.size_alloc] at B1
  go_enter Tryz.func29, Tryz.ntmps29
  go_wp2_with fail
  generalize (w.alloc _).alloc _ = W at *
  have x0 : W.cell? ⟨w.heap.size, 2, none⟩ = some (.slice aa out.length acap) := B0.cell 2
  have y0 : W.cell? ⟨w.heap.size + 1, 2, none⟩ = some (.slice ba out.length bcap) := B1.cell 2
  go_loopw [5] (fun i wr => ∃ j : Nat, j ≤ out.length ∧ i = .int .i64 j ∧ Below W.heap.size W wr) (fun i _ => out.length - (intOf i).toNat)
  case atStart => exact ⟨0, Nat.zero_le _, rfl, Below.refl _ _⟩
  case round =>
    obtain ⟨j, hj, rfl, hbr⟩ := hrel
    have hfin := hbel.trans (hbr.mono hbel.size)
    have x2 := Keeps.of_below hbr _ _ x0
    have y2 := Keeps.of_below hbr _ _ y0
    by_cases hlt : j < out.length
    · obtain rfl := haa (ne_nil_of_lt hlt)
      obtain rfl := hba (ne_nil_of_lt hlt)
      have r0 := Keeps.of_below hfin _ _ (unhide HA j hlt)
      have r1 := Keeps.of_below hfin _ _ (unhide HB j hlt)
      have k0 : (0 : Int) ≤ (j : Int) := by omega
      have k1 : (j : Int) < (out.length : Int) := by omega
      generalize out[j] = t at *
      go_wp2_with fail
      go_region_held3 (fun w' => w'.cell? ⟨w.heap.size, 2, none⟩ = some (.slice (some ⟨ab, aoff, none⟩) out.length acap) ∧ w'.cell? ⟨w.heap.size + 1, 2, none⟩ = some (.slice (some ⟨bb, boff, none⟩) out.length bcap) ∧ w'.cell? ⟨ab, aoff + j, none⟩ = some (.int .i64 t) ∧ w'.cell? ⟨bb, boff + j, none⟩ = some (.int .i64 t))
        (first | (exact ⟨x2, y2, r0, r1⟩) | go_keep)
        (fail)
      go_wp2_with fail
      refine ⟨⟨j + 1, by omega, by go_num, hbr.drew⟩, by simp [intOf]; omega⟩
    · obtain rfl : j = out.length := by omega
      go_wp2
      go_ret
      exact ⟨rfl, hfin⟩
end Go.Proofs.YtiiokkllmchohaaGreat
/- The law Trusted, walked. -/
namespace Go.Proofs.YtiiokkllmchohaaGreat
open Go.RowKit Go.Shelf
attribute [local go_sem ↓] Go.wp_at_zero Go.wp_at_succ
attribute [local go_sem] frz_drew

def outV (p : List LClass) (c slot : Int) (R : MaSt × Int) : Int := if R.2 = 1 then tellV R.1 R.1.told (findM p c slot).ret else 0
def RunO (p : List LClass) (c slot : Int) (R : MaSt × Int) (er : Int) (w w' : World) (e : Ending) : Prop :=
  ∃ (K V S : Int) (a : Option Addr) (cap : Nat) (out : List Int), e = .returned (.tuple #[.agg #[.int .i64 K, .int .i64 V, .slice a out.length cap, .int .i64 S], .int .i64 er]) ∧ SlAt 1 (RInt w') (.slice a out.length cap) out ∧ (er = 0 → K = R.2 ∧ V = outV p c slot R ∧ out = R.1.out ∧ S = (R.1.steps : Int)) ∧ Below w.heap.size w w'
theorem runO_of {p : List LClass} {c slot : Int} {R : MaSt × Int} {er : Int} {w w' : World} {e : Ending} (h : RunZ p c slot R er w w' e) : RunO p c slot R er w w' e := by
  obtain ⟨h1, h2, hb⟩ := h
  by_cases he : er = 0
  · subst he
    obtain ⟨vpr, rfl, hpr, _⟩ := h1 rfl
    obtain ⟨a, cap, rfl⟩ := own_form hpr
    exact ⟨_, _, _, a, cap, R.1.out, rfl, own_ints rfl hpr, fun _ => ⟨rfl, rfl, rfl, rfl⟩, hb⟩
  · obtain rfl := h2 he
    refine ⟨0, 0, 0, none, 0, [], rfl, ⟨none, 0, 0, 0, rfl, Nat.le_refl _, ⟨fun e => absurd rfl e, .inl ⟨rfl, rfl⟩⟩, fun j x e => (by cases e)⟩, fun e => absurd e he, hb⟩
theorem code_runO (p : List LClass) (vp : Value) (c slot : Int) (args : List Int) (va : Value) (fuel : Int) (ask : Bool) (w : World) (hp : RProg w vp p) (hwf : wfProg p) (hz : szProg p ≤ 4194304) (hva : SlAt 1 (RInt w) va args) (hal4 : args.length ≤ 4194304) :
    Calls Tryz.prog 27 #[.agg #[vp], .int .i64 c, .int .i64 slot, va, .int .i64 fuel, .bool ask] w fun e w' => RunO p c slot (runF p c slot args fuel) (runE p c slot args.length fuel ask) w w' e :=
  (code_runZ p vp c slot args va fuel ask w hp hwf hz hva hal4).mono fun _ _ h => runO_of h
theorem one4 (K V S : Int) (a : Option Addr) (n cap : Nat) : ∀ v ∈ [Value.int .i64 K, .int .i64 V, .slice a n cap, .int .i64 S], v.oneCell' = true := fun v hv => by
  simp only [List.mem_cons, List.not_mem_nil, or_false] at hv
  rcases hv with rfl | rfl | rfl | rfl <;> rfl
theorem Inv.outs {p : List LClass} {fuel : Int} (hF : formI p = 0) (hz : szProg p ≤ 4194304) (hfu : fuel ≤ 5000) : ∀ (n : Nat) (st : MaSt) (R : MaSt × Int), Inv p fuel st → runM p fuel n st = some R → R.1.out.length ≤ R.1.steps
  | 0, _, _, _, h => by cases h
  | n + 1, st, R, I, h => by
    unfold runM at h
    cases e : stepM p fuel st with
    | inr r =>
      rw [e] at h
      cases h
      have hk := step_kind e
      rw [hk.2.1, hk.2.2.1]
      exact I.out
    | inl st' =>
      rw [e] at h
      exact Inv.outs hF hz hfu n st' R (I.step hF hz hfu e) h
theorem runF_out {p : List LClass} {c slot : Int} {args : List Int} {fuel : Int} (hF : formI p = 0) (hz : szProg p ≤ 4194304) (hT : takesB p c slot args.length = true) (h0 : 0 ≤ fuel) (h5 : fuel ≤ 5000) : (runF p c slot args fuel).1.out.length ≤ 5000 := by
  obtain ⟨I, hR⟩ := runF_is hF hz hT h0 h5
  have h1 := Inv.outs hF hz h5 _ _ _ I hR
  have h2 := Inv.last hF hz h5 _ _ _ I hR
  omega
end Go.Proofs.YtiiokkllmchohaaGreat
/- The law Reckoned: sum, walked. -/
namespace Go.Proofs.YtiiokkllmchohaaGreat
open Go.RowKit Go.Shelf
attribute [local go_sem ↓] Go.wp_at_zero Go.wp_at_succ
attribute [local go_sem] frz_drew

section
variable {k : Bool} {u o n : Int}
end
end Go.Proofs.YtiiokkllmchohaaGreat
/- The law Reckoned, walked. -/
namespace Go.Proofs.YtiiokkllmchohaaGreat
open Go.RowKit Go.Shelf
attribute [local go_sem ↓] Go.wp_at_zero Go.wp_at_succ
attribute [local go_sem] frz_drew

theorem nil_sl {α : Type} (sz : Nat) (R : α → Nat → Nat → Prop) : SlAt sz R (.slice none 0 0) [] := ⟨none, 0, 0, 0, rfl, Nat.le_refl _, ⟨fun e => absurd rfl e, .inl ⟨rfl, rfl⟩⟩, fun j x hj => by simp at hj⟩
end Go.Proofs.YtiiokkllmchohaaGreat
/- What is proved: the law Reckoned (sums are those of 64 bits; division goes towards 0, by 0 the run ends with Zero; it is one step an instruction) answers true, and what it was handed reads as it did. Without condition. -/
namespace Go.Proofs.YtiiokkllmchohaaGreat
open Go.ChangeShapes Go.WideShapes Go.ChangeAt Go.RowKit

set_option maxRecDepth 100000 in
theorem okw_len {w : World} {base n cap : Nat} {a : Option Addr} (hv : Value.okWide Tryz.prog w .any base 51 (.slice a n cap)) : (n : Int) ≤ 9223372036854775807 := by
  unfold Value.okWide at hv
  rw [Tryz.underlying51] at hv
  unfold Cell.okWide at hv
  rw [Tryz.underlying51] at hv
  simp only [Cell.ok, Tryz.underlying51] at hv
  cases a with
  | none =>
    cases n with
    | zero => decide
    | succ n => exact hv.elim
  | some ad =>
    have h1 : n ≤ cap := hv.1
    have h2 : (cap : Int) ≤ 9223372036854775807 := hv.2.1
    omega
end Go.Proofs.YtiiokkllmchohaaGreat
