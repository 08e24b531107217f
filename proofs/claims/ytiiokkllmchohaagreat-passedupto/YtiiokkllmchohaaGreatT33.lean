/- The document's answer: what CALL takes and leaves; wants, whole. -/
import Derived.Test.YtiiokkllmchohaaGreatT30
import Derived.Test.YtiiokkllmchohaaGreatT31
import Derived.Test.YtiiokkllmchohaaGreatT32
namespace Go.Proofs.YtiiokkllmchohaaGreat
open Go.RowKit Go.Shelf
attribute [local go_sem ↓] Go.wp_at_zero Go.wp_at_succ
attribute [local go_sem] frz_drew
theorem own_one {V : World} {b B : Nat} {x : Value} (h : Blk V b 43 [x]) (hb : B ≤ b) : V.ownsRow B 43 1 (.slice (some ⟨b, 0, none⟩) 1 1) 1 [x] :=
 ⟨rfl, .inr ⟨b, 1, #[x], rfl, hb, h, Nat.le_refl _, by unfold maxLen; omega, rfl, rfl⟩⟩
set_option maxHeartbeats 1000000 in
set_option maxRecDepth 100000 in
theorem rs_wants12 (p : List LClass) (vc : Value) (m : LMeth) (va vco vf : Value) (xa xb : Int) (w : World) (hp : RProg w vc p) (hv : GVals w.cell? m va vco vf) (hs : SupOk p p.length) (hz : szProg p ≤ 4194304) (ha : 0 ≤ xa) (ha2 : xa < (p.length : Int)) (hm : (methOf p xa xb).isSome = true) (hal : (findM p xa xb).args.length ≤ 4194304) :
  Calls Tryz.prog 151 #[.agg #[vc], methV m va vco vf, .agg #[.int .i64 12, .int .i64 xa, .int .i64 xb]] w fun e w' => RwR ((xa + 3) :: (findM p xa xb).args) [(findM p xa xb).ret] w w' e := by
 unfold methV
 have HP := hide hp
 obtain ⟨pa, pb, poff, pcap, rfl, _, hpa, hpr⟩ := sl_open hp
 obtain ⟨aa, _, _, acap, rfl, _⟩ := hv.1
 obtain ⟨ca, _, _, ccap, rfl, _⟩ := hv.2.1
 obtain ⟨fa, _, _, fcap, rfl, _⟩ := hv.2.2
 have hbel : Below w.heap.size w (((w.alloc (.cells #[.slice pa p.length pcap] 24)).alloc (.cells #[.int .i64 m.slot, .slice aa m.args.length acap, .int .i64 m.ret, .int .i64 m.locals, .int .i64 m.stack, .slice ca m.code.length ccap, .slice fa m.frames.length fcap] 63)).alloc (.cells #[.int .i64 12, .int .i64 xa, .int .i64 xb] 60)) := (box2_below _ _ _).alloc (by simp; omega) _
 have hsz : (((w.alloc (.cells #[.slice pa p.length pcap] 24)).alloc (.cells #[.int .i64 m.slot, .slice aa m.args.length acap, .int .i64 m.ret, .int .i64 m.locals, .int .i64 m.stack, .slice ca m.code.length ccap, .slice fa m.frames.length fcap] 63)).alloc (.cells #[.int .i64 12, .int .i64 xa, .int .i64 xb] 60)).heap.size = w.heap.size + 1 + 1 + 1 := by simp
 have hpl : p.length ≤ 4194304 := Nat.le_trans (szProg_len p) hz
 obtain ⟨xn, rfl⟩ := Int.eq_ofNat_of_zero_le ha
 obtain ⟨ck, hck⟩ := Option.isSome_iff_exists.1 hm
 obtain ⟨ci, ki⟩ := ck
 obtain ⟨y, o, hy, ho, _, _⟩ := methOf_some p hs xb xn (by omega) hck
 have hmc : methC p (xn : Int) xb = ((ci : Int), (ki : Int)) := by unfold methC; rw [hck]
 have hfm : findM p (xn : Int) xb = o := by
  unfold findM methAt
  rw [hck, Option.bind_some, hy, Option.bind_some, ho]; rfl
 rw [hfm] at hal ⊢
 have hci := (List.getElem?_eq_some_iff.1 hy).1
 obtain rfl : p[ci] = y := (List.getElem?_eq_some_iff.1 hy).2
 have hki := (List.getElem?_eq_some_iff.1 ho).1
 obtain rfl := hpa (ne_nil_of_lt hci)
 obtain ⟨vcf, vcm, c0, c1, c2, hcf, hcm⟩ := hpr ci hci
 obtain ⟨ma, mb, moff, mcap, rfl, _, hma, hmr⟩ := sl_open hcm
 obtain rfl := hma (ne_nil_of_lt hki)
 obtain ⟨ova, ovc, ovf, hov, m0, m1, m2, m3, m4, m5, m6⟩ := hmr ki hki
 obtain rfl : p[ci].meths[ki] = o := (List.getElem?_eq_some_iff.1 ho).2
 have hml : p[ci].meths.length ≤ 4194304 := Nat.le_trans (szMeths_le _) (Nat.le_trans (szClass_le (List.getElem_mem hci)) hz)
 clear hpr hmr hcm
 generalize p[ci].meths[ki] = o at *
 generalize p[ci].meths.length = ml at *
 obtain ⟨oa, ocap, rfl, hoanil, hoasrc⟩ := ints_src hov.1
 have HC2 := hide (And.intro c2 (And.intro m1 m2))
 clear hcf c0 c1 c2 m0 m1 m2 m3 m4 m5 m6 hov hy ho hck hfm hm
 have B0 := ((Blk.new w #[.slice (some ⟨pb, poff, none⟩) p.length pcap] 24).alloc (.cells #[.int .i64 m.slot, .slice aa m.args.length acap, .int .i64 m.ret, .int .i64 m.locals, .int .i64 m.stack, .slice ca m.code.length ccap, .slice fa m.frames.length fcap] 63)).alloc (.cells #[.int .i64 12, .int .i64 (xn : Int), .int .i64 xb] 60)
 have B2 := Blk.new ((w.alloc (.cells #[.slice (some ⟨pb, poff, none⟩) p.length pcap] 24)).alloc (.cells #[.int .i64 m.slot, .slice aa m.args.length acap, .int .i64 m.ret, .int .i64 m.locals, .int .i64 m.stack, .slice ca m.code.length ccap, .slice fa m.frames.length fcap] 63)) #[.int .i64 12, .int .i64 (xn : Int), .int .i64 xb] 60
 rw [World.size_alloc, World.size_alloc] at B2
 go_enter Tryz.func151, Tryz.ntmps151
 go_wp2_with fail
 generalize ((w.alloc _).alloc _).alloc _ = W at *
 have q0 : W.cell? ⟨w.heap.size, 0, none⟩ = some (.slice (some ⟨pb, poff, none⟩) p.length pcap) := B0.cell 0
 have q1 : W.cell? ⟨w.heap.size + 1 + 1, 1, none⟩ = some (.int .i64 (xn : Int)) := B2.cell 1
 have q2 : W.cell? ⟨w.heap.size + 1 + 1, 2, none⟩ = some (.int .i64 xb) := B2.cell 2
 go_wp2_with fail
 refine (ref_method p _ p.length (xn : Int) xb W (prog_keep (Keeps.of_below hbel) (unhide HP)) hs (Nat.le_refl _) (by omega) ha2 hz).mono ?_
 rintro e w1 ⟨rfl, hb1⟩
 rw [hmc]
 dsimp only
 have hbw1 := hbel.trans (hb1.mono hbel.size)
 have C2 := B2.below hb1 B2.lt
 have C0 := B0.below hb1 B0.lt
 have hx2 := box_below w1 (.cells #[.int .i64 (3 + (xn : Int))] 43)
 have hbw2 := hbw1.trans (hx2.mono hbw1.size)
 have N1 := Blk.new w1 #[.int .i64 (3 + (xn : Int))] 43
 have hsw1 := hbw1.size
 have hO := own_one (B := w1.heap.size) N1 (Nat.le_refl _)
 obtain ⟨v3, w3, happ, hO3, hM3, hv3⟩ := app_types w1.heap.size _ _ _ hO oa o.args.length ocap (o.args.map (Value.int .i64)) (by simp) (fun e => ⟨by rw [(hoanil e).1]; rfl, (hoanil e).2⟩) (fun ad e j u h => Keeps.of_below hbw2 _ _ (hoasrc ad e j u h)) (oneCell_ints _) (by omega) hal (by simp)
 obtain ⟨a3, cap3, rfl⟩ := own_form hO3
 have hne : ∀ j, j < w1.heap.size → ¬ (Value.slice (some ⟨w1.heap.size, 0, none⟩) 1 1).ownBlock = some j := fun j hj e => by
  have e' : w1.heap.size = j := Option.some.inj e
  omega
 have hb3 : Below w1.heap.size w1 w3 := hx2.trans (hM3.below hx2.size hne)
 have hbw3 := hbw1.trans (hb3.mono hbw1.size)
 have r1 : w1.cell? ⟨w.heap.size + 1 + 1, 1, none⟩ = some (.int .i64 (xn : Int)) := C2.cell 1
 have c2a := Keeps.of_below hbw2 _ _ (unhide HC2).1
 have m1a := Keeps.of_below hbw2 _ _ (unhide HC2).2.1
 have c0a : (w1.alloc (.cells #[.int .i64 (3 + (xn : Int))] 43)).cell? ⟨w.heap.size, 0, none⟩ = some (.slice (some ⟨pb, poff, none⟩) p.length pcap) := (C0.alloc _).cell 0
 have HO := hide (fun U (hU : Below w3.heap.size w3 U) => And.intro (((C0.below hb3 C0.lt).below hU (by have := hb3.size; have := C0.lt; omega)).cell 0) (And.intro (Keeps.of_below (hbw3.trans (hU.mono hbw3.size)) _ _ (unhide HC2).1) (Keeps.of_below (hbw3.trans (hU.mono hbw3.size)) _ _ (unhide HC2).2.2)))
 have HFin := hide (And.intro hO3 hbw3)
 have i0 : (0 : Int) ≤ (ci : Int) := by omega
 have i1 : (ci : Int) < (p.length : Int) := by omega
 have i2 : (0 : Int) ≤ (ki : Int) := by omega
 have i3 : (ki : Int) < (ml : Int) := by omega
 clear hO hO3 hM3 hv3 hne N1 hmc q0 q1 q2 B0 B2
 go_wp2_with (at_builtin; refine wpList_append_run rfl (.tmp 80) (.tmp 90) 40 rfl _ _ rfl rfl happ ?_)
 clear happ c2a m1a c0a r1
 refine wp_region_noPanic ?_
 refine wp_region_held_drew (S := (fun w' => w'.cell? ⟨w.heap.size, 0, none⟩ = some (.slice (some ⟨pb, poff, none⟩) p.length pcap) ∧ w'.cell? ⟨pb, poff + ci * 3 + 2, none⟩ = some (.slice (some ⟨mb, moff, none⟩) ml mcap) ∧ w'.cell? ⟨mb, moff + ki * 7 + 2, none⟩ = some (.int .i64 o.ret))) (by kernel_rfl) ?_ (fun hHeld => ?_)
 ·exact (unhide HO) _ drew_below
 refine take_x (some 92) 0 rfl rfl ?_
 refine take_x (some 6) 12 rfl rfl ?_
 refine take_x (some 93) 1 rfl rfl ?_
 refine take_x (some 94) 2 rfl rfl ?_
 refine take_x (some 95) 3 rfl rfl ?_
 refine take_x (some 96) 4 rfl rfl ?_
 refine take_x (some 97) 5 rfl rfl ?_
 refine take_x (some 98) 6 rfl rfl ?_
 refine take_x (some 99) 7 rfl rfl ?_
 refine take_x (some 100) 8 rfl rfl ?_
 refine take_x (some 101) 9 rfl rfl ?_
 refine take_x (some 102) 10 rfl rfl ?_
 refine wpAnyH_ready (rs := [11]) (by kernel_rfl) (by simp) ?_
 refine AllReadyH.cons rfl (fun K hK => ?_) AllReadyH.nil
 go_simp
 refine hK.out _ _ ((unhide HO) _ (box_below w3 _).drew) (fun hHeld => ?_)
 clear hK K
 try simp only [Act.put, List.setIfInBounds_toArray, List.set_cons_zero, List.set_cons_succ]
 refine take_x (some 7) 13 rfl rfl ?_
 refine wpAnyH_done (by kernel_rfl) ?_ _
 refine NoPanic.normal ?_
 go_wp2_with fail
 go_ret2
 obtain ⟨f1, f2⟩ := unhide HFin
 have hs3 := f2.size
 rw [Int.add_comm (xn : Int) 3]
 refine RwR.drew ⟨_, _, rfl, ?_, ?_, (f2.alloc f2.size _)⟩
 ·have f1' := own_mods f1 ((Mods.refl (fun _ => False) w3).alloc (.cells #[.int .i64 o.ret] 43)) (fun _ _ f => f)
  have f2' : (w3.alloc (.cells #[.int .i64 o.ret] 43)).ownsRow w1.heap.size 43 1 (.slice a3 (1 + o.args.length) cap3) ((3 + (xn : Int)) :: o.args).length (((3 + (xn : Int)) :: o.args).map (Value.int .i64)) := by
   rw [List.length_cons, show o.args.length + 1 = 1 + o.args.length by omega]
   exact f1'
  exact own_intsC f2' (fun g hg => by have := (f1.lt g hg).1; omega)
 ·exact blk_ints (S := fun k => w.heap.size ≤ k) (l := [o.ret]) (Blk.new w3 #[.int .i64 o.ret] 43) (by omega) 1 rfl
set_option maxHeartbeats 1000000 in
set_option maxRecDepth 100000 in
theorem rs_wants1 (p : List LClass) (vc : Value) (m : LMeth) (va vco vf : Value) (xa xb : Int) (w : World) (hp : RProg w vc p) (hv : GVals w.cell? m va vco vf) :
  Calls Tryz.prog 151 #[.agg #[vc], methV m va vco vf, .agg #[.int .i64 1, .int .i64 xa, .int .i64 xb]] w fun e w' => RwR [] [] w w' e := by
 unfold methV
 obtain ⟨pa, _, _, pcap, rfl, _⟩ := hp
 obtain ⟨aa, _, _, acap, rfl, _⟩ := hv.1
 obtain ⟨ca, _, _, ccap, rfl, _⟩ := hv.2.1
 obtain ⟨fa, _, _, fcap, rfl, _⟩ := hv.2.2
 have hbel : Below w.heap.size w (((w.alloc (.cells #[.slice pa p.length pcap] 24)).alloc (.cells #[.int .i64 m.slot, .slice aa m.args.length acap, .int .i64 m.ret, .int .i64 m.locals, .int .i64 m.stack, .slice ca m.code.length ccap, .slice fa m.frames.length fcap] 63)).alloc (.cells #[.int .i64 1, .int .i64 xa, .int .i64 xb] 60)) := (box2_below _ _ _).alloc (by simp; omega) _
 have hsz : (((w.alloc (.cells #[.slice pa p.length pcap] 24)).alloc (.cells #[.int .i64 m.slot, .slice aa m.args.length acap, .int .i64 m.ret, .int .i64 m.locals, .int .i64 m.stack, .slice ca m.code.length ccap, .slice fa m.frames.length fcap] 63)).alloc (.cells #[.int .i64 1, .int .i64 xa, .int .i64 xb] 60)).heap.size = w.heap.size + 1 + 1 + 1 := by simp
 go_enter Tryz.func151, Tryz.ntmps151
 go_wp2_with fail
 go_ret2
 exact ⟨_, _, rfl, nil_ints, nil_ints, hbel⟩
set_option maxHeartbeats 1000000 in
set_option maxRecDepth 100000 in
theorem rs_wants7 (p : List LClass) (vc : Value) (m : LMeth) (va vco vf : Value) (xa xb : Int) (w : World) (hp : RProg w vc p) (hv : GVals w.cell? m va vco vf) :
  Calls Tryz.prog 151 #[.agg #[vc], methV m va vco vf, .agg #[.int .i64 7, .int .i64 xa, .int .i64 xb]] w fun e w' => RwR [] [] w w' e := by
 unfold methV
 obtain ⟨pa, _, _, pcap, rfl, _⟩ := hp
 obtain ⟨aa, _, _, acap, rfl, _⟩ := hv.1
 obtain ⟨ca, _, _, ccap, rfl, _⟩ := hv.2.1
 obtain ⟨fa, _, _, fcap, rfl, _⟩ := hv.2.2
 have hbel : Below w.heap.size w (((w.alloc (.cells #[.slice pa p.length pcap] 24)).alloc (.cells #[.int .i64 m.slot, .slice aa m.args.length acap, .int .i64 m.ret, .int .i64 m.locals, .int .i64 m.stack, .slice ca m.code.length ccap, .slice fa m.frames.length fcap] 63)).alloc (.cells #[.int .i64 7, .int .i64 xa, .int .i64 xb] 60)) := (box2_below _ _ _).alloc (by simp; omega) _
 have hsz : (((w.alloc (.cells #[.slice pa p.length pcap] 24)).alloc (.cells #[.int .i64 m.slot, .slice aa m.args.length acap, .int .i64 m.ret, .int .i64 m.locals, .int .i64 m.stack, .slice ca m.code.length ccap, .slice fa m.frames.length fcap] 63)).alloc (.cells #[.int .i64 7, .int .i64 xa, .int .i64 xb] 60)).heap.size = w.heap.size + 1 + 1 + 1 := by simp
 go_enter Tryz.func151, Tryz.ntmps151
 go_wp2_with fail
 go_ret2
 exact ⟨_, _, rfl, nil_ints, nil_ints, hbel⟩
theorem rs_wants (p : List LClass) (vc : Value) (m : LMeth) (va vco vf : Value) (x : LIns) (w : World) (hp : RProg w vc p) (hv : GVals w.cell? m va vco vf) (hs : SupOk p p.length) (hz : szProg p ≤ 4194304) (J : InsOk p m x.op x.a x.b) (hal : x.op = 12 → (findM p x.a x.b).args.length ≤ 4194304) :
  Calls Tryz.prog 151 #[.agg #[vc], methV m va vco vf, .agg #[.int .i64 x.op, .int .i64 x.a, .int .i64 x.b]] w fun e w' => RwR (rWants p m x).1 (rWants p m x).2 w w' e := by
 obtain ⟨op, xa, xb⟩ := x
 dsimp only at J hal ⊢
 have hpl : p.length ≤ 4194304 := Nat.le_trans (szProg_len p) hz
 have h0 := J.op0
 have h1 := J.op1
 by_cases c : op = 0
 ·subst c
  exact rs_wants0 p vc m va vco vf xa xb w hp hv
 by_cases c : op = 1
 ·subst c
  exact rs_wants1 p vc m va vco vf xa xb w hp hv
 by_cases c : op = 2
 ·subst c
  exact rs_wants2 p vc m va vco vf xa xb w hp hv
 by_cases c : op = 3
 ·subst c
  exact rs_wants3 p vc m va vco vf xa xb w hp hv
 by_cases c : op = 4
 ·subst c
  exact rs_wants4 p vc m va vco vf xa xb w hp hv
 by_cases c : op = 5
 ·subst c
  exact rs_wants5 p vc m va vco vf xa xb w hp hv
 by_cases c : op = 6
 ·subst c
  exact rs_wants6 p vc m va vco vf xa xb w hp hv
 by_cases c : op = 7
 ·subst c
  exact rs_wants7 p vc m va vco vf xa xb w hp hv
 by_cases c : op = 8
 ·subst c
  exact rs_wants8 p vc m va vco vf xa xb w hp hv
 by_cases c : op = 9
 ·subst c
  exact rs_wants9 p vc m va vco vf xa xb w hp hv (J.cls (by omega)).1 (by have := (J.cls (by omega)).2; omega)
 by_cases c : op = 10
 ·subst c
  exact rs_wants10 p vc m va vco vf xa xb w hp hv hs hz (J.cls (by omega)).1 (J.cls (by omega)).2 (J.fld (by omega)).1 (J.fld (by omega)).2
 by_cases c : op = 11
 ·subst c
  exact rs_wants11 p vc m va vco vf xa xb w hp hv hs hz (J.cls (by omega)).1 (J.cls (by omega)).2 (J.fld (by omega)).1 (J.fld (by omega)).2
 by_cases c : op = 12
 ·subst c
  exact rs_wants12 p vc m va vco vf xa xb w hp hv hs hz (J.cls (by omega)).1 (J.cls (by omega)).2 (J.call rfl) (hal rfl)
 by_cases c : op = 13
 ·subst c
  exact rs_wants13 p vc m va vco vf xa xb w hp hv
 by_cases c : op = 14
 ·subst c
  exact rs_wants14 p vc m va vco vf xa xb w hp hv
 by_cases c : op = 15
 ·subst c
  exact rs_wants15 p vc m va vco vf xa xb w hp hv
 by_cases c : op = 16
 ·subst c
  exact rs_wants16 p vc m va vco vf xa xb w hp hv
 by_cases c : op = 17
 ·subst c
  exact rs_wants17 p vc m va vco vf xa xb w hp hv (J.cls (by omega)).1 (by have := (J.cls (by omega)).2; omega)
 by_cases c : op = 18
 ·subst c
  exact rs_wants18 p vc m va vco vf xa xb w hp hv
 by_cases c : op = 19
 ·subst c
  exact rs_wants19 p vc m va vco vf xa xb w hp hv
 by_cases c : op = 20
 ·subst c
  exact rs_wants20 p vc m va vco vf xa xb w hp hv
 omega
def StepR (p : List LClass) (m : LMeth) (x : LIns) (s : TSt) (w w' : World) (e : Ending) : Prop :=
 (∀ s', rStep p m x s = some s' → ∃ vl vs, e = .returned (.tuple #[.agg #[.bool true, vl, vs], .bool true]) ∧ NewSt w.heap.size w' s' vl vs) ∧ (rStep p m x s = none → ∃ q a n c a' n' c', e = .returned (.tuple #[.agg #[.bool q, .slice a n c, .slice a' n' c'], .bool false])) ∧ Below w.heap.size w w'
structure StpB (w V : World) (p : List LClass) (m : LMeth) (s : TSt) (op xa xb : Int) (vp vm1 vm5 vm6 vl vs : Value) (ib : Bool) : Prop where
 bel : Below w.heap.size w V
 b0 : Blk V w.heap.size 24 [vp]
 b1 : Blk V (w.heap.size + 1) 63 [.int .i64 m.slot, vm1, .int .i64 m.ret, .int .i64 m.locals, .int .i64 m.stack, vm5, vm6]
 b2 : Blk V (w.heap.size + 1 + 1) 60 [.int .i64 op, .int .i64 xa, .int .i64 xb]
 b3 : Blk V (w.heap.size + 1 + 1 + 1) 149 [.bool ib, vl, vs]
 b4 : Blk V (w.heap.size + 1 + 1 + 1 + 1) 149 [.bool false, .slice none 0 0, .slice none 0 0]
theorem StpB.mods {w V V' : World} {p : List LClass} {m : LMeth} {s : TSt} {op xa xb : Int} {vp vm1 vm5 vm6 vl vs : Value} {ib : Bool} {S : Nat → Prop} (i : StpB w V p m s op xa xb vp vm1 vm5 vm6 vl vs ib) (h : Mods S V V') (hS : ∀ k, k < w.heap.size + 1 + 1 + 1 + 1 + 1 → ¬ S k) : StpB w V' p m s op xa xb vp vm1 vm5 vm6 vl vs ib :=
 ⟨i.bel.trans (h.below i.bel.size (fun k hk => hS k (by omega))), i.b0.mods h (hS _ (by omega)), i.b1.mods h (hS _ (by omega)), i.b2.mods h (hS _ (by omega)), i.b3.mods h (hS _ (by omega)), i.b4.mods h (hS _ (by omega))⟩
theorem StpB.below {w V V' : World} {p : List LClass} {m : LMeth} {s : TSt} {op xa xb : Int} {vp vm1 vm5 vm6 vl vs : Value} {ib : Bool} (i : StpB w V p m s op xa xb vp vm1 vm5 vm6 vl vs ib) (h : Below V.heap.size V V') : StpB w V' p m s op xa xb vp vm1 vm5 vm6 vl vs ib :=
 i.mods (Mods.of_below h) (fun k hk e => by have := i.b4.lt; omega)
theorem StpB.new (w : World) (p : List LClass) (m : LMeth) (s : TSt) (op xa xb : Int) (vp vm1 vm5 vm6 vl vs : Value) (ib : Bool) :
  StpB w (((((w.alloc (.cells #[vp] 24)).alloc (.cells #[.int .i64 m.slot, vm1, .int .i64 m.ret, .int .i64 m.locals, .int .i64 m.stack, vm5, vm6] 63)).alloc (.cells #[.int .i64 op, .int .i64 xa, .int .i64 xb] 60)).alloc (.cells #[.bool ib, vl, vs] 149)).alloc (.cells #[.bool false, .slice none 0 0, .slice none 0 0] 149)) p m s op xa xb vp vm1 vm5 vm6 vl vs ib := by
 have a1 := Blk.new (w.alloc (.cells #[vp] 24)) #[.int .i64 m.slot, vm1, .int .i64 m.ret, .int .i64 m.locals, .int .i64 m.stack, vm5, vm6] 63
 have a2 := Blk.new ((w.alloc (.cells #[vp] 24)).alloc (.cells #[.int .i64 m.slot, vm1, .int .i64 m.ret, .int .i64 m.locals, .int .i64 m.stack, vm5, vm6] 63)) #[.int .i64 op, .int .i64 xa, .int .i64 xb] 60
 have a3 := Blk.new (((w.alloc (.cells #[vp] 24)).alloc (.cells #[.int .i64 m.slot, vm1, .int .i64 m.ret, .int .i64 m.locals, .int .i64 m.stack, vm5, vm6] 63)).alloc (.cells #[.int .i64 op, .int .i64 xa, .int .i64 xb] 60)) #[.bool ib, vl, vs] 149
 have a4 := Blk.new ((((w.alloc (.cells #[vp] 24)).alloc (.cells #[.int .i64 m.slot, vm1, .int .i64 m.ret, .int .i64 m.locals, .int .i64 m.stack, vm5, vm6] 63)).alloc (.cells #[.int .i64 op, .int .i64 xa, .int .i64 xb] 60)).alloc (.cells #[.bool ib, vl, vs] 149)) #[.bool false, .slice none 0 0, .slice none 0 0] 149
 simp only [World.size_alloc] at a1 a2 a3 a4
 exact ⟨((((box_below w _).alloc (by simp) _).alloc (by simp; omega) _).alloc (by simp; omega) _).alloc (by simp; omega) _, ((((Blk.new w _ _).alloc _).alloc _).alloc _).alloc _, ((a1.alloc _).alloc _).alloc _, (a2.alloc _).alloc _, a3.alloc _, a4⟩
theorem fit_snoc {p : List LClass} {l u : List Int} {k : Nat} (h1 : k < l.length) (h2 : k < u.length) : ((l.take (k + 1)).zip (u.take (k + 1))).all (fun x => rFits p x.1 x.2) = (((l.take k).zip (u.take k)).all (fun x => rFits p x.1 x.2) && rFits p l[k] u[k]) := zip_snoc (fun x => rFits p x.1 x.2) h1 h2
def stepK (m : LMeth) (p : List LClass) (op xa : Int) (s : TSt) (tk lv : List Int) : Option TSt :=
 if s.stk.length < tk.length then none
 else if ((s.stk.drop (s.stk.length - tk.length)).zip tk).all fun x => rFits p x.1 x.2 then
  (if (((s.stk.take (s.stk.length - tk.length) ++ lv.map (rLeft (s.stk.drop (s.stk.length - tk.length)))).length : Nat) : Int) ≤ m.stack then
    some ⟨if op = 2 then s.loc.set xa.toNat (s.stk.getD (s.stk.length - tk.length) 0) else s.loc, s.stk.take (s.stk.length - tk.length) ++ lv.map (rLeft (s.stk.drop (s.stk.length - tk.length)))⟩ else none)
 else none
theorem rStep_K {p : List LClass} {m : LMeth} {op xa xb : Int} {s : TSt} (h : ¬ (op = 1 ∧ s.loc.getD xa.toNat 0 = 2)) : rStep p m ⟨op, xa, xb⟩ s = stepK m p op xa s (rWants p m ⟨op, xa, xb⟩).1 (if op = 1 then [s.loc.getD xa.toNat 0] else (rWants p m ⟨op, xa, xb⟩).2) := by
 unfold rStep stepK
 rw [if_neg h]
theorem zeros3 : ∀ v ∈ [Value.bool false, .slice none 0 0, .slice none 0 0], v.oneCell' = true := fun v hv => by
 simp only [List.mem_cons, List.not_mem_nil, or_false] at hv
 rcases hv with rfl | rfl | rfl <;> rfl
set_option maxHeartbeats 2000000 in
set_option maxRecDepth 100000 in
theorem rs_stepO (p : List LClass) (vc : Value) (m : LMeth) (va vco vf : Value) (op xa xb : Int) (s : TSt) (ib : Bool) (vl vs : Value) (w : World) (hp : RProg w vc p) (hv : GVals w.cell? m va vco vf) (hs : SupOk p p.length) (hz : szProg p ≤ 4194304) (J : InsOk p m op xa xb) (hal : op = 12 → (findM p xa xb).args.length ≤ 4194304) (hS : StG w.cell? s vl vs) (tS : TIn p s) (hl8 : s.loc.length ≤ 8) (hk8 : s.stk.length ≤ 8)
  (hty : ∀ t ∈ (rWants p m ⟨op, xa, xb⟩).1, t = -1 ∨ t = -2 ∨ tyOk p.length t) (hng : ∀ t ∈ (rWants p m ⟨op, xa, xb⟩).2, t < 0 → (-1 - t).toNat < (rWants p m ⟨op, xa, xb⟩).1.length) (hlt4 : (rWants p m ⟨op, xa, xb⟩).1.length ≤ 100) (hll4 : (rWants p m ⟨op, xa, xb⟩).2.length ≤ 2) (h1 : op ≠ 1) (h2 : op ≠ 2) :
  Calls Tryz.prog 96 #[.agg #[vc], methV m va vco vf, .agg #[.int .i64 op, .int .i64 xa, .int .i64 xb], .agg #[.bool ib, vl, vs]] w fun e w' => StepR p m ⟨op, xa, xb⟩ s w w' e := by
 have HP := hide hp
 have HV := hide hv
 have HSS := hide hS
 have HWT := hide (rs_wants p vc m va vco vf ⟨op, xa, xb⟩)
 unfold methV at HWT ⊢
 obtain ⟨pa, _, _, pcap, rfl, _⟩ := hp
 obtain ⟨aa, _, _, acap, rfl, _⟩ := hv.1
 obtain ⟨ca, _, _, ccap, rfl, _⟩ := hv.2.1
 obtain ⟨fa, _, _, fcap, rfl, _⟩ := hv.2.2
 obtain ⟨la, lb, lo, lcap, rfl, _, hla, hlr⟩ := ints_open hS.1
 obtain ⟨sa, sb, so, scap, rfl, hsc, hsa, hsr⟩ := ints_open hS.2
 have HLR := hide hlr
 have HSR := hide hsr
 clear hlr hsr
 have hpl : p.length ≤ 4194304 := Nat.le_trans (szProg_len p) hz
 have I0 := StpB.new w p m s op xa xb (.slice pa p.length pcap) (.slice aa m.args.length acap) (.slice ca m.code.length ccap) (.slice fa m.frames.length fcap) (.slice la s.loc.length lcap) (.slice sa s.stk.length scap) ib
 go_enter Tryz.func96, Tryz.ntmps96
 go_wp2_with fail
 generalize ((((w.alloc _).alloc _).alloc _).alloc _).alloc _ = W at *
 refine (unhide HWT W (prog_keep (Keeps.of_below I0.bel) (unhide HP)) (GVals.keep (Keeps.of_below I0.bel) (unhide HV)) hs hz J hal).mono ?_
 rintro e U ⟨vt, vlv, rfl, ht, hl, hb1⟩
 have IU := I0.below hb1
 have hWU := hb1.size
 have hW5 := I0.b4.lt
 have e1 : (op == 1) = false := by simpa using h1
 have e2 : (op == 2) = false := by simpa using h2
 have HR := hide (rStep_K (p := p) (m := m) (op := op) (xa := xa) (xb := xb) (s := s) (fun h => h1 h.1))
 rw [if_neg h1] at HR
 generalize (rWants p m ⟨op, xa, xb⟩).1 = tk at *
 generalize (rWants p m ⟨op, xa, xb⟩).2 = lv at *
 have o0 : U.cell? ⟨w.heap.size + 1 + 1, 0, none⟩ = some (.int .i64 op) := IU.b2.cell 0
 have u0 : U.cell? ⟨w.heap.size + 1 + 1 + 1, 2, none⟩ = some (.slice sa s.stk.length scap) := IU.b3.cell 2
 obtain ⟨ta, tb, tof, tcap, rfl, _, hta, htr⟩ := ints_open (ints_keep sel_world ht)
 have HTR := hide htr
 clear htr
 by_cases hlen : s.stk.length < tk.length
 ·have HNO : Hid (rStep p m ⟨op, xa, xb⟩ s = none) := by show _ = _; rw [unhide HR]; unfold stepK; rw [if_pos hlen]
  have hn0 : ((s.stk.length : Int) - (tk.length : Int)) < 0 := by omega
  have QB := IU
  go_wp2_with (refine wpList_store_blk aggRS QB.b4 0 [.bool false, .slice none 0 0, .slice none 0 0] rfl (by simp) zeros3 (.tmp 8) (.tmp 51) rfl rfl rfl rfl ?_; intro w6 hB6 hM6 hs6; rw [putAt_all (by rfl)] at hB6)
  refine bodyPost_ret (results_blk2 rfl aggRS hB6 rfl rfl) rfl ?_
  exact ⟨fun s' e => (by rw [unhide HNO] at e; cases e), fun _ => ⟨_, _, _, _, _, _, _, rfl⟩, QB.bel.trans (hM6.below QB.bel.size (fun k hk e => by omega))⟩
 obtain ⟨n, hn⟩ : ∃ n : Nat, s.stk.length = n + tk.length := ⟨s.stk.length - tk.length, by omega⟩
 have hn0 : ¬ ((s.stk.length : Int) - (tk.length : Int)) < 0 := by omega
 have hnn : ((s.stk.length : Int) - (tk.length : Int)) = (n : Int) := by omega
 have hdl : (s.stk.drop n).length = tk.length := by rw [List.length_drop]; omega
 have HN := hide (show s.stk.length - tk.length = n by omega)
 rw [hnn] at hn0
 have HHN := hide (And.intro hn hdl)
 clear hn hdl
 go_wp2_with fail
 go_loopw [13] (fun i wr => ∃ k : Nat, k ≤ tk.length ∧ i = .int .i64 k ∧ ((((s.stk.drop n).take k).zip (tk.take k)).all fun x => rFits p x.1 x.2) = true ∧ Below U.heap.size U wr) (fun i _ => tk.length - (intOf i).toNat)
 case atStart => exact ⟨0, Nat.zero_le _, rfl, rfl, Below.refl _ _⟩
 case round =>
  obtain ⟨k, hk, rfl, hall, hbr⟩ := hrel
  have IV := IU.below hbr
  by_cases hlt : k < tk.length
  ·have hnk : n + k < s.stk.length := by have := (unhide HHN).1; omega
   obtain rfl := hsa (ne_nil_of_lt hnk)
   obtain rfl := hta (ne_nil_of_lt hlt)
   have x0 := Keeps.of_below IV.bel _ _ (unhide HSR (n + k) hnk)
   have y0 := Keeps.of_below hbr _ _ (unhide HTR k hlt)
   have hx := tS.2 _ (List.getElem_mem hnk)
   have hy := hty _ (List.getElem_mem hlt)
   have hlt2 : k < (s.stk.drop n).length := by rw [(unhide HHN).2]; exact hlt
   have hSn := fit_snoc (p := p) hlt2 hlt
   have hNo := zip_no (fun x => rFits p x.1 x.2) hlt2 hlt
   rw [List.getElem_drop] at hSn hNo
   have HSn := hide hSn
   have HNo := hide hNo
   generalize s.stk[n + k] = a at *
   generalize tk[k] = t at *
   clear hSn hNo
   have hwr : IntKind.i64.wrap ((n : Int) + (k : Int)) = (n : Int) + (k : Int) := by rw [IntKind.wrap_i64]; omega
   have htn : ((n : Int) + (k : Int)).toNat = n + k := by omega
   have k0 : (0 : Int) ≤ (k : Int) := by omega
   have k1 : (k : Int) < (tk.length : Int) := by omega
   have k2 : (0 : Int) ≤ (n : Int) + (k : Int) := by omega
   have k3 : (n : Int) + (k : Int) < (s.stk.length : Int) := by omega
   go_wp2_with fail
   have HO := hide (fun Y (hY : Below wr.heap.size wr Y) => And.intro ((IV.below hY).b0.cell 0) (And.intro ((IV.below hY).b3.cell 2) (And.intro (Keeps.of_below hY _ _ x0) (Keeps.of_below hY _ _ y0))))
   refine wp_region_noPanic ?_
   refine wp_region_held_drew (S := (fun w' => w'.cell? ⟨w.heap.size, 0, none⟩ = some (.slice pa p.length pcap) ∧ w'.cell? ⟨w.heap.size + 1 + 1 + 1, 2, none⟩ = some (.slice (some ⟨sb, so, none⟩) s.stk.length scap) ∧ w'.cell? ⟨sb, so + (n + k), none⟩ = some (.int .i64 a) ∧ w'.cell? ⟨tb, tof + k, none⟩ = some (.int .i64 t))) (by kernel_rfl) ?_ (fun hHeld => ?_)
   ·exact (unhide HO) _ drew_below
   refine take_x (some 58) 0 rfl rfl ?_
   refine take_x (some 59) 1 rfl rfl ?_
   refine take_x (some 60) 2 rfl rfl ?_
   refine take_x (some 61) 3 rfl rfl ?_
   refine take_x (some 62) 4 rfl rfl ?_
   refine take_x (some 63) 5 rfl rfl ?_
   refine take_x (some 64) 6 rfl rfl ?_
   refine take_x (some 65) 7 rfl rfl ?_
   refine take_x (some 66) 8 rfl rfl ?_
   refine take_x (some 67) 9 rfl rfl ?_
   refine take_x (some 68) 10 rfl rfl ?_
   refine take_x (some 69) 11 rfl rfl ?_
   refine wpAnyH_ready (rs := [12]) (by kernel_rfl) (by simp) ?_
   refine AllReadyH.cons rfl (fun K hK => ?_) AllReadyH.nil
   go_simp
   refine (rs_fits p _ a t wr.drew (prog_keep (Keeps.of_below drew_below) (prog_keep (Keeps.of_below IV.bel) (unhide HP))) hs hpl hx hy).mono ?_
   rintro e w1 ⟨rfl, hb1'⟩
   have hb1 : Below wr.heap.size wr w1 := ⟨hb1'.os, hb1'.tape, hb1'.output, hb1'.size, hb1'.block⟩
   have hr1 := hbr.trans (hb1.mono hbr.size)
   have I1 := IV.below hb1
   have HQ0 := hide hall
   clear hb1' hall
   cases hq : rFits p a t with
   | false =>
    have HNO : Hid (rStep p m ⟨op, xa, xb⟩ s = none) := by
     show _ = _
     rw [unhide HR]
     unfold stepK
     rw [if_neg hlen, unhide HN, unhide HNo hq]
     rfl
    have QB := I1
    clear hq
    go_wp2_with fail
    refine hK.out _ _ ((unhide HO) _ hb1) (fun hHeld => ?_)
    clear hK K
    try simp only [Act.put, List.setIfInBounds_toArray, List.set_cons_zero, List.set_cons_succ]
    refine take_x (some 14) 13 rfl rfl ?_
    refine wpAnyH_done (by kernel_rfl) ?_ _
    refine NoPanic.normal ?_
    go_wp2_with (refine wpList_store_blk aggRS QB.b4 0 [.bool false, .slice none 0 0, .slice none 0 0] rfl (by simp) zeros3 (.tmp 8) (.tmp 73) rfl rfl rfl rfl ?_; intro w6 hB6 hM6 hs6; rw [putAt_all (by rfl)] at hB6)
    refine bodyPost_ret (results_blk2 rfl aggRS hB6 rfl rfl) rfl ?_
    exact ⟨fun s' e => (by rw [unhide HNO] at e; cases e), fun _ => ⟨_, _, _, _, _, _, _, rfl⟩, QB.bel.trans (hM6.below QB.bel.size (fun k hk e => by omega))⟩
   | true =>
    have HQ : Hid (((((s.stk.drop n).take (k + 1)).zip (tk.take (k + 1))).all fun x => rFits p x.1 x.2) = true) := by
     show _ = _
     rw [unhide HSn, unhide HQ0, hq]
     rfl
    clear hq
    go_wp2_with fail
    refine hK.out _ _ ((unhide HO) _ hb1) (fun hHeld => ?_)
    clear hK K
    try simp only [Act.put, List.setIfInBounds_toArray, List.set_cons_zero, List.set_cons_succ]
    refine take_x (some 14) 13 rfl rfl ?_
    refine wpAnyH_done (by kernel_rfl) ?_ _
    refine NoPanic.normal ?_
    go_wp2_with fail
    exact ⟨⟨k + 1, by omega, by go_num, unhide HQ, hr1⟩, by simp [intOf]; omega⟩
  ·obtain rfl : k = tk.length := by omega
   have hfit : (((s.stk.drop n).zip tk).all fun x => rFits p x.1 x.2) = true := by
    rw [List.take_length, List.take_of_length_le (by rw [(unhide HHN).2]; exact Nat.le_refl _)] at hall
    exact hall
   have HR2 : Hid (rStep p m ⟨op, xa, xb⟩ s = if (((s.stk.take n ++ lv.map (rLeft (s.stk.drop n))).length : Nat) : Int) ≤ m.stack then some ⟨if op = 2 then s.loc.set xa.toNat (s.stk.getD n 0) else s.loc, s.stk.take n ++ lv.map (rLeft (s.stk.drop n))⟩ else none) := by
    show _ = _
    rw [unhide HR]
    unfold stepK
    rw [if_neg hlen, unhide HN, hfit]
    rfl
   have ke : ¬ (tk.length : Int) < (tk.length : Int) := by omega
   clear hall hfit
   have hi0 := IV.bel
   have hwr5 := IV.b4.lt
   have J0 := StpI.start (V := wr) (B := wr.heap.size + 1) hi0
   have hbx := box_below wr (.cells #[.bool true, .slice none 0 0, .slice none 0 0] 149)
   obtain ⟨la', lcap', hle, hlnil, hlsrc⟩ := ints_src (unhide HSS).1
   cases hle
   obtain ⟨a1, n1, cap1, w1, happ1, c1, f1, hbw1, J1⟩ := J0.locals (by omega) (by simp) (by omega) (by omega) s.loc (by omega) la s.loc.length lcap rfl (fun e => ⟨by rw [(hlnil e).1]; rfl, (hlnil e).2⟩) (fun ad e j u h => Keeps.of_below hbx _ _ (Keeps.of_below hi0 _ _ (hlsrc ad e j u h)))
   have hS1 : Mods (fun j => j = wr.heap.size) w1 (w1.setCell ⟨wr.heap.size, 1, none⟩ (.slice a1 n1 cap1)) := (Mods.refl (fun j => j = wr.heap.size) w1).setCell (p := ⟨wr.heap.size, 1, none⟩) (fun _ => rfl) _
   have hb1z : Below wr.heap.size wr (w1.setCell ⟨wr.heap.size, 1, none⟩ (.slice a1 n1 cap1)) := (hbx.trans (hbw1.mono hbx.size)).trans (hS1.below (Nat.le_trans hbx.size hbw1.size) (fun k hk e => by omega))
   have K1 := IV.below hb1z
   have bx2 : (wr.alloc (.cells #[.bool true, .slice none 0 0, .slice none 0 0] 149)).cell? ⟨w.heap.size + 1 + 1 + 1, 1, none⟩ = some (.slice la s.loc.length lcap) := (IV.below hbx).b3.cell 1
   have hs1 := Nat.le_trans hbx.size (Nat.le_trans hbw1.size hS1.size)
   have hs1' := Nat.le_trans hbw1.size hS1.size
   rw [World.size_alloc] at hs1'
   have HJ1 := hide (And.intro J1 K1)
   have cop : (w1.setCell ⟨wr.heap.size, 1, none⟩ (.slice a1 n1 cap1)).cell? ⟨w.heap.size + 1 + 1, 0, none⟩ = some (.int .i64 op) := K1.b2.cell 0
   clear J0 J1 hbw1 hS1 K1 hlnil hlsrc
   go_wp2_with (at_builtin; refine wpList_append_run rfl (.tmp 76) (.tmp 78) 40 rfl _ _ rfl rfl happ1 ?_)
   generalize w1.setCell _ _ = W1 at *
   clear happ1 c1 f1 bx2 cop
   obtain ⟨W2, loc', hW2, hloc', HJ2⟩ : ∃ W2 loc', W2 = W1 ∧ loc' = s.loc ∧ Hid (StpI w W2 (wr.heap.size + 1) wr.heap.size (.slice a1 n1 cap1) loc' (.slice none 0 0) [] ∧ StpB w W2 p m s op xa xb (.slice pa p.length pcap) (.slice aa m.args.length acap) (.slice ca m.code.length ccap) (.slice fa m.frames.length fcap) (.slice la s.loc.length lcap) (.slice sa s.stk.length scap) ib) := ⟨W1, s.loc, rfl, rfl, HJ1⟩
   rw [← hW2] at hb1z hs1' ⊢
   clear HJ1 hW2
   have z2 : W2.cell? ⟨w.heap.size + 1 + 1 + 1, 2, none⟩ = some (.slice sa s.stk.length scap) := (unhide HJ2).2.b3.cell 2
   have z3 : W2.cell? ⟨wr.heap.size, 2, none⟩ = some (.slice none 0 0) := (unhide HJ2).1.box.cell 2
   obtain ⟨sa', scap', hse, hsnil, hssrc⟩ := ints_src (unhide HSS).2
   cases hse
   have hnle : n ≤ s.stk.length := by have := (unhide HHN).1; omega
   have n0 : (0 : Int) ≤ (n : Int) := by omega
   have n1' : (n : Int) ≤ (s.stk.length : Int) := by omega
   have n2' : (n : Int) ≤ (scap : Int) := by omega
   refine wp_region_noPanic ?_
   refine wp_region_held_drew (S := (fun w' => w'.cell? ⟨w.heap.size + 1 + 1 + 1, 2, none⟩ = some (.slice sa s.stk.length scap))) (by kernel_rfl) ?_ (fun hHeld => ?_)
   ·exact z2
   refine take_x (some 94) 0 rfl rfl ?_
   refine take_x (some 96) 2 rfl rfl ?_
   refine take_x (some 97) 3 rfl rfl ?_
   refine take_x (some 98) 4 rfl rfl ?_
   refine take_d (some 99) (i := 5) (v := .slice sa n scap) rfl rfl (by kernel_rfl) (by kernel_rfl) (by kernel_rfl) (fun _ _ _ h => h) (Or.inl ⟨by rfl, fun w' hSw => by (try dsimp only at hSw); go_simp⟩) (by assumption) ?_
   try simp only [Act.put, List.setIfInBounds_toArray, List.set_cons_zero, List.set_cons_succ]
   have J2d := (unhide HJ2).1.below drew_below
   have K2d := (unhide HJ2).2.below drew_below
   have hsz2 : W2.drew.heap.size = W2.heap.size := rfl
   obtain ⟨a3, n3, cap3, w3, happ3, c3, f3, hM3, J3⟩ := J2d.more (by omega) (by omega) (by omega) (by omega) (by simp) (s.stk.take n) (by rw [List.length_take]; omega) sa n scap (by rw [List.length_take]; omega) (fun e => ⟨by have := (hsnil e).1; rw [this] at hnle; simpa using hnle, (hsnil e).2⟩) (fun ad e j u h => Keeps.of_below K2d.bel _ _ (hssrc ad e j u (by
    rw [List.map_take, List.getElem?_take] at h
    split at h
    ·exact h
    ·cases h)))
   have hS3 : Mods (fun j => j = wr.heap.size) w3 (w3.setCell ⟨wr.heap.size, 2, none⟩ (.slice a3 n3 cap3)) := (Mods.refl (fun j => j = wr.heap.size) w3).setCell (p := ⟨wr.heap.size, 2, none⟩) (fun _ => rfl) _
   have hM3' : Below wr.heap.size W2 w3 := (drew_below.mono (by omega)).trans (hM3.below (by omega) (fun k hk e => by cases e))
   have hb3z : Below wr.heap.size wr (w3.setCell ⟨wr.heap.size, 2, none⟩ (.slice a3 n3 cap3)) := hb1z.trans (hM3'.trans (hS3.below (by have := hM3.size; omega) (fun k hk e => by omega)))
   have K3 := IV.below hb3z
   have z4 : w3.cell? ⟨w.heap.size + 1 + 1 + 1, 2, none⟩ = some (.slice sa s.stk.length scap) := (IV.below (hb1z.trans hM3')).b3.cell 2
   have z5 : (w3.setCell ⟨wr.heap.size, 2, none⟩ (.slice a3 n3 cap3)).cell? ⟨w.heap.size + 1 + 1 + 1, 2, none⟩ = some (.slice sa s.stk.length scap) := K3.b3.cell 2
   have hs3' : wr.heap.size + 1 ≤ (w3.setCell ⟨wr.heap.size, 2, none⟩ (.slice a3 n3 cap3)).heap.size := by have := hM3.size; have := hS3.size; omega
   have HJ3 := hide (And.intro J3 K3)
   clear J2d K2d J3 K3 hM3 hM3' hS3 hsnil hssrc
   refine wpAnyH_ready (rs := [1]) (by kernel_rfl) (by simp) ?_
   refine AllReadyH.cons rfl (fun K hK => ?_) AllReadyH.nil
   go_simp
   refine hK.out _ _ z2 (fun hHeld => ?_)
   clear hK K
   try simp only [Act.put, List.setIfInBounds_toArray, List.set_cons_zero, List.set_cons_succ]
   refine wpAnyH_ready (rs := [6]) (by kernel_rfl) (by simp) ?_
   refine AllReadyH.cons rfl (fun K hK => ?_) AllReadyH.nil
   refine wp_append_run (.tmp 95) (.tmp 99) 40 rfl _ _ rfl rfl happ3 ?_
   go_simp
   refine hK.out _ _ z4 (fun hHeld => ?_)
   clear hK K
   try simp only [Act.put, List.setIfInBounds_toArray, List.set_cons_zero, List.set_cons_succ]
   refine take_x (some 101) 7 rfl rfl ?_
   refine wpAnyH_ready (rs := [8]) (by kernel_rfl) (by simp) ?_
   refine AllReadyH.cons rfl (fun K hK => ?_) AllReadyH.nil
   go_simp
   refine hK.out _ _ z5 (fun hHeld => ?_)
   clear hK K
   try simp only [Act.put, List.setIfInBounds_toArray, List.set_cons_zero, List.set_cons_succ]
   refine wpAnyH_done (by kernel_rfl) ?_ _
   refine NoPanic.normal ?_
   generalize w3.setCell _ _ = W3 at *
   clear happ3 c3 f3 z2 z3 z4 z5 HJ2 hb1z
   rw [List.nil_append] at HJ3
   obtain ⟨va', vb, vo, vcap, rfl, _, hva, hvr⟩ := ints_open (ints_keep sel_world hl)
   have HVR := hide hvr
   clear hvr
   have hbr0 := hbr
   have hkw := IV
   go_wp2_with fail
   obtain ⟨w9, rfl⟩ : ∃ w9 : World, w9 = wr := ⟨_, rfl⟩
   go_loopw [16] (fun i V => ∃ (k : Nat) (vs' : Value), k ≤ lv.length ∧ i = .int .i64 k ∧ StpI w V (w9.heap.size + 1) w9.heap.size (.slice a1 n1 cap1) loc' vs' (s.stk.take n ++ (lv.take k).map (rLeft (s.stk.drop n))) ∧ StpB w V p m s op xa xb (.slice pa p.length pcap) (.slice aa m.args.length acap) (.slice ca m.code.length ccap) (.slice fa m.frames.length fcap) (.slice la s.loc.length lcap) (.slice sa s.stk.length scap) ib ∧ Below w9.heap.size w9 V ∧ w9.heap.size + 1 ≤ V.heap.size) (fun i _ => lv.length - (intOf i).toNat)
   case atStart => exact ⟨0, _, Nat.zero_le _, rfl, by simpa using (unhide HJ3).1, (unhide HJ3).2, hb3z, hs3'⟩
   case round =>
    obtain ⟨k, vs', hk, rfl, JJ, KK, hbV, hsV⟩ := hrel
    obtain ⟨sva, svcap, rfl⟩ := own_form JJ.rs
    obtain ⟨sl, hsl⟩ : ∃ sl, sl = (s.stk.take n ++ (lv.take k).map (rLeft (s.stk.drop n))).length := ⟨_, rfl⟩
    rw [← hsl] at JJ
    have HSL := hide hsl
    clear hsl
    have z6 : wr.cell? ⟨w9.heap.size, 2, none⟩ = some _ := JJ.box.cell 2
    have z7 : wr.cell? ⟨w.heap.size + 1 + 1 + 1, 2, none⟩ = some (.slice sa s.stk.length scap) := KK.b3.cell 2
    by_cases hlt : k < lv.length
    ·obtain rfl := hva (ne_nil_of_lt hlt)
     have y0 := Keeps.of_below (hbr0.trans (hbV.mono hbr0.size)) _ _ (unhide HVR k hlt)
     have hlk := List.getElem?_eq_getElem hlt
     have hneg := hng _ (List.getElem_mem hlt)
     generalize lv[k] = t at *
     have k0 : (0 : Int) ≤ (k : Int) := by omega
     have k1 : (k : Int) < (lv.length : Int) := by omega
     by_cases ht0 : t < 0
     ·obtain ⟨j, hj⟩ : ∃ j : Nat, t = -1 - (j : Int) := ⟨(-1 - t).toNat, by omega⟩
      have hjt : j < tk.length := by have := hneg ht0; omega
      have hnj : n + j < s.stk.length := by have := (unhide HHN).1; omega
      obtain rfl := hsa (ne_nil_of_lt hnj)
      have x0 := Keeps.of_below KK.bel _ _ (unhide HSR (n + j) hnj)
      have hrl : rLeft (s.stk.drop n) t = s.stk[n + j] := by
       unfold rLeft
       rw [if_pos ht0, show (-1 - t).toNat = j by omega, List.getD_eq_getElem?_getD, List.getElem?_drop, List.getElem?_eq_getElem hnj]
       rfl
      generalize s.stk[n + j] = a at *
      have q1 : (n : Int) - 1 - t = (n : Int) + (j : Int) := by omega
      have q2 : ((n : Int) + (j : Int)).toNat = n + j := by omega
      have q3 : (0 : Int) ≤ (n : Int) + (j : Int) := by omega
      have q4 : (n : Int) + (j : Int) < (s.stk.length : Int) := by omega
      have q5 : -200 ≤ t := by omega
      have HJT := hide hj
      clear hj
      obtain ⟨a5, n5, cap5, w5, happ5, c5, f5, hM5, J5⟩ := JJ.one (by omega) (by omega) (by omega) (by omega) (by rw [List.length_append, List.length_take, List.length_map, List.length_take]; omega) a
      have hS5 : Mods (fun j => j = w9.heap.size) w5 (w5.setCell ⟨w9.heap.size, 2, none⟩ (.slice a5 n5 cap5)) := (Mods.refl (fun j => j = w9.heap.size) w5).setCell (p := ⟨w9.heap.size, 2, none⟩) (fun _ => rfl) _
      have hb5z : Below w9.heap.size w9 (w5.setCell ⟨w9.heap.size, 2, none⟩ (.slice a5 n5 cap5)) := hbV.trans ((hM5.below hbV.size (fun k hk e => by have := (JJ.rs.lt k e).1; omega)).trans (hS5.below (Nat.le_trans hbV.size hM5.size) (fun k hk e => by omega)))
      have hs5 : w9.heap.size + 1 ≤ (w5.setCell ⟨w9.heap.size, 2, none⟩ (.slice a5 n5 cap5)).heap.size := by have := hM5.size; have := hS5.size; omega
      have HE := hide (And.intro J5 (And.intro (IV.below hb5z) (And.intro hb5z hs5)))
      have HLE := hide (show s.stk.take n ++ (lv.take (k + 1)).map (rLeft (s.stk.drop n)) = s.stk.take n ++ (lv.take k).map (rLeft (s.stk.drop n)) ++ [a] by rw [List.take_add_one, hlk, List.map_append, List.append_assoc]; simp only [Option.toList_some, List.map_cons, List.map_nil]; rw [hrl])
      clear J5 hM5 hS5 hb5z
      go_wp2_with (at_builtin; refine wpList_append_run rfl (.tmp 123) (.tmp 125) 40 rfl _ _ rfl rfl happ5 ?_)
      refine ⟨⟨k + 1, .slice a5 n5 cap5, by omega, by go_num, ?_, (unhide HE).2.1, (unhide HE).2.2.1, (unhide HE).2.2.2⟩, by simp [intOf]; omega⟩
      rw [unhide HLE]
      exact (unhide HE).1
     ·have hrl : rLeft (s.stk.drop n) t = t := by unfold rLeft; rw [if_neg ht0]
      obtain ⟨a5, n5, cap5, w5, happ5, c5, f5, hM5, J5⟩ := JJ.one (by omega) (by omega) (by omega) (by omega) (by rw [List.length_append, List.length_take, List.length_map, List.length_take]; omega) t
      have hS5 : Mods (fun j => j = w9.heap.size) w5 (w5.setCell ⟨w9.heap.size, 2, none⟩ (.slice a5 n5 cap5)) := (Mods.refl (fun j => j = w9.heap.size) w5).setCell (p := ⟨w9.heap.size, 2, none⟩) (fun _ => rfl) _
      have hb5z : Below w9.heap.size w9 (w5.setCell ⟨w9.heap.size, 2, none⟩ (.slice a5 n5 cap5)) := hbV.trans ((hM5.below hbV.size (fun k hk e => by have := (JJ.rs.lt k e).1; omega)).trans (hS5.below (Nat.le_trans hbV.size hM5.size) (fun k hk e => by omega)))
      have hs5 : w9.heap.size + 1 ≤ (w5.setCell ⟨w9.heap.size, 2, none⟩ (.slice a5 n5 cap5)).heap.size := by have := hM5.size; have := hS5.size; omega
      have HE := hide (And.intro J5 (And.intro (IV.below hb5z) (And.intro hb5z hs5)))
      have HLE := hide (show s.stk.take n ++ (lv.take (k + 1)).map (rLeft (s.stk.drop n)) = s.stk.take n ++ (lv.take k).map (rLeft (s.stk.drop n)) ++ [t] by rw [List.take_add_one, hlk, List.map_append, List.append_assoc]; simp only [Option.toList_some, List.map_cons, List.map_nil]; rw [hrl])
      clear J5 hM5 hS5 hb5z
      go_wp2_with (at_builtin; refine wpList_append_run rfl (.tmp 123) (.tmp 125) 40 rfl _ _ rfl rfl happ5 ?_)
      refine ⟨⟨k + 1, .slice a5 n5 cap5, by omega, by go_num, ?_, (unhide HE).2.1, (unhide HE).2.2.1, (unhide HE).2.2.2⟩, by simp [intOf]; omega⟩
      rw [unhide HLE]
      exact (unhide HE).1
    ·obtain rfl : k = lv.length := by omega
     have ke2 : ¬ (lv.length : Int) < (lv.length : Int) := by omega
     rw [List.take_length] at JJ HSL
     have hbW := KK.bel
     go_wp2_with fail
     have g0 : wr.cell? ⟨w9.heap.size, 0, none⟩ = some (.bool true) := JJ.box.cell 0
     have g1 : wr.cell? ⟨w9.heap.size, 1, none⟩ = some (.slice a1 n1 cap1) := JJ.box.cell 1
     have g3 : wr.cell? ⟨w.heap.size + 1, 4, none⟩ = some (.int .i64 m.stack) := KK.b1.cell 4
     have HJJ := hide (And.intro JJ KK)
     have b4 := KK.b4
     have hl5 := IV.b4.lt
     have HO9 := hide (fun Y (hY : Mods (fun k => k = w.heap.size + 1 + 1 + 1 + 1) wr Y) => And.intro ((JJ.box.mods hY (by omega)).cell 0) (And.intro ((JJ.box.mods hY (by omega)).cell 1) (And.intro ((JJ.box.mods hY (by omega)).cell 2) ((KK.b1.mods hY (by omega)).cell 4))))
     clear JJ KK
     refine wp_region_noPanic ?_
     refine wp_region_held_drew (S := (fun w' => w'.cell? ⟨w9.heap.size, 0, none⟩ = some (.bool true) ∧ w'.cell? ⟨w9.heap.size, 1, none⟩ = some (.slice a1 n1 cap1) ∧ w'.cell? ⟨w9.heap.size, 2, none⟩ = some (.slice sva sl svcap) ∧ w'.cell? ⟨w.heap.size + 1, 4, none⟩ = some (.int .i64 m.stack))) (by kernel_rfl) ?_ (fun hHeld => ?_)
     ·exact ⟨g0, g1, z6, g3⟩
     refine take_x (some 128) 0 rfl rfl ?_
     refine take_x (some 129) 1 rfl rfl ?_
     refine take_x (some 130) 2 rfl rfl ?_
     refine take_x (some 131) 3 rfl rfl ?_
     refine take_x (some 132) 4 rfl rfl ?_
     refine take_x (some 133) 5 rfl rfl ?_
     refine take_x (some 134) 6 rfl rfl ?_
     refine wpAnyH_ready (rs := [7]) (by kernel_rfl) (by simp) ?_
     refine AllReadyH.cons rfl (fun K hK => ?_) AllReadyH.nil
     refine wp_store_blk aggRS b4.drew 0 [.bool true, .slice a1 n1 cap1, .slice sva sl svcap] rfl (by simp) (fun u hu => by simp only [List.mem_cons, List.not_mem_nil, or_false] at hu; rcases hu with rfl | rfl | rfl <;> rfl) (.tmp 8) (.tmp 128) rfl rfl rfl ?_
     intro w6 hB6 hM6 hs6
     rw [putAt_all (by rfl)] at hB6
     have hM6' : Mods (fun k => k = w.heap.size + 1 + 1 + 1 + 1) wr w6 := ⟨hM6.os, hM6.tape, hM6.output, hM6.size, hM6.block⟩
     refine hK.out _ _ ((unhide HO9) _ hM6') (fun hHeld => ?_)
     clear hK K
     try simp only [Act.put]
     refine take_x (some 9) 8 rfl rfl ?_
     refine wpAnyH_done (by kernel_rfl) ?_ _
     refine NoPanic.normal ?_
     go_wp2_with fail
     refine bodyPost_ret (results_blk2 rfl aggRS hB6 rfl rfl) rfl ?_
     have hrd := (unhide HJJ).1.read
     have hfb := hbW.trans (hM6'.below hbW.size (fun k hk e => by omega))
     by_cases hfit2 : (sl : Int) ≤ m.stack
     ·have hR3 : rStep p m ⟨op, xa, xb⟩ s = some ⟨loc', s.stk.take n ++ lv.map (rLeft (s.stk.drop n))⟩ := by
       rw [unhide HR2, if_pos (by rw [← unhide HSL]; exact hfit2), hloc', if_neg h2]
      refine ⟨fun s' e => ?_, fun e => (by rw [hR3] at e; cases e), hfb⟩
      rw [hR3] at e
      cases e
      refine ⟨_, _, (by show Ending.returned (.tuple #[_, .bool (decide _)]) = _; rw [decide_eq_true hfit2]), StG.keep (sel_mods hM6' fun k _ hk => ⟨fun e => by omega, by omega⟩) hrd⟩
     ·have hR3 : rStep p m ⟨op, xa, xb⟩ s = none := by
       rw [unhide HR2, if_neg (by rw [← unhide HSL]; exact hfit2)]
      refine ⟨fun s' e => (by rw [hR3] at e; cases e), fun _ => ⟨_, _, _, _, _, _, _, (by show Ending.returned (.tuple #[_, .bool (decide _)]) = _; rw [decide_eq_false hfit2])⟩, hfb⟩
end Go.Proofs.YtiiokkllmchohaaGreat
