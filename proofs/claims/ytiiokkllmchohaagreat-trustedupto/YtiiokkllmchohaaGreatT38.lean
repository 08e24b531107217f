/- What is proved: the law Trusted (if all methods of a program pass, no run of it ends with Fault, and the machine that does not ask does the same as the one that asks; else the one that does not ask refuses it) answers true, and what it was handed reads as it did. Condition: the arguments hold together at most 1048576 values and letters. -/
import Derived.Test.YtiiokkllmchohaaGreatT36
import Derived.Test.YtiiokkllmchohaaGreatT37
/- KepB -/
namespace Go.Proofs.YtiiokkllmchohaaGreat
open Go.RowKit Go.Shelf
attribute [local go_sem ↓] Go.wp_at_zero Go.wp_at_succ
attribute [local go_sem] frz_drew

def outV (p : List LClass) (c slot : Int) (R : MaSt × Int) : Int := if R.2 = 1 then tellV R.1 R.1.told (findM p c slot).ret else 0
def RunO (p : List LClass) (c slot : Int) (R : MaSt × Int) (er : Int) (w w' : World) (e : Ending) : Prop :=
  ∃ (K V S : Int) (a : Option Addr) (cap : Nat) (out : List Int), e = .returned (.tuple #[.agg #[.int .i64 K, .int .i64 V, .slice a out.length cap, .int .i64 S], .int .i64 er]) ∧ SlAt 1 (RInt w') (.slice a out.length cap) out ∧ (er = 0 → K = R.2 ∧ V = outV p c slot R ∧ out = R.1.out ∧ S = (R.1.steps : Int)) ∧ Below w.heap.size w w'
theorem runO_of {p : List LClass} {c slot : Int} {R : MaSt × Int} {er : Int} {w w' : World} {e : Ending} (h : RunZ p c slot R er w w' e) : RunO p c slot R er w w' e := by
  obtain ⟨h1, h2, hb⟩ := h
  by_cases he : er = 0
  · subst he
    obtain ⟨vpr, rfl, hpr, _⟩ := h1 rfl
    obtain ⟨a, cap, rfl⟩ := own_form hpr
    exact ⟨_, _, _, a, cap, R.1.out, rfl, own_ints rfl hpr, fun _ => ⟨rfl, rfl, rfl, rfl⟩, hb⟩
  · obtain rfl := h2 he
    refine ⟨0, 0, 0, none, 0, [], rfl, ⟨none, 0, 0, 0, rfl, Nat.le_refl _, ⟨fun e => absurd rfl e, .inl ⟨rfl, rfl⟩⟩, fun j x e => (by cases e)⟩, fun e => absurd e he, hb⟩
theorem code_runO (p : List LClass) (vp : Value) (c slot : Int) (args : List Int) (va : Value) (fuel : Int) (ask : Bool) (w : World) (hp : RProg w vp p) (hwf : wfProg p) (hz : szProg p ≤ 4194304) (hva : SlAt 1 (RInt w) va args) (hal4 : args.length ≤ 4194304) :
    Calls Tryz.prog 27 #[.agg #[vp], .int .i64 c, .int .i64 slot, va, .int .i64 fuel, .bool ask] w fun e w' => RunO p c slot (runF p c slot args fuel) (runE p c slot args.length fuel ask) w w' e :=
  (code_runZ p vp c slot args va fuel ask w hp hwf hz hva hal4).mono fun _ _ h => runO_of h
theorem one4 (K V S : Int) (a : Option Addr) (n cap : Nat) : ∀ v ∈ [Value.int .i64 K, .int .i64 V, .slice a n cap, .int .i64 S], v.oneCell' = true := fun v hv => by
  simp only [List.mem_cons, List.not_mem_nil, or_false] at hv
  rcases hv with rfl | rfl | rfl | rfl <;> rfl
theorem runF_kind {p : List LClass} {c slot : Int} {args : List Int} {fuel : Int} (hF : formI p = 0) (hz : szProg p ≤ 4194304) (hT : takesB p c slot args.length = true) (h0 : 0 ≤ fuel) (h5 : fuel ≤ 5000) :
    (1 ≤ (runF p c slot args fuel).2 ∧ (runF p c slot args fuel).2 ≤ 8) ∧ ((runF p c slot args fuel).1.steps : Int) ≤ fuel ∧ ((runF p c slot args fuel).2 = 6 → ((runF p c slot args fuel).1.steps : Int) = fuel) := by
  obtain ⟨I, hR⟩ := runF_is hF hz hT h0 h5
  have hg := run_grow _ _ _ hR
  exact ⟨hg.1, Inv.last hF hz h5 _ _ _ I hR, hg.2.2.2⟩
theorem Inv.outs {p : List LClass} {fuel : Int} (hF : formI p = 0) (hz : szProg p ≤ 4194304) (hfu : fuel ≤ 5000) : ∀ (n : Nat) (st : MaSt) (R : MaSt × Int), Inv p fuel st → runM p fuel n st = some R → R.1.out.length ≤ R.1.steps
  | 0, _, _, _, h => by cases h
  | n + 1, st, R, I, h => by
    unfold runM at h
    cases e : stepM p fuel st with
    | inr r =>
      rw [e] at h
      cases h
      have hk := step_kind e
      rw [hk.2.1, hk.2.2.1]
      exact I.out
    | inl st' =>
      rw [e] at h
      exact Inv.outs hF hz hfu n st' R (I.step hF hz hfu e) h
theorem runF_out {p : List LClass} {c slot : Int} {args : List Int} {fuel : Int} (hF : formI p = 0) (hz : szProg p ≤ 4194304) (hT : takesB p c slot args.length = true) (h0 : 0 ≤ fuel) (h5 : fuel ≤ 5000) : (runF p c slot args fuel).1.out.length ≤ 5000 := by
  obtain ⟨I, hR⟩ := runF_is hF hz hT h0 h5
  have h1 := Inv.outs hF hz h5 _ _ _ I hR
  have h2 := Inv.last hF hz h5 _ _ _ I hR
  omega
set_option maxHeartbeats 2000000 in
set_option maxRecDepth 100000 in
theorem keep_trusted (p : List LClass) (vp : Value) (c slot : Int) (args : List Int) (va : Value) (fuel : Int) (w : World) (hp : RProg w vp p) (hwf : wfProg p) (hz : szProg p ≤ 4194304) (hva : SlAt 1 (RInt w) va args) (hal4 : args.length ≤ 4194304) :
    Calls Tryz.prog 8 #[.agg #[vp], .int .i64 c, .int .i64 slot, va, .int .i64 fuel] w fun e w' => e = .returned (.bool true) ∧ Below w.heap.size w w' := by
  have HP := hide hp
  have HVA := hide hva
  obtain ⟨pa, _, _, pcap, rfl, _⟩ := hp
  obtain ⟨aa, _, _, acap, rfl, _⟩ := hva
  have hbel := box_below w (.cells #[.slice pa p.length pcap] 24)
  have B0 := Blk.new w #[.slice pa p.length pcap] 24
  go_enter Tryz.func8, Tryz.ntmps8
  go_wp2_with fail
  generalize w.alloc _ = W at *
  refine (keep_awake W).mono ?_
  rintro e w1 ⟨rfl, hb1⟩
  have hbw1 := hbel.trans (hb1.mono hbel.size)
  have C1 := B0.below hb1 (by have := B0.lt; omega)
  have q1 : w1.cell? ⟨w.heap.size, 0, none⟩ = some (.slice pa p.length pcap) := C1.cell 0
  clear hb1 hbel B0
  go_wp2_with fail
  refine (code_form p _ w1 (prog_keep (Keeps.of_below hbw1) (unhide HP)) hwf hz).mono ?_
  rintro e w2 ⟨rfl, hb2⟩
  have hbw2 := hbw1.trans (hb2.mono hbw1.size)
  have C2 := C1.below hb2 (by have := C1.lt; omega)
  have q2 : w2.cell? ⟨w.heap.size, 0, none⟩ = some (.slice pa p.length pcap) := C2.cell 0
  clear hb2 hbw1 C1 q1
  by_cases hF : formI p = 0
  · have HF := hide hF
    rw [hF]
    clear hF
    go_wp2_with fail
    refine (keep_passes p _ w2 (prog_keep (Keeps.of_below hbw2) (unhide HP)) hwf (unhide HF) hz).mono ?_
    rintro e w3 ⟨rfl, hb3⟩
    have hbw3 := hbw2.trans (hb3.mono hbw2.size)
    have C3 := C2.below hb3 (by have := C2.lt; omega)
    have q3 : w3.cell? ⟨w.heap.size, 0, none⟩ = some (.slice pa p.length pcap) := C3.cell 0
    obtain ⟨PA, hPA⟩ : ∃ PA, PA = passAllB p := ⟨_, rfl⟩
    rw [← hPA]
    have HPA := hide hPA
    clear hb3 hbw2 C2 q2 hPA
    go_wp2_with fail
    refine (code_runO p _ c slot args _ fuel true w3 (prog_keep (Keeps.of_below hbw3) (unhide HP)) hwf hz (ints_keep (Keeps.of_below hbw3) (unhide HVA)) hal4).mono ?_
    rintro e w4 ⟨K, V, S, oa, ocap, out, rfl, hsl, hv, hb4⟩
    have hbw4 := hbw3.trans (hb4.mono hbw3.size)
    have C4 := C3.below hb4 (by have := C3.lt; omega)
    have HSL := hide hsl
    obtain ⟨e1, he1⟩ : ∃ e1, e1 = runE p c slot args.length fuel true := ⟨_, rfl⟩
    rw [← he1] at hv ⊢
    have HV := hide hv
    have HE1 := hide he1
    clear hb4 hbw3 C3 q3 hsl hv he1
    go_wp2_with (refine wpList_store_blk aggOut (Blk.new w4 #[.int .i64 0, .int .i64 0, .slice none 0 0, .int .i64 0] 69) 0 [.int .i64 K, .int .i64 V, .slice oa out.length ocap, .int .i64 S] rfl (by simp) (one4 K V S oa out.length ocap) (.tmp 14) (.tmp 38) rfl rfl rfl rfl ?_; intro w5 hB5 hM5 hs5; rw [putAt_all (by rfl)] at hB5; have q5 : w5.cell? ⟨w.heap.size, 0, none⟩ = some (.slice pa p.length pcap) := ((C4.alloc _).mods hM5 (by have := C4.lt; omega)).cell 0)
    have hb5 := (box_below w4 _).trans (hM5.below (by simp) (fun k hk e => by omega))
    have C5 := C4.below hb5 C4.lt
    have hbw5 := hbw4.trans (hb5.mono hbw4.size)
    have HSL5 := hide (ints_keep (Keeps.of_below hb5) (unhide HSL))
    clear hbw4 HSL hM5 hs5 hb5 C4
    refine (code_runO p _ c slot args _ fuel false w5 (prog_keep (Keeps.of_below hbw5) (unhide HP)) hwf hz (ints_keep (Keeps.of_below hbw5) (unhide HVA)) hal4).mono ?_
    rintro e w6 ⟨K', V', S', oa', ocap', out', rfl, hsl', hv', hb6⟩
    have hbw6 := hbw5.trans (hb6.mono hbw5.size)
    have hB6 := hB5.below hb6 hB5.lt
    have HSL6 := hide (And.intro (ints_keep (Keeps.of_below hb6) (unhide HSL5)) hsl')
    obtain ⟨e2, he2⟩ : ∃ e2, e2 = runE p c slot args.length fuel false := ⟨_, rfl⟩
    rw [← he2] at hv' ⊢
    have HV' := hide hv'
    have HE2 := hide he2
    generalize w4.heap.size = h4 at *
    clear hb6 hbw5 C5 q5 hsl' hv' he2 HSL5 hB5
    have hone' := one4 K' V' S' oa' out'.length ocap'
    have hlt6 := hB6.lt
    by_cases hT : takesB p c slot args.length = true ∧ 0 ≤ fuel ∧ fuel ≤ 5000
    · have z1 : e1 = 0 := by rw [unhide HE1]; unfold runE; rw [if_pos (unhide HF), if_pos hT, if_pos (.inl rfl)]
      have z2 : e2 = if PA = true then 0 else 5 := by rw [unhide HE2]; unfold runE; rw [if_pos (unhide HF), if_pos hT, ← unhide HPA]; simp
      clear HE1 HE2
      cases PA with
      | false =>
        rw [if_neg (by simp)] at z2
        subst z1 z2
        clear hT
        go_wp2_with (refine wpList_store_blk aggOut (Blk.new w6 #[.int .i64 0, .int .i64 0, .slice none 0 0, .int .i64 0] 69) 0 [.int .i64 K', .int .i64 V', .slice oa' out'.length ocap', .int .i64 S'] rfl (by simp) hone' (.tmp 16) (.tmp 47) rfl rfl rfl rfl ?_; intro w7 hB7 hM7 hs7)
        have hb7 := (box_below w6 _).trans (hM7.below (by simp) (fun k hk e => by omega))
        go_ret
        exact ⟨rfl, hbw6.trans (hb7.mono hbw6.size)⟩
      | true =>
        rw [if_pos rfl] at z2
        subst z1 z2
        obtain ⟨rfl, rfl, rfl, rfl⟩ := unhide HV rfl
        obtain ⟨rfl, rfl, rfl, rfl⟩ := unhide HV' rfl
        have hkd := runF_kind (unhide HF) hz hT.1 hT.2.1 hT.2.2
        have hn5 := runF_sound (unhide HF) hz hT.1 hT.2.1 hT.2.2 (unhide HPA).symm
        have hol := runF_out (unhide HF) hz hT.1 hT.2.1 hT.2.2
        clear hT HV HV'
        generalize outV p c slot (runF p c slot args fuel) = V at *
        obtain ⟨⟨⟨frs, objs, told, out, stp⟩, K⟩, hR⟩ : ∃ R, R = runF p c slot args fuel := ⟨_, rfl⟩
        rw [← hR] at hkd hn5 hol hB6 HSL6 hone' ⊢
        dsimp only at hkd hn5 hol hB6 HSL6 hone' ⊢
        clear hR
        obtain ⟨⟨k1, k8⟩, _, _⟩ := hkd
        have k5 : (K != 5) = true := by simpa using hn5
        have HK := hide (And.intro k1 (And.intro k8 hn5))
        go_wp2_with (refine wpList_store_blk aggOut (Blk.new w6 #[.int .i64 0, .int .i64 0, .slice none 0 0, .int .i64 0] 69) 0 [.int .i64 K, .int .i64 V, .slice oa' out.length ocap', .int .i64 (stp : Int)] rfl (by simp) hone' (.tmp 16) (.tmp 47) rfl rfl rfl rfl ?_; intro w7 hB7 hM7 hs7; rw [putAt_all (by rfl)] at hB7; have hB8 := (hB6.alloc (.cells #[.int .i64 0, .int .i64 0, .slice none 0 0, .int .i64 0] 69)).mods hM7 (by omega); have a0 : w7.cell? ⟨h4, 0, none⟩ = some (.int .i64 K) := hB8.cell 0; have a1 : w7.cell? ⟨h4, 1, none⟩ = some (.int .i64 V) := hB8.cell 1; have a2 : w7.cell? ⟨h4, 2, none⟩ = some (.slice oa out.length ocap) := hB8.cell 2; have a3 : w7.cell? ⟨h4, 3, none⟩ = some (.int .i64 (stp : Int)) := hB8.cell 3; have b0 : w7.cell? ⟨w6.heap.size, 0, none⟩ = some (.int .i64 K) := hB7.cell 0; have b1 : w7.cell? ⟨w6.heap.size, 1, none⟩ = some (.int .i64 V) := hB7.cell 1; have b2 : w7.cell? ⟨w6.heap.size, 2, none⟩ = some (.slice oa' out.length ocap') := hB7.cell 2; have b3 : w7.cell? ⟨w6.heap.size, 3, none⟩ = some (.int .i64 (stp : Int)) := hB7.cell 3)
        have hb7 := (box_below w6 _).trans (hM7.below (by simp) (fun k hk e => by omega))
        refine (keep_same K V (stp : Int) _ _ out w7 (ints_keep (Keeps.of_below hb7) (unhide HSL6).1) (ints_keep (Keeps.of_below hb7) (unhide HSL6).2) (by omega)).mono ?_
        rintro e w8 ⟨rfl, hb8⟩
        have c0 : w8.cell? ⟨h4, 0, none⟩ = some (.int .i64 K) := (hB8.below hb8 hB8.lt).cell 0
        clear a0 a1 a2 a3 b0 b1 b2 b3 hB7 hB8 hM7 hs7
        have hbw7 := hbw6.trans (hb7.mono hbw6.size)
        go_wp2_with fail
        go_ret
        exact ⟨rfl, hbw7.trans (hb8.mono hbw7.size)⟩
    · have z1 : e1 = 4 := by rw [unhide HE1]; unfold runE; rw [if_pos (unhide HF), if_neg hT]
      have z2 : e2 = 4 := by rw [unhide HE2]; unfold runE; rw [if_pos (unhide HF), if_neg hT]
      subst z1 z2
      clear hT
      go_wp2_with (refine wpList_store_blk aggOut (Blk.new w6 #[.int .i64 0, .int .i64 0, .slice none 0 0, .int .i64 0] 69) 0 [.int .i64 K', .int .i64 V', .slice oa' out'.length ocap', .int .i64 S'] rfl (by simp) hone' (.tmp 16) (.tmp 47) rfl rfl rfl rfl ?_; intro w7 hB7 hM7 hs7)
      have hb7 := (box_below w6 _).trans (hM7.below (by simp) (fun k hk e => by omega))
      go_ret
      exact ⟨rfl, hbw6.trans (hb7.mono hbw6.size)⟩
  · have hF' : (formI p != 0) = true := by simpa using hF
    have HF := hide hF
    clear hF
    go_wp2_with fail
    go_ret
    exact ⟨rfl, hbw2⟩
end Go.Proofs.YtiiokkllmchohaaGreat
/- RowT -/
namespace Go.Proofs.YtiiokkllmchohaaGreat
open Go.ChangeShapes Go.WideShapes Go.ChangeAt Go.RowKit

set_option maxRecDepth 100000 in
theorem trusted_contract (H : Type) (enc : TypeId × Value → H) (W : World) (base : Nat) (args : Array Value) (ds gs : List (DataW H)) (before : List MemPlace)
    (hval : ∀ (j : Nat) t v, Tryz.f8.params[j]? = some t → args[j]? = some v → Value.okWide Tryz.prog W .any base t v)
    (hW : DataW.Whole enc Tryz.prog Tryz.f8.params.toList Rows.trustedSpec.vars false W args.toList ds gs before) (hk : Rows.uptoSmall H (ds ++ gs) = true) :
    Calls Tryz.prog 8 args W fun e W' => ∃ v, e = .returned v ∧ Rows.trustedSpec.post enc Tryz.prog Tryz.f8 false true false false W args v W' := by
  have hW' := hW
  obtain ⟨p, q, hA0, hV, rfl, hfz, hnd⟩ := hW
  have hA : DataW.TrodAll enc Tryz.prog W 0 (fun _ => true) true Tryz.f8.params.toList args.toList ds p := hA0
  rw [Tryz.params8] at hA hval
  obtain ⟨v0, v1, v2, v3, v4, d0, d1, d2, d3, d4, p0, p1, p2, p3, p4, rfl, rfl, rfl, h0, h1, h2, h3, h4⟩ := trodAll_five hA
  obtain ⟨rfl, rfl⟩ := trodVars_none hV
  have hbulk := bulk_five hk
  obtain ⟨vp, lp, rfl, r0, f0, z0⟩ := open_prog (hval 0 24 _ rfl rfl) h0
  obtain ⟨n1, rfl, rfl, _, hf1⟩ := open_int Tryz.underlying3 (hval 1 3 v1 rfl rfl) h1
  obtain ⟨n2, rfl, rfl, _, hf2⟩ := open_int Tryz.underlying3 (hval 2 3 v2 rfl rfl) h2
  obtain ⟨l, hl, hl64, hlz⟩ := open_intsV (hval 3 51 _ rfl rfl) h3
  obtain ⟨n4, rfl, rfl, _, hf4⟩ := open_int Tryz.underlying3 (hval 4 3 v4 rfl rfl) h4
  clear hA0
  refine (keep_trusted lp vp n1 n2 l v3 n4 W r0 f0 (by omega) hl (by omega)).mono fun e W' ⟨he, hB⟩ => ?_
  subst he
  have e1 : Rows.trustedSpec.fn H ([d0, .lit (.int .i64 n1), .lit (.int .i64 n2), d3, .lit (.int .i64 n4)] ++ []) = { results := [.lit (.bool true)], args := [d0, .lit (.int .i64 n1), .lit (.int .i64 n2), d3, .lit (.int .i64 n4)] } := rfl
  refine ⟨_, rfl, _, _, _, [], p0 ++ (p1 ++ (p2 ++ (p3 ++ p4))), [], hW', ?_, ?_, ?_, hB.frame _, fun h => by cases h⟩
  · rw [e1]
    exact trodAll_mk1 (shut_bool Tryz.underlying4 _)
  · rw [e1]
    exact trodAll_more (Below.trod keep_laid (by kernel_rfl) (of_decide_eq_true (by kernel_rfl)) h0 hB (fun x hx => hW'.lt x (by simp [hx]))) (trodAll_mk4 (Below.trod keep_laid (by kernel_rfl) (of_decide_eq_true (by kernel_rfl)) h1 hB (fun x hx => hW'.lt x (by simp [hx]))) (Below.trod keep_laid (by kernel_rfl) (of_decide_eq_true (by kernel_rfl)) h2 hB (fun x hx => hW'.lt x (by simp [hx]))) (Below.trod keep_laid (by kernel_rfl) (of_decide_eq_true (by kernel_rfl)) h3 hB (fun x hx => hW'.lt x (by simp [hx]))) (Below.trod keep_laid (by kernel_rfl) (of_decide_eq_true (by kernel_rfl)) h4 hB (fun x hx => hW'.lt x (by simp [hx]))))
  · rw [e1]
    rfl

set_option maxRecDepth 100000 in
theorem trusted_lifted (os : Os) (started : os.Started) (H : Type) (enc : TypeId × Value → H) (F : Stop.Interp) :
    ReturnsInHanded {} Tryz.checked os 8 .any ((Rows.OpenSpec.upto Rows.trustedSpec).pre6 enc Tryz.prog Tryz.f8 Rows.trustedUptoRow.domain false) (((Rows.OpenSpec.upto Rows.trustedSpec).at F).post enc Tryz.prog Tryz.f8 false true false false) := by
  refine returnsInHanded_of_cond (C := Tryz.checked) (s := Rows.OpenSpec.upto Rows.trustedSpec) (k := Rows.uptoSmall) rfl keep_knob started (by kernel_rfl) Tryz.func8
    (OpenSpec.witness (enc := enc) (C := Tryz.checked) (s := Rows.OpenSpec.upto Rows.trustedSpec) (k := Rows.uptoSmall) rfl false ⟨#[], #[.agg #[.slice none 0 0], .int .i64 0, .int .i64 0, .slice none 0 0, .int .i64 0], []⟩ 8 (by kernel_rfl) (by kernel_rfl) (by kernel_rfl)
      (x := ([.agg [.nil], .lit (.int .i64 0), .lit (.int .i64 0), .nil, .lit (.int .i64 0)], [], [])) (by kernel_rfl) rfl (by kernel_rfl)) ?_
  intro W base args ds gs before hval hW _ hk _
  exact trusted_contract H enc W base args ds gs before hval hW hk

theorem trusted_over : Rows.trustedUptoRow.holds Tryz.pinned (Rows.OpenSpec.upto Rows.trustedSpec) :=
  OpenClaim.holds_of_cond 8 Tryz.f8 rfl rfl rfl rfl rfl rfl rfl ⟨rfl, rfl, rfl, rfl, rfl⟩ rfl rfl rfl rfl rfl (by kernel_rfl) Tryz.func8 (by kernel_rfl)
    (of_decide_eq_true (by kernel_rfl)) (by unfold Func.isWrapper; first | (rw [if_pos (by decide +kernel)]; kernel_rfl) | (rw [if_neg (by decide +kernel)]; exact ⟨rfl, rfl⟩))
    (fun os started H enc _ F => trusted_lifted os started H enc F)
theorem trusted_holds : Rows.TrustedUptoSaid := trusted_over
end Go.Proofs.YtiiokkllmchohaaGreat
