/- The machine: Run. -/
import Derived.Laws.Tables
import Derived.Test.YtiiokkllmchohaaGreatT12
import Derived.Test.YtiiokkllmchohaaGreatT13
import Derived.Test.YtiiokkllmchohaaGreatT16
import Derived.Test.YtiiokkllmchohaaGreatT18
import Derived.Test.YtiiokkllmchohaaGreatT24
/- RunA -/
namespace Go.Proofs.YtiiokkllmchohaaGreat
open Go.RowKit Go.Shelf
attribute [local go_sem ↓] Go.wp_at_zero Go.wp_at_succ
attribute [local go_sem] frz_drew
attribute [local go_sem] fld_num fld_obj fld_args

theorem fld_ret (s r l k : Int) (x y z : Value) (w : World) : (Instr.field 63 (.agg #[.int .i64 s, x, .int .i64 r, .int .i64 l, .int .i64 k, y, z]) 2).run Tryz.prog w = .ok (.int .i64 r) w := by kernel_rfl
attribute [local go_sem] fld_ret
def tellV (st : MaSt) (v : LVal) (t : Int) : Int := if t = 0 then v.num else match v.obj with
  | none => -1
  | some k => (objAt st k).cls
set_option maxHeartbeats 1000000 in
theorem ma_tell (w0 w : World) (ρ : Nat → Nat × Nat) (mb : Nat) (vp : Value) (fuel : Int) (ask : Bool) (st : MaSt) (A : List Nat) (X : List FrX) (Y : List Value) (vr vpr : Value) (h : MaA w0 w ρ mb vp fuel ask st A X Y vr vpr) (v : LVal) (t : Int) (ok : okV A v) :
    Calls Tryz.prog 114 #[.agg (encV A v).toArray, .int .i64 t] w fun e w' => e = .returned (.int .i64 (tellV st v t)) ∧ Below w.heap.size w w' := by
  have hbel := box_below w (.cells #[.int .i64 v.kind, .int .i64 v.num, objP A v.obj] 170)
  have B0 := Blk.new w #[.int .i64 v.kind, .int .i64 v.num, objP A v.obj] 170
  have H := hide (h.below hbel (Nat.le_refl _))
  have hla := h.la
  have hly := h.ly
  have q1 : (w.alloc (.cells #[.int .i64 v.kind, .int .i64 v.num, objP A v.obj] 170)).cell? ⟨w.heap.size, 1, none⟩ = some (.int .i64 v.num) := B0.cell 1
  unfold encV
  cases ht : t == 0 with
  | true =>
    have hv : tellV st v t = v.num := if_pos (by simpa using ht)
    rw [hv]
    clear hv h
    go_enter Tryz.func114, Tryz.ntmps114
    go_wp2_with fail
    go_ret
    exact ⟨rfl, hbel⟩
  | false =>
    have ht0 : ¬ t = 0 := by simpa using ht
    cases ho : v.obj with
    | none =>
      have hv : tellV st v t = -1 := by unfold tellV; rw [if_neg ht0, ho]
      rw [hv]
      unfold objP
      clear hv h B0 q1 H hbel
      go_enter Tryz.func114, Tryz.ntmps114
      go_wp2_with fail
      go_ret
      exact ⟨rfl, box_below _ _⟩
    | some k =>
      have hk : k < A.length := ok k ho
      obtain ⟨ob, hob⟩ : ∃ ob, A[k]? = some ob := ⟨_, List.getElem?_eq_getElem hk⟩
      obtain ⟨o, hoo⟩ : ∃ o, st.objs[k]? = some o := ⟨_, List.getElem?_eq_getElem (by omega)⟩
      obtain ⟨y, hy⟩ : ∃ y, Y[k]? = some y := ⟨_, List.getElem?_eq_getElem (by omega)⟩
      have hv : tellV st v t = o.cls := by unfold tellV; rw [if_neg ht0, ho]; show (objAt st k).cls = _; unfold objAt; rw [hoo]; rfl
      rw [hv]
      have hpo : objP A (some k) = .pointer (some ⟨ob, 0, none⟩) := by
        show Value.pointer (some ⟨A.getD k 0, 0, none⟩) = _
        rw [List.getD_eq_getElem?_getD, hob]; rfl
      have o0 : w.cell? ⟨ob, 0, none⟩ = some (.int .i64 o.cls) := (h.ob k o ob y hoo hob hy).blk.cell 0
      rw [hpo]
      have o1 := Keeps.of_below (box_below w (.cells #[.int .i64 v.kind, .int .i64 v.num, .pointer (some ⟨ob, 0, none⟩)] 170)) _ _ o0
      clear hv h B0 q1 H hbel
      go_enter Tryz.func114, Tryz.ntmps114
      go_wp2_with fail
      go_ret
      exact ⟨rfl, box_below _ _⟩
theorem aggOut : AggOk Tryz.prog 69 4 := ⟨by kernel_rfl, by kernel_rfl⟩
def st00 : MaSt := ⟨[], [], ⟨0, 0, none⟩, [], 0⟩
theorem MaA.start {w W : World} {vp : Value} {fuel : Int} {ask : Bool} {mb : Nat} (hb : Below w.heap.size w W) (hmb : w.heap.size ≤ mb) (hB : Blk W mb 172 [vp, .int .i64 fuel, .bool ask, .slice none 0 0, .int .i64 0, .int .i64 0, .int .i64 0, .pointer none, .slice none 0 0, .int .i64 0]) :
    ∃ ρ, MaA w W ρ mb vp fuel ask st00 [] [] [] (.slice none 0 0) (.slice none 0 0) := by
  refine ⟨fun k => if k < w.heap.size then (9, 0) else (5, 0), hB, hmb, ?_, World.ownsRow_nil _ _ _ _, fun g hg => (by cases hg), World.ownsRow_nil _ _ _ _, fun g hg => (by cases hg), rfl, fun i f x hf => (by cases hf), rfl, rfl, fun k o b v h => (by cases h), fun k hk => (by cases hk), hb, fun k hk => ?_⟩
  · show (if _ then _ else _) = _
    rw [if_neg (by omega)]
  · show (if _ then _ else _) = _
    rw [if_pos hk]
def startM (p : List LClass) (c slot : Int) (args : List Int) : MaSt := begSt p { st00 with objs := [⟨c, (fieldsOf p c).map firstV⟩] } 0 c slot (args.map numbV)
def RunR (p : List LClass) (c slot : Int) (R : MaSt × Int) (w w' : World) (e : Ending) : Prop :=
  ∃ vpr, e = .returned (.agg #[.int .i64 R.2, .int .i64 (if R.2 = 1 then tellV R.1 R.1.told (findM p c slot).ret else 0), vpr, .int .i64 (R.1.steps : Int)]) ∧ w'.ownsRow w.heap.size 3 1 vpr R.1.out.length (R.1.out.map (Value.int .i64)) ∧ Below w.heap.size w w'
set_option maxHeartbeats 1000000 in
set_option maxRecDepth 100000 in
theorem ma_run (p : List LClass) (vp : Value) (c slot : Int) (args : List Int) (va : Value) (fuel : Int) (w : World) (hp : RProg w vp p) (G : Good p) (hal : ∀ a b, (methOf p a b).isSome = true → 0 ≤ a → a < (p.length : Int) → (findM p a b).args.length ≤ 4194303) (c0 : 0 ≤ c) (c1 : c < (p.length : Int)) (hm : (methOf p c slot).isSome = true) (hva : SlAt 1 (RInt w) va args) (hl : 1 + (args.length : Int) ≤ (findM p c slot).locals) (hl8 : (findM p c slot).locals ≤ 8) (hfu : fuel ≤ 5000) (hf0 : 0 ≤ fuel)
    (N : Nat) (R : MaSt × Int) (hok : RunOk p fuel N (startM p c slot args)) (hrun : runM p fuel N (startM p c slot args) = some R) :
    Calls Tryz.prog 62 #[.agg #[vp], .int .i64 c, .int .i64 slot, va, .int .i64 fuel, .bool true] w fun e w' => RunR p c slot R w w' e := by
  obtain ⟨i0, hi0, hz0, hz1, hz2⟩ := info_parts infoVal
  have HP := hide hp
  have HR := hide (And.intro hok hrun)
  obtain ⟨aa, ab, aoff, acap, rfl, hac, haa, har⟩ := sl_open hva
  obtain ⟨pa, _, _, pcap, rfl, _⟩ := hp
  clear hok hrun hva
  go_enter Tryz.func62, Tryz.ntmps62
  go_wp2_with fail
  generalize hW1 : (w.alloc _).alloc _ = W1
  have hbe1 : Below w.heap.size w W1 := by rw [← hW1]; exact box2_below _ _ _
  have hsz1 : W1.heap.size = w.heap.size + 1 + 1 := by rw [← hW1]; simp
  have A1 : Blk W1 (w.heap.size + 1) 69 [.int .i64 0, .int .i64 0, .slice none 0 0, .int .i64 0] := by
    rw [← hW1]
    have := Blk.new (w.alloc (.cells #[.slice pa p.length pcap] 24)) #[.int .i64 0, .int .i64 0, .slice none 0 0, .int .i64 0] 69
    rw [World.size_alloc] at this
    exact this
  clear hW1
  have B2 := Blk.new W1 #[.slice pa p.length pcap, .int .i64 fuel, .bool true, .slice none 0 0, .int .i64 0, .int .i64 0, .int .i64 0, .pointer none, .slice none 0 0, .int .i64 0] 172
  have hbe2 := box_below W1 (.cells #[.slice pa p.length pcap, .int .i64 fuel, .bool true, .slice none 0 0, .int .i64 0, .int .i64 0, .int .i64 0, .pointer none, .slice none 0 0, .int .i64 0] 172)
  generalize W1.alloc _ = W at *
  have hbel : Below w.heap.size w W := hbe1.trans (hbe2.mono hbe1.size)
  rw [← hsz1]
  obtain ⟨mb, hmb⟩ : ∃ mb, mb = W1.heap.size := ⟨_, rfl⟩
  obtain ⟨bo, hbo⟩ : ∃ bo, bo = w.heap.size + 1 := ⟨_, rfl⟩
  rw [← hbo] at A1 ⊢
  rw [← hmb] at B2 ⊢
  have hb1 : w.heap.size < bo := by omega
  have hb2 : bo < mb := by omega
  have lm := B2.lt
  have HRP1 := hide (prog_keep (Keeps.of_below hbe1) (unhide HP))
  have HMB := hide hmb
  clear hbo hmb hsz1
  have hal8 : args.length ≤ 7 := by omega
  go_loopw [14, 25] (fun v i wr => ∃ (k : Nat), k ≤ args.length ∧ i = .int .i64 k ∧ wr.ownsRow W.heap.size 170 3 v k (encL [] ((args.take k).map numbV)) ∧ Below W.heap.size W wr) (fun _ i _ => args.length - (intOf i).toNat)
  case atStart => exact ⟨0, Nat.zero_le _, rfl, World.ownsRow_nil _ _ _ _, Below.refl _ _⟩
  case round =>
    obtain ⟨k, hk, rfl, hO, hbr⟩ := hrel
    obtain ⟨ra, rcap, rfl⟩ := own_form hO
    by_cases hlt : k < args.length
    · obtain rfl := haa (ne_nil_of_lt hlt)
      have r0 := har k hlt
      unfold RInt GInt at r0
      have hbwr := hbel.trans (hbr.mono hbel.size)
      have r1 := Keeps.of_below hbwr _ _ r0
      have htk : args[k]? = some args[k] := List.getElem?_eq_getElem hlt
      generalize args[k] = an at *
      rw [Nat.mul_one] at r1
      have k0 : (0 : Int) ≤ (k : Int) := by omega
      have k1 : (k : Int) < (args.length : Int) := by omega
      have HO := hide hO
      have HTK := hide htk
      clear r0 hO htk har
      go_wp2_with fail
      refine (ma_number an _).mono ?_
      rintro e w2 ⟨rfl, hb2'⟩
      have hb12 := hbr.trans (hb2'.mono hbr.size)
      have hO2 := own_mods (unhide HO) (Mods.of_below hb2') (fun g hg e => by have := ((unhide HO).lt g hg).2; omega)
      obtain ⟨v3, w3, happ, hO3, hM3, hv3⟩ := app_ex (P := Tryz.prog) (W := w2) 173 173 170 i0 _ 3 24 Tryz.underlying173 hi0 hz0 hz1 hz2 rfl (by decide) W.heap.size _ _ _ hO2 #[.int .i64 0, .int .i64 an, .pointer none] rfl (fun v hv => by simp only [List.mem_cons, List.not_mem_nil, or_false] at hv; rcases hv with rfl | rfl | rfl <;> rfl) w2.heap.size rfl (by unfold maxLen; omega) (by omega) hb12.size
      obtain ⟨a3, cap3, rfl⟩ := own_form hO3
      have HN : Hid (w3.ownsRow W.heap.size 170 3 (.slice a3 (k + 1) cap3) (k + 1) (encL [] ((args.take (k + 1)).map numbV)) ∧ Below W.heap.size W w3) := by
        refine ⟨?_, hb12.trans (hM3.below hb12.size (fun g hg e => by have := (hO2.lt g e).1; omega))⟩
        rw [List.take_add_one, unhide HTK, List.map_append, encL_app]
        exact hO3
      clear hO3 hM3 hv3 hO2
      go_wp2_with (refine wpList_append_run rfl (.tmp 29) (.tmp 32) 173 rfl _ _ rfl rfl happ ?_)
      refine ⟨⟨k + 1, by omega, by go_num, unhide HN⟩, by simp [intOf]; omega⟩
    · obtain rfl : k = args.length := by omega
      rw [List.take_length] at hO
      have hbwr := hbel.trans (hbr.mono hbel.size)
      have C2 := B2.below hbr B2.lt
      have hb1r : Below W1.heap.size W1 wr := hbe2.trans (hbr.mono hbe2.size)
      obtain ⟨ρ0, hA0⟩ := MaA.start hb1r (Nat.le_of_eq (unhide HMB).symm) C2
      have HO := hide hO
      have hW0 := hbel.size
      have HA0 := hide hA0
      clear hO har haa hA0 C2 hbr
      go_wp2_with fail
      refine (ma_create p _ c W1 wr mb fuel true (.slice none 0 0) 0 [] ⟨0, 0, none⟩ (.slice none 0 0) 0 (unhide HRP1) hb1r (Nat.le_of_eq (unhide HMB).symm) (unhide HA0).mach G.sup G.sz c0 c1 (by omega)).mono ?_
      rintro e w2 ⟨b, v, rfl, O, hMb, hM⟩
      obtain ⟨ρ1, hA1⟩ := (unhide HA0).newObj O hMb hM
      have HA1 := hide hA1
      have hO2 := own_mods (unhide HO) hM (fun g hg e => by have := ((unhide HO).lt g hg).1; omega)
      have hml : (args.map numbV).length = args.length := by simp
      have hnil : ra = none → (args.map numbV).length = 0 ∧ rcap = 0 := fun e => by
        rcases hO2.2 with ⟨e1, e2⟩ | ⟨g, cp, cur, e1, _⟩
        · simp only [Value.slice.injEq] at e1; exact ⟨by rw [hml]; omega, e1.2.2⟩
        · rw [e] at e1; simp at e1
      have hen : encL ([] ++ [b]) (args.map numbV) = encL [] (args.map numbV) := encL_more [] [b] (fun u hu => by obtain ⟨t, _, rfl⟩ := List.mem_map.1 hu; exact numbV_ok _ t)
      have hrd : ∀ ad, ra = some ad → ∀ j u, (encL ([] ++ [b]) (args.map numbV))[j]? = some u → w2.cell? (ad.add j) = some u := fun ad e j u hu => by
        rw [hen] at hu
        have hj : j < (encL [] (args.map numbV)).length := (List.getElem?_eq_some_iff.1 hu).1
        rw [encL_len, hml] at hj
        obtain ⟨g, cp, e1, _, _, hr⟩ := own_read hO2 (by omega)
        rw [e] at e1
        simp only [Value.slice.injEq, Option.some.injEq, true_and] at e1
        obtain ⟨rfl, rfl⟩ := e1
        rw [addr_plus, Nat.zero_add, hr j hj]
        exact hu
      have HB := hide (ma_begin p _ W1 w2 ρ1 mb fuel true _ ([] ++ [b]) [] _ _ _ hA1 (unhide HRP1) G.sup G.sz 0 ⟨c, (fieldsOf p c).map firstV⟩ b rfl rfl slot (args.map numbV) ra rcap c0 c1 hm hnil hrd (by rw [hml]; exact hl) hl8 (fun u hu => by obtain ⟨t, _, rfl⟩ := List.mem_map.1 hu; exact numbV_ok _ t) (by simp))
      rw [hml] at HB
      clear O hMb hM hA1 hO2 hnil hen hrd hml
      go_wp2_with fail
      refine (unhide HB).mono ?_
      rintro e w3 ⟨rfl, hX3⟩
      have HWI : Hid (WorkI p W1 mb (.slice pa p.length pcap) fuel R w3) := ⟨N, startM p c slot args, [] ++ [b], (unhide HR).1, (unhide HR).2, hf0, hX3⟩
      clear hX3 HB HA1
      go_wp2_with fail
      refine (ma_work p _ W1 w3 mb fuel R (unhide HWI) hfu G (unhide HRP1) hal).mono ?_
      rintro e w4 ⟨rfl, A4, ρ4, X4, Y4, vr4, vpr4, hA4⟩
      have HA4 := hide hA4
      have E1 := A1.below hA4.bel A1.lt
      obtain ⟨pra, prc, rfl⟩ := own_form hA4.prn
      have n8 : w4.cell? ⟨mb, 8, none⟩ = some (.slice pra R.1.out.length prc) := hA4.mach.cell 8
      have n9 : w4.cell? ⟨mb, 9, none⟩ = some (.int .i64 (R.1.steps : Int)) := hA4.mach.cell 9
      have lE := E1.lt
      have hz1' := hbe1.size
      have hbw4 := hbe1.trans (hA4.bel.mono hbe1.size)
      have T4 := Blk.new w4 #[.int .i64 R.2, .int .i64 0, .slice pra R.1.out.length prc, .int .i64 (R.1.steps : Int)] 69
      have hb4a := box_below w4 (.cells #[.int .i64 R.2, .int .i64 0, .slice pra R.1.out.length prc, .int .i64 (R.1.steps : Int)] 69)
      have E4 := E1.alloc (.cells #[.int .i64 R.2, .int .i64 0, .slice pra R.1.out.length prc, .int .i64 (R.1.steps : Int)] 69)
      have HA5 := hide ((unhide HA4).below hb4a (Nat.le_refl _))
      have HPR := hide (And.intro (own_base (unhide HA4).prn hbe1.size) hbw4)
      clear hA4 HWI
      cases hk : R.2 == 1 with
      | false =>
        have HV : Hid ((if R.2 = 1 then tellV R.1 R.1.told (findM p c slot).ret else 0) = 0) := if_neg (by simpa using hk)
        go_wp2_with (first
          | refine wpList_load_blk aggOut T4 0 [.int .i64 R.2, .int .i64 0, .slice pra R.1.out.length prc, .int .i64 (R.1.steps : Int)] rfl (fun j u e => by simpa using e) (.tmp 18) rfl rfl rfl ?_
          | (refine wpList_store_blk aggOut E4 0 [.int .i64 R.2, .int .i64 0, .slice pra R.1.out.length prc, .int .i64 (R.1.steps : Int)] rfl (by simp) (fun v hv => by simp only [List.mem_cons, List.not_mem_nil, or_false] at hv; rcases hv with rfl | rfl | rfl | rfl <;> rfl) (.tmp 12) (.tmp 57) rfl rfl rfl rfl ?_; intro w6 hB6 hM6 hs6; rw [putAt_all (by rfl)] at hB6))
        refine bodyPost_ret (results_blk rfl aggOut hB6 rfl rfl) rfl ?_
        obtain ⟨hpr, hbf⟩ := unhide HPR
        have hbf2 := hbf.trans (hb4a.mono hbf.size)
        refine ⟨_, by rw [unhide HV], ?_, hbf2.trans (hM6.below hbf2.size (fun k hk e => by omega))⟩
        have hp2 := own_mods hpr (Mods.of_below hb4a) (fun g hg e => by have := (hpr.lt g hg).2; omega)
        exact own_mods hp2 hM6 (fun g hg e => by
          obtain ⟨cur, hcu⟩ := own_blk hp2 hg
          rw [e] at hcu
          exact absurd (hcu.uniq E4) (by decide))
      | true =>
        have HV : Hid ((if R.2 = 1 then tellV R.1 R.1.told (findM p c slot).ret else 0) = tellV R.1 R.1.told (findM p c slot).ret) := if_pos (by simpa using hk)
        have t0 : (w4.alloc (.cells #[.int .i64 R.2, .int .i64 0, .slice pra R.1.out.length prc, .int .i64 (R.1.steps : Int)] 69)).cell? ⟨mb, 5, none⟩ = some (.int .i64 R.1.told.kind) := (unhide HA5).mach.cell 5
        have t1 : (w4.alloc (.cells #[.int .i64 R.2, .int .i64 0, .slice pra R.1.out.length prc, .int .i64 (R.1.steps : Int)] 69)).cell? ⟨mb, 6, none⟩ = some (.int .i64 R.1.told.num) := (unhide HA5).mach.cell 6
        have t2 : (w4.alloc (.cells #[.int .i64 R.2, .int .i64 0, .slice pra R.1.out.length prc, .int .i64 (R.1.steps : Int)] 69)).cell? ⟨mb, 7, none⟩ = some (objP A4 R.1.told.obj) := (unhide HA5).mach.cell 7
        have tp : (w4.alloc (.cells #[.int .i64 R.2, .int .i64 0, .slice pra R.1.out.length prc, .int .i64 (R.1.steps : Int)] 69)).cell? ⟨mb, 0, none⟩ = some (.slice pa p.length pcap) := (unhide HA5).mach.cell 0
        go_wp2_with fail
        have l4 : w4.heap.size < (w4.alloc (.cells #[.int .i64 R.2, .int .i64 0, .slice pra R.1.out.length prc, .int .i64 (R.1.steps : Int)] 69)).heap.size := by simp
        generalize w4.alloc _ = U4 at *
        refine wp_region_noPanic ?_
        refine wp_region_held_drew (S := (fun w' => w'.cell? ⟨mb, 5, none⟩ = some (.int .i64 R.1.told.kind) ∧ w'.cell? ⟨mb, 6, none⟩ = some (.int .i64 R.1.told.num) ∧ w'.cell? ⟨mb, 7, none⟩ = some (objP A4 R.1.told.obj))) (by kernel_rfl) ?_ (fun hHeld => ?_)
        · exact ⟨t0, t1, t2⟩
        refine take_x (some 49) 0 rfl rfl ?_
        try simp only [Act.put, List.setIfInBounds_toArray, List.set_cons_zero, List.set_cons_succ]
        refine take_x (some 50) 1 rfl rfl ?_
        try simp only [Act.put, List.setIfInBounds_toArray, List.set_cons_zero, List.set_cons_succ]
        refine take_x (some 51) 2 rfl rfl ?_
        try simp only [Act.put, List.setIfInBounds_toArray, List.set_cons_zero, List.set_cons_succ]
        refine take_x (some 52) 3 rfl rfl ?_
        try simp only [Act.put, List.setIfInBounds_toArray, List.set_cons_zero, List.set_cons_succ]
        refine wpAnyH_ready (rs := [4]) (by kernel_rfl) (by simp) ?_
        refine AllReadyH.cons rfl (fun K hK => ?_) AllReadyH.nil
        go_simp
        refine (ma_find p _ c slot W1 U4.drew mb (unhide HRP1) (unhide HA5).bel.drew tp G.sup G.sz c0 c1 hm).mono ?_
        rintro e w5 ⟨ma, mco, mf, rfl, hG5, hb5⟩
        have hb5' : Below U4.heap.size U4 w5 := ⟨hb5.os, hb5.tape, hb5.output, hb5.size, hb5.block⟩
        have k5 := Keeps.of_below hb5'
        have HS5 := hide (And.intro (k5 _ _ t0) (And.intro (k5 _ _ t1) (k5 _ _ t2)))
        have HA6 := hide ((unhide HA5).below hb5' (Nat.le_refl _))
        have T5 := T4.below hb5' T4.lt
        have E5 := E4.below hb5' E4.lt
        have hot := (unhide HA4).okt
        unfold methV
        clear hG5
        go_wp2_with fail
        refine hK.out _ _ (unhide HS5) (fun hHeld => ?_)
        clear hK K
        try simp only [Act.put, List.setIfInBounds_toArray, List.set_cons_zero, List.set_cons_succ]
        refine take_x (some 54) 5 rfl rfl ?_
        try simp only [Act.put, List.setIfInBounds_toArray, List.set_cons_zero, List.set_cons_succ]
        refine wpAnyH_ready (rs := [6]) (by kernel_rfl) (by simp) ?_
        refine AllReadyH.cons rfl (fun K hK => ?_) AllReadyH.nil
        go_simp
        have hTL := ma_tell W1 w5 _ mb _ fuel true R.1 A4 X4 Y4 _ _ (unhide HA6) R.1.told (findM p c slot).ret hot
        unfold encV at hTL
        refine hTL.mono ?_
        rintro e w6 ⟨rfl, hb6⟩
        have hb6' := hb5'.trans (hb6.mono hb5'.size)
        have k6 := Keeps.of_below hb6'
        have HS6 := hide (And.intro (k6 _ _ t0) (And.intro (k6 _ _ t1) (k6 _ _ t2)))
        have T6 := T5.below hb6 T5.lt
        have E6 := E5.below hb6 E5.lt
        rw [← unhide HV]
        generalize hvv : (if R.2 = 1 then tellV R.1 R.1.told (findM p c slot).ret else 0) = vv at *
        have HVV := hide hvv
        clear hvv hTL
        go_wp2_with fail
        refine hK.out _ _ (unhide HS6) (fun hHeld => ?_)
        clear hK K
        try simp only [Act.put, List.setIfInBounds_toArray, List.set_cons_zero, List.set_cons_succ]
        refine take_x (some 56) 7 rfl rfl ?_
        try simp only [Act.put, List.setIfInBounds_toArray, List.set_cons_zero, List.set_cons_succ]
        have c61 : w6.cell? ⟨w4.heap.size, 1, none⟩ = some (.int .i64 0) := T6.cell 1
        have f61 := T6.frozen 1
        have T7 := T6.setCell 1 (.int .i64 vv)
        have E7 := E6.setCell_ne (p := ⟨w4.heap.size, 1, none⟩) (by dsimp only; omega) (.int .i64 vv)
        have hM7 : Mods (fun k => k = w4.heap.size) w6 (w6.setCell ⟨w4.heap.size, 1, none⟩ (.int .i64 vv)) := (Mods.refl (fun k => k = w4.heap.size) w6).setCell (p := ⟨w4.heap.size, 1, none⟩) (fun _ => rfl) _
        have hmb4 : mb < w4.heap.size := (unhide HA4).lt
        refine wpAnyH_ready (rs := [8]) (by kernel_rfl) (by simp) ?_
        refine AllReadyH.cons rfl (fun K hK => ?_) AllReadyH.nil
        go_simp
        refine hK.out _ _ ⟨hM7.cell (unhide HS6).1 (by dsimp only; omega), hM7.cell (unhide HS6).2.1 (by dsimp only; omega), hM7.cell (unhide HS6).2.2 (by dsimp only; omega)⟩ (fun hHeld => ?_)
        clear hK K
        try simp only [Act.put, List.setIfInBounds_toArray, List.set_cons_zero, List.set_cons_succ]
        refine wpAnyH_done (by kernel_rfl) ?_ _
        refine NoPanic.normal ?_
        change Blk _ w4.heap.size 69 [.int .i64 R.2, .int .i64 vv, .slice pra R.1.out.length prc, .int .i64 (R.1.steps : Int)] at T7
        generalize w6.setCell _ _ = U7 at *
        go_wp2_with (first
          | refine wpList_load_blk aggOut T7 0 [.int .i64 R.2, .int .i64 vv, .slice pra R.1.out.length prc, .int .i64 (R.1.steps : Int)] rfl (fun j u e => by simpa using e) (.tmp 18) rfl rfl rfl ?_
          | (refine wpList_store_blk aggOut E7 0 [.int .i64 R.2, .int .i64 vv, .slice pra R.1.out.length prc, .int .i64 (R.1.steps : Int)] rfl (by simp) (fun v hv => by simp only [List.mem_cons, List.not_mem_nil, or_false] at hv; rcases hv with rfl | rfl | rfl | rfl <;> rfl) (.tmp 12) (.tmp 57) rfl rfl rfl rfl ?_; intro w8 hB8 hM8 hs8; rw [putAt_all (by rfl)] at hB8))
        refine bodyPost_ret (results_blk rfl aggOut hB8 rfl rfl) rfl ?_
        obtain ⟨hpr, hbf⟩ := unhide HPR
        have hb46 : Below w4.heap.size w4 w6 := hb4a.trans (hb6'.mono hb4a.size)
        have hp2 := own_mods hpr (Mods.of_below hb46) (fun g hg e => by have := (hpr.lt g hg).2; omega)
        have hp3 := own_mods hp2 hM7 (fun g hg e => by have := (hpr.lt g hg).2; omega)
        have hbf2 := hbf.trans (hb46.mono hbf.size)
        have hbf3 := hbf2.trans (hM7.below hbf2.size (fun k hk e => by have := hbf.size; omega))
        refine ⟨_, by rw [unhide HVV], ?_, hbf3.trans (hM8.below hbf3.size (fun k hk e => by omega))⟩
        exact own_mods hp3 hM8 (fun g hg e => by
          obtain ⟨cur, hcu⟩ := own_blk hp3 hg
          rw [e] at hcu
          exact absurd (hcu.uniq E7) (by decide))
end Go.Proofs.YtiiokkllmchohaaGreat
/- A run whose steps are known to be in order, told by a test. -/
namespace Go.Proofs.YtiiokkllmchohaaGreat
open Go.RowKit Go.Shelf

instance (n : Nat) (t : Int) : Decidable (tyOk n t) := inferInstanceAs (Decidable (0 ≤ t ∧ t < (n : Int) + 3))
def frOkB (p : List LClass) (f : MFr) : Bool :=
  f.m.code.all (insB p f.m) && decide (f.m.code.length ≤ 40) && decide (f.pc ≤ f.m.code.length) && f.m.code.all (fun i => (wantsM p f.m.ret i.op i.a i.b).all (fun t => decide (tyOk p.length t)) && decide ((wantsM p f.m.ret i.op i.a i.b).length ≤ 4194304)) && f.stk.all (fun v => decide (tyOk p.length v.kind)) && decide (f.stk.length ≤ 4194303) && decide (f.loc.length ≤ 4194304) && decide (f.m.locals = (f.loc.length : Int))
theorem frOkB_sound {p : List LClass} {f : MFr} (h : frOkB p f = true) : FrOkM p f := by
  unfold frOkB at h
  simp only [Bool.and_eq_true, decide_eq_true_eq, List.all_eq_true] at h
  obtain ⟨⟨⟨⟨⟨⟨⟨h1, h2⟩, h3⟩, h4⟩, h5⟩, h6⟩, h7⟩, h8⟩ := h
  exact ⟨h1, h2, h3, fun i hi => (h4 i hi).1, fun i hi => (h4 i hi).2, h5, h6, h7, h8⟩
def objB (o : Option Nat) (q : Nat → Bool) : Bool := match o with
  | none => true
  | some k => q k
theorem objB_sound {o : Option Nat} {q : Nat → Bool} (h : objB o q = true) {k : Nat} (hk : o = some k) : q k = true := by
  subst hk
  exact h
def in1 (op : Int) : Bool := op == 2 || op == 14 || op == 15 || op == 8 || op == 18 || op == 10 || op == 17 || op == 19 || op == 13
def in2 (op : Int) : Bool := op == 3 || op == 4 || op == 5 || op == 6 || op == 20 || op == 11
def doOkB (p : List LClass) (st : MaSt) (f : MFr) (op b : Int) : Bool :=
  (!in1 op || decide (1 ≤ f.stk.length)) && (!in2 op || decide (2 ≤ f.stk.length)) && decide (f.m.locals = (f.loc.length : Int)) && decide (f.stk.length < 4194303) && decide (f.loc.length ≤ 4194304) &&
    (!(op == 10) || objB (topV f.stk).obj (fun k => decide (b.toNat < (objAt st k).flds.length))) && (!(op == 11) || objB (topV f.stk.dropLast).obj (fun k => decide (b.toNat < (objAt st k).flds.length))) &&
    (!(op == 17) || objB (topV f.stk).obj (fun k => decide (0 ≤ (objAt st k).cls) && decide ((objAt st k).cls < (p.length : Int)))) && st.objs.all (fun o => decide (o.flds.length ≤ 4194304)) && decide (st.objs.length ≤ 100) && decide (st.out.length ≤ 4194304)
theorem doOkB_sound {p : List LClass} {st : MaSt} {f : MFr} {op b : Int} (h : doOkB p st f op b = true) : DoOk p st f op b := by
  unfold doOkB at h
  simp only [Bool.and_eq_true, Bool.or_eq_true, Bool.not_eq_true', decide_eq_true_eq, List.all_eq_true] at h
  obtain ⟨⟨⟨⟨⟨⟨⟨⟨⟨⟨h1, h2⟩, h3⟩, h4⟩, h5⟩, h6⟩, h7⟩, h8⟩, h9⟩, h10⟩, h11⟩ := h
  refine ⟨⟨fun ho => ?_, fun ho => ?_⟩, h3, h4, h5, fun ho k hk => ?_, fun ho k hk => ?_, fun ho k hk => ?_, fun k => ?_, h10, h11⟩
  · rcases h1 with h1 | h1
    · exfalso
      have : in1 op = true := by
        unfold in1
        rcases ho with rfl | rfl | rfl | rfl | rfl | rfl | rfl | rfl | rfl <;> rfl
      rw [this] at h1; cases h1
    · exact h1
  · rcases h2 with h2 | h2
    · exfalso
      have : in2 op = true := by
        unfold in2
        rcases ho with rfl | rfl | rfl | rfl | rfl | rfl <;> rfl
      rw [this] at h2; cases h2
    · exact h2
  · subst ho
    rcases h6 with h6 | h6
    · cases h6
    · simpa using objB_sound h6 hk
  · subst ho
    rcases h7 with h7 | h7
    · cases h7
    · simpa using objB_sound h7 hk
  · subst ho
    rcases h8 with h8 | h8
    · cases h8
    · simpa using objB_sound h8 hk
  · unfold objAt
    cases e : st.objs[k]? with
    | none => simp
    | some o => exact h9 o (List.mem_of_getElem? e)
def callOkB (p : List LClass) (st : MaSt) (f : MFr) (a b : Int) : Bool :=
  decide ((findM p a b).args.length + 1 ≤ f.stk.length) && objB (topV (f.stk.take (f.stk.length - (findM p a b).args.length))).obj (fun k => decide (0 ≤ (objAt st k).cls) && decide ((objAt st k).cls < (p.length : Int)) && (methOf p (objAt st k).cls b).isSome && decide (1 + ((findM p a b).args.length : Int) ≤ (findM p (objAt st k).cls b).locals) && decide ((findM p (objAt st k).cls b).locals ≤ 8))
theorem callOkB_sound {p : List LClass} {st : MaSt} {f : MFr} {a b : Int} (h : callOkB p st f a b = true) : CallOk p st f a b := by
  unfold callOkB at h
  simp only [Bool.and_eq_true, decide_eq_true_eq] at h
  refine ⟨h.1, fun k hk => ?_⟩
  have := objB_sound h.2 hk
  simp only [Bool.and_eq_true, decide_eq_true_eq] at this
  obtain ⟨⟨⟨⟨h1, h2⟩, h3⟩, h4⟩, h5⟩ := this
  exact ⟨h1, h2, h3, h4, h5⟩
def stepOkB (p : List LClass) (fuel : Int) (st : MaSt) : Bool :=
  decide (st.frames.length ≤ 30) && st.frames.all (fun g => decide (g.stk.length ≤ 4194304)) && decide ((st.steps : Int) ≤ fuel) && match st.frames.getLast? with
    | none => true
    | some f => frOkB p f && (lookP p fuel st.steps f != 0 || (doOkB p st f (insAt f.m f.pc).op (insAt f.m f.pc).b && ((insAt f.m f.pc).op != 12 || callOkB p st f (insAt f.m f.pc).a (insAt f.m f.pc).b)))
theorem stepOkB_sound {p : List LClass} {fuel : Int} {st : MaSt} (h : stepOkB p fuel st = true) : StepOk p fuel st := by
  unfold stepOkB at h
  simp only [Bool.and_eq_true, decide_eq_true_eq, List.all_eq_true] at h
  obtain ⟨⟨⟨h1, h2⟩, h3⟩, h4⟩ := h
  have key : ∀ f, st.frames.getLast? = some f → frOkB p f = true ∧ (lookP p fuel st.steps f = 0 → doOkB p st f (insAt f.m f.pc).op (insAt f.m f.pc).b = true ∧ ((insAt f.m f.pc).op = 12 → callOkB p st f (insAt f.m f.pc).a (insAt f.m f.pc).b = true)) := fun f hf => by
    rw [hf] at h4
    simp only [Bool.and_eq_true, Bool.or_eq_true, bne_iff_ne, ne_eq] at h4
    refine ⟨h4.1, fun hl => ?_⟩
    rcases h4.2 with h | h
    · exact absurd hl h
    · refine ⟨h.1, fun ho => ?_⟩
      rcases h.2 with h | h
      · exact absurd ho h
      · exact h
  exact ⟨fun f hf => frOkB_sound (key f hf).1, fun f hf hl => doOkB_sound ((key f hf).2 hl).1, fun f hf hl ho => callOkB_sound (((key f hf).2 hl).2 ho), h1, h2, h3⟩
def runOkB (p : List LClass) (fuel : Int) : Nat → MaSt → Bool
  | 0, _ => true
  | n + 1, st => stepOkB p fuel st && match stepM p fuel st with
    | .inl st' => runOkB p fuel n st'
    | .inr _ => true
theorem runOkB_sound {p : List LClass} {fuel : Int} : ∀ (n : Nat) (st : MaSt), runOkB p fuel n st = true → RunOk p fuel n st
  | 0, _, _ => trivial
  | n + 1, st, h => by
    unfold runOkB at h
    simp only [Bool.and_eq_true] at h
    refine ⟨stepOkB_sound h.1, fun st' hs => ?_⟩
    have h2 := h.2
    rw [hs] at h2
    exact runOkB_sound n st' h2
end Go.Proofs.YtiiokkllmchohaaGreat
/- What Form says of a program, as the pass wants it (pure). -/
namespace Go.Proofs.YtiiokkllmchohaaGreat
open Go.RowKit

theorem form_all {p : List LClass} (h : formI p = 0) : (1 ≤ p.length ∧ p.length ≤ 6) ∧ (∀ (c : Nat) (x : LClass), p[c]? = some x → supB c x = true ∧ restB p c x = true) ∧ ∀ x ∈ p, ∀ m ∈ x.meths, codeB p m = true := by
  unfold formI at h
  split at h
  · cases h
  · rename_i h1
    split at h
    · rename_i h2
      split at h
      · rename_i h3
        refine ⟨by omega, fun c x hx => ?_, fun x hx m hm => ?_⟩
        · have := List.all_eq_true.1 h2 c (List.mem_range.2 (List.getElem?_eq_some_iff.1 hx).1)
          unfold classB at this
          rw [hx] at this
          simpa using this
        · exact List.all_eq_true.1 (List.all_eq_true.1 h3 x hx) m hm
      · cases h
    · cases h
theorem decl_ok {n : Nat} {t : Int} (h : declB n t = true) : tyOk n t := by
  unfold declB at h
  simp at h
  rcases h with rfl | h
  · exact ⟨by omega, by omega⟩
  · exact ⟨by omega, by omega⟩
theorem framed_ok {n : Nat} {t : Int} (h : framedB n t = true) : tyOk n t := by
  unfold framedB at h
  simp only [Bool.or_eq_true, beq_iff_eq] at h
  rcases h with (h | rfl) | rfl
  · exact decl_ok h
  · exact ⟨by omega, by omega⟩
  · exact ⟨by omega, by omega⟩
theorem form_sup {p : List LClass} (h : formI p = 0) : SupOk p p.length := fun c x _ hx => ((form_all h).2.1 c x hx).1
theorem form_bare {p : List LClass} (h : formI p = 0) {c k : Nat} {x : LClass} {m : LMeth} (hx : p[c]? = some x) (hm : x.meths[k]? = some m) : bareB p.length m = true := by
  have h1 := ((form_all h).2.1 c x hx).2
  unfold restB at h1
  simp only [Bool.and_eq_true] at h1
  have h2 := List.all_eq_true.1 h1.2 k (List.mem_range.2 (List.getElem?_eq_some_iff.1 hm).1)
  rw [hm] at h2
  unfold headB at h2
  simp only [Bool.and_eq_true] at h2
  exact h2.1.1
theorem form_good {p : List LClass} (h : formI p = 0) (hz : szProg p ≤ 4194304) : Good p := by
  refine ⟨form_sup h, hz, fun a j h0 h1 hj => ?_, fun a b h0 h1 hm => ?_⟩
  · have hmem : fieldT p a j ∈ fieldsOf p a := by
      unfold fieldT
      rw [Int.toNat_natCast, List.getD_eq_getElem?_getD, List.getElem?_eq_getElem hj]
      exact List.getElem_mem hj
    unfold fieldsOf at hmem
    obtain ⟨l, hl, ht⟩ := List.mem_flatten.1 hmem
    obtain ⟨c, _, rfl⟩ := List.mem_map.1 hl
    unfold ownFields at ht
    cases hx : p[c]? with
    | none => rw [hx] at ht; simp at ht
    | some x =>
      rw [hx] at ht
      have h2 := ((form_all h).2.1 c x hx).2
      unfold restB at h2
      simp only [Bool.and_eq_true] at h2
      exact decl_ok (List.all_eq_true.1 h2.1.1.1 _ (by simpa using ht))
  · obtain ⟨n, rfl⟩ := Int.eq_ofNat_of_zero_le h0
    obtain ⟨ck, hck⟩ := Option.isSome_iff_exists.1 hm
    obtain ⟨i, j⟩ := ck
    obtain ⟨y, o, hy⟩ := methOf_some p (form_sup h) b n (by omega) hck
    obtain ⟨h2, h3, _, _⟩ := hy
    have hf : findM p (n : Int) b = o := findM_of hck (by unfold methAt; rw [h2]; exact h3)
    rw [hf]
    have hb := bareB_iff.1 (form_bare h h2 h3)
    exact ⟨fun t ht => decl_ok (List.all_eq_true.1 hb.2.2.2.1 t ht), decl_ok hb.2.2.2.2.1⟩
structure MethOk (p : List LClass) (c : Int) (m : LMeth) : Prop where
  ok : MOk p m
  ins : ∀ i ∈ m.code, insB p m i = true
  c40 : m.code.length ≤ 40
  c1 : 1 ≤ m.code.length
  fr : FrOk p m
  f40 : m.frames.length ≤ 40
  a7 : m.args.length ≤ 7
  bg : TyS p.length m.stack (beginS c m)
theorem frames_all {n : Nat} {m : LMeth} : ∀ (l : List LFrame) (k : Int), framesB n m k l = true → ∀ f ∈ l, frameB n m f = true
  | [], _, _, f, hf => by cases hf
  | g :: r, k, h, f, hf => by
    unfold framesB at h
    simp only [Bool.and_eq_true] at h
    rcases List.mem_cons.1 hf with rfl | hf
    · exact h.1.2
    · exact frames_all r _ h.2 f hf
theorem form_own {p : List LClass} (h : formI p = 0) {c k : Int} {m : LMeth} (hm : ownM p c k = some m) : 0 ≤ c ∧ c < (p.length : Int) ∧ MethOk p c m := by
  unfold ownM at hm
  split at hm
  · rename_i hck
    cases hx : p[c.toNat]? with
    | none => rw [hx] at hm; cases hm
    | some x =>
      rw [hx, Option.bind_some] at hm
      have hlt := (List.getElem?_eq_some_iff.1 hx).1
      have hb := bareB_iff.1 (form_bare h hx hm)
      have hc := (form_all h).2.2 x (List.mem_of_getElem? hx) m (List.mem_of_getElem? hm)
      unfold codeB at hc
      simp only [Bool.and_eq_true, decide_eq_true_eq] at hc
      obtain ⟨⟨⟨⟨c1, c40⟩, f40⟩, hins⟩, hfr⟩ := hc
      obtain ⟨_, _, a3, ha, hr, hl, hl8, hs0, hs8⟩ := hb
      refine ⟨hck.1, by omega, ⟨hs8, hl8, decl_ok hr⟩, fun i hi => List.all_eq_true.1 hins i hi, c40, c1, fun f hf => ?_, f40, by omega, ?_⟩
      · have hfb := frames_all _ _ hfr f hf
        unfold frameB at hfb
        simp only [Bool.and_eq_true, decide_eq_true_eq] at hfb
        obtain ⟨⟨⟨⟨_, e1⟩, e2⟩, e3⟩, e4⟩ := hfb
        refine ⟨by omega, by omega, fun t ht => ?_, fun t ht => framed_ok (List.all_eq_true.1 e4 t ht), e2⟩
        rcases List.mem_append.1 ht with h1 | h1
        · exact framed_ok (List.all_eq_true.1 e3 t h1)
        · obtain ⟨_, rfl⟩ := List.mem_replicate.1 h1
          exact ⟨by omega, by omega⟩
      · refine ⟨fun t ht => ?_, fun t ht => (by cases ht), by simpa [beginS] using hs0⟩
        rcases List.mem_cons.1 ht with rfl | h1
        · exact ⟨by omega, by omega⟩
        · rcases List.mem_append.1 h1 with h1 | h1
          · exact decl_ok (List.all_eq_true.1 ha t h1)
          · obtain ⟨_, rfl⟩ := List.mem_replicate.1 h1
            exact ⟨by omega, by omega⟩
  · cases hm
end Go.Proofs.YtiiokkllmchohaaGreat
/- The solver: Solve. -/
namespace Go.Proofs.YtiiokkllmchohaaGreat
open Go.RowKit Go.Shelf
attribute [local go_sem ↓] Go.wp_at_zero Go.wp_at_succ
attribute [local go_sem] frz_drew

theorem aggSv : AggOk Tryz.prog 134 768 := ⟨by kernel_rfl, by kernel_rfl⟩
def css0 : List (List Value) := List.replicate 40 zero17
theorem sv0_cells : SvC sv0 css0 := by
  refine ⟨by simp [sv0], by simp [sv0], by simp [sv0], by simp [css0], fun i x c e1 e2 => ?_⟩
  obtain rfl := List.eq_of_mem_replicate (List.mem_of_getElem? e1)
  obtain rfl := List.eq_of_mem_replicate (List.mem_of_getElem? e2)
  rw [← zeroS_cells]
  exact StC_cells zeroS_ok
theorem sv_built (vp a b c d e f g : Value) : Tryz.prog.built 134 [(0, .agg #[vp]), (1, .agg #[a, b, c, d, e, f, g])] = some (svCells vp [a, b, c, d, e, f, g] css0 sv0).toArray := by kernel_rfl
theorem wpList_build2 {P : Program} {ty : TypeId} {w : World} {ops : Array Oper} {rest : List Oper} {o : Oper} {a : Act} {Q : Exit → Act → World → Prop} (x y : Operand) {u v : Value} {L : List Value} (hb : P.built ty [(0, u), (1, v)] = some L.toArray)
    (hgd : o.guard = none) (ho : o.op = .build ty #[(0, x), (1, y)]) (hx : a.eval x = u) (hy : a.eval y = v) (h : wpList P ops Q rest (a.put o.dst (.agg L.toArray)) w) : wpList P ops Q (o :: rest) a w := by
  refine wpList_plain hgd fun K hK => ?_
  unfold Oper.wp execOp
  simp only [ho, List.map_toArray, List.map_cons, List.map_nil, hx, hy, Sem.run_bind, run_build w ty #[(0, u), (1, v)] L.toArray hb, Result.andThen_ok, Sem.run_pure]
  exact hK _ _ h
theorem svCells_one {vp : Value} {mc : List Value} {css : List (List Value)} {s : SvSt} (h : SvC s css) (h1 : vp.oneCell' = true) (h2 : ∀ v ∈ mc, v.oneCell' = true) : ∀ v ∈ svCells vp mc css s, v.oneCell' = true := by
  intro v hv
  unfold svCells at hv
  rcases List.mem_append.1 hv with hv | hv
  · rcases List.mem_cons.1 hv with rfl | hv
    · exact h1
    · exact h2 v hv
  · rcases List.mem_append.1 hv with hv | hv
    · obtain ⟨c, hc, hv⟩ := List.mem_flatten.1 hv
      obtain ⟨i, hi, rfl⟩ := List.getElem_of_mem hc
      have hx := List.getElem?_eq_getElem (show i < s.st.length by rw [h.l1, ← h.lc]; exact hi)
      exact (h.cs i _ _ hx (List.getElem?_eq_getElem hi)).one v hv
    · rcases List.mem_append.1 hv with hv | hv
      · obtain ⟨b, _, rfl⟩ := List.mem_map.1 hv; rfl
      · obtain ⟨b, _, rfl⟩ := List.mem_map.1 hv; rfl
theorem svCells_len {vp : Value} {mc : List Value} {css : List (List Value)} {s : SvSt} (h : SvC s css) (hm : mc.length = 7) : (svCells vp mc css s).length = 768 := by
  unfold svCells
  rw [List.length_append, List.length_append, List.length_append, List.length_map, List.length_map, flt_len css h.all, List.length_cons, hm, h.lc, h.l2, h.l3]
theorem marks_ret0 {P : Program} {fn : Func} {R : Ending → World → Prop} {tmps : Array Value} {w : World} {v : Value} (hv : (results fn tmps).run P w = .ok v w) (hR : R (.returned v) w) :
    marksPost P fn R .ret { tmps := tmps, defers := [] } w := ⟨v, hv, hR⟩
theorem reach0 (p : List LClass) (g : TSt) : reachP p 0 g sv0 = some (putP sv0 0 g) := rfl
def SolveR (r : Option SvSt) (m : LMeth) (w w' : World) (e : Ending) : Prop :=
  (∀ s', r = some s' → ∃ v, e = .returned v ∧ FrsAt w' w.heap.size v (frmL m s' m.code.length)) ∧ (r = none → e = .panicked (refC 5)) ∧ Below w.heap.size w w'
def SolvI (p : List LClass) (m : LMeth) (r : Option SvSt) (bs : Nat) (vp : Value) (mc : List Value) (w : World) (N : Nat) (V : World) : Prop :=
  ∃ s1, solveN p m N s1 = some r ∧ SvAt V bs vp mc s1 ∧ SvTy p m.stack s1 ∧ Below w.heap.size w V
set_option maxHeartbeats 1000000 in
set_option maxRecDepth 100000 in
theorem sv_solve (p : List LClass) (vp : Value) (c : Int) (m : LMeth) (va vco vf : Value) (w : World) (hp : RProg w vp p) (hv : GVals w.cell? m va vco vf) (G : Good p) (hc0 : 0 ≤ c) (hc1 : c < (p.length : Int)) (O : MethOk p c m) (hl0 : 0 ≤ m.locals) (N : Nat) (r : Option SvSt) (hN : solveN p m N (putP sv0 0 (beginS c m)) = some r) :
    Calls Tryz.prog 41 #[.agg #[vp], .int .i64 c, methV m va vco vf] w fun e w' => SolveR r m w w' e := by
  have HP := hide hp
  have HV := hide hv
  have HN := hide hN
  have hz : p.length ≤ 4194304 := Nat.le_trans (szProg_len p) G.sz
  unfold methV
  obtain ⟨pa, _, _, pcap, rfl, _⟩ := hp
  obtain ⟨hva, hvc, hvf⟩ := hv
  obtain ⟨aa, _, _, acap, rfl, _⟩ := hva
  obtain ⟨fa, _, _, fcap, rfl, _⟩ := hvf
  obtain ⟨ca, _, _, ccap, rfl, _⟩ := hvc
  clear hN
  obtain ⟨SL, hSL⟩ : ∃ SL, SL = svCells (.slice pa p.length pcap) [.int .i64 m.slot, .slice aa m.args.length acap, .int .i64 m.ret, .int .i64 m.locals, .int .i64 m.stack, .slice ca m.code.length ccap, .slice fa m.frames.length fcap] css0 sv0 := ⟨_, rfl⟩
  have HB := hide (sv_built (.slice pa p.length pcap) (.int .i64 m.slot) (.slice aa m.args.length acap) (.int .i64 m.ret) (.int .i64 m.locals) (.int .i64 m.stack) (.slice ca m.code.length ccap) (.slice fa m.frames.length fcap))
  rw [← hSL] at HB
  have hone : ∀ v ∈ SL, v.oneCell' = true := by
    rw [hSL]
    refine svCells_one sv0_cells rfl (fun v hv => ?_)
    simp only [List.mem_cons, List.not_mem_nil, or_false] at hv
    rcases hv with rfl | rfl | rfl | rfl | rfl | rfl | rfl <;> rfl
  have hlen : SL.length = 768 := by rw [hSL]; exact svCells_len sv0_cells rfl
  have hzl : Tryz.zeroCells134.toList.length = 768 := by rw [Array.length_toList, Tryz.zeroCells134_size]
  have HSL := hide hSL
  clear hSL
  refine calls_of_wpF Tryz.func41 rfl ?_
  simp only [Tryz.ntmps41, List.size_toArray, List.length_cons, List.length_nil, Nat.reduceAdd, Nat.reduceSub, Array.replicate_succ, Array.replicate_zero, List.push_toArray, List.append_toArray, List.nil_append, List.cons_append]
  refine wpF_seq_wp ?_
  go_wp2_with fail
  have hb2 : Below w.heap.size w ((w.alloc (.cells #[.slice pa p.length pcap] 24)).alloc (.cells #[.int .i64 m.slot, .slice aa m.args.length acap, .int .i64 m.ret, .int .i64 m.locals, .int .i64 m.stack, .slice ca m.code.length ccap, .slice fa m.frames.length fcap] 63)) := box2_below _ _ _
  have B0 := (Blk.new w #[.slice pa p.length pcap] 24).alloc (.cells #[.int .i64 m.slot, .slice aa m.args.length acap, .int .i64 m.ret, .int .i64 m.locals, .int .i64 m.stack, .slice ca m.code.length ccap, .slice fa m.frames.length fcap] 63)
  have B1 := Blk.new (w.alloc (.cells #[.slice pa p.length pcap] 24)) #[.int .i64 m.slot, .slice aa m.args.length acap, .int .i64 m.ret, .int .i64 m.locals, .int .i64 m.stack, .slice ca m.code.length ccap, .slice fa m.frames.length fcap] 63
  have hsz : ((w.alloc (.cells #[.slice pa p.length pcap] 24)).alloc (.cells #[.int .i64 m.slot, .slice aa m.args.length acap, .int .i64 m.ret, .int .i64 m.locals, .int .i64 m.stack, .slice ca m.code.length ccap, .slice fa m.frames.length fcap] 63)).heap.size = w.heap.size + 1 + 1 := by simp
  rw [World.size_alloc] at B1
  generalize (w.alloc _).alloc _ = W at *
  have HSZ := hide hsz
  clear hsz
  have p0 : W.cell? ⟨w.heap.size, 0, none⟩ = some (.slice pa p.length pcap) := B0.cell 0
  have m0 : W.cell? ⟨w.heap.size + 1, 0, none⟩ = some (.int .i64 m.slot) := B1.cell 0
  have m1 : W.cell? ⟨w.heap.size + 1, 1, none⟩ = some (.slice aa m.args.length acap) := B1.cell 1
  have m2 : W.cell? ⟨w.heap.size + 1, 2, none⟩ = some (.int .i64 m.ret) := B1.cell 2
  have m3 : W.cell? ⟨w.heap.size + 1, 3, none⟩ = some (.int .i64 m.locals) := B1.cell 3
  have m4 : W.cell? ⟨w.heap.size + 1, 4, none⟩ = some (.int .i64 m.stack) := B1.cell 4
  have m5 : W.cell? ⟨w.heap.size + 1, 5, none⟩ = some (.slice ca m.code.length ccap) := B1.cell 5
  have m6 : W.cell? ⟨w.heap.size + 1, 6, none⟩ = some (.slice fa m.frames.length fcap) := B1.cell 6
  refine wpF_seq_wp ?_
  go_wp2_with (first
    | refine wpList_build2 (.tmp 8) (.tmp 9) (unhide HB) rfl rfl rfl rfl ?_
    | (refine wpList_store_blk aggSv (Blk.new W Tryz.zeroCells134 134) 0 SL hlen (by rw [hzl]; omega) hone (.tmp 7) (.tmp 10) rfl rfl rfl rfl ?_; intro w3 hB3 hM3 hs3))
  rw [putAt_all (by rw [hlen, hzl])] at hB3
  have hsz := unhide HSZ
  have hb3 : Below W.heap.size W w3 := (box_below W _).trans (hM3.below (by simp) (fun k hk e => by omega))
  have hbw3 := hb2.trans (hb3.mono hb2.size)
  obtain ⟨bs, hbs⟩ : ∃ b, b = W.heap.size := ⟨_, rfl⟩
  have hbs' : w.heap.size ≤ bs := by omega
  rw [← hbs] at hB3 ⊢
  have HA : Hid (SvAt w3 bs (.slice pa p.length pcap) (methCs m (.slice aa m.args.length acap) (.slice ca m.code.length ccap) (.slice fa m.frames.length fcap)) sv0) := ⟨css0, sv0_cells, by rw [unhide HSL] at hB3; exact hB3⟩
  have C1 := B1.below hb3 (by omega)
  have lb := hB3.lt
  clear hbs hsz HSZ
  clear hB3 hM3 hs3 HSL hlen hone HB hzl B0 B1 p0 m0 m1 m2 m3 m4 m5 m6
  have m0 : w3.cell? ⟨w.heap.size + 1, 0, none⟩ = some (.int .i64 m.slot) := C1.cell 0
  have m1 : w3.cell? ⟨w.heap.size + 1, 1, none⟩ = some (.slice aa m.args.length acap) := C1.cell 1
  have m2 : w3.cell? ⟨w.heap.size + 1, 2, none⟩ = some (.int .i64 m.ret) := C1.cell 2
  have m3 : w3.cell? ⟨w.heap.size + 1, 3, none⟩ = some (.int .i64 m.locals) := C1.cell 3
  have m4 : w3.cell? ⟨w.heap.size + 1, 4, none⟩ = some (.int .i64 m.stack) := C1.cell 4
  have m5 : w3.cell? ⟨w.heap.size + 1, 5, none⟩ = some (.slice ca m.code.length ccap) := C1.cell 5
  have m6 : w3.cell? ⟨w.heap.size + 1, 6, none⟩ = some (.slice fa m.frames.length fcap) := C1.cell 6
  refine wpF_seq_wp ?_
  go_wp2_with fail
  refine (st_begin c m _ _ _ _ hc0 (by omega) (GVals.keep (Keeps.of_below hbw3) (unhide HV)) O.a7).mono ?_
  rintro e w4 ⟨rfl, hb4⟩
  have hbw4 := hbw3.trans (hb4.mono hbw3.size)
  have HA4 : Hid (SvAt w4 bs (.slice pa p.length pcap) (methCs m (.slice aa m.args.length acap) (.slice ca m.code.length ccap) (.slice fa m.frames.length fcap)) sv0) := (unhide HA).mods (Mods.of_below hb4) (by omega)
  have hok := okS_begin (c := c) O.a7
  have HRP4 := hide (prog_keep (Keeps.of_below hbw4) (unhide HP))
  clear m0 m1 m2 m3 m4 m5 m6 HA hb4
  go_wp2_with fail
  have hms : 0 ≤ m.stack := by have := O.bg.2.2; omega
  refine (sv_reach p 0 (beginS c m) (stCells (beginS c m)) w4 bs _ _ sv0 (unhide HA4) rfl (by omega) (StC_cells hok) (unhide HRP4) G.sup hz m.stack O.bg (sv0_ty p hms)).mono ?_
  rintro e w5 ⟨h1, _, hM5⟩
  obtain ⟨rfl, hA5, hT5⟩ := h1 _ (reach0 p _)
  have hbw5 : Below w.heap.size w w5 := hbw4.trans (hM5.below hbw4.size (fun k hk e => by omega))
  have HI0 : Hid (SolvI p m r bs (.slice pa p.length pcap) (methCs m (.slice aa m.args.length acap) (.slice ca m.code.length ccap) (.slice fa m.frames.length fcap)) w N w5) := ⟨_, unhide HN, hA5, hT5, hbw5⟩
  clear h1 hM5 hA5 hT5 HA4 HRP4 hbw4 hbw3 hb3 C1
  go_wp2_with fail
  generalize Value.agg SL.toArray = g10
  generalize Value.agg (stCells (beginS c m)).toArray = g13
  generalize Value.agg #[Value.int .i64 m.slot, .slice aa m.args.length acap, .int .i64 m.ret, .int .i64 m.locals, .int .i64 m.stack, .slice ca m.code.length ccap, .slice fa m.frames.length fcap] = g2
  generalize Value.agg #[Value.slice pa p.length pcap] = g0
  refine wpF_seq ?_
  refine wpF_block ?_
  refine wpF_loop (fun N a V => ∃ u, a = { tmps := #[g0, .int .i64 c, g2, .pointer (some ⟨w.heap.size, 0, none⟩), undef, .pointer (some ⟨w.heap.size + 1, 0, none⟩), .slice none 0 0, .pointer (some ⟨bs, 0, none⟩), g0, g2, g10, .int .i64 c, g2, g13, .tuple #[], u, undef], defers := [] } ∧ SolvI p m r bs (.slice pa p.length pcap) (methCs m (.slice aa m.args.length acap) (.slice ca m.code.length ccap) (.slice fa m.frames.length fcap)) w N V) N ⟨undef, rfl, unhide HI0⟩ ?_
  clear HI0 HN hbw5
  rintro N a V ⟨u, rfl, s1, hsn, hA, hT, hb⟩
  cases N with
  | zero => cases hsn
  | succ n =>
    refine wpF_of_wp ?_
    have HSN := hide hsn
    clear hsn
    go_wp2_with fail
    refine (sv_goRound p _ m _ _ _ w V bs s1 hA (unhide HP) (unhide HV) hb hbs' O.c40 hT G O.ok O.ins).mono ?_
    rintro e V2 ⟨h1, h2, hM⟩
    have hb2 : Below w.heap.size w V2 := hb.trans (hM.below hb.size (fun k hk e => by omega))
    cases hr : roundP p m s1 m.code.length with
    | none =>
      obtain rfl := h2 hr
      have HR : Hid (r = none) := by
        have h := unhide HSN
        unfold solveN at h
        rw [hr] at h
        exact (Option.some.inj h).symm
      clear hr h1 h2
      go_wp2_with fail
      exact marks_panic0 ⟨fun s' e => (by rw [unhide HR] at e; cases e), fun _ => rfl, hb2⟩
    | some x =>
      obtain ⟨s2, b⟩ := x
      obtain ⟨rfl, hA2, hT2⟩ := h1 s2 b hr
      cases b with
      | true =>
        have HI2 : Hid (SolvI p m r bs (.slice pa p.length pcap) (methCs m (.slice aa m.args.length acap) (.slice ca m.code.length ccap) (.slice fa m.frames.length fcap)) w n V2) := by
          refine ⟨s2, ?_, hA2, hT2, hb2⟩
          have h := unhide HSN
          unfold solveN at h
          rw [hr] at h
          exact h
        clear hr h1 h2 hA2 hT2
        go_wp2_with fail
        exact ⟨n, by omega, _, rfl, unhide HI2⟩
      | false =>
        have HR : Hid (r = some s2) := by
          have h := unhide HSN
          unfold solveN at h
          rw [hr] at h
          exact (Option.some.inj h).symm
        have HA2 := hide hA2
        clear hr h1 h2 hA2 hT2
        go_wp2_with fail
        refine wpF_seq_wp ?_
        go_wp2_with fail
        refine (sv_frames _ m _ _ _ V2 bs s2 (unhide HA2) (GVals.keep (Keeps.of_below hb2) (unhide HV)) O.c40 hl0 O.ok.loc).mono ?_
        rintro e V3 ⟨v, rfl, ⟨cs, hO, hF, hD⟩, hb3⟩
        obtain ⟨ra, rcap, rfl⟩ := own_form hO
        have HF : Hid (SolveR r m w V3 (.returned (.slice ra (frmL m s2 m.code.length).length rcap))) := by
          refine ⟨fun s' e => ?_, fun e => (by rw [unhide HR] at e; cases e), hb2.trans (hb3.mono hb2.size)⟩
          rw [unhide HR] at e
          obtain rfl := Option.some.inj e
          exact ⟨_, rfl, cs, own_base hO hb2.size, FrCs.base hb2.size _ _ hF, hD⟩
        clear hO hF hD
        go_wp2_with fail
        refine wpF_of_wp ?_
        go_wp2_with fail
        exact marks_ret0 (results_tmp (t := 6) rfl _ _ _) (unhide HF)
end Go.Proofs.YtiiokkllmchohaaGreat
