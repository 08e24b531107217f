/- The machine: Run. -/
import Derived.Test.YtiiokkllmchohaaGreatT14
import Derived.Test.YtiiokkllmchohaaGreatT15
import Derived.Test.YtiiokkllmchohaaGreatT28
/- RunA -/
namespace Go.Proofs.YtiiokkllmchohaaGreat
open Go.RowKit Go.Shelf
attribute [local go_sem ↓] Go.wp_at_zero Go.wp_at_succ
attribute [local go_sem] frz_drew
attribute [local go_sem] fld_num fld_obj fld_args

theorem fld_ret (s r l k : Int) (x y z : Value) (w : World) : (Instr.field 63 (.agg #[.int .i64 s, x, .int .i64 r, .int .i64 l, .int .i64 k, y, z]) 2).run Tryz.prog w = .ok (.int .i64 r) w := by kernel_rfl
attribute [local go_sem] fld_ret
def tellV (st : MaSt) (v : LVal) (t : Int) : Int := if t = 0 then v.num else match v.obj with
 | none => -1
 | some k => (objAt st k).cls
set_option maxHeartbeats 1000000 in
theorem ma_tell (w0 w : World) (ρ : Nat → Nat × Nat) (mb : Nat) (vp : Value) (fuel : Int) (ask : Bool) (st : MaSt) (A : List Nat) (X : List FrX) (Y : List Value) (vr vpr : Value) (h : MaA w0 w ρ mb vp fuel ask st A X Y vr vpr) (v : LVal) (t : Int) (ok : okV A v) :
  Calls Tryz.prog 114 #[.agg (encV A v).toArray, .int .i64 t] w fun e w' => e = .returned (.int .i64 (tellV st v t)) ∧ Below w.heap.size w w' := by
 have hbel := box_below w (.cells #[.int .i64 v.kind, .int .i64 v.num, objP A v.obj] 170)
 have B0 := Blk.new w #[.int .i64 v.kind, .int .i64 v.num, objP A v.obj] 170
 have H := hide (h.below hbel (Nat.le_refl _))
 have hla := h.la
 have hly := h.ly
 have q1 : (w.alloc (.cells #[.int .i64 v.kind, .int .i64 v.num, objP A v.obj] 170)).cell? ⟨w.heap.size, 1, none⟩ = some (.int .i64 v.num) := B0.cell 1
 unfold encV
 cases ht : t == 0 with
 | true =>
  have hv : tellV st v t = v.num := if_pos (by simpa using ht)
  rw [hv]
  clear hv h
  go_enter Tryz.func114, Tryz.ntmps114
  go_wp2_with fail
  go_ret
  exact ⟨rfl, hbel⟩
 | false =>
  have ht0 : ¬ t = 0 := by simpa using ht
  cases ho : v.obj with
  | none =>
   have hv : tellV st v t = -1 := by unfold tellV; rw [if_neg ht0, ho]
   rw [hv]
   unfold objP
   clear hv h B0 q1 H hbel
   go_enter Tryz.func114, Tryz.ntmps114
   go_wp2_with fail
   go_ret
   exact ⟨rfl, box_below _ _⟩
  | some k =>
   have hk : k < A.length := ok k ho
   obtain ⟨ob, hob⟩ : ∃ ob, A[k]? = some ob := ⟨_, List.getElem?_eq_getElem hk⟩
   obtain ⟨o, hoo⟩ : ∃ o, st.objs[k]? = some o := ⟨_, List.getElem?_eq_getElem (by omega)⟩
   obtain ⟨y, hy⟩ : ∃ y, Y[k]? = some y := ⟨_, List.getElem?_eq_getElem (by omega)⟩
   have hv : tellV st v t = o.cls := by unfold tellV; rw [if_neg ht0, ho]; show (objAt st k).cls = _; unfold objAt; rw [hoo]; rfl
   rw [hv]
   have hpo : objP A (some k) = .pointer (some ⟨ob, 0, none⟩) := by
    show Value.pointer (some ⟨A.getD k 0, 0, none⟩) = _
    rw [List.getD_eq_getElem?_getD, hob]; rfl
   have o0 : w.cell? ⟨ob, 0, none⟩ = some (.int .i64 o.cls) := (h.ob k o ob y hoo hob hy).blk.cell 0
   rw [hpo]
   have o1 := Keeps.of_below (box_below w (.cells #[.int .i64 v.kind, .int .i64 v.num, .pointer (some ⟨ob, 0, none⟩)] 170)) _ _ o0
   clear hv h B0 q1 H hbel
   go_enter Tryz.func114, Tryz.ntmps114
   go_wp2_with fail
   go_ret
   exact ⟨rfl, box_below _ _⟩
theorem aggOut : AggOk Tryz.prog 69 4 := ⟨by kernel_rfl, by kernel_rfl⟩
def st00 : MaSt := ⟨[], [], ⟨0, 0, none⟩, [], 0⟩
theorem MaA.start {w W : World} {vp : Value} {fuel : Int} {ask : Bool} {mb : Nat} (hb : Below w.heap.size w W) (hmb : w.heap.size ≤ mb) (hB : Blk W mb 172 [vp, .int .i64 fuel, .bool ask, .slice none 0 0, .int .i64 0, .int .i64 0, .int .i64 0, .pointer none, .slice none 0 0, .int .i64 0]) :
  ∃ ρ, MaA w W ρ mb vp fuel ask st00 [] [] [] (.slice none 0 0) (.slice none 0 0) := by
 refine ⟨fun k => if k < w.heap.size then (9, 0) else (5, 0), hB, hmb, ?_, World.ownsRow_nil _ _ _ _, fun g hg => (by cases hg), World.ownsRow_nil _ _ _ _, fun g hg => (by cases hg), rfl, fun i f x hf => (by cases hf), rfl, rfl, fun k o b v h => (by cases h), fun k hk => (by cases hk), hb, fun k hk => ?_⟩
 ·show (if _ then _ else _) = _
  rw [if_neg (by omega)]
 ·show (if _ then _ else _) = _
  rw [if_pos hk]
def startM (p : List LClass) (c slot : Int) (args : List Int) : MaSt := begSt p { st00 with objs := [⟨c, (fieldsOf p c).map firstV⟩] } 0 c slot (args.map numbV)
def RunR (p : List LClass) (c slot : Int) (R : MaSt × Int) (w w' : World) (e : Ending) : Prop :=
 ∃ vpr, e = .returned (.agg #[.int .i64 R.2, .int .i64 (if R.2 = 1 then tellV R.1 R.1.told (findM p c slot).ret else 0), vpr, .int .i64 (R.1.steps : Int)]) ∧ w'.ownsRow w.heap.size 3 1 vpr R.1.out.length (R.1.out.map (Value.int .i64)) ∧ Below w.heap.size w w'
set_option maxHeartbeats 1000000 in
set_option maxRecDepth 100000 in
theorem ma_run (p : List LClass) (vp : Value) (c slot : Int) (args : List Int) (va : Value) (fuel : Int) (w : World) (hp : RProg w vp p) (G : Good p) (hal : ∀ a b, (methOf p a b).isSome = true → 0 ≤ a → a < (p.length : Int) → (findM p a b).args.length ≤ 4194303) (c0 : 0 ≤ c) (c1 : c < (p.length : Int)) (hm : (methOf p c slot).isSome = true) (hva : SlAt 1 (RInt w) va args) (hl : 1 + (args.length : Int) ≤ (findM p c slot).locals) (hl8 : (findM p c slot).locals ≤ 8) (hfu : fuel ≤ 5000) (hf0 : 0 ≤ fuel)
  (N : Nat) (R : MaSt × Int) (hok : RunOk p fuel N (startM p c slot args)) (hrun : runM p fuel N (startM p c slot args) = some R) (ask : Bool) (hask : ask = true ∨ R.2 ≠ 5) :
  Calls Tryz.prog 62 #[.agg #[vp], .int .i64 c, .int .i64 slot, va, .int .i64 fuel, .bool ask] w fun e w' => RunR p c slot R w w' e := by
 obtain ⟨i0, hi0, hz0, hz1, hz2⟩ := info_parts infoVal
 have HASK := hide hask
 clear hask
 have HP := hide hp
 have HR := hide (And.intro hok hrun)
 obtain ⟨aa, ab, aoff, acap, rfl, hac, haa, har⟩ := sl_open hva
 obtain ⟨pa, _, _, pcap, rfl, _⟩ := hp
 clear hok hrun hva
 go_enter Tryz.func62, Tryz.ntmps62
 go_wp2_with fail
 generalize hW1 : (w.alloc _).alloc _ = W1
 have hbe1 : Below w.heap.size w W1 := by rw [← hW1]; exact box2_below _ _ _
 have hsz1 : W1.heap.size = w.heap.size + 1 + 1 := by rw [← hW1]; simp
 have A1 : Blk W1 (w.heap.size + 1) 69 [.int .i64 0, .int .i64 0, .slice none 0 0, .int .i64 0] := by
  rw [← hW1]
  have := Blk.new (w.alloc (.cells #[.slice pa p.length pcap] 24)) #[.int .i64 0, .int .i64 0, .slice none 0 0, .int .i64 0] 69
  rw [World.size_alloc] at this
  exact this
 clear hW1
 have B2 := Blk.new W1 #[.slice pa p.length pcap, .int .i64 fuel, .bool ask, .slice none 0 0, .int .i64 0, .int .i64 0, .int .i64 0, .pointer none, .slice none 0 0, .int .i64 0] 172
 have hbe2 := box_below W1 (.cells #[.slice pa p.length pcap, .int .i64 fuel, .bool ask, .slice none 0 0, .int .i64 0, .int .i64 0, .int .i64 0, .pointer none, .slice none 0 0, .int .i64 0] 172)
 generalize W1.alloc _ = W at *
 have hbel : Below w.heap.size w W := hbe1.trans (hbe2.mono hbe1.size)
 rw [← hsz1]
 obtain ⟨mb, hmb⟩ : ∃ mb, mb = W1.heap.size := ⟨_, rfl⟩
 obtain ⟨bo, hbo⟩ : ∃ bo, bo = w.heap.size + 1 := ⟨_, rfl⟩
 rw [← hbo] at A1 ⊢
 rw [← hmb] at B2 ⊢
 have hb1 : w.heap.size < bo := by omega
 have hb2 : bo < mb := by omega
 have lm := B2.lt
 have HRP1 := hide (prog_keep (Keeps.of_below hbe1) (unhide HP))
 have HMB := hide hmb
 clear hbo hmb hsz1
 have hal8 : args.length ≤ 7 := by omega
 go_loopw [14, 25] (fun v i wr => ∃ (k : Nat), k ≤ args.length ∧ i = .int .i64 k ∧ wr.ownsRow W.heap.size 170 3 v k (encL [] ((args.take k).map numbV)) ∧ Below W.heap.size W wr) (fun _ i _ => args.length - (intOf i).toNat)
 case atStart => exact ⟨0, Nat.zero_le _, rfl, World.ownsRow_nil _ _ _ _, Below.refl _ _⟩
 case round =>
  obtain ⟨k, hk, rfl, hO, hbr⟩ := hrel
  obtain ⟨ra, rcap, rfl⟩ := own_form hO
  by_cases hlt : k < args.length
  ·obtain rfl := haa (ne_nil_of_lt hlt)
   have r0 := har k hlt
   unfold RInt GInt at r0
   have hbwr := hbel.trans (hbr.mono hbel.size)
   have r1 := Keeps.of_below hbwr _ _ r0
   have htk : args[k]? = some args[k] := List.getElem?_eq_getElem hlt
   generalize args[k] = an at *
   rw [Nat.mul_one] at r1
   have k0 : (0 : Int) ≤ (k : Int) := by omega
   have k1 : (k : Int) < (args.length : Int) := by omega
   have HO := hide hO
   have HTK := hide htk
   clear r0 hO htk har
   go_wp2_with fail
   refine (ma_number an _).mono ?_
   rintro e w2 ⟨rfl, hb2'⟩
   have hb12 := hbr.trans (hb2'.mono hbr.size)
   have hO2 := own_mods (unhide HO) (Mods.of_below hb2') (fun g hg e => by have := ((unhide HO).lt g hg).2; omega)
   obtain ⟨v3, w3, happ, hO3, hM3, hv3⟩ := app_ex (P := Tryz.prog) (W := w2) 173 173 170 i0 _ 3 24 Tryz.underlying173 hi0 hz0 hz1 hz2 rfl (by decide) W.heap.size _ _ _ hO2 #[.int .i64 0, .int .i64 an, .pointer none] rfl (fun v hv => by simp only [List.mem_cons, List.not_mem_nil, or_false] at hv; rcases hv with rfl | rfl | rfl <;> rfl) w2.heap.size rfl (by unfold maxLen; omega) (by omega) hb12.size
   obtain ⟨a3, cap3, rfl⟩ := own_form hO3
   have HN : Hid (w3.ownsRow W.heap.size 170 3 (.slice a3 (k + 1) cap3) (k + 1) (encL [] ((args.take (k + 1)).map numbV)) ∧ Below W.heap.size W w3) := by
    refine ⟨?_, hb12.trans (hM3.below hb12.size (fun g hg e => by have := (hO2.lt g e).1; omega))⟩
    rw [List.take_add_one, unhide HTK, List.map_append, encL_app]
    exact hO3
   clear hO3 hM3 hv3 hO2
   go_wp2_with (refine wpList_append_run rfl (.tmp 29) (.tmp 32) 173 rfl _ _ rfl rfl happ ?_)
   refine ⟨⟨k + 1, by omega, by go_num, unhide HN⟩, by simp [intOf]; omega⟩
  ·obtain rfl : k = args.length := by omega
   rw [List.take_length] at hO
   have hbwr := hbel.trans (hbr.mono hbel.size)
   have C2 := B2.below hbr B2.lt
   have hb1r : Below W1.heap.size W1 wr := hbe2.trans (hbr.mono hbe2.size)
   obtain ⟨ρ0, hA0⟩ := MaA.start hb1r (Nat.le_of_eq (unhide HMB).symm) C2
   have HO := hide hO
   have hW0 := hbel.size
   have HA0 := hide hA0
   clear hO har haa hA0 C2 hbr
   go_wp2_with fail
   refine (ma_create p _ c W1 wr mb fuel ask (.slice none 0 0) 0 [] ⟨0, 0, none⟩ (.slice none 0 0) 0 (unhide HRP1) hb1r (Nat.le_of_eq (unhide HMB).symm) (unhide HA0).mach G.sup G.sz c0 c1 (by omega)).mono ?_
   rintro e w2 ⟨b, v, rfl, O, hMb, hM⟩
   obtain ⟨ρ1, hA1⟩ := (unhide HA0).newObj O hMb hM
   have HA1 := hide hA1
   have hO2 := own_mods (unhide HO) hM (fun g hg e => by have := ((unhide HO).lt g hg).1; omega)
   have hml : (args.map numbV).length = args.length := by simp
   have hnil : ra = none → (args.map numbV).length = 0 ∧ rcap = 0 := fun e => by
    rcases hO2.2 with ⟨e1, e2⟩ | ⟨g, cp, cur, e1, _⟩
    ·simp only [Value.slice.injEq] at e1; exact ⟨by rw [hml]; omega, e1.2.2⟩
    ·rw [e] at e1; simp at e1
   have hen : encL ([] ++ [b]) (args.map numbV) = encL [] (args.map numbV) := encL_more [] [b] (fun u hu => by obtain ⟨t, _, rfl⟩ := List.mem_map.1 hu; exact numbV_ok _ t)
   have hrd : ∀ ad, ra = some ad → ∀ j u, (encL ([] ++ [b]) (args.map numbV))[j]? = some u → w2.cell? (ad.add j) = some u := fun ad e j u hu => by
    rw [hen] at hu
    have hj : j < (encL [] (args.map numbV)).length := (List.getElem?_eq_some_iff.1 hu).1
    rw [encL_len, hml] at hj
    obtain ⟨g, cp, e1, _, _, hr⟩ := own_read hO2 (by omega)
    rw [e] at e1
    simp only [Value.slice.injEq, Option.some.injEq, true_and] at e1
    obtain ⟨rfl, rfl⟩ := e1
    rw [addr_plus, Nat.zero_add, hr j hj]
    exact hu
   have HB := hide (ma_begin p _ W1 w2 ρ1 mb fuel ask _ ([] ++ [b]) [] _ _ _ hA1 (unhide HRP1) G.sup G.sz 0 ⟨c, (fieldsOf p c).map firstV⟩ b rfl rfl slot (args.map numbV) ra rcap c0 c1 hm hnil hrd (by rw [hml]; exact hl) hl8 (fun u hu => by obtain ⟨t, _, rfl⟩ := List.mem_map.1 hu; exact numbV_ok _ t) (by simp))
   rw [hml] at HB
   clear O hMb hM hA1 hO2 hnil hen hrd hml
   go_wp2_with fail
   refine (unhide HB).mono ?_
   rintro e w3 ⟨rfl, hX3⟩
   have HWI : Hid (WorkI p W1 mb (.slice pa p.length pcap) fuel ask R w3) := ⟨N, startM p c slot args, [] ++ [b], (unhide HR).1, (unhide HR).2, hf0, hX3⟩
   clear hX3 HB HA1
   go_wp2_with fail
   refine (ma_work p _ W1 w3 mb fuel ask R (unhide HASK) (unhide HWI) hfu G (unhide HRP1) hal).mono ?_
   rintro e w4 ⟨rfl, A4, ρ4, X4, Y4, vr4, vpr4, hA4⟩
   have HA4 := hide hA4
   have E1 := A1.below hA4.bel A1.lt
   obtain ⟨pra, prc, rfl⟩ := own_form hA4.prn
   have n8 : w4.cell? ⟨mb, 8, none⟩ = some (.slice pra R.1.out.length prc) := hA4.mach.cell 8
   have n9 : w4.cell? ⟨mb, 9, none⟩ = some (.int .i64 (R.1.steps : Int)) := hA4.mach.cell 9
   have lE := E1.lt
   have hz1' := hbe1.size
   have hbw4 := hbe1.trans (hA4.bel.mono hbe1.size)
   have T4 := Blk.new w4 #[.int .i64 R.2, .int .i64 0, .slice pra R.1.out.length prc, .int .i64 (R.1.steps : Int)] 69
   have hb4a := box_below w4 (.cells #[.int .i64 R.2, .int .i64 0, .slice pra R.1.out.length prc, .int .i64 (R.1.steps : Int)] 69)
   have E4 := E1.alloc (.cells #[.int .i64 R.2, .int .i64 0, .slice pra R.1.out.length prc, .int .i64 (R.1.steps : Int)] 69)
   have HA5 := hide ((unhide HA4).below hb4a (Nat.le_refl _))
   have HPR := hide (And.intro (own_base (unhide HA4).prn hbe1.size) hbw4)
   clear hA4 HWI
   cases hk : R.2 == 1 with
   | false =>
    have HV : Hid ((if R.2 = 1 then tellV R.1 R.1.told (findM p c slot).ret else 0) = 0) := if_neg (by simpa using hk)
    go_wp2_with (first
     | refine wpList_load_blk aggOut T4 0 [.int .i64 R.2, .int .i64 0, .slice pra R.1.out.length prc, .int .i64 (R.1.steps : Int)] rfl (fun j u e => by simpa using e) (.tmp 18) rfl rfl rfl ?_
     | (refine wpList_store_blk aggOut E4 0 [.int .i64 R.2, .int .i64 0, .slice pra R.1.out.length prc, .int .i64 (R.1.steps : Int)] rfl (by simp) (fun v hv => by simp only [List.mem_cons, List.not_mem_nil, or_false] at hv; rcases hv with rfl | rfl | rfl | rfl <;> rfl) (.tmp 12) (.tmp 57) rfl rfl rfl rfl ?_; intro w6 hB6 hM6 hs6; rw [putAt_all (by rfl)] at hB6))
    refine bodyPost_ret (results_blk rfl aggOut hB6 rfl rfl) rfl ?_
    obtain ⟨hpr, hbf⟩ := unhide HPR
    have hbf2 := hbf.trans (hb4a.mono hbf.size)
    refine ⟨_, by rw [unhide HV], ?_, hbf2.trans (hM6.below hbf2.size (fun k hk e => by omega))⟩
    have hp2 := own_mods hpr (Mods.of_below hb4a) (fun g hg e => by have := (hpr.lt g hg).2; omega)
    exact own_mods hp2 hM6 (fun g hg e => by
     obtain ⟨cur, hcu⟩ := own_blk hp2 hg
     rw [e] at hcu
     exact absurd (hcu.uniq E4) (by decide))
   | true =>
    have HV : Hid ((if R.2 = 1 then tellV R.1 R.1.told (findM p c slot).ret else 0) = tellV R.1 R.1.told (findM p c slot).ret) := if_pos (by simpa using hk)
    have t0 : (w4.alloc (.cells #[.int .i64 R.2, .int .i64 0, .slice pra R.1.out.length prc, .int .i64 (R.1.steps : Int)] 69)).cell? ⟨mb, 5, none⟩ = some (.int .i64 R.1.told.kind) := (unhide HA5).mach.cell 5
    have t1 : (w4.alloc (.cells #[.int .i64 R.2, .int .i64 0, .slice pra R.1.out.length prc, .int .i64 (R.1.steps : Int)] 69)).cell? ⟨mb, 6, none⟩ = some (.int .i64 R.1.told.num) := (unhide HA5).mach.cell 6
    have t2 : (w4.alloc (.cells #[.int .i64 R.2, .int .i64 0, .slice pra R.1.out.length prc, .int .i64 (R.1.steps : Int)] 69)).cell? ⟨mb, 7, none⟩ = some (objP A4 R.1.told.obj) := (unhide HA5).mach.cell 7
    have tp : (w4.alloc (.cells #[.int .i64 R.2, .int .i64 0, .slice pra R.1.out.length prc, .int .i64 (R.1.steps : Int)] 69)).cell? ⟨mb, 0, none⟩ = some (.slice pa p.length pcap) := (unhide HA5).mach.cell 0
    go_wp2_with fail
    have l4 : w4.heap.size < (w4.alloc (.cells #[.int .i64 R.2, .int .i64 0, .slice pra R.1.out.length prc, .int .i64 (R.1.steps : Int)] 69)).heap.size := by simp
    generalize w4.alloc _ = U4 at *
    refine wp_region_noPanic ?_
    refine wp_region_held_drew (S := (fun w' => w'.cell? ⟨mb, 5, none⟩ = some (.int .i64 R.1.told.kind) ∧ w'.cell? ⟨mb, 6, none⟩ = some (.int .i64 R.1.told.num) ∧ w'.cell? ⟨mb, 7, none⟩ = some (objP A4 R.1.told.obj))) (by kernel_rfl) ?_ (fun hHeld => ?_)
    ·exact ⟨t0, t1, t2⟩
    refine take_x (some 49) 0 rfl rfl ?_
    refine take_x (some 50) 1 rfl rfl ?_
    refine take_x (some 51) 2 rfl rfl ?_
    refine take_x (some 52) 3 rfl rfl ?_
    refine wpAnyH_ready (rs := [4]) (by kernel_rfl) (by simp) ?_
    refine AllReadyH.cons rfl (fun K hK => ?_) AllReadyH.nil
    go_simp
    refine (ma_find p _ c slot W1 U4.drew mb (unhide HRP1) (unhide HA5).bel.drew tp G.sup G.sz c0 c1 hm).mono ?_
    rintro e w5 ⟨ma, mco, mf, rfl, hG5, hb5⟩
    have hb5' : Below U4.heap.size U4 w5 := ⟨hb5.os, hb5.tape, hb5.output, hb5.size, hb5.block⟩
    have k5 := Keeps.of_below hb5'
    have HS5 := hide (And.intro (k5 _ _ t0) (And.intro (k5 _ _ t1) (k5 _ _ t2)))
    have HA6 := hide ((unhide HA5).below hb5' (Nat.le_refl _))
    have T5 := T4.below hb5' T4.lt
    have E5 := E4.below hb5' E4.lt
    have hot := (unhide HA4).okt
    unfold methV
    clear hG5
    go_wp2_with fail
    refine hK.out _ _ (unhide HS5) (fun hHeld => ?_)
    clear hK K
    try simp only [Act.put, List.setIfInBounds_toArray, List.set_cons_zero, List.set_cons_succ]
    refine take_x (some 54) 5 rfl rfl ?_
    refine wpAnyH_ready (rs := [6]) (by kernel_rfl) (by simp) ?_
    refine AllReadyH.cons rfl (fun K hK => ?_) AllReadyH.nil
    go_simp
    have hTL := ma_tell W1 w5 _ mb _ fuel ask R.1 A4 X4 Y4 _ _ (unhide HA6) R.1.told (findM p c slot).ret hot
    unfold encV at hTL
    refine hTL.mono ?_
    rintro e w6 ⟨rfl, hb6⟩
    have hb6' := hb5'.trans (hb6.mono hb5'.size)
    have k6 := Keeps.of_below hb6'
    have HS6 := hide (And.intro (k6 _ _ t0) (And.intro (k6 _ _ t1) (k6 _ _ t2)))
    have T6 := T5.below hb6 T5.lt
    have E6 := E5.below hb6 E5.lt
    rw [← unhide HV]
    generalize hvv : (if R.2 = 1 then tellV R.1 R.1.told (findM p c slot).ret else 0) = vv at *
    have HVV := hide hvv
    clear hvv hTL
    go_wp2_with fail
    refine hK.out _ _ (unhide HS6) (fun hHeld => ?_)
    clear hK K
    try simp only [Act.put, List.setIfInBounds_toArray, List.set_cons_zero, List.set_cons_succ]
    refine take_x (some 56) 7 rfl rfl ?_
    have c61 : w6.cell? ⟨w4.heap.size, 1, none⟩ = some (.int .i64 0) := T6.cell 1
    have f61 := T6.frozen 1
    have T7 := T6.setCell 1 (.int .i64 vv)
    have E7 := E6.setCell_ne (p := ⟨w4.heap.size, 1, none⟩) (by dsimp only; omega) (.int .i64 vv)
    have hM7 : Mods (fun k => k = w4.heap.size) w6 (w6.setCell ⟨w4.heap.size, 1, none⟩ (.int .i64 vv)) := (Mods.refl (fun k => k = w4.heap.size) w6).setCell (p := ⟨w4.heap.size, 1, none⟩) (fun _ => rfl) _
    have hmb4 : mb < w4.heap.size := (unhide HA4).lt
    refine wpAnyH_ready (rs := [8]) (by kernel_rfl) (by simp) ?_
    refine AllReadyH.cons rfl (fun K hK => ?_) AllReadyH.nil
    go_simp
    refine hK.out _ _ ⟨hM7.cell (unhide HS6).1 (by dsimp only; omega), hM7.cell (unhide HS6).2.1 (by dsimp only; omega), hM7.cell (unhide HS6).2.2 (by dsimp only; omega)⟩ (fun hHeld => ?_)
    clear hK K
    try simp only [Act.put, List.setIfInBounds_toArray, List.set_cons_zero, List.set_cons_succ]
    refine wpAnyH_done (by kernel_rfl) ?_ _
    refine NoPanic.normal ?_
    change Blk _ w4.heap.size 69 [.int .i64 R.2, .int .i64 vv, .slice pra R.1.out.length prc, .int .i64 (R.1.steps : Int)] at T7
    generalize w6.setCell _ _ = U7 at *
    go_wp2_with (first
     | refine wpList_load_blk aggOut T7 0 [.int .i64 R.2, .int .i64 vv, .slice pra R.1.out.length prc, .int .i64 (R.1.steps : Int)] rfl (fun j u e => by simpa using e) (.tmp 18) rfl rfl rfl ?_
     | (refine wpList_store_blk aggOut E7 0 [.int .i64 R.2, .int .i64 vv, .slice pra R.1.out.length prc, .int .i64 (R.1.steps : Int)] rfl (by simp) (fun v hv => by simp only [List.mem_cons, List.not_mem_nil, or_false] at hv; rcases hv with rfl | rfl | rfl | rfl <;> rfl) (.tmp 12) (.tmp 57) rfl rfl rfl rfl ?_; intro w8 hB8 hM8 hs8; rw [putAt_all (by rfl)] at hB8))
    refine bodyPost_ret (results_blk rfl aggOut hB8 rfl rfl) rfl ?_
    obtain ⟨hpr, hbf⟩ := unhide HPR
    have hb46 : Below w4.heap.size w4 w6 := hb4a.trans (hb6'.mono hb4a.size)
    have hp2 := own_mods hpr (Mods.of_below hb46) (fun g hg e => by have := (hpr.lt g hg).2; omega)
    have hp3 := own_mods hp2 hM7 (fun g hg e => by have := (hpr.lt g hg).2; omega)
    have hbf2 := hbf.trans (hb46.mono hbf.size)
    have hbf3 := hbf2.trans (hM7.below hbf2.size (fun k hk e => by have := hbf.size; omega))
    refine ⟨_, by rw [unhide HVV], ?_, hbf3.trans (hM8.below hbf3.size (fun k hk e => by omega))⟩
    exact own_mods hp3 hM8 (fun g hg e => by
     obtain ⟨cur, hcu⟩ := own_blk hp3 hg
     rw [e] at hcu
     exact absurd (hcu.uniq E7) (by decide))
end Go.Proofs.YtiiokkllmchohaaGreat
/- What holds is kept by every step; a run ends (pure). -/
namespace Go.Proofs.YtiiokkllmchohaaGreat
open Go.RowKit Go.Shelf

theorem getLast_split {α : Type} {l : List α} {f : α} (h : l.getLast? = some f) : ∃ fs, l = fs ++ [f] ∧ l.length - 1 = fs.length ∧ l.dropLast = fs := by
 rcases List.eq_nil_or_concat l with rfl | ⟨fs, g, rfl⟩
 ·cases h
 ·rw [List.concat_eq_append, List.getLast?_concat] at h
  cases h
  refine ⟨fs, by simp, by simp, by simp⟩
section
variable {p : List LClass} {fuel : Int} {st : MaSt} {f : MFr} {fs : List MFr}
end
end Go.Proofs.YtiiokkllmchohaaGreat
/- Types of values; the state that the pass has at a place (pure). -/
namespace Go.Proofs.YtiiokkllmchohaaGreat
open Go.RowKit Go.Shelf

theorem below_refl (p : List LClass) (t : Int) : belowB p t t = true := by unfold belowB; simp
theorem below_top (p : List LClass) (t : Int) : belowB p t 2 = true := by unfold belowB; simp
theorem below_iff {p : List LClass} {t o : Int} : belowB p t o = true ↔ t = o ∨ o = 2 ∨ (3 ≤ o ∧ (t = 1 ∨ (3 ≤ t ∧ descB p (t - 3) (o - 3) = true))) := by
 unfold belowB
 simp only [Bool.or_eq_true, Bool.and_eq_true, beq_iff_eq, decide_eq_true_eq, or_assoc]
theorem below_trans {p : List LClass} (hs : SupOk p p.length) {a b c : Int} (h1 : belowB p a b = true) (h2 : belowB p b c = true) : belowB p a c = true := by
 rw [below_iff] at h1 h2 ⊢
 rcases h1 with rfl | rfl | ⟨h1, h3⟩
 ·exact h2
 ·rcases h2 with rfl | rfl | ⟨h4, h5⟩
  ·exact .inr (.inl rfl)
  ·exact .inr (.inl rfl)
  ·omega
 ·rcases h2 with rfl | rfl | ⟨h4, h5⟩
  ·exact .inr (.inr ⟨h1, h3⟩)
  ·exact .inr (.inl rfl)
  ·refine .inr (.inr ⟨h4, ?_⟩)
   rcases h3 with rfl | ⟨h3, h6⟩
   ·exact .inl rfl
   ·rcases h5 with h5 | ⟨h5, h7⟩
    ·omega
    ·exact .inr ⟨h3, desc_trans hs h6 h7⟩
theorem belowS_refl (p : List LClass) (s : TSt) : belowS p s s = true := by
 have : ∀ l : List Int, ((l.zip l).all fun x => belowB p x.1 x.2) = true := fun l => by
  rw [List.all_eq_true]
  intro x hx
  obtain ⟨j, hj, rfl⟩ := List.getElem_of_mem hx
  rw [List.getElem_zip]
  exact below_refl _ _
 unfold belowS
 rw [this, this]
 simp
def atS (p : List LClass) (c : Int) (m : LMeth) (pc : Nat) : Option TSt := match frameAtS m pc with
 | some t => some t
 | none => (passK p c m pc).join
theorem passK_some {p : List LClass} {c : Int} {m : LMeth} (h : passB p c m = true) : ∀ k, k ≤ m.code.length → ∃ s, passK p c m k = some s := by
 intro k hk
 have key : ∀ d, k + d ≤ m.code.length → (passK p c m (k + d)).isSome = true → (passK p c m k).isSome = true := by
  intro d
  induction d with
  | zero => intro _ h; exact h
  | succ d ih =>
   intro hd h
   refine ih (by omega) ?_
   rw [← Nat.add_assoc] at h
   unfold passK at h
   cases e : passK p c m (k + d) with
   | none => rw [e] at h; cases h
   | some x => rfl
 exact Option.isSome_iff_exists.1 (key (m.code.length - k) (by omega) (by rw [show k + (m.code.length - k) = m.code.length by omega]; exact h))
theorem frameAtS_len {p : List LClass} {m : LMeth} (hF : FrOk p m) {pc : Int} {t : TSt} (h : frameAtS m pc = some t) : t.loc.length = 8 := by
 unfold frameAtS at h
 cases e : m.frames.find? (fun f => f.pc == pc) with
 | none => rw [e] at h; cases h
 | some f =>
  rw [e] at h
  cases h
  have := (hF f (List.mem_of_find?_eq_some e)).1
  unfold toldS
  simp; omega
theorem stepS_go {p : List LClass} {m : LMeth} {pc : Nat} {h h' : Option TSt} (e : stepS p m pc h = some h') {s : TSt} (ha : (match frameAtS m pc with | some t => some t | none => h) = some s) : goS p m pc s = some h' ∧ ∀ s0 t, h = some s0 → frameAtS m pc = some t → belowS p s0 t = true := by
 unfold stepS at e
 cases hf : frameAtS m pc with
 | none =>
  rw [hf] at e ha
  dsimp only at ha
  subst ha
  exact ⟨e, fun s0 t _ h2 => by cases h2⟩
 | some t =>
  rw [hf] at e ha
  cases ha
  cases h with
  | none => exact ⟨e, fun s0 t h1 _ => by cases h1⟩
  | some s0 =>
   dsimp only at e
   split at e
   ·rename_i hb
    exact ⟨e, fun s1 t h1 h2 => by cases h1; cases h2; exact hb⟩
   ·cases e
theorem pass_at {p : List LClass} {c : Int} {m : LMeth} (h : passB p c m = true) (hF : FrOk p m) (hi : ∀ i ∈ m.code, insB p m i = true) {pc : Nat} (hlt : pc < m.code.length) {s : TSt} (hs : atS p c m pc = some s) :
  ∃ s', doS p m (insAt m pc) s = some s' ∧ (jumpsB (insAt m pc) = true → ∃ t, atS p c m (insAt m pc).a.toNat = some t ∧ belowS p s' t = true ∧ (insAt m pc).a.toNat < m.code.length ∧ t.loc.length = 8) ∧
   (fallsB (insAt m pc) = true → ∃ t, atS p c m (pc + 1) = some t ∧ belowS p s' t = true ∧ pc + 1 < m.code.length ∧ (t = s' ∨ t.loc.length = 8)) := by
 obtain ⟨h0, e0⟩ := passK_some h pc (by omega)
 obtain ⟨h1, e1⟩ := passK_some h (pc + 1) (by omega)
 have e2 : stepS p m pc h0 = some h1 := by
  have := e1
  unfold passK at this
  rw [e0] at this
  exact this
 have hst : (match frameAtS m pc with | some t => some t | none => h0) = some s := by
  unfold atS at hs
  rw [e0] at hs
  exact hs
 obtain ⟨hgo, _⟩ := stepS_go e2 hst
 have hmem : insAt m pc ∈ m.code := by
  unfold insAt
  rw [List.getElem?_eq_getElem hlt]
  exact List.getElem_mem _
 unfold goS at hgo
 cases hn : nextS p m pc s with
 | none => rw [hn] at hgo; cases hgo
 | some s' =>
  rw [hn, Option.bind_some] at hgo
  split at hgo
  ·rename_i hall
   cases hgo
   unfold nextS at hn
   cases hd : doS p m (insAt m pc) s with
   | none => rw [hd] at hn; cases hn
   | some s1 =>
    rw [hd, Option.bind_some] at hn
    split at hn
    ·cases hn
    ·rename_i hend
     cases hn
     refine ⟨s', rfl, fun hj => ?_, fun hf => ?_⟩
     ·have hmm : ((insAt m pc).a, true) ∈ onwardL (insAt m pc) pc := by
       unfold onwardL
       rw [if_pos hj]; simp
      have := List.all_eq_true.1 hall _ hmm
      simp only [Bool.not_true, Bool.false_or] at this
      unfold frOk at this
      have hI := ins_ok (p := p) (m := m) (op := (insAt m pc).op) (a := (insAt m pc).a) (b := (insAt m pc).b) (hi _ hmem)
      have hjm := hI.jmp (by
       unfold jumpsB at hj
       simp only [Bool.or_eq_true, beq_iff_eq] at hj
       omega)
      split at this
      ·cases this
      ·rename_i t ht
       have e3 : (((insAt m pc).a.toNat : Nat) : Int) = (insAt m pc).a := by omega
       refine ⟨t, ?_, this, by omega, frameAtS_len hF ht⟩
       unfold atS
       rw [e3, ht]
     ·have hlt1 : pc + 1 < m.code.length := by
       apply Nat.lt_of_le_of_ne hlt
       intro e
       apply hend
       unfold endB onwardL
       rw [if_pos hf, List.any_append]
       simp only [List.any_cons, List.any_nil, Bool.or_false, Bool.or_eq_true, beq_iff_eq]
       right
       omega
      rw [if_pos hf] at e1 e2
      obtain ⟨h2, e3⟩ := passK_some h (pc + 2) (by omega)
      have e4 : stepS p m (pc + 1) (some s') = some h2 := by
       have := e3
       unfold passK at this
       rw [e1] at this
       exact this
      cases hfr : frameAtS m ((pc + 1 : Nat) : Int) with
      | none =>
       refine ⟨s', ?_, belowS_refl _ _, hlt1, .inl rfl⟩
       unfold atS
       rw [hfr, e1]
       rfl
      | some t =>
       refine ⟨t, ?_, ?_, hlt1, .inr (frameAtS_len hF hfr)⟩
       ·unfold atS
        rw [hfr]
       ·exact (stepS_go e4 (s := t) (by rw [hfr])).2 s' t rfl hfr
  ·cases hgo
end Go.Proofs.YtiiokkllmchohaaGreat
/- What passes is ready: the instructions that touch nothing beside the frame (pure). -/
namespace Go.Proofs.YtiiokkllmchohaaGreat
open Go.RowKit Go.Shelf

theorem takeS_iff {s : TSt} {t : Int} {s' : TSt} (h : takeS s = some (t, s')) : s.stk = s'.stk ++ [t] ∧ s'.loc = s.loc := by
 unfold takeS at h
 cases e : s.stk.getLast? with
 | none => rw [e] at h; cases h
 | some y =>
  rw [e] at h
  cases h
  obtain ⟨fs, h1, _, h2⟩ := getLast_split e
  refine ⟨?_, rfl⟩
  dsimp only
  rw [h2]; exact h1
theorem wantS_iff {p : List LClass} {s s' : TSt} {t : Int} (h : wantS p t s = some s') : ∃ u, s.stk = s'.stk ++ [u] ∧ s'.loc = s.loc ∧ belowB p u t = true := by
 unfold wantS at h
 cases e : takeS s with
 | none => rw [e] at h; cases h
 | some x =>
  rw [e, Option.bind_some] at h
  split at h
  ·rename_i hb
   cases h
   obtain ⟨h1, h2⟩ := takeS_iff (t := x.1) (s' := x.2) e
   exact ⟨x.1, h1, h2, hb⟩
  ·cases h
theorem wantO_iff {s s' : TSt} (h : wantO s = some s') : ∃ u, s.stk = s'.stk ++ [u] ∧ s'.loc = s.loc ∧ (u = 1 ∨ 3 ≤ u) := by
 unfold wantO at h
 cases e : takeS s with
 | none => rw [e] at h; cases h
 | some x =>
  rw [e, Option.bind_some] at h
  split at h
  ·rename_i hb
   cases h
   obtain ⟨h1, h2⟩ := takeS_iff (t := x.1) (s' := x.2) e
   refine ⟨x.1, h1, h2, ?_⟩
   unfold mayObj at hb
   simpa using hb
  ·cases h
theorem leaveS_iff {m : LMeth} {t : Int} {s s' : TSt} (h : leaveS m t s = some s') : (s.stk.length : Int) ≠ m.stack ∧ s'.stk = s.stk ++ [t] ∧ s'.loc = s.loc := by
 unfold leaveS at h
 split at h
 ·cases h
 ·rename_i hn
  cases h
  exact ⟨hn, rfl, rfl⟩
theorem knownS_iff {t u : Int} (h : knownS t = some u) : u = t ∧ t ≠ 2 := by
 unfold knownS at h
 split at h
 ·cases h
 ·rename_i hn
  cases h
  exact ⟨rfl, hn⟩
theorem bind_iff {α β : Type} {o : Option α} {f : α → Option β} {b : β} (h : o.bind f = some b) : ∃ a, o = some a ∧ f a = some b := by
 cases o with
 | none => cases h
 | some a => exact ⟨a, rfl, h⟩
section
variable {p : List LClass} {m : LMeth} {loc stk : List LVal} {s s' : TSt} {a b : Int}
end
end Go.Proofs.YtiiokkllmchohaaGreat
/- What passes makes no Fault; less fuel (pure). -/
namespace Go.Proofs.YtiiokkllmchohaaGreat
open Go.RowKit Go.Shelf

section
variable {p : List LClass} {fuel : Int} {st : MaSt} {f : MFr} {fs : List MFr}
end
end Go.Proofs.YtiiokkllmchohaaGreat
/- Types are joined to the least above both; how often a type may be raised (pure). -/
namespace Go.Proofs.YtiiokkllmchohaaGreat
open Go.RowKit Go.Shelf

theorem up_cases (p : List LClass) (b : Int) : ∀ (l : List Nat), (upB p b l = 2 ∧ ∀ c ∈ l, belowB p b ((c : Int) + 3) = false) ∨ ∃ (pre : List Nat) (c : Nat) (post : List Nat), l = pre ++ c :: post ∧ upB p b l = (c : Int) + 3 ∧ belowB p b ((c : Int) + 3) = true ∧ ∀ d ∈ pre, belowB p b ((d : Int) + 3) = false
 | [] => .inl ⟨rfl, fun c h => by cases h⟩
 | c :: l => by
  cases h : belowB p b ((c : Int) + 3) with
  | true => exact .inr ⟨[], c, l, rfl, upB_hit h, h, fun d hd => by cases hd⟩
  | false =>
   rcases up_cases p b l with ⟨h1, h2⟩ | ⟨pre, d, post, rfl, h2, h3, h4⟩
   ·exact .inl ⟨by rw [upB_next h]; exact h1, fun e he => by
     rcases List.mem_cons.1 he with rfl | he
     ·exact h
     ·exact h2 e he⟩
   ·exact .inr ⟨c :: pre, d, post, rfl, by rw [upB_next h]; exact h2, h3, fun e he => by
     rcases List.mem_cons.1 he with rfl | he
     ·exact h
     ·exact h4 e he⟩
theorem desc_mem {p : List LClass} {c : Int} {d : Nat} : descB p c d = true ↔ d ∈ chainOf p c := by
 unfold descB
 rw [List.any_eq_true]
 constructor
 ·rintro ⟨x, hx, e⟩
  simp only [beq_iff_eq] at e
  obtain rfl : x = d := by omega
  exact hx
 ·intro h
  exact ⟨d, h, by simp⟩
theorem chain_order {p : List LClass} (hs : SupOk p p.length) : ∀ (n : Nat) (pre : List Nat) (c : Nat) (post : List Nat), chainOf p (n : Int) = pre ++ c :: post → ∀ d ∈ c :: post, descB p (c : Int) (d : Int) = true := by
 intro n
 induction n using Nat.strongRecOn with
 | ind n ih =>
  intro pre c post h d hd
  cases hx : p[n]? with
  | none =>
   have : chainOf p (n : Int) = [] := by
    unfold chainOf chain
    rw [if_neg (by omega), Int.toNat_natCast, hx]
   rw [this] at h
   simp at h
  | some x =>
   have hn := (List.getElem?_eq_some_iff.1 hx).1
   have hc := chainOf_cons p hs hn hx
   cases pre with
   | nil =>
    rw [List.nil_append] at h
    have : c = n := by rw [hc] at h; cases h; rfl
    subst this
    rw [desc_mem, h]
    exact hd
   | cons y pre =>
    rw [hc, List.cons_append] at h
    injection h with h1 h2
    have hb := supB_le (hs n x hn hx)
    rcases Int.lt_or_le x.sup 0 with g | g
    ·rw [chainOf_neg p g] at h2
     simp at h2
    ·obtain ⟨k, hk⟩ := Int.eq_ofNat_of_zero_le g
     rw [hk] at h2 hb
     exact ih k (by omega) pre c post h2 d hd
theorem join_ub1 {p : List LClass} (a b : Int) : belowB p a (joinB p a b) = true := by
 unfold joinB
 split
 ·rename_i h; exact h
 ·split
  ·rename_i h3
   rcases up_cases p b (chainOf p (a - 3)) with ⟨h1, _⟩ | ⟨pre, c, post, h1, h2, h4, _⟩
   ·rw [h1]; exact below_top _ _
   ·rw [h2, below_iff]
    right; right
    refine ⟨by omega, .inr ⟨h3, ?_⟩⟩
    rw [show (c : Int) + 3 - 3 = c by omega, desc_mem, h1]
    simp
  ·exact below_top _ _
theorem join_ub2 {p : List LClass} (a b : Int) : belowB p b (joinB p a b) = true := by
 unfold joinB
 split
 ·exact below_refl _ _
 ·split
  ·rcases up_cases p b (chainOf p (a - 3)) with ⟨h1, _⟩ | ⟨pre, c, post, h1, h2, h4, _⟩
   ·rw [h1]; exact below_top _ _
   ·rw [h2]; exact h4
  ·exact below_top _ _
theorem join_lub {p : List LClass} (hs : SupOk p p.length) {a b u : Int} (ha : belowB p a u = true) (hb : belowB p b u = true) (hA : 3 ≤ a → a - 3 < (p.length : Int)) : belowB p (joinB p a b) u = true := by
 unfold joinB
 split
 ·exact hb
 ·rename_i hab
  split
  ·rename_i h3
   obtain ⟨n, hn⟩ := Int.eq_ofNat_of_zero_le (show 0 ≤ a - 3 by omega)
   rw [hn]
   rw [below_iff] at ha
   by_cases hu2 : u = 2
   ·rw [hu2]; exact below_top _ _
   -- u is a class at or above a
   have hu3 : 3 ≤ u ∧ descB p (n : Int) (u - 3) = true := by
    rcases ha with rfl | h | ⟨h1, h2⟩
    ·exact ⟨h3, by rw [hn]; exact desc_refl hs (by omega) (by have := hA h3; omega)⟩
    ·exact absurd h hu2
    ·refine ⟨h1, ?_⟩
     rcases h2 with h2 | ⟨_, h2⟩
     ·omega
     ·rw [hn] at h2; exact h2
   obtain ⟨k, hk⟩ := Int.eq_ofNat_of_zero_le (show 0 ≤ u - 3 by omega)
   rw [hk] at hu3
   have hmem := desc_mem.1 hu3.2
   have huk : u = (k : Int) + 3 := by omega
   rcases up_cases p b (chainOf p (n : Int)) with ⟨_, h2⟩ | ⟨pre, c, post, h1, h2, h4, h5⟩
   ·have := h2 k hmem
    rw [huk] at hb
    rw [hb] at this
    cases this
   ·rw [h2, below_iff]
    right; right
    refine ⟨hu3.1, .inr ⟨by omega, ?_⟩⟩
    rw [show (c : Int) + 3 - 3 = c by omega, hk]
    have hkin : k ∈ c :: post := by
     rw [h1] at hmem
     rcases List.mem_append.1 hmem with h | h
     ·have := h5 k h
      rw [huk] at hb
      rw [hb] at this
      cases this
     ·exact h
    exact chain_order hs n pre c post h1 k hkin
  ·rename_i h3
   rw [below_iff] at ha hb
   rw [below_iff] at hab
   have : u = 2 := by
    apply Classical.byContradiction
    intro hu
    rcases ha with rfl | h | ⟨h1, h2⟩
    ·rcases hb with rfl | h | ⟨h1, _⟩
     ·exact hab (.inl rfl)
     ·exact hu h
     ·omega
    ·exact hu h
    ·rcases h2 with rfl | ⟨h2, _⟩
     ·rcases hb with rfl | h | ⟨_, h⟩
      ·exact hab (.inr (.inr ⟨h1, .inl rfl⟩))
      ·exact hu h
      ·rcases h with rfl | ⟨h, _⟩
       ·exact hab (.inl rfl)
       ·exact hab (.inr (.inr ⟨h, .inl rfl⟩))
     ·omega
   rw [this]
   exact below_top _ _
def rank (p : List LClass) (t : Int) : Nat := if t = 2 then 0 else if t = 1 then 20 else if 3 ≤ t then 1 + (chainOf p (t - 3)).length else 1
theorem chain_le (p : List LClass) (hs : SupOk p p.length) : ∀ n : Nat, (chainOf p (n : Int)).length ≤ n + 1 := by
 intro n
 induction n using Nat.strongRecOn with
 | ind n ih =>
  cases hx : p[n]? with
  | none =>
   have : chainOf p (n : Int) = [] := by
    unfold chainOf chain
    rw [if_neg (by omega), Int.toNat_natCast, hx]
   rw [this]; simp
  | some x =>
   have hn := (List.getElem?_eq_some_iff.1 hx).1
   rw [chainOf_cons p hs hn hx, List.length_cons]
   have hb := supB_le (hs n x hn hx)
   rcases Int.lt_or_le x.sup 0 with g | g
   ·rw [chainOf_neg p g]; simp
   ·obtain ⟨k, hk⟩ := Int.eq_ofNat_of_zero_le g
    rw [hk]
    have := ih k (by omega)
    omega
theorem rank_le {p : List LClass} (hs : SupOk p p.length) (h6 : p.length ≤ 6) (t : Int) : rank p t ≤ 20 := by
 unfold rank
 split
 ·omega
 split
 ·omega
 split
 ·rename_i h3
  obtain ⟨n, hn⟩ := Int.eq_ofNat_of_zero_le (show 0 ≤ t - 3 by omega)
  rw [hn]
  rcases Nat.lt_or_ge n p.length with h | h
  ·have := chain_le p hs n
   omega
  ·have : chainOf p (n : Int) = [] := by
    unfold chainOf chain
    rw [if_neg (by omega), Int.toNat_natCast, List.getElem?_eq_none h]
   rw [this]; simp
 ·omega
theorem rank_desc {p : List LClass} (hs : SupOk p p.length) {c o : Int} (h : descB p c o = true) (hne : c ≠ o) : (chainOf p o).length < (chainOf p c).length := by
 have key : c = o ∨ (chainOf p o).length < (chainOf p c).length := by
  refine desc_ind hs (fun c => c = o ∨ (chainOf p o).length < (chainOf p c).length) (fun n x _ e => .inl e) (fun n x hx _ ih => ?_) c h
  right
  rw [chainOf_cons p hs (List.getElem?_eq_some_iff.1 hx).1 hx, List.length_cons]
  rcases ih with e | e
  ·rw [e]; omega
  ·omega
 rcases key with e | e
 ·exact absurd e hne
 ·exact e
theorem rank_mono {p : List LClass} (hs : SupOk p p.length) (h6 : p.length ≤ 6) {a b : Int} (h : belowB p a b = true) : rank p b ≤ rank p a ∧ (a ≠ b → rank p b < rank p a) := by
 by_cases e : a = b
 ·subst e
  exact ⟨Nat.le_refl _, fun h => absurd rfl h⟩
 have hlt : rank p b < rank p a := by
  rw [below_iff] at h
  rcases h with h | rfl | ⟨h1, h2⟩
  ·exact absurd h e
  ·unfold rank
   rw [if_pos rfl, if_neg e]
   split
   ·omega
   split
   ·omega
   ·omega
  ·rcases h2 with rfl | ⟨h2, h3⟩
   ·have hb : rank p b = 1 + (chainOf p (b - 3)).length := by
     unfold rank
     rw [if_neg (by omega), if_neg (by omega), if_pos h1]
    have ha : rank p 1 = 20 := rfl
    rw [hb, ha]
    obtain ⟨n, hn⟩ := Int.eq_ofNat_of_zero_le (show 0 ≤ b - 3 by omega)
    rw [hn]
    rcases Nat.lt_or_ge n p.length with h | h
    ·have := chain_le p hs n
     omega
    ·have : chainOf p (n : Int) = [] := by
      unfold chainOf chain
      rw [if_neg (by omega), Int.toNat_natCast, List.getElem?_eq_none h]
     rw [this]; simp
   ·have hb : rank p b = 1 + (chainOf p (b - 3)).length := by
     unfold rank
     rw [if_neg (by omega), if_neg (by omega), if_pos h1]
    have ha : rank p a = 1 + (chainOf p (a - 3)).length := by
     unfold rank
     rw [if_neg (by omega), if_neg (by omega), if_pos h2]
    have := rank_desc hs h3 (by omega)
    omega
 exact ⟨by omega, fun _ => hlt⟩
end Go.Proofs.YtiiokkllmchohaaGreat
/- States are joined likewise; what falls when one is raised (pure). -/
namespace Go.Proofs.YtiiokkllmchohaaGreat
open Go.RowKit Go.Shelf

structure LeS (p : List LClass) (s t : TSt) : Prop where
 n : s.stk.length = t.stk.length
 l : ∀ i, i < 8 → belowB p (s.loc.getD i 0) (t.loc.getD i 0) = true
 k : ∀ i, i < s.stk.length → belowB p (s.stk.getD i 0) (t.stk.getD i 0) = true
theorem zip_all {p : List LClass} : ∀ {l u : List Int}, l.length = u.length → (((l.zip u).all fun x => belowB p x.1 x.2) = true ↔ ∀ i, i < l.length → belowB p (l.getD i 0) (u.getD i 0) = true)
 | [], [], _ => ⟨fun _ i h => by simp at h, fun _ => rfl⟩
 | a :: l, b :: u, h => by
  rw [List.zip_cons_cons, List.all_cons, Bool.and_eq_true, zip_all (by simpa using h)]
  constructor
  ·rintro ⟨h1, h2⟩ i hi
   cases i with
   | zero => exact h1
   | succ i => exact h2 i (by simpa using hi)
  ·intro h
   exact ⟨h 0 (by simp), fun i hi => h (i + 1) (by simpa using hi)⟩
 | [], _ :: _, h => by simp at h
 | _ :: _, [], h => by simp at h
theorem le_iff {p : List LClass} {s t : TSt} (hs : s.loc.length = 8) (ht : t.loc.length = 8) : belowS p s t = true ↔ LeS p s t := by
 unfold belowS
 simp only [Bool.and_eq_true, beq_iff_eq]
 constructor
 ·rintro ⟨⟨h1, h2⟩, h3⟩
  rw [zip_all (by rw [hs, ht])] at h2
  rw [zip_all h1] at h3
  exact ⟨h1, fun i hi => h2 i (by omega), h3⟩
 ·rintro ⟨h1, h2, h3⟩
  exact ⟨⟨h1, (zip_all (by rw [hs, ht])).2 (fun i hi => h2 i (by omega))⟩, (zip_all h1).2 h3⟩
theorem LeS.refl (p : List LClass) (s : TSt) : LeS p s s := ⟨rfl, fun _ _ => below_refl _ _, fun _ _ => below_refl _ _⟩
theorem LeS.trans {p : List LClass} (hs : SupOk p p.length) {s t u : TSt} (h : LeS p s t) (h' : LeS p t u) : LeS p s u :=
 ⟨h.n.trans h'.n, fun i hi => below_trans hs (h.l i hi) (h'.l i hi), fun i hi => below_trans hs (h.k i hi) (h'.k i (by rw [← h.n]; exact hi))⟩
theorem joinK_at (p : List LClass) (s t : TSt) (hl : s.loc.length = 8) : ∀ (k i : Nat), i < k → k ≤ 8 → (joinK p s t k).loc.getD i 0 = joinB p (s.loc.getD i 0) (t.loc.getD i 0)
 | 0, i, h, _ => by omega
 | k + 1, i, h, h8 => by
  show ((joinK p s t k).loc.set k _).getD i 0 = _
  rw [List.getD_eq_getElem?_getD]
  by_cases e : i = k
  ·subst e
   rw [List.getElem?_set_self (by rw [joinK_len, hl]; omega)]
   rfl
  ·rw [List.getElem?_set_ne (by omega), ← List.getD_eq_getElem?_getD]
   exact joinK_at p s t hl k i (by omega) (by omega)
theorem joinT_locs (p : List LClass) (s t : TSt) : ∀ k, (joinT p s t k).loc = (joinK p s t 8).loc
 | 0 => rfl
 | k + 1 => joinT_locs p s t k
theorem joinT_at (p : List LClass) (s t : TSt) : ∀ (k i : Nat), i < k → k ≤ s.stk.length → (joinT p s t k).stk.getD i 0 = joinB p (s.stk.getD i 0) (t.stk.getD i 0)
 | 0, i, h, _ => by omega
 | k + 1, i, h, h8 => by
  show ((joinT p s t k).stk.set k _).getD i 0 = _
  rw [List.getD_eq_getElem?_getD]
  by_cases e : i = k
  ·subst e
   rw [List.getElem?_set_self (by rw [joinT_len]; omega)]
   rfl
  ·rw [List.getElem?_set_ne (by omega), ← List.getD_eq_getElem?_getD]
   exact joinT_at p s t k i (by omega) (by omega)
theorem joinS_len (p : List LClass) (s t : TSt) : (joinS p s t).stk.length = s.stk.length ∧ (joinS p s t).loc.length = s.loc.length := by
 unfold joinS
 refine ⟨joinT_len _ _ _ _, ?_⟩
 rw [joinT_locs, joinK_len]
theorem joinS_loc (p : List LClass) (s t : TSt) (hl : s.loc.length = 8) {i : Nat} (hi : i < 8) : (joinS p s t).loc.getD i 0 = joinB p (s.loc.getD i 0) (t.loc.getD i 0) := by
 unfold joinS
 rw [joinT_locs]
 exact joinK_at p s t hl 8 i hi (Nat.le_refl _)
theorem joinS_stk (p : List LClass) (s t : TSt) {i : Nat} (hi : i < s.stk.length) : (joinS p s t).stk.getD i 0 = joinB p (s.stk.getD i 0) (t.stk.getD i 0) := joinT_at p s t _ i hi (Nat.le_refl _)
theorem join_up1 {p : List LClass} {s t : TSt} (hl : s.loc.length = 8) : LeS p s (joinS p s t) :=
 ⟨(joinS_len p s t).1.symm, fun i hi => by rw [joinS_loc p s t hl hi]; exact join_ub1 _ _, fun i hi => by rw [joinS_stk p s t hi]; exact join_ub1 _ _⟩
theorem join_up2 {p : List LClass} {s t : TSt} (hl : s.loc.length = 8) (hn : s.stk.length = t.stk.length) : LeS p t (joinS p s t) :=
 ⟨by rw [(joinS_len p s t).1, hn], fun i hi => by rw [joinS_loc p s t hl hi]; exact join_ub2 _ _, fun i hi => by rw [joinS_stk p s t (by omega)]; exact join_ub2 _ _⟩
def TyIn (p : List LClass) (s : TSt) : Prop := (∀ i, i < 8 → 3 ≤ s.loc.getD i 0 → s.loc.getD i 0 - 3 < (p.length : Int)) ∧ ∀ i, i < s.stk.length → 3 ≤ s.stk.getD i 0 → s.stk.getD i 0 - 3 < (p.length : Int)
theorem join_least {p : List LClass} (hs : SupOk p p.length) {s t u : TSt} (hl : s.loc.length = 8) (hT : TyIn p s) (h1 : LeS p s u) (h2 : LeS p t u) : LeS p (joinS p s t) u :=
 ⟨by rw [(joinS_len p s t).1, h1.n], fun i hi => by rw [joinS_loc p s t hl hi]; exact join_lub hs (h1.l i hi) (h2.l i hi) (hT.1 i hi), fun i hi => by
  rw [(joinS_len p s t).1] at hi
  rw [joinS_stk p s t hi]
  exact join_lub hs (h1.k i hi) (h2.k i (by rw [h2.n, ← h1.n]; exact hi)) (hT.2 i hi)⟩
def rankS (p : List LClass) (s : TSt) : Nat := (s.loc.map (rank p)).sum + (s.stk.map (rank p)).sum
theorem sum_mono {f : Int → Nat} : ∀ {l l' : List Int}, l.length = l'.length → (∀ i, i < l.length → f (l'.getD i 0) ≤ f (l.getD i 0)) → (l'.map f).sum ≤ (l.map f).sum ∧ ((∃ i, i < l.length ∧ f (l'.getD i 0) < f (l.getD i 0)) → (l'.map f).sum < (l.map f).sum)
 | [], [], _, _ => ⟨Nat.le_refl _, fun ⟨i, h, _⟩ => by simp at h⟩
 | a :: l, b :: l', h, hp => by
  have h0 : f b ≤ f a := hp 0 (by simp)
  obtain ⟨h1, h2⟩ := sum_mono (f := f) (l := l) (l' := l') (by simpa using h) (fun i hi => hp (i + 1) (by simpa using hi))
  simp only [List.map_cons, List.sum_cons]
  refine ⟨by omega, ?_⟩
  rintro ⟨i, hi, hlt⟩
  cases i with
  | zero =>
   have : f b < f a := hlt
   omega
  | succ i =>
   have := h2 ⟨i, by simpa using hi, hlt⟩
   omega
 | [], _ :: _, h, _ => by simp at h
 | _ :: _, [], h, _ => by simp at h
theorem rankS_join {p : List LClass} (hs : SupOk p p.length) (h6 : p.length ≤ 6) {s t : TSt} (hl : s.loc.length = 8) (ht : t.loc.length = 8) (hn : s.stk.length = t.stk.length) (hb : ¬ belowS p t s = true) : rankS p (joinS p s t) < rankS p s := by
 have hu := join_up1 (p := p) (s := s) (t := t) hl
 have hv := join_up2 (p := p) (s := s) (t := t) hl hn
 obtain ⟨j1, j2⟩ := joinS_len p s t
 obtain ⟨a1, a2⟩ := sum_mono (f := rank p) (l := s.loc) (l' := (joinS p s t).loc) j2.symm (fun i hi => (rank_mono hs h6 (hu.l i (by omega))).1)
 obtain ⟨b1, b2⟩ := sum_mono (f := rank p) (l := s.stk) (l' := (joinS p s t).stk) j1.symm (fun i hi => (rank_mono hs h6 (hu.k i hi)).1)
 unfold rankS
 rw [le_iff ht hl] at hb
 have : (∃ i, i < 8 ∧ belowB p (t.loc.getD i 0) (s.loc.getD i 0) = false) ∨ ∃ i, i < s.stk.length ∧ belowB p (t.stk.getD i 0) (s.stk.getD i 0) = false := by
  apply Classical.byContradiction
  intro hc
  apply hb
  refine ⟨hn.symm, fun i hi => ?_, fun i hi => ?_⟩
  ·cases e : belowB p (t.loc.getD i 0) (s.loc.getD i 0) with
   | true => rfl
   | false => exact absurd (.inl ⟨i, hi, e⟩) hc
  ·cases e : belowB p (t.stk.getD i 0) (s.stk.getD i 0) with
   | true => rfl
   | false => exact absurd (.inr ⟨i, by omega, e⟩) hc
 rcases this with ⟨i, hi, e⟩ | ⟨i, hi, e⟩
 ·have := a2 ⟨i, by omega, (rank_mono hs h6 (hu.l i hi)).2 (fun h => by
   have := hv.l i hi
   rw [← h, e] at this
   cases this)⟩
  omega
 ·have := b2 ⟨i, hi, (rank_mono hs h6 (hu.k i hi)).2 (fun h => by
   have := hv.k i (by omega)
   rw [← h, e] at this
   cases this)⟩
  omega
theorem rankS_le {p : List LClass} (hs : SupOk p p.length) (h6 : p.length ≤ 6) {s : TSt} (hl : s.loc.length = 8) (hk : s.stk.length ≤ 8) : rankS p s ≤ 320 := by
 have key : ∀ l : List Int, (l.map (rank p)).sum ≤ 20 * l.length := by
  intro l
  induction l with
  | nil => simp
  | cons a l ih =>
   have := rank_le hs h6 a
   simp only [List.map_cons, List.sum_cons, List.length_cons]
   omega
 have h1 := key s.loc
 have h2 := key s.stk
 unfold rankS
 omega
def sumN (f : Nat → Nat) : Nat → Nat
 | 0 => 0
 | n + 1 => sumN f n + f n
theorem sumN_upd {f g : Nat → Nat} {i : Nat} (h : ∀ j, j ≠ i → f j = g j) : ∀ n, (i < n → sumN f n + g i = sumN g n + f i) ∧ (n ≤ i → sumN f n = sumN g n)
 | 0 => ⟨fun h => by omega, fun _ => rfl⟩
 | n + 1 => by
  obtain ⟨h1, h2⟩ := sumN_upd h n
  refine ⟨fun hi => ?_, fun hi => ?_⟩
  ·show sumN f n + f n + g i = sumN g n + g n + f i
   by_cases e : i = n
   ·subst e
    rw [h2 (Nat.le_refl _)]
    omega
   ·have := h1 (by omega)
    have := h n (fun x => e x.symm)
    omega
  ·show sumN f n + f n = sumN g n + g n
   rw [h2 (by omega), h n (by omega)]
def mu (p : List LClass) (s : SvSt) : Nat := sumN (fun i => if s.re.getD i false then rankS p (s.st.getD i zeroS) else 400) 40
def cnt (s : SvSt) : Nat := sumN (fun i => if s.ra.getD i false then 1 else 0) 40
structure SvOk (p : List LClass) (m : LMeth) (s : SvSt) : Prop where
 l1 : s.st.length = 40
 l2 : s.re.length = 40
 l3 : s.ra.length = 40
 ok : ∀ i, i < 40 → (s.st.getD i zeroS).loc.length = 8 ∧ ((s.st.getD i zeroS).stk.length : Int) ≤ m.stack
theorem getD_set_self {α : Type} {l : List α} {i : Nat} (h : i < l.length) (x d : α) : (l.set i x).getD i d = x := by
 rw [List.getD_eq_getElem?_getD, List.getElem?_set_self h]; rfl
theorem getD_set_ne {α : Type} {l : List α} {i j : Nat} (h : j ≠ i) (x d : α) : (l.set i x).getD j d = l.getD j d := by
 rw [List.getD_eq_getElem?_getD, List.getElem?_set_ne (fun e => h e.symm), ← List.getD_eq_getElem?_getD]
theorem SvOk.put {p : List LClass} {m : LMeth} {s : SvSt} (h : SvOk p m s) {i : Nat} (hi : i < 40) {g : TSt} (hl : g.loc.length = 8) (hk : (g.stk.length : Int) ≤ m.stack) : SvOk p m (putP s i g) := by
 refine ⟨by simpa [putP] using h.l1, by simpa [putP] using h.l2, by simpa [putP] using h.l3, fun j hj => ?_⟩
 show ((s.st.set i g).getD j zeroS).loc.length = 8 ∧ _
 by_cases e : j = i
 ·subst e
  show ((s.st.set j g).getD j zeroS).loc.length = 8 ∧ (((s.st.set j g).getD j zeroS).stk.length : Int) ≤ m.stack
  rw [getD_set_self (by rw [h.l1]; exact hj)]
  exact ⟨hl, hk⟩
 ·show ((s.st.set i g).getD j zeroS).loc.length = 8 ∧ (((s.st.set i g).getD j zeroS).stk.length : Int) ≤ m.stack
  rw [getD_set_ne e]
  exact h.ok j hj
theorem put_mu {p : List LClass} {m : LMeth} {s : SvSt} (h : SvOk p m s) {i : Nat} (hi : i < 40) {g : TSt} (hlt : rankS p g < (if s.re.getD i false then rankS p (s.st.getD i zeroS) else 400)) : mu p (putP s i g) < mu p s ∧ cnt (putP s i g) ≤ cnt s + 1 := by
 constructor
 ·unfold mu
  have := (sumN_upd (i := i) (f := fun j => if (putP s i g).re.getD j false then rankS p ((putP s i g).st.getD j zeroS) else 400) (g := fun j => if s.re.getD j false then rankS p (s.st.getD j zeroS) else 400) (fun j hj => by
   show (if (s.re.set i true).getD j false then rankS p ((s.st.set i g).getD j zeroS) else 400) = _
   rw [getD_set_ne hj, getD_set_ne hj]) 40).1 hi
  have e : (if (putP s i g).re.getD i false then rankS p ((putP s i g).st.getD i zeroS) else 400) = rankS p g := by
   show (if (s.re.set i true).getD i false then rankS p ((s.st.set i g).getD i zeroS) else 400) = _
   rw [getD_set_self (by rw [h.l2]; exact hi), getD_set_self (by rw [h.l1]; exact hi), if_pos rfl]
  rw [e] at this
  omega
 ·unfold cnt
  have := (sumN_upd (i := i) (f := fun j => if (putP s i g).ra.getD j false then 1 else 0) (g := fun j => if s.ra.getD j false then 1 else 0) (fun j hj => by
   show (if (s.ra.set i true).getD j false then 1 else 0) = _
   rw [getD_set_ne hj]) 40).1 hi
  have e : (if (putP s i g).ra.getD i false then 1 else 0) ≤ 1 := by split <;> omega
  omega
def msr (p : List LClass) (s : SvSt) : Nat := mu p s * 41 + cnt s
section
variable {p : List LClass} {m : LMeth} (hs : SupOk p p.length) (h6 : p.length ≤ 6) (h8 : m.stack ≤ 8)
include hs h6 h8
theorem reach_msr {s s' : SvSt} (h : SvOk p m s) {i : Nat} (hi : i < 40) {g : TSt} (hl : g.loc.length = 8) (hk : (g.stk.length : Int) ≤ m.stack) (e : reachP p i g s = some s') : SvOk p m s' ∧ msr p s' ≤ msr p s := by
 unfold reachP at e
 split at e
 ·rename_i hre
  split at e
  ·cases e
   exact ⟨h, Nat.le_refl _⟩
  ·rename_i hb
   split at e
   ·rename_i hn
    cases e
    have ho := h.ok i hi
    obtain ⟨j1, j2⟩ := joinS_len p (s.st.getD i zeroS) g
    have hP := h.put hi (g := joinS p (s.st.getD i zeroS) g) (by rw [j2]; exact ho.1) (by rw [j1]; exact ho.2)
    refine ⟨hP, ?_⟩
    have := put_mu h hi (g := joinS p (s.st.getD i zeroS) g) (by rw [if_pos hre]; exact rankS_join hs h6 ho.1 hl hn hb)
    unfold msr
    omega
   ·cases e
 ·rename_i hre
  cases e
  refine ⟨h.put hi hl hk, ?_⟩
  have := put_mu h hi (g := g) (by rw [if_neg hre]; have := rankS_le hs h6 hl (by omega); omega)
  unfold msr
  omega
theorem reachAll_msr {n : TSt} (hl : n.loc.length = 8) (hk : (n.stk.length : Int) ≤ m.stack) : ∀ (l : List (Int × Bool)) (s s' : SvSt), SvOk p m s → (∀ y ∈ l, y.1.toNat < 40) → reachAll p n l s = some s' → SvOk p m s' ∧ msr p s' ≤ msr p s
 | [], s, s', h, _, e => by cases e; exact ⟨h, Nat.le_refl _⟩
 | y :: l, s, s', h, hy, e => by
  unfold reachAll at e
  obtain ⟨s1, e1, e2⟩ := bind_iff e
  obtain ⟨h1, h2⟩ := reach_msr hs h6 h8 h (hy y (by simp)) hl hk e1
  obtain ⟨h3, h4⟩ := reachAll_msr hl hk l s1 s' h1 (fun z hz => hy z (by simp [hz])) e2
  exact ⟨h3, by omega⟩
end
end Go.Proofs.YtiiokkllmchohaaGreat
/- The solver ends (pure). -/
namespace Go.Proofs.YtiiokkllmchohaaGreat
open Go.RowKit Go.Shelf

section
variable {p : List LClass} {m : LMeth}
theorem leave_len {t : Int} {s s' : TSt} (h : leaveS m t s = some s') (hk : (s.stk.length : Int) ≤ m.stack) : (s'.stk.length : Int) ≤ m.stack ∧ s'.loc = s.loc := by
 obtain ⟨h1, h2, h3⟩ := leaveS_iff h
 refine ⟨?_, h3⟩
 rw [h2, List.length_append, List.length_singleton]
 omega
theorem want_len {t : Int} {s s' : TSt} (h : wantS p t s = some s') (hk : (s.stk.length : Int) ≤ m.stack) : (s'.stk.length : Int) ≤ m.stack ∧ s'.loc = s.loc := by
 obtain ⟨u, h1, h2, _⟩ := wantS_iff h
 refine ⟨?_, h2⟩
 rw [h1, List.length_append] at hk
 omega
theorem wantO_len {s s' : TSt} (h : wantO s = some s') (hk : (s.stk.length : Int) ≤ m.stack) : (s'.stk.length : Int) ≤ m.stack ∧ s'.loc = s.loc := by
 obtain ⟨u, h1, h2, _⟩ := wantO_iff h
 refine ⟨?_, h2⟩
 rw [h1, List.length_append] at hk
 omega
theorem take_len {s s' : TSt} {t : Int} (h : takeS s = some (t, s')) (hk : (s.stk.length : Int) ≤ m.stack) : (s'.stk.length : Int) ≤ m.stack ∧ s'.loc = s.loc := by
 obtain ⟨h1, h2⟩ := takeS_iff h
 refine ⟨?_, h2⟩
 rw [h1, List.length_append] at hk
 omega
theorem wants_len : ∀ (l : List Int) {s s' : TSt}, wantsS p l s = some s' → (s.stk.length : Int) ≤ m.stack → (s'.stk.length : Int) ≤ m.stack ∧ s'.loc = s.loc
 | [], s, s', h, hk => by cases h; exact ⟨hk, rfl⟩
 | t :: l, s, s', h, hk => by
  unfold wantsS at h
  obtain ⟨s1, h1, h2⟩ := bind_iff h
  obtain ⟨a1, a2⟩ := want_len h1 hk
  obtain ⟨b1, b2⟩ := wants_len l h2 a1
  exact ⟨b1, b2.trans a2⟩
theorem do_len {i : LIns} {s s' : TSt} (h : doS p m i s = some s') (hl : s.loc.length = 8) (hk : (s.stk.length : Int) ≤ m.stack) : s'.loc.length = 8 ∧ (s'.stk.length : Int) ≤ m.stack := by
 unfold doS at h
 by_cases c : i.op = 0
 ·rw [if_pos c] at h
  obtain ⟨a, b⟩ := leave_len h hk
  exact ⟨by rw [b]; exact hl, a⟩
 rw [if_neg c] at h; clear c
 by_cases c : i.op = 1
 ·rw [if_pos c] at h
  obtain ⟨t, _, h⟩ := bind_iff h
  obtain ⟨a, b⟩ := leave_len h hk
  exact ⟨by rw [b]; exact hl, a⟩
 rw [if_neg c] at h; clear c
 by_cases c : i.op = 2
 ·rw [if_pos c] at h
  obtain ⟨⟨t, s1⟩, h1, h2⟩ := bind_iff h
  obtain ⟨a, b⟩ := take_len h1 hk
  obtain ⟨u, _, rfl⟩ := Option.map_eq_some_iff.1 h2
  exact ⟨by dsimp only; rw [List.length_set, b]; exact hl, a⟩
 rw [if_neg c] at h; clear c
 by_cases c : i.op = 3 ∨ i.op = 4 ∨ i.op = 5 ∨ i.op = 6
 ·rw [if_pos c] at h
  obtain ⟨s1, h1, h2⟩ := bind_iff h
  obtain ⟨s2, h3, h4⟩ := bind_iff h2
  obtain ⟨a1, b1⟩ := want_len h1 hk
  obtain ⟨a2, b2⟩ := want_len h3 a1
  obtain ⟨a3, b3⟩ := leave_len h4 a2
  exact ⟨by rw [b3, b2, b1]; exact hl, a3⟩
 rw [if_neg c] at h; clear c
 by_cases c : i.op = 8 ∨ i.op = 19
 ·rw [if_pos c] at h
  obtain ⟨a1, b1⟩ := want_len h hk
  exact ⟨by rw [b1]; exact hl, a1⟩
 rw [if_neg c] at h; clear c
 by_cases c : i.op = 9
 ·rw [if_pos c] at h
  obtain ⟨a, b⟩ := leave_len h hk
  exact ⟨by rw [b]; exact hl, a⟩
 rw [if_neg c] at h; clear c
 by_cases c : i.op = 10
 ·rw [if_pos c] at h
  obtain ⟨s1, h1, h2⟩ := bind_iff h
  obtain ⟨a1, b1⟩ := want_len h1 hk
  obtain ⟨a3, b3⟩ := leave_len h2 a1
  exact ⟨by rw [b3, b1]; exact hl, a3⟩
 rw [if_neg c] at h; clear c
 by_cases c : i.op = 11
 ·rw [if_pos c] at h
  obtain ⟨s1, h1, h2⟩ := bind_iff h
  obtain ⟨a1, b1⟩ := want_len h1 hk
  obtain ⟨a3, b3⟩ := want_len h2 a1
  exact ⟨by rw [b3, b1]; exact hl, a3⟩
 rw [if_neg c] at h; clear c
 by_cases c : i.op = 12
 ·rw [if_pos c] at h
  obtain ⟨s1, h1, h2⟩ := bind_iff h
  obtain ⟨s2, h3, h4⟩ := bind_iff h2
  obtain ⟨a1, b1⟩ := wants_len _ h1 hk
  obtain ⟨a2, b2⟩ := want_len h3 a1
  obtain ⟨a3, b3⟩ := leave_len h4 a2
  exact ⟨by rw [b3, b2, b1]; exact hl, a3⟩
 rw [if_neg c] at h; clear c
 by_cases c : i.op = 13
 ·rw [if_pos c] at h
  obtain ⟨a1, b1⟩ := want_len h hk
  exact ⟨by rw [b1]; exact hl, a1⟩
 rw [if_neg c] at h; clear c
 by_cases c : i.op = 14
 ·rw [if_pos c] at h
  obtain ⟨⟨t, s1⟩, h1, rfl⟩ := Option.map_eq_some_iff.1 h
  obtain ⟨a1, b1⟩ := take_len h1 hk
  exact ⟨by dsimp only; rw [b1]; exact hl, a1⟩
 rw [if_neg c] at h; clear c
 by_cases c : i.op = 15
 ·rw [if_pos c] at h
  obtain ⟨⟨t, s1⟩, h1, h2⟩ := bind_iff h
  obtain ⟨s2, h3, h4⟩ := bind_iff h2
  obtain ⟨a1, b1⟩ := take_len h1 hk
  obtain ⟨a2, b2⟩ := leave_len h3 a1
  obtain ⟨a3, b3⟩ := leave_len h4 a2
  exact ⟨by rw [b3, b2, b1]; exact hl, a3⟩
 rw [if_neg c] at h; clear c
 by_cases c : i.op = 16
 ·rw [if_pos c] at h
  obtain ⟨a, b⟩ := leave_len h hk
  exact ⟨by rw [b]; exact hl, a⟩
 rw [if_neg c] at h; clear c
 by_cases c : i.op = 17
 ·rw [if_pos c] at h
  obtain ⟨s1, h1, h2⟩ := bind_iff h
  obtain ⟨a1, b1⟩ := wantO_len (m := m) h1 hk
  obtain ⟨a3, b3⟩ := leave_len h2 a1
  exact ⟨by rw [b3, b1]; exact hl, a3⟩
 rw [if_neg c] at h; clear c
 by_cases c : i.op = 18
 ·rw [if_pos c] at h
  obtain ⟨a1, b1⟩ := wantO_len (m := m) h hk
  exact ⟨by rw [b1]; exact hl, a1⟩
 rw [if_neg c] at h; clear c
 by_cases c : i.op = 20
 ·rw [if_pos c] at h
  obtain ⟨⟨t, s1⟩, h1, h2⟩ := bind_iff h
  obtain ⟨⟨u, s2⟩, h3, h4⟩ := bind_iff h2
  obtain ⟨s3, h5, h6⟩ := bind_iff h4
  obtain ⟨a1, b1⟩ := take_len h1 hk
  obtain ⟨a2, b2⟩ := take_len h3 a1
  obtain ⟨a3, b3⟩ := leave_len h5 a2
  obtain ⟨a4, b4⟩ := leave_len h6 a3
  dsimp only at b2 b3
  exact ⟨by rw [b4, b3, b2, b1]; exact hl, a4⟩
 rw [if_neg c] at h
 cases h
 exact ⟨hl, hk⟩
theorem next_len {pc : Nat} {s s' : TSt} (h : nextS p m pc s = some s') (hl : s.loc.length = 8) (hk : (s.stk.length : Int) ≤ m.stack) : s'.loc.length = 8 ∧ (s'.stk.length : Int) ≤ m.stack := by
 unfold nextS at h
 obtain ⟨s1, h1, h2⟩ := bind_iff h
 split at h2
 ·cases h2
 ·cases h2
  exact do_len h1 hl hk
theorem clear_msr {s : SvSt} (h : SvOk p m s) {i : Nat} (hi : i < 40) (hr : s.ra.getD i false = true) : SvOk p m { s with ra := s.ra.set i false } ∧ msr p { s with ra := s.ra.set i false } + 1 = msr p s := by
 refine ⟨⟨h.l1, h.l2, by simpa using h.l3, h.ok⟩, ?_⟩
 have := (sumN_upd (i := i) (f := fun j => if (s.ra.set i false).getD j false then 1 else 0) (g := fun j => if s.ra.getD j false then 1 else 0) (fun j hj => by
  show (if (s.ra.set i false).getD j false then 1 else 0) = _
  rw [getD_set_ne hj]) 40).1 hi
 have e1 : (if (s.ra.set i false).getD i false then 1 else 0) = 0 := by rw [getD_set_self (by rw [h.l3]; exact hi)]; rfl
 have e2 : (if s.ra.getD i false then 1 else 0) = 1 := by rw [hr]; rfl
 unfold msr
 show mu p s * 41 + sumN (fun j => if (s.ra.set i false).getD j false then 1 else 0) 40 + 1 = mu p s * 41 + sumN (fun j => if s.ra.getD j false then 1 else 0) 40
 omega
variable (hs : SupOk p p.length) (h6 : p.length ≤ 6) (h8 : m.stack ≤ 8) (hi40 : m.code.length ≤ 40) (hins : ∀ i ∈ m.code, insB p m i = true)
include hs h6 h8 hi40 hins
theorem ask_msr {k : Nat} (hk : k < m.code.length) {s s' : SvSt × Bool} (h : SvOk p m s.1) (e : askP p m k s = some s') : SvOk p m s'.1 ∧ msr p s'.1 ≤ msr p s.1 ∧ (s' ≠ s → msr p s'.1 < msr p s.1) ∧ (s'.2 = s.2 ∨ (s'.2 = true ∧ msr p s'.1 < msr p s.1)) := by
 unfold askP at e
 split at e
 ·rename_i hr
  obtain ⟨s1, h1, rfl⟩ := Option.map_eq_some_iff.1 e
  obtain ⟨c1, c2⟩ := clear_msr h (show k < 40 by omega) hr
  unfold goOnP at h1
  obtain ⟨n, g1, g2⟩ := bind_iff h1
  have ho := c1.ok k (by omega)
  obtain ⟨n1, n2⟩ := next_len g1 ho.1 ho.2
  have hin := onward_in hk hins g1
  obtain ⟨r1, r2⟩ := reachAll_msr hs h6 h8 n1 n2 _ _ _ c1 (fun y hy => by have := hin y hy; omega) g2
  exact ⟨r1, by dsimp only; omega, fun _ => by dsimp only; omega, .inr ⟨rfl, by dsimp only; omega⟩⟩
 ·cases e
  exact ⟨h, Nat.le_refl _, fun e => absurd rfl e, .inl rfl⟩
theorem round_msr {s : SvSt} (h : SvOk p m s) : ∀ (k : Nat) (s' : SvSt × Bool), k ≤ m.code.length → roundP p m s k = some s' → SvOk p m s'.1 ∧ msr p s'.1 ≤ msr p s ∧ (s'.2 = true → msr p s'.1 < msr p s) ∧ (s'.2 = false → s'.1 = s)
 | 0, s', _, e => by cases e; exact ⟨h, Nat.le_refl _, fun e => (by cases e), fun _ => rfl⟩
 | k + 1, s', hk, e => by
  unfold roundP at e
  obtain ⟨s1, e1, e2⟩ := bind_iff e
  obtain ⟨a1, a2, a3, a4⟩ := round_msr h k s1 (by omega) e1
  obtain ⟨b1, b2, b3, b4⟩ := ask_msr hs h6 h8 hi40 hins (by omega) a1 e2
  refine ⟨b1, by omega, fun ht => ?_, fun hf => ?_⟩
  ·rcases b4 with b4 | ⟨_, b4⟩
   ·have := a3 (by rw [← b4]; exact ht)
    omega
   ·omega
  ·rcases b4 with b4 | ⟨b4, _⟩
   ·rw [hf] at b4
    have e0 := a4 b4.symm
    apply Classical.byContradiction
    intro hc
    have hne : s' ≠ s1 := fun e => hc (by rw [e]; exact e0)
    unfold askP at e2
    split at e2
    ·obtain ⟨s2, _, rfl⟩ := Option.map_eq_some_iff.1 e2
     cases hf
    ·cases e2
     exact hne rfl
   ·rw [hf] at b4; cases b4
theorem solve_ends : ∀ (n : Nat) (s : SvSt), SvOk p m s → msr p s < n → ∃ r, solveN p m n s = some r
 | 0, s, _, h => by omega
 | n + 1, s, h, hn => by
  unfold solveN
  cases e : roundP p m s m.code.length with
  | none => exact ⟨none, rfl⟩
  | some x =>
   obtain ⟨s', b⟩ := x
   obtain ⟨a1, a2, a3, a4⟩ := round_msr hs h6 h8 hi40 hins h _ _ (Nat.le_refl _) e
   cases b with
   | true =>
    have := a3 rfl
    exact solve_ends n s' a1 (by dsimp only at this; omega)
   | false => exact ⟨some s', rfl⟩
end
end Go.Proofs.YtiiokkllmchohaaGreat
