/- States: below. -/
import Derived.Test.YtiiokkllmchohaaGreatT12
/- StB -/
namespace Go.Proofs.YtiiokkllmchohaaGreat
open Go.RowKit Go.Shelf
attribute [local go_sem ↓] Go.wp_at_zero Go.wp_at_succ
attribute [local go_sem] frz_drew

theorem aggLoc : AggOk Tryz.prog 128 8 := ⟨by kernel_rfl, by kernel_rfl⟩
theorem wpList_index_arr {ops : Array Oper} {rest : List Oper} {o : Oper} {a : Act} {w : World} {Q : Exit → Act → World → Prop} (x y : Operand) (hgd : o.guard = none) (ho : o.op = .index 128 x y) (cs : List Value) (k : Nat) (v : Value) (hx : a.eval x = .agg cs.toArray) (hy : a.eval y = .int .i64 (k : Int)) (hk : k < 8) (hv : cs[k]? = some v)
    (hK : wpList Tryz.prog ops Q rest (a.put o.dst v) w) : wpList Tryz.prog ops Q (o :: rest) a w := by
  refine wpList_plain hgd fun K hK' => ?_
  have hr : (Instr.index 128 (.agg cs.toArray) (.int .i64 (k : Int))).run Tryz.prog w = .ok v w := by
    have hu : Tryz.prog.underlying 128 = some (.array 8 43) := by kernel_rfl
    obtain ⟨i0, hi0, hz0, hz1, hz2⟩ := info_parts infoType
    simp [Instr.index, asIntOf, run_underlying hu, part, sizeOf, typeInfo, hi0, hz1, hk, hv]
  unfold Oper.wp execOp
  simp only [ho, hx, hy, Sem.run_bind, Sem.run_pure, Result.andThen_ok, hr]
  exact hK' _ _ hK
theorem zip_step {p : List LClass} {l o : List Int} {k : Nat} (h1 : k < l.length) (h2 : k < o.length) : ((l.zip o).take (k + 1)).all (fun x => belowB p x.1 x.2) = (((l.zip o).take k).all (fun x => belowB p x.1 x.2) && belowB p l[k] o[k]) := by
  have hk : k < (l.zip o).length := by simp; omega
  rw [all_snoc hk, List.getElem_zip]
theorem zip_bad {p : List LClass} {l o : List Int} {k : Nat} (h1 : k < l.length) (h2 : k < o.length) (h : belowB p l[k] o[k] = false) : (l.zip o).all (fun x => belowB p x.1 x.2) = false := by
  rw [List.all_eq_false]
  exact ⟨(l[k], o[k]), by rw [← List.getElem_zip (h := by simp; omega)]; exact List.getElem_mem _, by simp [h]⟩
set_option maxHeartbeats 1000000 in
set_option maxRecDepth 100000 in
theorem st_below (p : List LClass) (vc : Value) (s t : TSt) (cs ds : List Value) (w : World) (hp : RProg w vc p) (hs : SupOk p p.length) (hz : p.length ≤ 4194304) (hS : StC s cs) (hT : StC t ds) (ts : ∀ x ∈ s.loc, tyOk p.length x) (ts' : ∀ x ∈ s.stk, tyOk p.length x) (tt : ∀ x ∈ t.loc, tyOk p.length x) (tt' : ∀ x ∈ t.stk, tyOk p.length x) :
    Calls Tryz.prog 141 #[.agg cs.toArray, .agg #[vc], .agg ds.toArray] w fun e w' => e = .returned (.bool (belowS p s t)) ∧ Below w.heap.size w w' := by
  have HP := hide hp
  have sl := hS.ok.1
  have tl := hT.ok.1
  have s8 := hS.ok.2
  obtain ⟨pa, _, _, pcap, rfl, _⟩ := hp
  have hbel : Below w.heap.size w (((w.alloc (.cells cs.toArray 130)).alloc (.cells #[.slice pa p.length pcap] 24)).alloc (.cells ds.toArray 130)) := ((box_below w _).alloc (by simp) _).alloc (by simp; omega) _
  have B0 : Blk (((w.alloc (.cells cs.toArray 130)).alloc (.cells #[.slice pa p.length pcap] 24)).alloc (.cells ds.toArray 130)) w.heap.size 130 cs := ((Blk.new w cs.toArray _).alloc _).alloc _
  have B1 : Blk (((w.alloc (.cells cs.toArray 130)).alloc (.cells #[.slice pa p.length pcap] 24)).alloc (.cells ds.toArray 130)) (w.heap.size + 1) 24 [.slice pa p.length pcap] := by
    have := Blk.new (w.alloc (.cells cs.toArray 130)) #[.slice pa p.length pcap] 24
    rw [World.size_alloc] at this
    exact this.alloc _
  have B2 : Blk (((w.alloc (.cells cs.toArray 130)).alloc (.cells #[.slice pa p.length pcap] 24)).alloc (.cells ds.toArray 130)) (w.heap.size + 1 + 1) 130 ds := by
    have := Blk.new ((w.alloc (.cells cs.toArray 130)).alloc (.cells #[.slice pa p.length pcap] 24)) ds.toArray 130
    rw [World.size_alloc, World.size_alloc] at this
    exact this
  have h0 : ((((w.alloc (.cells cs.toArray 130)).alloc (.cells #[.slice pa p.length pcap] 24)).alloc (.cells ds.toArray 130))).cell? ⟨w.heap.size, 16, none⟩ = some (.int .i64 (s.stk.length : Int)) := by rw [B0.cell]; exact hS.ht
  have h2 : ((((w.alloc (.cells cs.toArray 130)).alloc (.cells #[.slice pa p.length pcap] 24)).alloc (.cells ds.toArray 130))).cell? ⟨w.heap.size + 1 + 1, 16, none⟩ = some (.int .i64 (t.stk.length : Int)) := by rw [B2.cell]; exact hT.ht
  by_cases hlen : s.stk.length = t.stk.length
  · have hq : ((s.stk.length : Int) != (t.stk.length : Int)) = false := by rw [hlen]; simp
    have HB0 : Hid (belowS p s t = ((s.loc.zip t.loc).all (fun x => belowB p x.1 x.2) && (s.stk.zip t.stk).all (fun x => belowB p x.1 x.2))) := by
      show _ = _
      unfold belowS
      rw [hlen]; simp
    have HLEN := hide hlen
    clear hlen
    go_enter Tryz.func141, Tryz.ntmps141
    go_wp2_with (refine wpList_load_blk aggLoc B0 0 (s.loc.map (Value.int .i64)) (by simp [sl]) (fun j v e => by
        rw [List.getElem?_map] at e
        cases e' : s.loc[j]? with
        | none => rw [e'] at e; cases e
        | some x => rw [e'] at e; cases e; rw [Nat.zero_add]; exact hS.loc j x e') (.tmp 16) rfl rfl rfl ?_)
    generalize ((w.alloc _).alloc _).alloc _ = W at *
    go_loopw [18] (fun i wr => ∃ k : Nat, k ≤ 8 ∧ i = .int .i64 k ∧ ((s.loc.zip t.loc).take k).all (fun x => belowB p x.1 x.2) = true ∧ Below W.heap.size W wr) (fun i _ => 8 - (intOf i).toNat)
    case atStart => exact ⟨0, by omega, rfl, by simp, Below.refl _ _⟩
    case round =>
      obtain ⟨k, hk, rfl, hall, hb⟩ := hrel
      have C0 := B0.below hb B0.lt
      have C1 := B1.below hb B1.lt
      have C2 := B2.below hb B2.lt
      have HC := hide (And.intro C0 (And.intro C1 C2))
      have HBr := hide hb
      have HALL := hide hall
      have HRP := hide (prog_keep (Keeps.of_below (hbel.trans (hb.mono hbel.size))) (unhide HP))
      clear hall
      by_cases hlt : k < 8
      · have hk1 : k < s.loc.length := by omega
        have hk2 : k < t.loc.length := by omega
        have hx := ts _ (List.getElem_mem hk1)
        have hy := tt _ (List.getElem_mem hk2)
        have c1 : wr.cell? ⟨w.heap.size + 1, 0, none⟩ = some (.slice pa p.length pcap) := C1.cell 0
        have c2 : wr.cell? ⟨w.heap.size + 1 + 1, k, none⟩ = some (.int .i64 t.loc[k]) := by rw [C2.cell]; exact hT.loc k _ (List.getElem?_eq_getElem hk2)
        have HSTEP := hide (zip_step (p := p) hk1 hk2)
        have HBAD := hide (zip_bad (p := p) hk1 hk2)
        have hv : (s.loc.map (Value.int .i64))[k]? = some (.int .i64 s.loc[k]) := by rw [List.getElem?_map, List.getElem?_eq_getElem hk1]; rfl
        generalize s.loc[k] = x at *
        generalize t.loc[k] = y at *
        have hlt' : (k : Int) < 8 := by omega
        have k0 : (0 : Int) ≤ (k : Int) := by omega
        clear C0 C1 C2 hb
        go_wp2_with (refine wpList_index_arr (.tmp 17) (.tmp 18) rfl rfl (s.loc.map (Value.int .i64)) k (.int .i64 x) rfl rfl hlt hv ?_)
        refine wp_region_noPanic ?_
        refine wp_region_held_drew (S := (fun w' => w'.cell? ⟨w.heap.size + 1, 0, none⟩ = some (.slice pa p.length pcap) ∧ w'.cell? ⟨w.heap.size + 1 + 1, k, none⟩ = some (.int .i64 y))) (by kernel_rfl) ?_ (fun hHeld => ?_)
        · exact (And.intro c1 c2)
        refine take_x (some 22) 0 rfl rfl ?_
        try simp only [Act.put, List.setIfInBounds_toArray, List.set_cons_zero, List.set_cons_succ]
        refine take_x (some 23) 1 rfl rfl ?_
        try simp only [Act.put, List.setIfInBounds_toArray, List.set_cons_zero, List.set_cons_succ]
        refine take_x (some 24) 2 rfl rfl ?_
        try simp only [Act.put, List.setIfInBounds_toArray, List.set_cons_zero, List.set_cons_succ]
        refine take_x (some 25) 3 rfl rfl ?_
        try simp only [Act.put, List.setIfInBounds_toArray, List.set_cons_zero, List.set_cons_succ]
        refine take_x (some 26) 4 rfl rfl ?_
        try simp only [Act.put, List.setIfInBounds_toArray, List.set_cons_zero, List.set_cons_succ]
        refine take_x (some 27) 5 rfl rfl ?_
        try simp only [Act.put, List.setIfInBounds_toArray, List.set_cons_zero, List.set_cons_succ]
        refine wpAnyH_ready (rs := [6]) (by kernel_rfl) (by simp) ?_
        refine AllReadyH.cons rfl (fun K hK => ?_) AllReadyH.nil
        go_simp
        refine (code_kbelow p _ x y _ (prog_keep (Keeps.of_below ((Below.refl _ _).drew)) (unhide HRP)) hs hz hx hy).mono ?_
        rintro e w3 ⟨rfl, hb3⟩
        have hb3' : Below wr.heap.size wr w3 := ⟨hb3.os, hb3.tape, hb3.output, hb3.size, hb3.block⟩
        have kk := Keeps.of_below hb3'
        go_wp2_with fail
        refine hK.out _ _ (And.intro (kk _ _ c1) (kk _ _ c2)) (fun hHeld => ?_)
        clear hK K
        try simp only [Act.put, List.setIfInBounds_toArray, List.set_cons_zero, List.set_cons_succ]
        refine take_x (some 29) 7 rfl rfl ?_
        try simp only [Act.put, List.setIfInBounds_toArray, List.set_cons_zero, List.set_cons_succ]
        refine wpAnyH_done (by kernel_rfl) ?_ _
        refine NoPanic.normal ?_
        cases hq : belowB p x y with
        | false =>
          have HN : Hid (belowS p s t = false) := by show _ = _; rw [unhide HB0, unhide HBAD hq]; rfl
          have HF := hide (hbel.trans (((unhide HBr).trans (hb3'.mono (unhide HBr).size)).mono hbel.size))
          clear hq
          go_wp2_with fail
          go_ret
          rw [unhide HN]
          exact ⟨rfl, unhide HF⟩
        | true =>
          have HN : Hid (((s.loc.zip t.loc).take (k + 1)).all (fun x => belowB p x.1 x.2) = true) := by show _ = _; rw [unhide HSTEP, unhide HALL, hq]; rfl
          have HF := hide ((unhide HBr).trans (hb3'.mono (unhide HBr).size))
          clear hq
          go_wp2_with fail
          exact ⟨⟨k + 1, by omega, by go_num, unhide HN, unhide HF⟩, by simp [intOf]; omega⟩
      · obtain rfl : k = 8 := by omega
        have HA : Hid ((s.loc.zip t.loc).all (fun x => belowB p x.1 x.2) = true) := by
          have := unhide HALL
          rwa [List.take_of_length_le (by simp; omega)] at this
        have HB1 : Hid (belowS p s t = (s.stk.zip t.stk).all (fun x => belowB p x.1 x.2)) := by show _ = _; rw [unhide HB0, unhide HA, Bool.true_and]
        have q0 : wr.cell? ⟨w.heap.size, 16, none⟩ = some (.int .i64 (s.stk.length : Int)) := by rw [C0.cell]; exact hS.ht
        have n0 : (0 : Int) ≤ (s.stk.length : Int) := by omega
        have n8 : (s.stk.length : Int) ≤ 8 := by omega
        have hlt' : ¬ ((8 : Nat) : Int) < 8 := by omega
        clear HALL hlt
        have HLs := HLEN
        clear hq h0 h2
        go_wp2_with fail
        generalize wr = V at *
        have hbV := hbel.trans (hb.mono hbel.size)
        clear HBr hb HA HRP q0
        go_loopw [36] (fun i wr => ∃ k : Nat, k ≤ s.stk.length ∧ i = .int .i64 k ∧ ((s.stk.zip t.stk).take k).all (fun x => belowB p x.1 x.2) = true ∧ Below V.heap.size V wr) (fun i _ => s.stk.length - (intOf i).toNat)
        case atStart => exact ⟨0, by omega, rfl, by simp, Below.refl _ _⟩
        case round =>
          obtain ⟨k, hk, rfl, hall, hb⟩ := hrel
          have D0 := C0.below hb C0.lt
          have D1 := C1.below hb C1.lt
          have D2 := C2.below hb C2.lt
          have HBr := hide hb
          have HALL := hide hall
          have HRP := hide (prog_keep (Keeps.of_below (hbV.trans (hb.mono hbV.size))) (unhide HP))
          clear hall
          by_cases hlt : k < s.stk.length
          · have hk2 : k < t.stk.length := by have := unhide HLs; omega
            have hx := ts' _ (List.getElem_mem hlt)
            have hy := tt' _ (List.getElem_mem hk2)
            have c1 : wr.cell? ⟨w.heap.size + 1, 0, none⟩ = some (.slice pa p.length pcap) := D1.cell 0
            have c2 : wr.cell? ⟨w.heap.size + 1 + 1, 8 + k, none⟩ = some (.int .i64 t.stk[k]) := by rw [D2.cell]; exact hT.stk k _ (List.getElem?_eq_getElem hk2)
            have c0 : wr.cell? ⟨w.heap.size, 8 + k, none⟩ = some (.int .i64 s.stk[k]) := by rw [D0.cell]; exact hS.stk k _ (List.getElem?_eq_getElem hlt)
            have HSTEP := hide (zip_step (p := p) hlt hk2)
            have HBAD := hide (zip_bad (p := p) hlt hk2)
            generalize s.stk[k] = x at *
            generalize t.stk[k] = y at *
            have hlt' : (k : Int) < (s.stk.length : Int) := by omega
            have hlt8 : (k : Int) < 8 := by omega
            have k0 : (0 : Int) ≤ (k : Int) := by omega
            clear C0 C1 C2 D0 D1 D2 hb
            go_wp2_with fail
            refine wp_region_noPanic ?_
            refine wp_region_held_drew (S := (fun w' => w'.cell? ⟨w.heap.size + 1, 0, none⟩ = some (.slice pa p.length pcap) ∧ w'.cell? ⟨w.heap.size + 1 + 1, 8 + k, none⟩ = some (.int .i64 y))) (by kernel_rfl) ?_ (fun hHeld => ?_)
            · exact (And.intro c1 c2)
            refine take_x (some 41) 0 rfl rfl ?_
            try simp only [Act.put, List.setIfInBounds_toArray, List.set_cons_zero, List.set_cons_succ]
            refine take_x (some 42) 1 rfl rfl ?_
            try simp only [Act.put, List.setIfInBounds_toArray, List.set_cons_zero, List.set_cons_succ]
            refine take_x (some 43) 2 rfl rfl ?_
            try simp only [Act.put, List.setIfInBounds_toArray, List.set_cons_zero, List.set_cons_succ]
            refine take_x (some 44) 3 rfl rfl ?_
            try simp only [Act.put, List.setIfInBounds_toArray, List.set_cons_zero, List.set_cons_succ]
            refine take_x (some 45) 4 rfl rfl ?_
            try simp only [Act.put, List.setIfInBounds_toArray, List.set_cons_zero, List.set_cons_succ]
            refine take_x (some 46) 5 rfl rfl ?_
            try simp only [Act.put, List.setIfInBounds_toArray, List.set_cons_zero, List.set_cons_succ]
            refine wpAnyH_ready (rs := [6]) (by kernel_rfl) (by simp) ?_
            refine AllReadyH.cons rfl (fun K hK => ?_) AllReadyH.nil
            go_simp
            refine (code_kbelow p _ x y _ (prog_keep (Keeps.of_below ((Below.refl _ _).drew)) (unhide HRP)) hs hz hx hy).mono ?_
            rintro e w3 ⟨rfl, hb3⟩
            have hb3' : Below wr.heap.size wr w3 := ⟨hb3.os, hb3.tape, hb3.output, hb3.size, hb3.block⟩
            have kk := Keeps.of_below hb3'
            go_wp2_with fail
            refine hK.out _ _ (And.intro (kk _ _ c1) (kk _ _ c2)) (fun hHeld => ?_)
            clear hK K
            try simp only [Act.put, List.setIfInBounds_toArray, List.set_cons_zero, List.set_cons_succ]
            refine take_x (some 48) 7 rfl rfl ?_
            try simp only [Act.put, List.setIfInBounds_toArray, List.set_cons_zero, List.set_cons_succ]
            refine wpAnyH_done (by kernel_rfl) ?_ _
            refine NoPanic.normal ?_
            cases hq : belowB p x y with
            | false =>
              have HN : Hid (belowS p s t = false) := by show _ = _; rw [unhide HB1, unhide HBAD hq]
              have HF := hide (hbV.trans (((unhide HBr).trans (hb3'.mono (unhide HBr).size)).mono hbV.size))
              clear hq
              go_wp2_with fail
              go_ret
              rw [unhide HN]
              exact ⟨rfl, unhide HF⟩
            | true =>
              have HN : Hid (((s.stk.zip t.stk).take (k + 1)).all (fun x => belowB p x.1 x.2) = true) := by show _ = _; rw [unhide HSTEP, unhide HALL, hq]; rfl
              have HF := hide ((unhide HBr).trans (hb3'.mono (unhide HBr).size))
              clear hq
              go_wp2_with fail
              exact ⟨⟨k + 1, by omega, by go_num, unhide HN, unhide HF⟩, by simp [intOf]; omega⟩
          · have HA : Hid (belowS p s t = true) := by
              have := unhide HALL
              rw [List.take_of_length_le (by simp; omega)] at this
              show _ = _
              rw [unhide HB1, this]
            have hlt' : ¬ (k : Int) < (s.stk.length : Int) := by omega
            have HF := hide (hbV.trans ((unhide HBr).mono hbV.size))
            clear hlt
            go_wp2_with fail
            go_ret
            rw [unhide HA]
            exact ⟨rfl, unhide HF⟩
  · have hq : ((s.stk.length : Int) != (t.stk.length : Int)) = true := by simp; omega
    have HN : Hid (belowS p s t = false) := by
      show _ = _
      unfold belowS
      have : (s.stk.length == t.stk.length) = false := by simpa using hlen
      rw [this]; rfl
    clear hlen
    go_enter Tryz.func141, Tryz.ntmps141
    go_wp2_with fail
    go_ret
    rw [unhide HN]
    exact ⟨rfl, hbel⟩
end Go.Proofs.YtiiokkllmchohaaGreat
/- The least type above two. -/
namespace Go.Proofs.YtiiokkllmchohaaGreat
open Go.RowKit Go.Shelf
attribute [local go_sem ↓] Go.wp_at_zero Go.wp_at_succ
attribute [local go_sem] frz_drew

def upB (p : List LClass) (b : Int) (l : List Nat) : Int := match l.find? (fun (c : Nat) => belowB p b ((c : Int) + 3)) with
  | some c => (c : Int) + 3
  | none => 2
def joinB (p : List LClass) (a b : Int) : Int := if belowB p a b then b else if 3 ≤ a then upB p b (chainOf p (a - 3)) else 2
theorem upB_hit {p : List LClass} {b : Int} {c : Nat} {l : List Nat} (h : belowB p b ((c : Int) + 3) = true) : upB p b (c :: l) = (c : Int) + 3 := by
  unfold upB
  rw [List.find?_cons_of_pos (p := fun (c : Nat) => belowB p b ((c : Int) + 3)) h]
theorem upB_next {p : List LClass} {b : Int} {c : Nat} {l : List Nat} (h : belowB p b ((c : Int) + 3) = false) : upB p b (c :: l) = upB p b l := by
  unfold upB
  rw [List.find?_cons_of_neg (p := fun (c : Nat) => belowB p b ((c : Int) + 3)) (by simp [h])]
set_option maxHeartbeats 1000000 in
set_option maxRecDepth 100000 in
theorem code_join (p : List LClass) (vc : Value) (a b : Int) (w : World) (hp : RProg w vc p) (hs : SupOk p p.length) (hz : p.length ≤ 4194304) (ha : tyOk p.length a) (hb : tyOk p.length b) :
    Calls Tryz.prog 199 #[.agg #[vc], .int .i64 a, .int .i64 b] w fun e w' => e = .returned (.int .i64 (joinB p a b)) ∧ Below w.heap.size w w' := by
  have HP := hide hp
  obtain ⟨pa, pb, poff, pcap, rfl, hcap, hpa, hpr⟩ := sl_open hp
  have HPR := hide hpr
  clear hpr hp
  have hbel : Below w.heap.size w (w.alloc (.cells #[.slice pa p.length pcap] 24)) := box_below _ _
  have B0 : Blk (w.alloc (.cells #[.slice pa p.length pcap] 24)) w.heap.size 24 [.slice pa p.length pcap] := Blk.new w _ _
  have HRP := hide (prog_keep (Keeps.of_below hbel) (unhide HP))
  go_enter Tryz.func199, Tryz.ntmps199
  go_wp2_with fail
  refine (code_kbelow p _ a b _ (unhide HRP) hs hz ha hb).mono ?_
  rintro e w1 ⟨rfl, hb1⟩
  replace B0 := B0.below hb1 B0.lt
  have hbw := hbel.trans (hb1.mono hbel.size)
  clear hbel hb1 HRP
  cases hq : belowB p a b with
  | true =>
    have HJ : Hid (joinB p a b = b) := by show _ = _; unfold joinB; rw [if_pos hq]
    clear hq
    go_wp2_with fail
    go_ret
    rw [unhide HJ]
    exact ⟨rfl, hbw⟩
  | false =>
    have HJ : Hid (joinB p a b = if 3 ≤ a then upB p b (chainOf p (a - 3)) else 2) := by show _ = _; unfold joinB; rw [hq]; rfl
    clear hq
    go_wp2_with fail
    refine (code_isclass a _).mono ?_
    rintro e w2 ⟨rfl, rfl⟩
    by_cases h3 : 3 ≤ a
    · have HJ2 : Hid (joinB p a b = upB p b (chainOf p (a - 3))) := by show _ = _; rw [unhide HJ, if_pos h3]
      have h3' : decide (3 ≤ a) = true := by simpa using h3
      rw [h3']
      go_wp2_with fail
      refine (code_classof a (by omega) (by have := ha.2; omega) _).mono ?_
      rintro e w3 ⟨rfl, rfl⟩
      have hlt := ha.2
      clear HJ h3'
      go_wp2_with fail
      go_loopw [7] (fun s7 wr => ∃ c : Int, -1 ≤ c ∧ c < (p.length : Int) ∧ s7 = .int .i64 c ∧ joinB p a b = upB p b (chainOf p c) ∧ Below w3.heap.size w3 wr) (fun s7 _ => (intOf s7 + 1).toNat)
      case atStart => exact ⟨a - 3, by omega, by omega, rfl, unhide HJ2, Below.refl _ _⟩
      case round =>
        obtain ⟨c, hc1, hc2, rfl, hj, hbr⟩ := hrel
        have HJc := hide hj
        have HBr := hide hbr
        have hbw3 := hbw.trans (hbr.mono hbw.size)
        have C0 := B0.below hbr B0.lt
        have q0 : wr.cell? ⟨w.heap.size, 0, none⟩ = some (.slice pa p.length pcap) := C0.cell 0
        have HRP := hide (prog_keep (Keeps.of_below hbw3) (unhide HP))
        clear hj hbr HJ2
        rcases Int.lt_or_le c 0 with hneg | hpos
        · have HJ3 : Hid (joinB p a b = 2) := by show _ = _; rw [unhide HJc, chainOf_neg p hneg]; rfl
          have hneg' : ¬ 0 ≤ c := by omega
          go_wp2_with fail
          go_ret
          rw [unhide HJ3]
          exact ⟨rfl, hbw3⟩
        · obtain ⟨i, rfl⟩ := Int.eq_ofNat_of_zero_le hpos
          have hi : i < p.length := by omega
          obtain rfl := hpa (ne_nil_of_lt hi)
          have hX := List.getElem?_eq_getElem hi
          have hsup := supB_le (hs i _ hi hX)
          have HCC := hide (chainOf_cons p hs hi hX)
          obtain ⟨vf, vm, c0, _, _, _, _⟩ := unhide HPR i hi
          have d0 := Keeps.of_below hbw3 _ _ c0
          clear c0 hX
          generalize p[i] = x at *
          go_wp2_with fail
          refine wp_region_noPanic ?_
          refine wp_region_held_drew (S := (fun w' => w'.cell? ⟨w.heap.size, 0, none⟩ = some (.slice (some ⟨pb, poff, none⟩) p.length pcap))) (by kernel_rfl) ?_ (fun hHeld => ?_)
          · exact q0
          refine take_x (some 25) 0 rfl rfl ?_
          try simp only [Act.put, List.setIfInBounds_toArray, List.set_cons_zero, List.set_cons_succ]
          refine take_x (some 26) 1 rfl rfl ?_
          try simp only [Act.put, List.setIfInBounds_toArray, List.set_cons_zero, List.set_cons_succ]
          refine take_x (some 27) 2 rfl rfl ?_
          try simp only [Act.put, List.setIfInBounds_toArray, List.set_cons_zero, List.set_cons_succ]
          refine wpAnyH_ready (rs := [3]) (by kernel_rfl) (by simp) ?_
          refine AllReadyH.cons rfl (fun K hK => ?_) AllReadyH.nil
          go_simp
          refine (code_of i (by omega) (by omega) _).mono ?_
          rintro e w4 ⟨rfl, rfl⟩
          go_wp2_with fail
          refine hK.out _ _ q0 (fun hHeld => ?_)
          clear hK K
          try simp only [Act.put, List.setIfInBounds_toArray, List.set_cons_zero, List.set_cons_succ]
          refine wpAnyH_ready (rs := [4]) (by kernel_rfl) (by simp) ?_
          refine AllReadyH.cons rfl (fun K hK => ?_) AllReadyH.nil
          go_simp
          refine (code_kbelow p _ b ((i : Int) + 3) _ (prog_keep (Keeps.of_below ((Below.refl _ _).drew)) (unhide HRP)) hs hz hb ⟨by omega, by omega⟩).mono ?_
          rintro e w5 ⟨rfl, hb5⟩
          have hb5' : Below wr.heap.size wr w5 := ⟨hb5.os, hb5.tape, hb5.output, hb5.size, hb5.block⟩
          have C5 := C0.below hb5' C0.lt
          have q5 : w5.cell? ⟨w.heap.size, 0, none⟩ = some (.slice (some ⟨pb, poff, none⟩) p.length pcap) := C5.cell 0
          have d5 := Keeps.of_below hb5' _ _ d0
          go_wp2_with fail
          refine hK.out _ _ q5 (fun hHeld => ?_)
          clear hK K
          try simp only [Act.put, List.setIfInBounds_toArray, List.set_cons_zero, List.set_cons_succ]
          refine wpAnyH_done (by kernel_rfl) ?_ _
          refine NoPanic.normal ?_
          have hbw5 := hbw3.trans (hb5'.mono hbw3.size)
          cases hq : belowB p b ((i : Int) + 3) with
          | true =>
            have HJ3 : Hid (joinB p a b = (i : Int) + 3) := by show _ = _; rw [unhide HJc, unhide HCC, upB_hit hq]
            clear hq
            go_wp2_with fail
            refine (code_of i (by omega) (by omega) _).mono ?_
            rintro e w6 ⟨rfl, rfl⟩
            go_wp2_with fail
            go_ret
            rw [unhide HJ3]
            exact ⟨rfl, hbw5⟩
          | false =>
            have HJ3 : Hid (joinB p a b = upB p b (chainOf p x.sup)) := by show _ = _; rw [unhide HJc, unhide HCC, upB_next hq]
            have HB5 := hide ((unhide HBr).trans (hb5'.mono (unhide HBr).size))
            clear hq
            go_wp2_with fail
            exact ⟨⟨x.sup, hsup.1, by omega, rfl, unhide HJ3, unhide HB5⟩, by simp [intOf]; omega⟩
    · have HJ2 : Hid (joinB p a b = 2) := by show _ = _; rw [unhide HJ, if_neg h3]
      have h3' : decide (3 ≤ a) = false := by simpa using h3
      rw [h3']
      clear HJ h3'
      go_wp2_with fail
      go_ret
      rw [unhide HJ2]
      exact ⟨rfl, hbw⟩
end Go.Proofs.YtiiokkllmchohaaGreat
/- The least state above two (pure side). -/
namespace Go.Proofs.YtiiokkllmchohaaGreat
open Go.RowKit

def setK (s : TSt) (i : Nat) (t : Int) : TSt := { s with stk := s.stk.set i t }
def joinK (p : List LClass) (s t : TSt) : Nat → TSt
  | 0 => s
  | k + 1 => setL (joinK p s t k) k (joinB p (s.loc.getD k 0) (t.loc.getD k 0))
def joinT (p : List LClass) (s t : TSt) : Nat → TSt
  | 0 => joinK p s t 8
  | k + 1 => setK (joinT p s t k) k (joinB p (s.stk.getD k 0) (t.stk.getD k 0))
def joinS (p : List LClass) (s t : TSt) : TSt := joinT p s t s.stk.length
theorem joinK_stk (p : List LClass) (s t : TSt) : ∀ k, (joinK p s t k).stk = s.stk
  | 0 => rfl
  | k + 1 => joinK_stk p s t k
theorem joinK_get (p : List LClass) (s t : TSt) (i : Nat) : ∀ k, k ≤ i → (joinK p s t k).loc[i]? = s.loc[i]?
  | 0, _ => rfl
  | k + 1, h => by
    show ((joinK p s t k).loc.set k _)[i]? = _
    rw [List.getElem?_set_ne (by omega), joinK_get p s t i k (by omega)]
theorem joinT_len (p : List LClass) (s t : TSt) : ∀ k, (joinT p s t k).stk.length = s.stk.length
  | 0 => by
    show (joinK p s t 8).stk.length = _
    rw [joinK_stk]
  | k + 1 => by
    show ((joinT p s t k).stk.set k _).length = _
    rw [List.length_set, joinT_len p s t k]
theorem joinT_get (p : List LClass) (s t : TSt) (i : Nat) : ∀ k, k ≤ i → (joinT p s t k).stk[i]? = s.stk[i]?
  | 0, _ => by
    show (joinK p s t 8).stk[i]? = _
    rw [joinK_stk]
  | k + 1, h => by
    show ((joinT p s t k).stk.set k _)[i]? = _
    rw [List.getElem?_set_ne (by omega), joinT_get p s t i k (by omega)]
theorem StC.setStk {s : TSt} {cs : List Value} (h : StC s cs) (i : Nat) (t : Int) (hi : i < s.stk.length) : StC (setK s i t) (cs.set (8 + i) (.int .i64 t)) := by
  have h8 := h.ok.2
  have hl := h.ok.1
  have hc := h.len
  refine ⟨⟨hl, by simpa [setK] using h8⟩, by simpa using hc, ints_set h.ints _ _, fun j x e => ?_, fun j x e => ?_, ?_⟩
  · have hj : j < s.loc.length := (List.getElem?_eq_some_iff.1 e).1
    rw [List.getElem?_set_ne (by omega)]
    exact h.loc j x e
  · have e' : (s.stk.set i t)[j]? = some x := e
    by_cases hij : i = j
    · subst hij
      rw [List.getElem?_set_self hi] at e'
      obtain rfl := Option.some.inj e'
      rw [List.getElem?_set_self (by omega)]
    · rw [List.getElem?_set_ne hij] at e'
      rw [List.getElem?_set_ne (by omega)]
      exact h.stk j x e'
  · rw [List.getElem?_set_ne (by omega)]
    have : (setK s i t).stk.length = s.stk.length := by simp [setK]
    rw [this]
    exact h.ht
end Go.Proofs.YtiiokkllmchohaaGreat
/- The pass: frames, and what must be below them. -/
namespace Go.Proofs.YtiiokkllmchohaaGreat
open Go.RowKit Go.Shelf
attribute [local go_sem ↓] Go.wp_at_zero Go.wp_at_succ
attribute [local go_sem] frz_drew

theorem results_blk2 {P : Program} {fn : Func} {t u : Tmp} {ty t' : TypeId} {n g : Nat} {w : World} {vs : List Value} {tmps : Array Value} (h : fn.results = #[.cell t ty, .tmp u]) (hA : AggOk P ty n) (hB : Blk w g t' vs) (hl : vs.length = n) (hx : tmps.getD t undef = .pointer (some ⟨g, 0, none⟩)) :
    (results fn tmps).run P w = .ok (.tuple #[.agg vs.toArray, tmps.getD u undef]) w := by
  have := run_load_blk hA hB 0 vs hl (fun j v e => by simpa using e)
  have hx' : tmps[t]?.getD undef = .pointer (some ⟨g, 0, none⟩) := by rw [← hx]; simp
  simp [results, h, hx', asAddr, this]

def FrOk (p : List LClass) (m : LMeth) : Prop := ∀ f ∈ m.frames, f.locals.length ≤ 8 ∧ f.stack.length ≤ 8 ∧ TyS p.length m.stack (toldS f)
def zero17 : List Value := List.replicate 17 (.int .i64 0)
theorem zero17_one : ∀ v ∈ zero17, v.oneCell' = true := by
  intro v hv
  simp only [zero17, List.mem_replicate] at hv
  rcases hv with ⟨_, rfl⟩; rfl
def frameV (m : LMeth) (pc : Int) : Value := match frameAtS m pc with
  | some t => .tuple #[.agg (stCells t).toArray, .bool true]
  | none => .tuple #[.agg zero17.toArray, .bool false]
theorem frameAtS_hit {m : LMeth} {pc : Int} {k : Nat} (hk : k < m.frames.length) (hb : ∀ j, (hj : j < k) → m.frames[j].pc ≠ pc) (h : m.frames[k].pc = pc) : frameAtS m pc = some (toldS m.frames[k]) := by
  unfold frameAtS
  rw [List.find?_eq_some_iff_getElem.2 ⟨by simpa using h, k, hk, rfl, fun j hj => by simpa using hb j hj⟩]; rfl
theorem frameAtS_no {m : LMeth} {pc : Int} (h : ∀ j, (hj : j < m.frames.length) → m.frames[j].pc ≠ pc) : frameAtS m pc = none := by
  unfold frameAtS
  rw [List.find?_eq_none.2 (fun x hx => by
    obtain ⟨j, hj, rfl⟩ := List.getElem_of_mem hx
    simpa using h j hj)]; rfl
theorem frameAtS_mem {m : LMeth} {pc : Int} {t : TSt} (h : frameAtS m pc = some t) : ∃ f ∈ m.frames, t = toldS f := by
  unfold frameAtS at h
  cases e : m.frames.find? fun f => f.pc == pc with
  | none => rw [e] at h; cases h
  | some f => rw [e] at h; exact ⟨f, List.mem_of_find?_eq_some e, (Option.some.inj h).symm⟩

set_option maxHeartbeats 1000000 in
set_option maxRecDepth 100000 in
theorem pass_frameAt (p : List LClass) (m : LMeth) (va vco vf : Value) (pc : Int) (w : World) (hv : GVals w.cell? m va vco vf) (hF : FrOk p m) (h40 : m.frames.length ≤ 40) :
    Calls Tryz.prog 100 #[methV m va vco vf, .int .i64 pc] w fun e w' => e = .returned (frameV m pc) ∧ Below w.heap.size w w' := by
  unfold methV
  obtain ⟨hva, hvc, hvf⟩ := hv
  obtain ⟨aa, _, _, acap, rfl, _⟩ := hva
  obtain ⟨ca, _, _, ccap, rfl, _⟩ := hvc
  obtain ⟨fa, fb, foff, fcap, rfl, hfcap, hfa, hfr⟩ := sl_open hvf
  have HFR := hide hfr
  clear hfr hvf
  have hbel : Below w.heap.size w ((w.alloc (.cells #[.int .i64 m.slot, .slice aa m.args.length acap, .int .i64 m.ret, .int .i64 m.locals, .int .i64 m.stack, .slice ca m.code.length ccap, .slice fa m.frames.length fcap] 63)).alloc (.cells zero17.toArray 130)) := box2_below _ _ _
  have B1 : Blk ((w.alloc (.cells #[.int .i64 m.slot, .slice aa m.args.length acap, .int .i64 m.ret, .int .i64 m.locals, .int .i64 m.stack, .slice ca m.code.length ccap, .slice fa m.frames.length fcap] 63)).alloc (.cells zero17.toArray 130)) (w.heap.size + 1) 130 zero17 := by
    have := Blk.new (w.alloc (.cells #[.int .i64 m.slot, .slice aa m.args.length acap, .int .i64 m.ret, .int .i64 m.locals, .int .i64 m.stack, .slice ca m.code.length ccap, .slice fa m.frames.length fcap] 63)) zero17.toArray 130
    rw [World.size_alloc] at this
    exact this
  go_enter Tryz.func100, Tryz.ntmps100
  go_wp2_with fail
  generalize hW : (w.alloc _).alloc _ = W
  have hbW : Below w.heap.size w W := by rw [← hW]; exact hbel
  have BW : Blk W (w.heap.size + 1) 130 zero17 := by rw [← hW]; exact B1
  clear hW hbel B1
  go_loopw [11] (fun i wr => ∃ k : Nat, k ≤ m.frames.length ∧ i = .int .i64 k ∧ (∀ j, (hj : j < m.frames.length) → j < k → m.frames[j].pc ≠ pc) ∧ Below W.heap.size W wr) (fun i _ => m.frames.length - (intOf i).toNat)
  case atStart => exact ⟨0, by omega, rfl, fun j _ h => absurd h (by omega), Below.refl _ _⟩
  case round =>
    obtain ⟨k, hk, rfl, hno, hb⟩ := hrel
    have hbr := hbW.trans (hb.mono hbW.size)
    have C1 := BW.below hb BW.lt
    have HNO := hide hno
    have HBR := hide hb
    clear hno hb
    by_cases hlt : k < m.frames.length
    · obtain rfl := hfa (ne_nil_of_lt hlt)
      obtain ⟨vl, vs, c0, c1, c2, hl, hst⟩ := unhide HFR k hlt
      obtain ⟨f1, f2, _⟩ := hF _ (List.getElem_mem hlt)
      have kp := Keeps.of_below hbr
      have q0 := kp _ _ c0
      have q1 := kp _ _ c1
      have q2 := kp _ _ c2
      have HL := hide (ints_keep kp hl)
      have HS := hide (ints_keep kp hst)
      obtain ⟨la, lcap, rfl, _, _⟩ := ints_src hl
      obtain ⟨sa, scap, rfl, _, _⟩ := ints_src hst
      clear c0 c1 c2 hl hst kp
      have hlt' : (k : Int) < (m.frames.length : Int) := by omega
      have k0 : (0 : Int) ≤ (k : Int) := by omega
      by_cases hq : m.frames[k].pc = pc
      · have HV : Hid (frameV m pc = .tuple #[.agg (stCells (toldS m.frames[k])).toArray, .bool true]) := by
          show _ = _
          unfold frameV
          rw [frameAtS_hit hlt (fun j hj => unhide HNO j (by omega) hj) hq]
        have hq' : (m.frames[k].pc == pc) = true := by simpa using hq
        clear hq
        generalize m.frames[k] = f at *
        have hb2 := box_below wr (.cells #[.int .i64 f.pc, .slice la f.locals.length lcap, .slice sa f.stack.length scap] 42)
        have HL2 := hide (ints_keep (Keeps.of_below hb2) (unhide HL))
        have HS2 := hide (ints_keep (Keeps.of_below hb2) (unhide HS))
        have D1 := C1.below hb2 C1.lt
        have HB2 := hide hb2
        clear hb2
        go_wp2_with fail
        refine (st_told f _ _ _ (unhide HL2) (unhide HS2) f1 f2).mono ?_
        rintro e w3 ⟨rfl, hb3⟩
        have E1 := D1.below hb3 D1.lt
        have hok := okS_told f1 f2
        have hbf : Below w.heap.size w w3 := hbr.trans (((unhide HB2).trans (hb3.mono (unhide HB2).size)).mono hbr.size)
        go_wp2_with (refine wpList_store_blk aggSt E1 0 _ (stCells_len hok) (by simp [zero17]) (StC_cells hok).one (.tmp 4) (.tmp 20) rfl rfl rfl rfl ?_; intro w7 hB7 hM7 hs7)
        rw [putAt_all (by rw [stCells_len hok]; rfl)] at hB7
        refine bodyPost_ret (results_blk2 rfl aggSt hB7 (stCells_len hok) rfl) rfl ?_
        rw [unhide HV]
        exact ⟨rfl, hbf.trans (hM7.below hbf.size (fun k hk e => by omega))⟩
      · have hq' : (m.frames[k].pc == pc) = false := by simpa using hq
        have HNO2 : Hid (∀ j, (hj : j < m.frames.length) → j < k + 1 → m.frames[j].pc ≠ pc) := fun j hj hjk => by
          rcases Nat.lt_or_ge j k with h | h
          · exact unhide HNO j hj h
          · obtain rfl : j = k := by omega
            exact hq
        clear hq HNO
        generalize m.frames[k] = f at *
        have HB2 := hide ((unhide HBR).trans ((box_below wr (.cells #[.int .i64 f.pc, .slice la f.locals.length lcap, .slice sa f.stack.length scap] 42)).mono (unhide HBR).size))
        go_wp2_with fail
        exact ⟨⟨k + 1, by omega, by go_num, unhide HNO2, unhide HB2⟩, by simp [intOf]; omega⟩
    · have HV : Hid (frameV m pc = .tuple #[.agg zero17.toArray, .bool false]) := by
        show _ = _
        unfold frameV
        rw [frameAtS_no (fun j hj => unhide HNO j hj (by omega))]
      have hlt' : ¬ (k : Int) < (m.frames.length : Int) := by omega
      clear hlt
      go_wp2_with (refine wpList_store_blk aggSt C1 0 zero17 rfl (by simp [zero17]) zero17_one (.tmp 4) (.tmp 22) rfl rfl rfl rfl ?_; intro w7 hB7 hM7 hs7)
      rw [putAt_all (by rfl : zero17.length = zero17.length)] at hB7
      refine bodyPost_ret (results_blk2 rfl aggSt hB7 rfl rfl) rfl ?_
      rw [unhide HV]
      exact ⟨rfl, hbr.trans (hM7.below hbr.size (fun k hk e => by omega))⟩
end Go.Proofs.YtiiokkllmchohaaGreat
/- The least state above two: the code. -/
namespace Go.Proofs.YtiiokkllmchohaaGreat
open Go.RowKit Go.Shelf
attribute [local go_sem ↓] Go.wp_at_zero Go.wp_at_succ
attribute [local go_sem] frz_drew

def JoinR (p : List LClass) (s t : TSt) (w w' : World) (e : Ending) : Prop :=
  (s.stk.length = t.stk.length → ∃ cs', e = .returned (.tuple #[.agg cs'.toArray, .bool true]) ∧ StC (joinS p s t) cs') ∧ (s.stk.length ≠ t.stk.length → e = .returned (.tuple #[.agg zero17.toArray, .bool false])) ∧ Below w.heap.size w w'
set_option maxHeartbeats 1000000 in
set_option maxRecDepth 100000 in
theorem st_join (p : List LClass) (vc : Value) (s t : TSt) (cs ds : List Value) (w : World) (hp : RProg w vc p) (hs : SupOk p p.length) (hz : p.length ≤ 4194304) (hS : StC s cs) (hT : StC t ds) (ts : ∀ x ∈ s.loc, tyOk p.length x) (ts' : ∀ x ∈ s.stk, tyOk p.length x) (tt : ∀ x ∈ t.loc, tyOk p.length x) (tt' : ∀ x ∈ t.stk, tyOk p.length x) :
    Calls Tryz.prog 142 #[.agg cs.toArray, .agg #[vc], .agg ds.toArray] w fun e w' => JoinR p s t w w' e := by
  have HP := hide hp
  have sl := hS.ok.1
  have tl := hT.ok.1
  have s8 := hS.ok.2
  obtain ⟨pa, _, _, pcap, rfl, _⟩ := hp
  have hbel : Below w.heap.size w ((((w.alloc (.cells cs.toArray 130)).alloc (.cells #[.slice pa p.length pcap] 24)).alloc (.cells ds.toArray 130)).alloc (.cells #[.int .i64 0, .int .i64 0, .int .i64 0, .int .i64 0, .int .i64 0, .int .i64 0, .int .i64 0, .int .i64 0, .int .i64 0, .int .i64 0, .int .i64 0, .int .i64 0, .int .i64 0, .int .i64 0, .int .i64 0, .int .i64 0, .int .i64 0] 130)) := (((box_below w _).alloc (by simp) _).alloc (by simp; omega) _).alloc (by simp; omega) _
  have B0 : Blk ((((w.alloc (.cells cs.toArray 130)).alloc (.cells #[.slice pa p.length pcap] 24)).alloc (.cells ds.toArray 130)).alloc (.cells #[.int .i64 0, .int .i64 0, .int .i64 0, .int .i64 0, .int .i64 0, .int .i64 0, .int .i64 0, .int .i64 0, .int .i64 0, .int .i64 0, .int .i64 0, .int .i64 0, .int .i64 0, .int .i64 0, .int .i64 0, .int .i64 0, .int .i64 0] 130)) w.heap.size 130 cs := (((Blk.new w cs.toArray _).alloc _).alloc _).alloc _
  have B1 : Blk ((((w.alloc (.cells cs.toArray 130)).alloc (.cells #[.slice pa p.length pcap] 24)).alloc (.cells ds.toArray 130)).alloc (.cells #[.int .i64 0, .int .i64 0, .int .i64 0, .int .i64 0, .int .i64 0, .int .i64 0, .int .i64 0, .int .i64 0, .int .i64 0, .int .i64 0, .int .i64 0, .int .i64 0, .int .i64 0, .int .i64 0, .int .i64 0, .int .i64 0, .int .i64 0] 130)) (w.heap.size + 1) 24 [.slice pa p.length pcap] := by
    have := Blk.new (w.alloc (.cells cs.toArray 130)) #[.slice pa p.length pcap] 24
    rw [World.size_alloc] at this
    exact (this.alloc _).alloc _
  have B2 : Blk ((((w.alloc (.cells cs.toArray 130)).alloc (.cells #[.slice pa p.length pcap] 24)).alloc (.cells ds.toArray 130)).alloc (.cells #[.int .i64 0, .int .i64 0, .int .i64 0, .int .i64 0, .int .i64 0, .int .i64 0, .int .i64 0, .int .i64 0, .int .i64 0, .int .i64 0, .int .i64 0, .int .i64 0, .int .i64 0, .int .i64 0, .int .i64 0, .int .i64 0, .int .i64 0] 130)) (w.heap.size + 1 + 1) 130 ds := by
    have := Blk.new ((w.alloc (.cells cs.toArray 130)).alloc (.cells #[.slice pa p.length pcap] 24)) ds.toArray 130
    rw [World.size_alloc, World.size_alloc] at this
    exact this.alloc _
  have B3 : Blk ((((w.alloc (.cells cs.toArray 130)).alloc (.cells #[.slice pa p.length pcap] 24)).alloc (.cells ds.toArray 130)).alloc (.cells #[.int .i64 0, .int .i64 0, .int .i64 0, .int .i64 0, .int .i64 0, .int .i64 0, .int .i64 0, .int .i64 0, .int .i64 0, .int .i64 0, .int .i64 0, .int .i64 0, .int .i64 0, .int .i64 0, .int .i64 0, .int .i64 0, .int .i64 0] 130)) (w.heap.size + 1 + 1 + 1) 130 zero17 := by
    have := Blk.new (((w.alloc (.cells cs.toArray 130)).alloc (.cells #[.slice pa p.length pcap] 24)).alloc (.cells ds.toArray 130)) #[.int .i64 0, .int .i64 0, .int .i64 0, .int .i64 0, .int .i64 0, .int .i64 0, .int .i64 0, .int .i64 0, .int .i64 0, .int .i64 0, .int .i64 0, .int .i64 0, .int .i64 0, .int .i64 0, .int .i64 0, .int .i64 0, .int .i64 0] 130
    rw [World.size_alloc, World.size_alloc, World.size_alloc] at this
    exact this
  have h0 : (((((w.alloc (.cells cs.toArray 130)).alloc (.cells #[.slice pa p.length pcap] 24)).alloc (.cells ds.toArray 130)).alloc (.cells #[.int .i64 0, .int .i64 0, .int .i64 0, .int .i64 0, .int .i64 0, .int .i64 0, .int .i64 0, .int .i64 0, .int .i64 0, .int .i64 0, .int .i64 0, .int .i64 0, .int .i64 0, .int .i64 0, .int .i64 0, .int .i64 0, .int .i64 0] 130))).cell? ⟨w.heap.size, 16, none⟩ = some (.int .i64 (s.stk.length : Int)) := by rw [B0.cell]; exact hS.ht
  have h2 : (((((w.alloc (.cells cs.toArray 130)).alloc (.cells #[.slice pa p.length pcap] 24)).alloc (.cells ds.toArray 130)).alloc (.cells #[.int .i64 0, .int .i64 0, .int .i64 0, .int .i64 0, .int .i64 0, .int .i64 0, .int .i64 0, .int .i64 0, .int .i64 0, .int .i64 0, .int .i64 0, .int .i64 0, .int .i64 0, .int .i64 0, .int .i64 0, .int .i64 0, .int .i64 0] 130))).cell? ⟨w.heap.size + 1 + 1, 16, none⟩ = some (.int .i64 (t.stk.length : Int)) := by rw [B2.cell]; exact hT.ht
  by_cases hlen : s.stk.length = t.stk.length
  · have hq : ((s.stk.length : Int) != (t.stk.length : Int)) = false := by rw [hlen]; simp
    have HLEN := hide hlen
    clear hlen
    go_enter Tryz.func142, Tryz.ntmps142
    go_wp2_with (refine wpList_load_blk aggLoc B2 0 (t.loc.map (Value.int .i64)) (by simp [tl]) (fun j v e => by
        rw [List.getElem?_map] at e
        cases e' : t.loc[j]? with
        | none => rw [e'] at e; cases e
        | some x => rw [e'] at e; cases e; rw [Nat.zero_add]; exact hT.loc j x e') (.tmp 18) rfl rfl rfl ?_)
    clear h0 h2 hq
    generalize hW : (((w.alloc _).alloc _).alloc _).alloc _ = W
    have hbW : Below w.heap.size w W := by rw [← hW]; exact hbel
    replace B0 : Blk W w.heap.size 130 cs := by rw [← hW]; exact B0
    replace B1 : Blk W (w.heap.size + 1) 24 [.slice pa p.length pcap] := by rw [← hW]; exact B1
    replace B2 : Blk W (w.heap.size + 1 + 1) 130 ds := by rw [← hW]; exact B2
    replace B3 : Blk W (w.heap.size + 1 + 1 + 1) 130 zero17 := by rw [← hW]; exact B3
    clear hW hbel
    go_loopw [20] (fun i wr => ∃ (k : Nat) (cc : List Value), k ≤ 8 ∧ i = .int .i64 k ∧ StC (joinK p s t k) cc ∧ Blk wr w.heap.size 130 cc ∧ Blk wr (w.heap.size + 1) 24 [.slice pa p.length pcap] ∧ Blk wr (w.heap.size + 1 + 1) 130 ds ∧ Blk wr (w.heap.size + 1 + 1 + 1) 130 zero17 ∧ Below w.heap.size w wr) (fun i _ => 8 - (intOf i).toNat)
    case atStart => exact ⟨0, cs, by omega, rfl, hS, B0, B1, B2, B3, hbW⟩
    case round =>
      obtain ⟨k, cc, hk, rfl, hcc, C0, C1, C2, C3, hb⟩ := hrel
      have HRP := hide (prog_keep (Keeps.of_below hb) (unhide HP))
      have HCC := hide hcc
      by_cases hlt : k < 8
      · have hk1 : k < s.loc.length := by omega
        have hk2 : k < t.loc.length := by omega
        have hx := ts _ (List.getElem_mem hk1)
        have hy := tt _ (List.getElem_mem hk2)
        have hgx : cc[k]? = some (.int .i64 s.loc[k]) := hcc.loc k _ (by rw [joinK_get p s t k k (Nat.le_refl _)]; exact List.getElem?_eq_getElem hk1)
        have HSET : Hid (StC (joinK p s t (k + 1)) (cc.set k (.int .i64 (joinB p s.loc[k] t.loc[k])))) := by
          have := hcc.set k (joinB p s.loc[k] t.loc[k]) hlt
          have e1 : s.loc.getD k 0 = s.loc[k] := by rw [List.getD_eq_getElem?_getD, List.getElem?_eq_getElem hk1]; rfl
          have e2 : t.loc.getD k 0 = t.loc[k] := by rw [List.getD_eq_getElem?_getD, List.getElem?_eq_getElem hk2]; rfl
          show StC (setL (joinK p s t k) k (joinB p (s.loc.getD k 0) (t.loc.getD k 0))) _
          rw [e1, e2]
          exact this
        have c0 : wr.cell? ⟨w.heap.size, k, none⟩ = some (.int .i64 s.loc[k]) := (C0.cell k).trans hgx
        have c1 : wr.cell? ⟨w.heap.size + 1, 0, none⟩ = some (.slice pa p.length pcap) := C1.cell 0
        have hv : (t.loc.map (Value.int .i64))[k]? = some (.int .i64 t.loc[k]) := by rw [List.getElem?_map, List.getElem?_eq_getElem hk2]; rfl
        generalize s.loc[k] = x at *
        generalize t.loc[k] = y at *
        have hlt' : (k : Int) < 8 := by omega
        have k0 : (0 : Int) ≤ (k : Int) := by omega
        clear hcc
        go_wp2_with (refine wpList_index_arr (.tmp 19) (.tmp 20) rfl rfl (t.loc.map (Value.int .i64)) k (.int .i64 y) rfl rfl hlt hv ?_)
        refine wp_region_noPanic ?_
        refine wp_region_held_drew (S := (fun w' => w'.cell? ⟨w.heap.size + 1, 0, none⟩ = some (.slice pa p.length pcap))) (by kernel_rfl) ?_ (fun hHeld => ?_)
        · exact c1
        refine take_x (some 24) 0 rfl rfl ?_
        try simp only [Act.put, List.setIfInBounds_toArray, List.set_cons_zero, List.set_cons_succ]
        refine take_x (some 25) 1 rfl rfl ?_
        try simp only [Act.put, List.setIfInBounds_toArray, List.set_cons_zero, List.set_cons_succ]
        refine take_x (some 26) 2 rfl rfl ?_
        try simp only [Act.put, List.setIfInBounds_toArray, List.set_cons_zero, List.set_cons_succ]
        refine take_x (some 27) 3 rfl rfl ?_
        try simp only [Act.put, List.setIfInBounds_toArray, List.set_cons_zero, List.set_cons_succ]
        refine take_x (some 28) 4 rfl rfl ?_
        try simp only [Act.put, List.setIfInBounds_toArray, List.set_cons_zero, List.set_cons_succ]
        refine take_x (some 30) 6 rfl rfl ?_
        try simp only [Act.put, List.setIfInBounds_toArray, List.set_cons_zero, List.set_cons_succ]
        refine take_x (some 32) 8 rfl rfl ?_
        try simp only [Act.put, List.setIfInBounds_toArray, List.set_cons_zero, List.set_cons_succ]
        refine wpAnyH_ready (rs := [5]) (by kernel_rfl) (by simp) ?_
        refine AllReadyH.cons rfl (fun K hK => ?_) AllReadyH.nil
        go_simp
        refine hK.out _ _ c1 (fun hHeld => ?_)
        clear hK K
        try simp only [Act.put, List.setIfInBounds_toArray, List.set_cons_zero, List.set_cons_succ]
        refine wpAnyH_ready (rs := [7]) (by kernel_rfl) (by simp) ?_
        refine AllReadyH.cons rfl (fun K hK => ?_) AllReadyH.nil
        go_simp
        refine (code_join p _ x y _ (prog_keep (Keeps.of_below ((Below.refl _ _).drew)) (unhide HRP)) hs hz hx hy).mono ?_
        rintro e w3 ⟨rfl, hb3⟩
        have hb3' : Below wr.heap.size wr w3 := ⟨hb3.os, hb3.tape, hb3.output, hb3.size, hb3.block⟩
        have D0 := C0.below hb3' C0.lt
        have D1 := C1.below hb3' C1.lt
        have D2 := C2.below hb3' C2.lt
        have D3 := C3.below hb3' C3.lt
        have c13 : w3.cell? ⟨w.heap.size + 1, 0, none⟩ = some (.slice pa p.length pcap) := D1.cell 0
        have c03 : w3.cell? ⟨w.heap.size, k, none⟩ = some (.int .i64 x) := (D0.cell _).trans hgx
        have f03 := D0.frozen (k)
        go_wp2_with fail
        refine hK.out _ _ c13 (fun hHeld => ?_)
        clear hK K
        try simp only [Act.put, List.setIfInBounds_toArray, List.set_cons_zero, List.set_cons_succ]
        refine take_x (some 33) 9 rfl rfl ?_
        try simp only [Act.put, List.setIfInBounds_toArray, List.set_cons_zero, List.set_cons_succ]
        refine wpAnyH_ready (rs := [10]) (by kernel_rfl) (by simp) ?_
        refine AllReadyH.cons rfl (fun K hK => ?_) AllReadyH.nil
        go_simp
        refine hK.out _ _ ((D1.setCell_ne (p := ⟨w.heap.size, k, none⟩) (by dsimp only; omega) (.int .i64 (joinB p x y))).cell 0) (fun hHeld => ?_)
        clear hK K
        try simp only [Act.put, List.setIfInBounds_toArray, List.set_cons_zero, List.set_cons_succ]
        refine wpAnyH_done (by kernel_rfl) ?_ _
        refine NoPanic.normal ?_
        have HX := hide (And.intro (D0.setCell (k) (.int .i64 (joinB p x y))) (And.intro (D1.setCell_ne (p := ⟨w.heap.size, k, none⟩) (by dsimp only; omega) (.int .i64 (joinB p x y))) (And.intro (D2.setCell_ne (p := ⟨w.heap.size, k, none⟩) (by dsimp only; omega) (.int .i64 (joinB p x y))) (And.intro (D3.setCell_ne (p := ⟨w.heap.size, k, none⟩) (by dsimp only; omega) (.int .i64 (joinB p x y))) ((hb.trans (hb3'.mono hb.size)).setCell (p := ⟨w.heap.size, k, none⟩) (Nat.le_refl _) (.int .i64 (joinB p x y)))))))
        clear c13 c03 f03 D0 D1 D2 D3 hb3 hb3' C0 C1 C2 C3 hb hHeld c1 c0
        go_wp2_with fail
        obtain ⟨z0, z1, z2, z3, z4⟩ := unhide HX
        exact ⟨⟨k + 1, _, by omega, by go_num, unhide HSET, z0, z1, z2, z3, z4⟩, by simp [intOf]; omega⟩
      · obtain rfl : k = 8 := by omega
        have q0 : wr.cell? ⟨w.heap.size, 16, none⟩ = some (.int .i64 (s.stk.length : Int)) := by
          have e := hcc.ht
          rw [joinK_stk] at e
          exact (C0.cell 16).trans e
        have n0 : (0 : Int) ≤ (s.stk.length : Int) := by omega
        have n8 : (s.stk.length : Int) ≤ 8 := by omega
        have hlt' : ¬ ((8 : Nat) : Int) < 8 := by omega
        clear hlt B0 B1 B2 B3 hbW HCC HRP
        go_wp2_with fail
        generalize wr = V at *
        go_loopw [40] (fun i wr => ∃ (k : Nat) (cc : List Value), k ≤ s.stk.length ∧ i = .int .i64 k ∧ StC (joinT p s t k) cc ∧ Blk wr w.heap.size 130 cc ∧ Blk wr (w.heap.size + 1) 24 [.slice pa p.length pcap] ∧ Blk wr (w.heap.size + 1 + 1) 130 ds ∧ Blk wr (w.heap.size + 1 + 1 + 1) 130 zero17 ∧ Below w.heap.size w wr) (fun i _ => s.stk.length - (intOf i).toNat)
        case atStart => exact ⟨0, cc, by omega, rfl, hcc, C0, C1, C2, C3, hb⟩
        case round =>
          clear C0 C1 C2 C3 hb hcc q0
          obtain ⟨k, cc, hk, rfl, hcc, C0, C1, C2, C3, hb⟩ := hrel
          have HRP := hide (prog_keep (Keeps.of_below hb) (unhide HP))
          by_cases hlt : k < s.stk.length
          · have hk2 : k < t.stk.length := by have := unhide HLEN; omega
            have hx := ts' _ (List.getElem_mem hlt)
            have hy := tt' _ (List.getElem_mem hk2)
            have hgx : cc[8 + k]? = some (.int .i64 s.stk[k]) := hcc.stk k _ (by rw [joinT_get p s t k k (Nat.le_refl _)]; exact List.getElem?_eq_getElem hlt)
            have HSET : Hid (StC (joinT p s t (k + 1)) (cc.set (8 + k) (.int .i64 (joinB p s.stk[k] t.stk[k])))) := by
              have := hcc.setStk k (joinB p s.stk[k] t.stk[k]) (by rw [joinT_len]; exact hlt)
              have e1 : s.stk.getD k 0 = s.stk[k] := by rw [List.getD_eq_getElem?_getD, List.getElem?_eq_getElem hlt]; rfl
              have e2 : t.stk.getD k 0 = t.stk[k] := by rw [List.getD_eq_getElem?_getD, List.getElem?_eq_getElem hk2]; rfl
              show StC (setK (joinT p s t k) k (joinB p (s.stk.getD k 0) (t.stk.getD k 0))) _
              rw [e1, e2]
              exact this
            have c0 : wr.cell? ⟨w.heap.size, 8 + k, none⟩ = some (.int .i64 s.stk[k]) := (C0.cell _).trans hgx
            have c1 : wr.cell? ⟨w.heap.size + 1, 0, none⟩ = some (.slice pa p.length pcap) := C1.cell 0
            have c2 : wr.cell? ⟨w.heap.size + 1 + 1, 8 + k, none⟩ = some (.int .i64 t.stk[k]) := (C2.cell _).trans (hT.stk k _ (List.getElem?_eq_getElem hk2))
            generalize s.stk[k] = x at *
            generalize t.stk[k] = y at *
            have hlt' : (k : Int) < (s.stk.length : Int) := by omega
            have hlt8 : (k : Int) < 8 := by omega
            have k0 : (0 : Int) ≤ (k : Int) := by omega
            clear hcc
            go_wp2_with fail
            refine wp_region_noPanic ?_
            refine wp_region_held_drew (S := (fun w' => w'.cell? ⟨w.heap.size + 1, 0, none⟩ = some (.slice pa p.length pcap))) (by kernel_rfl) ?_ (fun hHeld => ?_)
            · exact c1
            refine take_x (some 45) 0 rfl rfl ?_
            try simp only [Act.put, List.setIfInBounds_toArray, List.set_cons_zero, List.set_cons_succ]
            refine take_x (some 46) 1 rfl rfl ?_
            try simp only [Act.put, List.setIfInBounds_toArray, List.set_cons_zero, List.set_cons_succ]
            refine take_x (some 47) 2 rfl rfl ?_
            try simp only [Act.put, List.setIfInBounds_toArray, List.set_cons_zero, List.set_cons_succ]
            refine take_x (some 48) 3 rfl rfl ?_
            try simp only [Act.put, List.setIfInBounds_toArray, List.set_cons_zero, List.set_cons_succ]
            refine take_x (some 49) 4 rfl rfl ?_
            try simp only [Act.put, List.setIfInBounds_toArray, List.set_cons_zero, List.set_cons_succ]
            refine take_x (some 51) 6 rfl rfl ?_
            try simp only [Act.put, List.setIfInBounds_toArray, List.set_cons_zero, List.set_cons_succ]
            refine take_x (some 53) 8 rfl rfl ?_
            try simp only [Act.put, List.setIfInBounds_toArray, List.set_cons_zero, List.set_cons_succ]
            refine wpAnyH_ready (rs := [5]) (by kernel_rfl) (by simp) ?_
            refine AllReadyH.cons rfl (fun K hK => ?_) AllReadyH.nil
            go_simp
            refine hK.out _ _ c1 (fun hHeld => ?_)
            clear hK K
            try simp only [Act.put, List.setIfInBounds_toArray, List.set_cons_zero, List.set_cons_succ]
            refine wpAnyH_ready (rs := [7]) (by kernel_rfl) (by simp) ?_
            refine AllReadyH.cons rfl (fun K hK => ?_) AllReadyH.nil
            go_simp
            refine (code_join p _ x y _ (prog_keep (Keeps.of_below ((Below.refl _ _).drew)) (unhide HRP)) hs hz hx hy).mono ?_
            rintro e w3 ⟨rfl, hb3⟩
            have hb3' : Below wr.heap.size wr w3 := ⟨hb3.os, hb3.tape, hb3.output, hb3.size, hb3.block⟩
            have D0 := C0.below hb3' C0.lt
            have D1 := C1.below hb3' C1.lt
            have D2 := C2.below hb3' C2.lt
            have D3 := C3.below hb3' C3.lt
            have c13 : w3.cell? ⟨w.heap.size + 1, 0, none⟩ = some (.slice pa p.length pcap) := D1.cell 0
            have c03 : w3.cell? ⟨w.heap.size, 8 + k, none⟩ = some (.int .i64 x) := (D0.cell _).trans hgx
            have f03 := D0.frozen (8 + k)
            go_wp2_with fail
            refine hK.out _ _ c13 (fun hHeld => ?_)
            clear hK K
            try simp only [Act.put, List.setIfInBounds_toArray, List.set_cons_zero, List.set_cons_succ]
            refine take_x (some 54) 9 rfl rfl ?_
            try simp only [Act.put, List.setIfInBounds_toArray, List.set_cons_zero, List.set_cons_succ]
            refine wpAnyH_ready (rs := [10]) (by kernel_rfl) (by simp) ?_
            refine AllReadyH.cons rfl (fun K hK => ?_) AllReadyH.nil
            go_simp
            refine hK.out _ _ ((D1.setCell_ne (p := ⟨w.heap.size, 8 + k, none⟩) (by dsimp only; omega) (.int .i64 (joinB p x y))).cell 0) (fun hHeld => ?_)
            clear hK K
            try simp only [Act.put, List.setIfInBounds_toArray, List.set_cons_zero, List.set_cons_succ]
            refine wpAnyH_done (by kernel_rfl) ?_ _
            refine NoPanic.normal ?_
            have HX := hide (And.intro (D0.setCell (8 + k) (.int .i64 (joinB p x y))) (And.intro (D1.setCell_ne (p := ⟨w.heap.size, 8 + k, none⟩) (by dsimp only; omega) (.int .i64 (joinB p x y))) (And.intro (D2.setCell_ne (p := ⟨w.heap.size, 8 + k, none⟩) (by dsimp only; omega) (.int .i64 (joinB p x y))) (And.intro (D3.setCell_ne (p := ⟨w.heap.size, 8 + k, none⟩) (by dsimp only; omega) (.int .i64 (joinB p x y))) ((hb.trans (hb3'.mono hb.size)).setCell (p := ⟨w.heap.size, 8 + k, none⟩) (Nat.le_refl _) (.int .i64 (joinB p x y)))))))
            clear c13 c03 f03 D0 D1 D2 D3 hb3 hb3' C0 C1 C2 C3 hb hHeld c1 c0
            go_wp2_with fail
            obtain ⟨z0, z1, z2, z3, z4⟩ := unhide HX
            exact ⟨⟨k + 1, _, by omega, by go_num, unhide HSET, z0, z1, z2, z3, z4⟩, by simp [intOf]; omega⟩
          · obtain rfl : k = s.stk.length := by omega
            have hlt' : ¬ (s.stk.length : Int) < (s.stk.length : Int) := by omega
            have hl := hcc.len
            clear hlt
            go_wp2_with (first
              | refine wpList_load_blk aggSt C0 0 cc hl (fun j v e => by simpa using e) (.tmp 3) rfl rfl rfl ?_
              | (refine wpList_store_blk aggSt C3 0 cc hl (by simp [zero17]) hcc.one (.tmp 6) (.tmp 56) rfl rfl rfl rfl ?_; intro w7 hB7 hM7 hs7))
            rw [putAt_all (by rw [hl]; rfl)] at hB7
            refine bodyPost_ret (results_blk2 rfl aggSt hB7 hl rfl) rfl ?_
            exact ⟨fun _ => ⟨cc, rfl, hcc⟩, fun e => absurd (unhide HLEN) e, hb.trans (hM7.below hb.size (fun k hk e => by omega))⟩
  · have hq : ((s.stk.length : Int) != (t.stk.length : Int)) = true := by simp; omega
    have HN := hide hlen
    clear hlen
    go_enter Tryz.func142, Tryz.ntmps142
    go_wp2_with (refine wpList_store_blk aggSt B3 0 zero17 rfl (by simp [zero17]) zero17_one (.tmp 6) (.tmp 17) rfl rfl rfl rfl ?_; intro w7 hB7 hM7 hs7)
    rw [putAt_all (by rfl : zero17.length = zero17.length)] at hB7
    refine bodyPost_ret (results_blk2 rfl aggSt hB7 rfl rfl) rfl ?_
    exact ⟨fun e => absurd e (unhide HN), fun _ => rfl, hbel.trans (hM7.below (by simp; omega) (fun k hk e => by omega))⟩
end Go.Proofs.YtiiokkllmchohaaGreat
