/- What is proved: the law Agreed (Check and Infer answer OK or ErrCheck for every method of a program that holds, and what passes is sound; Certify answers ErrCheck just where a method is not sound; what it answers else passes whole, and Certify of that writes the same) answers true, and what it was handed reads as it did. Condition: the argument holds at most 1048576 values and letters. -/
import Derived.Test.YtiiokkllmchohaaGreatT08
import Derived.Test.YtiiokkllmchohaaGreatT33
import Derived.Test.YtiiokkllmchohaaGreatT37
import Derived.Test.YtiiokkllmchohaaGreatT38
/- CerF -/
namespace Go.Proofs.YtiiokkllmchohaaGreat
open Go.RowKit Go.Shelf
attribute [local go_sem ↓] Go.wp_at_zero Go.wp_at_succ
attribute [local go_sem] frz_drew

theorem aggPr1 : AggOk Tryz.prog 24 1 := ⟨by kernel_rfl, by kernel_rfl⟩
def CertR (p : List LClass) (Q : Nat → Nat → Option SvSt) (w w' : World) (e : Ending) : Prop :=
 ((∃ v, e = .returned (.agg #[v]) ∧ NewP w.heap.size w' v (certP p (getR Q)) ∧ AllS p Q) ∨ (e = .panicked (refC 5) ∧ ¬ AllS p Q)) ∧ Below w.heap.size w w'
theorem certP_snoc {p : List LClass} {R : Nat → Nat → SvSt} {c : Nat} (h : c < p.length) : (certP p R).take (c + 1) = (certP p R).take c ++ [{ p[c] with meths := p[c].meths.mapIdx fun k m => certM m (R c k) }] := by
 rw [List.take_add_one, certP_get, List.getElem?_eq_getElem h]; rfl
theorem certP_len {p : List LClass} {R : Nat → Nat → SvSt} : (certP p R).length = p.length := by unfold certP; simp
theorem alls_of {p : List LClass} {Q : Nat → Nat → Option SvSt} (h : ∀ (c : Nat) (hc : c < p.length) (k : Nat) (m : LMeth), p[c].meths[k]? = some m → Q c k ≠ none) : AllS p Q := fun c k m hm => by
 unfold ownM at hm
 rw [if_pos ⟨by omega, by omega⟩, Int.toNat_natCast, Int.toNat_natCast] at hm
 cases hx : p[c]? with
 | none => rw [hx] at hm; cases hm
 | some x =>
  rw [hx, Option.bind_some] at hm
  have hc := (List.getElem?_eq_some_iff.1 hx).1
  obtain rfl : p[c] = x := (List.getElem?_eq_some_iff.1 hx).2
  exact h c hc k m hm
theorem alls_get {p : List LClass} {Q : Nat → Nat → Option SvSt} (h : AllS p Q) {c : Nat} (hc : c < p.length) {k : Nat} {m : LMeth} (hm : p[c].meths[k]? = some m) : Q c k ≠ none := h c k m (by
 unfold ownM
 rw [if_pos ⟨by omega, by omega⟩, Int.toNat_natCast, Int.toNat_natCast, List.getElem?_eq_getElem hc]
 exact hm)
set_option maxHeartbeats 1000000 in
set_option maxRecDepth 100000 in
theorem cer_certify (p : List LClass) (vp : Value) (w : World) (hp : RProg w vp p) (hF : formI p = 0) (hz : szProg p ≤ 4194304) (Q : Nat → Nat → Option SvSt) (hQ : Ends p Q) :
  Calls Tryz.prog 58 #[.agg #[vp]] w fun e w' => CertR p Q w w' e := by
 have hpl : p.length ≤ 4194304 := Nat.le_trans (szProg_len p) hz
 have HP := hide hp
 have HF := hide hF
 have HQ := hide hQ
 obtain ⟨pa, pb, poff, pcap, rfl, _, hpa, hpr⟩ := sl_open hp
 have HPR := hide hpr
 clear hp hpr hF hQ
 have hbel : Below w.heap.size w (((w.alloc (.cells #[.slice pa p.length pcap] 24)).alloc (.cells #[.slice none 0 0] 24)).alloc (.cells #[.slice none 0 0] 24)) := (box2_below _ _ _).alloc (by simp; omega) _
 have A0 : Blk (((w.alloc (.cells #[.slice pa p.length pcap] 24)).alloc (.cells #[.slice none 0 0] 24)).alloc (.cells #[.slice none 0 0] 24)) w.heap.size 24 [.slice pa p.length pcap] := ((Blk.new w _ _).alloc _).alloc _
 have A1 : Blk (((w.alloc (.cells #[.slice pa p.length pcap] 24)).alloc (.cells #[.slice none 0 0] 24)).alloc (.cells #[.slice none 0 0] 24)) (w.heap.size + 1) 24 [.slice none 0 0] := by
  have := (Blk.new (w.alloc (.cells #[.slice pa p.length pcap] 24)) #[.slice none 0 0] 24).alloc (.cells #[.slice none 0 0] 24)
  rw [World.size_alloc] at this
  exact this
 have A2 : Blk (((w.alloc (.cells #[.slice pa p.length pcap] 24)).alloc (.cells #[.slice none 0 0] 24)).alloc (.cells #[.slice none 0 0] 24)) (w.heap.size + 2) 24 [.slice none 0 0] := by
  have := Blk.new ((w.alloc (.cells #[.slice pa p.length pcap] 24)).alloc (.cells #[.slice none 0 0] 24)) #[.slice none 0 0] 24
  rw [World.size_alloc, World.size_alloc] at this
  exact this
 have HI0 : Hid (ClsI w (((w.alloc (.cells #[.slice pa p.length pcap] 24)).alloc (.cells #[.slice none 0 0] 24)).alloc (.cells #[.slice none 0 0] 24)) (.slice pa p.length pcap) (.slice none 0 0) []) :=
  ⟨hbel, A0, A1, A2, [], World.ownsRow_nil _ _ _ _, RowG.nil⟩
 go_enter Tryz.func58, Tryz.ntmps58
 go_wp2_with fail
 generalize ((w.alloc _).alloc _).alloc _ = W at *
 have a0 : W.cell? ⟨w.heap.size, 0, none⟩ = some (.slice pa p.length pcap) := A0.cell 0
 clear A0 A1 A2 hbel
 go_wp2_with fail
 clear a0
 go_loopw [9] (fun i wr => ∃ (c : Nat) (v : Value), c ≤ p.length ∧ i = .int .i64 c ∧ (∀ (j : Nat) (hj : j < p.length) (k : Nat) (m : LMeth), j < c → p[j].meths[k]? = some m → Q j k ≠ none) ∧ ClsI w wr (.slice pa p.length pcap) v ((certP p (getR Q)).take c)) (fun i _ => p.length - (intOf i).toNat)
 case atStart => exact ⟨0, _, Nat.zero_le _, rfl, fun _ _ _ _ h => (by omega), unhide HI0⟩
 case round =>
  obtain ⟨c, v, hc, rfl, hall, hI⟩ := hrel
  have HA := hide hall
  have HI := hide hI
  clear hall HI0
  by_cases hlt : c < p.length
  ·obtain rfl := hpa (ne_nil_of_lt hlt)
   have hx := unhide HPR c hlt
   have hfl : p[c].fields.length ≤ 4194304 := Nat.le_trans (szFields_le _) (Nat.le_trans (szClass_le (List.getElem_mem hlt)) hz)
   have HS := hide (certP_snoc (R := getR Q) hlt)
   have HM := hide (fun w (hp : RProg w (.slice (some ⟨pb, poff, none⟩) p.length pcap) p) => cer_methods p (.slice (some ⟨pb, poff, none⟩) p.length pcap) c w hp (unhide HF) hz Q (unhide HQ) hlt)
   have HAG := hide (fun h : AllS p Q => fun (k : Nat) (m : LMeth) (hm : p[c].meths[k]? = some m) => alls_get h hlt hm)
   have HAS : Hid ((∀ (k : Nat) (m : LMeth), p[c].meths[k]? = some m → Q c k ≠ none) → ∀ (j : Nat) (hj : j < p.length) (k : Nat) (m : LMeth), j < c + 1 → p[j].meths[k]? = some m → Q j k ≠ none) := fun h j hj k m hlt' hm => by
    by_cases e : j = c
    ·subst e; exact h k m hm
    ·exact unhide HA j hj k m (by omega) hm
   generalize p[c] = x at *
   obtain ⟨vf, vm, c0, c1, c2, hf, hmt⟩ := hx
   obtain ⟨fa, fcap, rfl, hfnil, hfsrc⟩ := ints_src hf
   obtain ⟨ma, _, _, mcap, rfl, _⟩ := hmt
   have k0 : (0 : Int) ≤ (c : Int) := by omega
   have k1 : (c : Int) < (p.length : Int) := by omega
   have d0 := Keeps.of_below hI.bel _ _ c0
   have d1 := Keeps.of_below hI.bel _ _ c1
   have d2 := Keeps.of_below hI.bel _ _ c2
   have hbx := box_below wr (.cells #[.int .i64 x.sup, .slice fa x.fields.length fcap, .slice ma x.meths.length mcap] 66)
   have BX := Blk.new wr #[.int .i64 x.sup, .slice fa x.fields.length fcap, .slice ma x.meths.length mcap] 66
   have hI1 := hI.below hbx
   clear hI c0 c1 c2 hf
   go_wp2_with fail
   generalize wr.alloc _ = Z at *
   clear d0 d1 d2
   obtain ⟨va, vn, vcap, rfl⟩ : ∃ a n cap, v = .slice a n cap := by
    obtain ⟨cs, hO, _⟩ := hI1.row
    obtain ⟨a, cap, h⟩ := own_form hO
    exact ⟨a, _, cap, h⟩
   have hw3 : w.heap.size + 3 ≤ wr.heap.size := (unhide HI).b2.lt
   have hvl : ∀ g, (Value.slice va vn vcap).ownBlock = some g → w.heap.size + 3 ≤ g ∧ g < wr.heap.size := fun g hg => by
    obtain ⟨cs, hO, _⟩ := (unhide HI).row
    exact hO.lt g hg
   have hzz := hbx.size
   have hvZ : ∀ g, (Value.slice va vn vcap).ownBlock = some g → g < Z.heap.size := fun g hg => by have := (hvl g hg).2; omega
   have hZ3 : w.heap.size + 3 ≤ Z.heap.size := by omega
   have hqlen : ((certP p (getR Q)).take c).length ≤ 4194304 := by rw [List.length_take]; omega
   have hold : ∀ w', Below Z.heap.size Z w' → (w'.cell? ⟨wr.heap.size, 0, none⟩ = some (.int .i64 x.sup) ∧ w'.cell? ⟨wr.heap.size, 1, none⟩ = some (.slice fa x.fields.length fcap) ∧ w'.cell? ⟨w.heap.size, 0, none⟩ = some (.slice (some ⟨pb, poff, none⟩) p.length pcap)) := fun U hU =>
    have kk := BX.below hU BX.lt
    ⟨kk.cell 0, kk.cell 1, (hI1.b0.below hU hI1.b0.lt).cell 0⟩
   have HO5 := hide hold
   have hold6 : ∀ U w', Below Z.heap.size Z U → Mods (fun k => (Value.slice va vn vcap).ownBlock = some k ∨ k = w.heap.size + 1 + 1) U w' → (w'.cell? ⟨wr.heap.size, 0, none⟩ = some (.int .i64 x.sup) ∧ w'.cell? ⟨wr.heap.size, 1, none⟩ = some (.slice fa x.fields.length fcap) ∧ w'.cell? ⟨w.heap.size, 0, none⟩ = some (.slice (some ⟨pb, poff, none⟩) p.length pcap)) := fun U U' hU hM =>
    have kk := (BX.below hU BX.lt).mods hM (fun h => by
     rcases h with h | h
     ·have := (hvl _ h).2; omega
     ·omega)
    have k0 := (hI1.b0.below hU hI1.b0.lt).mods hM (fun h => by
     rcases h with h | h
     ·have := (hvl _ h).1; omega
     ·omega)
    ⟨kk.cell 0, kk.cell 1, k0.cell 0⟩
   have HO6 := hide hold6
   have e1 : Z.cell? ⟨w.heap.size + 1 + 1, 0, none⟩ = some (.slice va vn vcap) := hI1.b2.cell 0
   clear hold hold6 hvl
   refine wp_region_held_drew (S := (fun w' => w'.cell? ⟨wr.heap.size, 0, none⟩ = some (.int .i64 x.sup) ∧ w'.cell? ⟨wr.heap.size, 1, none⟩ = some (.slice fa x.fields.length fcap) ∧ w'.cell? ⟨w.heap.size, 0, none⟩ = some (.slice (some ⟨pb, poff, none⟩) p.length pcap))) (by kernel_rfl) ?_ (fun hHeld => ?_)
   ·exact (unhide HO5) _ ((Below.refl _ _).drew)
   refine take_x (some 14) 0 rfl rfl ?_
   refine take_x (some 16) 2 rfl rfl ?_
   refine take_x (some 17) 3 rfl rfl ?_
   refine take_x (some 18) 4 rfl rfl ?_
   refine take_x (some 19) 5 rfl rfl ?_
   refine take_x (some 21) 7 rfl rfl ?_
   refine take_x (some 22) 8 rfl rfl ?_
   refine wpAnyH_ready (rs := [1, 6]) (by kernel_rfl) (by simp) ?_
   refine AllReadyH.cons rfl (fun K hK => ?_) (AllReadyH.cons rfl (fun K hK => ?_) AllReadyH.nil)
   ·go_simp
    refine hK.out _ _ ((unhide HO5) _ ((Below.refl _ _).drew)) (fun hHeld => ?_)
    clear hK K
    try simp only [Act.put, List.setIfInBounds_toArray, List.set_cons_zero, List.set_cons_succ]
    refine wpAnyH_ready (rs := [6]) (by kernel_rfl) (by simp) ?_
    refine AllReadyH.cons rfl (fun K hK => ?_) AllReadyH.nil
    go_simp
    refine (cer_copied_Type fa _ fcap (x.fields.map (Value.int .i64)) Z.drew (by simp) (fun e => ⟨by rw [(hfnil e).1]; rfl, (hfnil e).2⟩) (fun ad e j u h => Keeps.of_below ((Below.refl _ _).drew) _ _ (Keeps.of_below hI1.bel _ _ (hfsrc ad e j u h))) (oneCell_ints _) hfl).mono ?_
    rintro e w2 ⟨vf', rfl, hOa, hb2⟩
    have hb2' : Below Z.heap.size Z w2 := ⟨hb2.os, hb2.tape, hb2.output, hb2.size, hb2.block⟩
    have HGA := hide (show SlAt 1 (GInt (sel (fun j => Z.heap.size ≤ j) w2)) vf' x.fields from own_intsC hOa (fun g hg => (hOa.lt g hg).1))
    have e2 : w2.cell? ⟨w.heap.size + 1 + 1, 0, none⟩ = some (.slice va vn vcap) := (hI1.b2.below hb2' hI1.b2.lt).cell 0
    obtain ⟨fa', fcap', rfl⟩ := own_form hOa
    clear hOa hb2
    go_wp2_with fail
    refine hK.out _ _ ((unhide HO5) _ hb2') (fun hHeld => ?_)
    clear hK K
    try simp only [Act.put, List.setIfInBounds_toArray, List.set_cons_zero, List.set_cons_succ]
    refine wpAnyH_ready (rs := [9]) (by kernel_rfl) (by simp) ?_
    refine AllReadyH.cons rfl (fun K hK => ?_) AllReadyH.nil
    go_simp
    refine ((unhide HM) w2 (prog_keep (Keeps.of_below (hI1.bel.trans (hb2'.mono hI1.bel.size))) (unhide HP))).mono ?_
    rintro e w3 ⟨h3, hb3⟩
    have hb3' : Below Z.heap.size Z w3 := hb2'.trans (hb3.mono hb2'.size)
    have I3 := hI1.below hb3'
    rcases h3 with ⟨vm', rfl, hGm, hal⟩ | ⟨rfl, k', m', hm', hq'⟩
    rotate_left
    ·have HR : Hid (CertR p Q w w3 (.panicked (refC 5))) := ⟨.inr ⟨rfl, fun h => unhide HAG h k' m' hm' hq'⟩, I3.bel⟩
     clear hm' hq' I3 hb3 e2
     go_wp2_with fail
     exact ⟨rfl, unhide HR⟩
    obtain ⟨na, nn, ncap, w6, happ, c6, f6, hM6, hI6⟩ := I3.next (x := { x with meths := x.meths.mapIdx fun k m => certM m ((Q c k).getD sv0) }) hqlen (B := Z.heap.size) hvZ hZ3 (ints_keep (sel_mods (Mods.of_below hb3) fun k hk hS => ⟨fun e => by omega, hS⟩) (unhide HGA)) (meths_keep (sel_mods (Mods.refl (fun _ => False) w3) fun k _ hk => ⟨fun f => f, Nat.le_trans hb2'.size hk⟩) hGm)
    replace hI6 : ClsI w (w6.setCell ⟨w.heap.size + 2, 0, none⟩ (.slice na nn ncap)) (.slice (some ⟨pb, poff, none⟩) p.length pcap) (.slice na nn ncap) ((certP p (getR Q)).take (c + 1)) := by rw [unhide HS]; exact hI6
    have HI6 := hide (And.intro hI6 (unhide HAS hal))
    have e3 : w3.cell? ⟨w.heap.size + 1 + 1, 0, none⟩ = some (.slice va vn vcap) := I3.b2.cell 0
    have HH3 := hide (And.intro hb3' hM6)
    obtain ⟨ma', _, _, mcap', rfl, _⟩ := hGm
    generalize (x.meths.mapIdx fun k m => certM m ((Q c k).getD sv0)).length = ml at *
    have e3a : (w3.alloc (.cells #[.int .i64 x.sup, .slice fa' x.fields.length fcap', .slice ma' ml mcap'] 66)).cell? ⟨w.heap.size + 1 + 1, 0, none⟩ = some (.slice va vn vcap) := (I3.b2.alloc _).cell 0
    clear hI6 hal I3 e2
    go_wp2_with fail
    refine hK.out _ _ ((unhide HO5) _ hb3') (fun hHeld => ?_)
    clear hK K
    try simp only [Act.put, List.setIfInBounds_toArray, List.set_cons_zero, List.set_cons_succ]
    refine take_x (some 24) 10 rfl rfl ?_
    refine wpAnyH_ready (rs := [11]) (by kernel_rfl) (by simp) ?_
    refine AllReadyH.cons rfl (fun K hK => ?_) AllReadyH.nil
    go_simp
    refine hK.out _ _ ((unhide HO5) _ ((unhide HH3).1.alloc (unhide HH3).1.size _)) (fun hHeld => ?_)
    clear hK K
    try simp only [Act.put, List.setIfInBounds_toArray, List.set_cons_zero, List.set_cons_succ]
    refine wpAnyH_ready (rs := [12]) (by kernel_rfl) (by simp) ?_
    refine AllReadyH.cons rfl (fun K hK => ?_) AllReadyH.nil
    refine wp_append_run (.tmp 15) (.tmp 25) 22 rfl _ _ rfl rfl happ ?_
    go_simp
    refine hK.out _ _ ((unhide HO6) _ _ (unhide HH3).1 ((unhide HH3).2.mono fun _ _ h => .inl h)) (fun hHeld => ?_)
    clear hK K
    try simp only [Act.put, List.setIfInBounds_toArray, List.set_cons_zero, List.set_cons_succ]
    refine take_x (some 27) 13 rfl rfl ?_
    refine wpAnyH_ready (rs := [14]) (by kernel_rfl) (by simp) ?_
    refine AllReadyH.cons rfl (fun K hK => ?_) AllReadyH.nil
    go_simp
    refine hK.out _ _ ((unhide HO6) _ _ (unhide HH3).1 (((unhide HH3).2.mono fun _ _ h => .inl h).setCell (p := ⟨w.heap.size + 1 + 1, 0, none⟩) (fun _ => .inr rfl) _)) (fun hHeld => ?_)
    clear hK K
    try simp only [Act.put, List.setIfInBounds_toArray, List.set_cons_zero, List.set_cons_succ]
    refine wpAnyH_done (by kernel_rfl) ?_ _
    clear happ c6 f6 e3 e3a
    go_wp2_with fail
    exact ⟨⟨c + 1, _, by omega, by go_num, (unhide HI6).2, (unhide HI6).1⟩, by simp [intOf]; omega⟩
   ·go_simp
    refine (cer_copied_Type fa _ fcap (x.fields.map (Value.int .i64)) Z.drew (by simp) (fun e => ⟨by rw [(hfnil e).1]; rfl, (hfnil e).2⟩) (fun ad e j u h => Keeps.of_below ((Below.refl _ _).drew) _ _ (Keeps.of_below hI1.bel _ _ (hfsrc ad e j u h))) (oneCell_ints _) hfl).mono ?_
    rintro e w2 ⟨vf', rfl, hOa, hb2⟩
    have hb2' : Below Z.heap.size Z w2 := ⟨hb2.os, hb2.tape, hb2.output, hb2.size, hb2.block⟩
    have HGA := hide (show SlAt 1 (GInt (sel (fun j => Z.heap.size ≤ j) w2)) vf' x.fields from own_intsC hOa (fun g hg => (hOa.lt g hg).1))
    have e2 : w2.cell? ⟨w.heap.size + 1 + 1, 0, none⟩ = some (.slice va vn vcap) := (hI1.b2.below hb2' hI1.b2.lt).cell 0
    obtain ⟨fa', fcap', rfl⟩ := own_form hOa
    clear hOa hb2
    go_wp2_with fail
    refine hK.out _ _ ((unhide HO5) _ hb2') (fun hHeld => ?_)
    clear hK K
    try simp only [Act.put, List.setIfInBounds_toArray, List.set_cons_zero, List.set_cons_succ]
    refine wpAnyH_ready (rs := [1, 9]) (by kernel_rfl) (by simp) ?_
    refine AllReadyH.cons rfl (fun K hK => ?_) (AllReadyH.cons rfl (fun K hK => ?_) AllReadyH.nil)
    ·go_simp
     refine hK.out _ _ ((unhide HO5) _ hb2') (fun hHeld => ?_)
     clear hK K
     try simp only [Act.put, List.setIfInBounds_toArray, List.set_cons_zero, List.set_cons_succ]
     refine wpAnyH_ready (rs := [9]) (by kernel_rfl) (by simp) ?_
     refine AllReadyH.cons rfl (fun K hK => ?_) AllReadyH.nil
     go_simp
     refine ((unhide HM) w2 (prog_keep (Keeps.of_below (hI1.bel.trans (hb2'.mono hI1.bel.size))) (unhide HP))).mono ?_
     rintro e w3 ⟨h3, hb3⟩
     have hb3' : Below Z.heap.size Z w3 := hb2'.trans (hb3.mono hb2'.size)
     have I3 := hI1.below hb3'
     rcases h3 with ⟨vm', rfl, hGm, hal⟩ | ⟨rfl, k', m', hm', hq'⟩
     rotate_left
     ·have HR : Hid (CertR p Q w w3 (.panicked (refC 5))) := ⟨.inr ⟨rfl, fun h => unhide HAG h k' m' hm' hq'⟩, I3.bel⟩
      clear hm' hq' I3 hb3 e2
      go_wp2_with fail
      exact ⟨rfl, unhide HR⟩
     obtain ⟨na, nn, ncap, w6, happ, c6, f6, hM6, hI6⟩ := I3.next (x := { x with meths := x.meths.mapIdx fun k m => certM m ((Q c k).getD sv0) }) hqlen (B := Z.heap.size) hvZ hZ3 (ints_keep (sel_mods (Mods.of_below hb3) fun k hk hS => ⟨fun e => by omega, hS⟩) (unhide HGA)) (meths_keep (sel_mods (Mods.refl (fun _ => False) w3) fun k _ hk => ⟨fun f => f, Nat.le_trans hb2'.size hk⟩) hGm)
     replace hI6 : ClsI w (w6.setCell ⟨w.heap.size + 2, 0, none⟩ (.slice na nn ncap)) (.slice (some ⟨pb, poff, none⟩) p.length pcap) (.slice na nn ncap) ((certP p (getR Q)).take (c + 1)) := by rw [unhide HS]; exact hI6
     have HI6 := hide (And.intro hI6 (unhide HAS hal))
     have e3 : w3.cell? ⟨w.heap.size + 1 + 1, 0, none⟩ = some (.slice va vn vcap) := I3.b2.cell 0
     have HH3 := hide (And.intro hb3' hM6)
     obtain ⟨ma', _, _, mcap', rfl, _⟩ := hGm
     generalize (x.meths.mapIdx fun k m => certM m ((Q c k).getD sv0)).length = ml at *
     have e3a : (w3.alloc (.cells #[.int .i64 x.sup, .slice fa' x.fields.length fcap', .slice ma' ml mcap'] 66)).cell? ⟨w.heap.size + 1 + 1, 0, none⟩ = some (.slice va vn vcap) := (I3.b2.alloc _).cell 0
     clear hI6 hal I3 e2
     go_wp2_with fail
     refine hK.out _ _ ((unhide HO5) _ hb3') (fun hHeld => ?_)
     clear hK K
     try simp only [Act.put, List.setIfInBounds_toArray, List.set_cons_zero, List.set_cons_succ]
     refine take_x (some 24) 10 rfl rfl ?_
     refine wpAnyH_ready (rs := [11]) (by kernel_rfl) (by simp) ?_
     refine AllReadyH.cons rfl (fun K hK => ?_) AllReadyH.nil
     go_simp
     refine hK.out _ _ ((unhide HO5) _ ((unhide HH3).1.alloc (unhide HH3).1.size _)) (fun hHeld => ?_)
     clear hK K
     try simp only [Act.put, List.setIfInBounds_toArray, List.set_cons_zero, List.set_cons_succ]
     refine wpAnyH_ready (rs := [12]) (by kernel_rfl) (by simp) ?_
     refine AllReadyH.cons rfl (fun K hK => ?_) AllReadyH.nil
     refine wp_append_run (.tmp 15) (.tmp 25) 22 rfl _ _ rfl rfl happ ?_
     go_simp
     refine hK.out _ _ ((unhide HO6) _ _ (unhide HH3).1 ((unhide HH3).2.mono fun _ _ h => .inl h)) (fun hHeld => ?_)
     clear hK K
     try simp only [Act.put, List.setIfInBounds_toArray, List.set_cons_zero, List.set_cons_succ]
     refine take_x (some 27) 13 rfl rfl ?_
     refine wpAnyH_ready (rs := [14]) (by kernel_rfl) (by simp) ?_
     refine AllReadyH.cons rfl (fun K hK => ?_) AllReadyH.nil
     go_simp
     refine hK.out _ _ ((unhide HO6) _ _ (unhide HH3).1 (((unhide HH3).2.mono fun _ _ h => .inl h).setCell (p := ⟨w.heap.size + 1 + 1, 0, none⟩) (fun _ => .inr rfl) _)) (fun hHeld => ?_)
     clear hK K
     try simp only [Act.put, List.setIfInBounds_toArray, List.set_cons_zero, List.set_cons_succ]
     refine wpAnyH_done (by kernel_rfl) ?_ _
     clear happ c6 f6 e3 e3a
     go_wp2_with fail
     exact ⟨⟨c + 1, _, by omega, by go_num, (unhide HI6).2, (unhide HI6).1⟩, by simp [intOf]; omega⟩
    ·go_simp
     refine ((unhide HM) w2 (prog_keep (Keeps.of_below (hI1.bel.trans (hb2'.mono hI1.bel.size))) (unhide HP))).mono ?_
     rintro e w3 ⟨h3, hb3⟩
     have hb3' : Below Z.heap.size Z w3 := hb2'.trans (hb3.mono hb2'.size)
     have I3 := hI1.below hb3'
     rcases h3 with ⟨vm', rfl, hGm, hal⟩ | ⟨rfl, k', m', hm', hq'⟩
     rotate_left
     ·have HR : Hid (CertR p Q w w3 (.panicked (refC 5))) := ⟨.inr ⟨rfl, fun h => unhide HAG h k' m' hm' hq'⟩, I3.bel⟩
      clear hm' hq' I3 hb3 e2
      go_wp2_with fail
      exact ⟨rfl, unhide HR⟩
     obtain ⟨na, nn, ncap, w6, happ, c6, f6, hM6, hI6⟩ := I3.next (x := { x with meths := x.meths.mapIdx fun k m => certM m ((Q c k).getD sv0) }) hqlen (B := Z.heap.size) hvZ hZ3 (ints_keep (sel_mods (Mods.of_below hb3) fun k hk hS => ⟨fun e => by omega, hS⟩) (unhide HGA)) (meths_keep (sel_mods (Mods.refl (fun _ => False) w3) fun k _ hk => ⟨fun f => f, Nat.le_trans hb2'.size hk⟩) hGm)
     replace hI6 : ClsI w (w6.setCell ⟨w.heap.size + 2, 0, none⟩ (.slice na nn ncap)) (.slice (some ⟨pb, poff, none⟩) p.length pcap) (.slice na nn ncap) ((certP p (getR Q)).take (c + 1)) := by rw [unhide HS]; exact hI6
     have HI6 := hide (And.intro hI6 (unhide HAS hal))
     have e3 : w3.cell? ⟨w.heap.size + 1 + 1, 0, none⟩ = some (.slice va vn vcap) := I3.b2.cell 0
     have HH3 := hide (And.intro hb3' hM6)
     obtain ⟨ma', _, _, mcap', rfl, _⟩ := hGm
     generalize (x.meths.mapIdx fun k m => certM m ((Q c k).getD sv0)).length = ml at *
     have e3a : (w3.alloc (.cells #[.int .i64 x.sup, .slice fa' x.fields.length fcap', .slice ma' ml mcap'] 66)).cell? ⟨w.heap.size + 1 + 1, 0, none⟩ = some (.slice va vn vcap) := (I3.b2.alloc _).cell 0
     clear hI6 hal I3 e2
     go_wp2_with fail
     refine hK.out _ _ ((unhide HO5) _ hb3') (fun hHeld => ?_)
     clear hK K
     try simp only [Act.put, List.setIfInBounds_toArray, List.set_cons_zero, List.set_cons_succ]
     refine take_x (some 24) 10 rfl rfl ?_
     refine wpAnyH_ready (rs := [1, 11]) (by kernel_rfl) (by simp) ?_
     refine AllReadyH.cons rfl (fun K hK => ?_) (AllReadyH.cons rfl (fun K hK => ?_) AllReadyH.nil)
     ·go_simp
      refine hK.out _ _ ((unhide HO5) _ (unhide HH3).1) (fun hHeld => ?_)
      clear hK K
      try simp only [Act.put, List.setIfInBounds_toArray, List.set_cons_zero, List.set_cons_succ]
      refine wpAnyH_ready (rs := [11]) (by kernel_rfl) (by simp) ?_
      refine AllReadyH.cons rfl (fun K hK => ?_) AllReadyH.nil
      go_simp
      refine hK.out _ _ ((unhide HO5) _ ((unhide HH3).1.alloc (unhide HH3).1.size _)) (fun hHeld => ?_)
      clear hK K
      try simp only [Act.put, List.setIfInBounds_toArray, List.set_cons_zero, List.set_cons_succ]
      refine wpAnyH_ready (rs := [12]) (by kernel_rfl) (by simp) ?_
      refine AllReadyH.cons rfl (fun K hK => ?_) AllReadyH.nil
      refine wp_append_run (.tmp 15) (.tmp 25) 22 rfl _ _ rfl rfl happ ?_
      go_simp
      refine hK.out _ _ ((unhide HO6) _ _ (unhide HH3).1 ((unhide HH3).2.mono fun _ _ h => .inl h)) (fun hHeld => ?_)
      clear hK K
      try simp only [Act.put, List.setIfInBounds_toArray, List.set_cons_zero, List.set_cons_succ]
      refine take_x (some 27) 13 rfl rfl ?_
      refine wpAnyH_ready (rs := [14]) (by kernel_rfl) (by simp) ?_
      refine AllReadyH.cons rfl (fun K hK => ?_) AllReadyH.nil
      go_simp
      refine hK.out _ _ ((unhide HO6) _ _ (unhide HH3).1 (((unhide HH3).2.mono fun _ _ h => .inl h).setCell (p := ⟨w.heap.size + 1 + 1, 0, none⟩) (fun _ => .inr rfl) _)) (fun hHeld => ?_)
      clear hK K
      try simp only [Act.put, List.setIfInBounds_toArray, List.set_cons_zero, List.set_cons_succ]
      refine wpAnyH_done (by kernel_rfl) ?_ _
      clear happ c6 f6 e3 e3a
      go_wp2_with fail
      exact ⟨⟨c + 1, _, by omega, by go_num, (unhide HI6).2, (unhide HI6).1⟩, by simp [intOf]; omega⟩
     ·go_simp
      refine hK.out _ _ ((unhide HO5) _ ((unhide HH3).1.alloc (unhide HH3).1.size _)) (fun hHeld => ?_)
      clear hK K
      try simp only [Act.put, List.setIfInBounds_toArray, List.set_cons_zero, List.set_cons_succ]
      refine wpAnyH_ready (rs := [1]) (by kernel_rfl) (by simp) ?_
      refine AllReadyH.cons rfl (fun K hK => ?_) AllReadyH.nil
      go_simp
      refine hK.out _ _ ((unhide HO5) _ ((unhide HH3).1.alloc (unhide HH3).1.size _)) (fun hHeld => ?_)
      clear hK K
      try simp only [Act.put, List.setIfInBounds_toArray, List.set_cons_zero, List.set_cons_succ]
      refine wpAnyH_ready (rs := [12]) (by kernel_rfl) (by simp) ?_
      refine AllReadyH.cons rfl (fun K hK => ?_) AllReadyH.nil
      refine wp_append_run (.tmp 15) (.tmp 25) 22 rfl _ _ rfl rfl happ ?_
      go_simp
      refine hK.out _ _ ((unhide HO6) _ _ (unhide HH3).1 ((unhide HH3).2.mono fun _ _ h => .inl h)) (fun hHeld => ?_)
      clear hK K
      try simp only [Act.put, List.setIfInBounds_toArray, List.set_cons_zero, List.set_cons_succ]
      refine take_x (some 27) 13 rfl rfl ?_
      refine wpAnyH_ready (rs := [14]) (by kernel_rfl) (by simp) ?_
      refine AllReadyH.cons rfl (fun K hK => ?_) AllReadyH.nil
      go_simp
      refine hK.out _ _ ((unhide HO6) _ _ (unhide HH3).1 (((unhide HH3).2.mono fun _ _ h => .inl h).setCell (p := ⟨w.heap.size + 1 + 1, 0, none⟩) (fun _ => .inr rfl) _)) (fun hHeld => ?_)
      clear hK K
      try simp only [Act.put, List.setIfInBounds_toArray, List.set_cons_zero, List.set_cons_succ]
      refine wpAnyH_done (by kernel_rfl) ?_ _
      clear happ c6 f6 e3 e3a
      go_wp2_with fail
      exact ⟨⟨c + 1, _, by omega, by go_num, (unhide HI6).2, (unhide HI6).1⟩, by simp [intOf]; omega⟩
  ·obtain rfl : c = p.length := by omega
   have a2 : wr.cell? ⟨w.heap.size + 2, 0, none⟩ = some v := hI.b2.cell 0
   have a1 : wr.cell? ⟨w.heap.size + 1, 0, none⟩ = some (.slice none 0 0) := hI.b1.cell 0
   have f1 := hI.b1.frozen 0
   have hfin := hI.fin
   rw [List.take_of_length_le (by rw [certP_len]; exact Nat.le_refl _)] at hfin
   have hb1 := hI.b1.setCell 0 v
   have hbl := hI.bel.setCell (p := ⟨w.heap.size + 1, 0, none⟩) (by dsimp only; omega) v
   have HF1 := hide (And.intro hfin (And.intro hb1 hbl))
   obtain ⟨va, vn, vcap, rfl⟩ : ∃ a n cap, v = .slice a n cap := by
    obtain ⟨cs, hO, _⟩ := hI.row
    obtain ⟨a, cap, h⟩ := own_form hO
    exact ⟨a, _, cap, h⟩
   clear hI hfin hb1 hbl
   go_wp2_with fail
   refine bodyPost_ret (results_blk rfl aggPr1 (unhide HF1).2.1 rfl rfl) rfl ?_
   exact ⟨.inl ⟨_, rfl, (unhide HF1).1, alls_of fun c hc k m hm => unhide HA c hc k m hc hm⟩, (unhide HF1).2.2⟩
end Go.Proofs.YtiiokkllmchohaaGreat
/- The code's Certify. -/
namespace Go.Proofs.YtiiokkllmchohaaGreat
open Go.RowKit Go.Shelf
attribute [local go_sem ↓] Go.wp_at_zero Go.wp_at_succ
attribute [local go_sem] frz_drew

def Cer1R (p : List LClass) (Q : Nat → Nat → Option SvSt) (b3 : Nat) (w w' : World) (e : Ending) : Prop :=
 ((∃ v, e = .returned (.tuple #[]) ∧ Blk w' b3 24 [v] ∧ NewP w.heap.size w' v (certP p (getR Q)) ∧ AllS p Q) ∨ (e = .panicked (refC 5) ∧ Blk w' b3 24 [.slice none 0 0] ∧ ¬ AllS p Q)) ∧ Mods (fun k => k = b3) w w'
set_option maxHeartbeats 1000000 in
set_option maxRecDepth 100000 in
theorem cer1 (p : List LClass) (vc : Value) (b0 b3 : Nat) (w : World) (h0 : Blk w b0 24 [vc]) (hp : RProg w vc p) (hb3 : Blk w b3 24 [.slice none 0 0]) (hF : formI p = 0) (hz : szProg p ≤ 4194304) (Q : Nat → Nat → Option SvSt) (hQ : Ends p Q) :
  Calls Tryz.prog 57 #[.pointer (some ⟨b0, 0, none⟩), .pointer (some ⟨b3, 0, none⟩)] w fun e w' => Cer1R p Q b3 w w' e := by
 have HP := hide hp
 have HF := hide hF
 have HQ := hide hQ
 obtain ⟨pa, _, _, pcap, rfl, _⟩ := hp
 have q0 : w.cell? ⟨b0, 0, none⟩ = some (.slice pa p.length pcap) := h0.cell 0
 clear hQ hF h0
 go_enter Tryz.func57, Tryz.ntmps57
 go_wp2_with fail
 refine (cer_certify p _ w (unhide HP) (unhide HF) hz Q (unhide HQ)).mono ?_
 rintro e w1 ⟨h1, hb⟩
 have B3 := hb3.below hb hb3.lt
 have l3 := hb3.lt
 clear q0 HQ
 rcases h1 with ⟨v, rfl, hN, hA⟩ | ⟨rfl, hA⟩
 ·obtain ⟨ra, rb, ro, rcap, rfl, _⟩ := id hN
  have c3 : w1.cell? ⟨b3, 0, none⟩ = some (.slice none 0 0) := B3.cell 0
  have f3 := B3.frozen 0
  have hM : Mods (fun k => k = b3) w1 (w1.setCell ⟨b3, 0, none⟩ (.slice ra (certP p (getR Q)).length rcap)) := (Mods.refl (fun k => k = b3) w1).setCell (p := ⟨b3, 0, none⟩) (fun _ => rfl) _
  have HF : Hid (Cer1R p Q b3 w (w1.setCell ⟨b3, 0, none⟩ (.slice ra (certP p (getR Q)).length rcap)) (.returned (.tuple #[]))) := by
   refine ⟨.inl ⟨_, rfl, B3.setCell 0 _, NewP.mods hN hM (fun k hk e => by omega) (Nat.le_refl _), hA⟩, (bnone hb).trans hM (fun _ _ e => e)⟩
  clear hN hM hA
  generalize (certP p (getR Q)).length = nq at *
  go_wp2_with fail
  go_end0
  exact unhide HF
 ·have HA := hide hA
  clear hA
  go_wp2_with fail
  exact ⟨rfl, .inr ⟨rfl, B3, unhide HA⟩, bnone hb⟩
def Cer2R (p : List LClass) (Q : Nat → Nat → Option SvSt) (b3 : Nat) (w w' : World) (e : Ending) : Prop :=
 ((∃ v, e = .returned (.int .i64 0) ∧ Blk w' b3 24 [v] ∧ NewP w.heap.size w' v (certP p (getR Q)) ∧ AllS p Q) ∨ (e = .returned (.int .i64 5) ∧ Blk w' b3 24 [.slice none 0 0] ∧ ¬ AllS p Q)) ∧ Mods (fun k => k = b3) w w'
set_option maxHeartbeats 1000000 in
set_option maxRecDepth 100000 in
theorem cer_attempt (p : List LClass) (vc : Value) (b0 b3 : Nat) (w : World) (h0 : Blk w b0 24 [vc]) (hp : RProg w vc p) (hb3 : Blk w b3 24 [.slice none 0 0]) (hF : formI p = 0) (hz : szProg p ≤ 4194304) (Q : Nat → Nat → Option SvSt) (hQ : Ends p Q) :
  Calls Tryz.prog 36 #[.func (.func 57) #[] #[.pointer (some ⟨b0, 0, none⟩), .pointer (some ⟨b3, 0, none⟩)]] w fun e w' => Cer2R p Q b3 w w' e := by
 have hmf : ∀ (fn : Fn) (first cap : Array Value) (w : World), (Instr.makeFunc fn first cap).run Tryz.prog w = .ok (.func fn first cap) w := fun _ _ _ _ => rfl
 have hbw := box_below w (.cells #[.int .i64 0] 26)
 have H1 := hide (And.intro (h0.below hbw h0.lt) (prog_keep (Keeps.of_below hbw) hp))
 have HB3 := hide (hb3.alloc (.cells #[.int .i64 0] 26))
 have be := Blk.new w #[.int .i64 0] 26
 have HQ := hide hQ
 have HF := hide hF
 have l3 := hb3.lt
 clear h0 hp hb3 hQ hF
 go_enter_defers Tryz.func36, Tryz.ntmps36
 go_wp2_with fail
 generalize w.alloc _ = W at *
 refine Calls.mono (cer1 p vc b0 b3 _ (unhide H1).1 (unhide H1).2 (unhide HB3) (unhide HF) hz Q (unhide HQ)) ?_
 rintro e w1 ⟨h1, hM⟩
 have be1 := be.mods hM (by omega)
 have c0 : w1.cell? ⟨w.heap.size, 0, none⟩ = some (.int .i64 0) := be1.cell 0
 have f0 := be1.frozen 0
 have HM := hide ((bnone (S := fun k => k = b3) hbw).trans hM (fun _ _ e => e))
 have hsz := hbw.size
 have hWs := be.lt
 clear HQ
 rcases h1 with ⟨v, rfl, B3, hN, hA⟩ | ⟨rfl, B3, hA⟩
 ·have HN := hide (And.intro hN hA)
  clear hN hA hM
  go_wp2_with fail
  have Z0 := (be1.setCell 0 (.int .i64 0)).cell 0
  have Z2 := (unhide HM).setCell (p := ⟨w.heap.size, 0, none⟩) (fun h => absurd h (Nat.lt_irrefl _)) (.int .i64 0)
  have Z3 := B3.setCell_ne (p := ⟨w.heap.size, 0, none⟩) (by dsimp only; omega) (.int .i64 0)
  have hMZ : Mods (fun k => k = w.heap.size) w1 (w1.setCell ⟨w.heap.size, 0, none⟩ (.int .i64 0)) := (Mods.refl (fun k => k = w.heap.size) w1).setCell (p := ⟨w.heap.size, 0, none⟩) (fun _ => rfl) _
  generalize World.setCell _ _ _ = Z at Z0 Z2 Z3 hMZ ⊢
  replace Z0 : Z.cell? ⟨w.heap.size, 0, none⟩ = some (.int .i64 0) := Z0
  have HF : Hid (Cer2R p Q b3 w Z (.returned (.int .i64 0))) := ⟨.inl ⟨v, rfl, Z3, NewP.mods (unhide HN).1 hMZ (fun k hk e => by omega) hsz, (unhide HN).2⟩, Z2⟩
  clear c0 f0
  refine leaves_cons (f := 72) (args := #[.pointer (some ⟨w.heap.size, 0, none⟩)]) (by simp) (by simp [go_sem]) ?_
  refine (catch_idle ⟨w.heap.size, 0, none⟩ _).mono ?_
  rintro e u' w2 ⟨rfl, rfl, rfl⟩
  simp [Leaves, settle, results, Tryz.results36, go_sem, Z0]
  exact unhide HF
 ·have HA := hide hA
  clear hA hM
  go_wp2_with fail
  refine leaves_cons (f := 72) (args := #[.pointer (some ⟨w.heap.size, 0, none⟩)]) (by simp) (by simp [go_sem]) ?_
  refine (catch_giving ⟨w.heap.size, 0, none⟩ 5 0 _ c0 f0).mono ?_
  rintro e u' w2 ⟨rfl, rfl, rfl⟩
  have Z0 := ((be1.alloc (.cells #[.int .i64 5] 119)).setCell 0 (.int .i64 5)).cell 0
  have Z2 := ((unhide HM).alloc (.cells #[.int .i64 5] 119)).setCell (p := ⟨w.heap.size, 0, none⟩) (fun h => absurd h (Nat.lt_irrefl _)) (.int .i64 5)
  have Z3 := (B3.alloc (.cells #[.int .i64 5] 119)).setCell_ne (p := ⟨w.heap.size, 0, none⟩) (by dsimp only; omega) (.int .i64 5)
  generalize World.setCell _ _ _ = Z at Z0 Z2 Z3 ⊢
  replace Z0 : Z.cell? ⟨w.heap.size, 0, none⟩ = some (.int .i64 5) := Z0
  have HF : Hid (Cer2R p Q b3 w Z (.returned (.int .i64 5))) := ⟨.inr ⟨rfl, Z3, unhide HA⟩, Z2⟩
  clear c0 f0
  simp [Leaves, settle, results, Tryz.results36, go_sem, Z0]
  exact unhide HF
def CertifyR (p : List LClass) (Q : Nat → Nat → Option SvSt) (w w' : World) (e : Ending) : Prop :=
 (formI p ≠ 0 → e = .returned (.tuple #[.agg #[.slice none 0 0], .int .i64 (formI p)])) ∧ (formI p = 0 → (AllS p Q ∧ ∃ v, e = .returned (.tuple #[.agg #[v], .int .i64 0]) ∧ NewP w.heap.size w' v (certP p (getR Q))) ∨ (¬ AllS p Q ∧ e = .returned (.tuple #[.agg #[.slice none 0 0], .int .i64 5]))) ∧ Below w.heap.size w w'
set_option maxHeartbeats 1000000 in
set_option maxRecDepth 100000 in
theorem code_certify (p : List LClass) (vc : Value) (w : World) (hp : RProg w vc p) (hwf : wfProg p) (hz : szProg p ≤ 4194304) (Q : Nat → Nat → Option SvSt) (hQ : formI p = 0 → Ends p Q) :
  Calls Tryz.prog 25 #[.agg #[vc]] w fun e w' => CertifyR p Q w w' e := by
 have hmf : ∀ (fn : Fn) (first cap : Array Value) (w : World), (Instr.makeFunc fn first cap).run Tryz.prog w = .ok (.func fn first cap) w := fun _ _ _ _ => rfl
 have HP := hide hp
 have HQ := hide hQ
 obtain ⟨pa, _, _, pcap, rfl, _⟩ := hp
 have hbel : Below w.heap.size w ((w.alloc (.cells #[.slice pa p.length pcap] 24)).alloc (.cells #[.slice none 0 0] 24)) := box2_below _ _ _
 have B0 := (Blk.new w #[.slice pa p.length pcap] 24).alloc (.cells #[.slice none 0 0] 24)
 have B1 := Blk.new (w.alloc (.cells #[.slice pa p.length pcap] 24)) #[.slice none 0 0] 24
 rw [World.size_alloc] at B1
 clear hQ
 go_enter Tryz.func25, Tryz.ntmps25
 go_wp2_with fail
 generalize (w.alloc _).alloc _ = W at *
 refine (code_check p _ W (prog_keep (Keeps.of_below hbel) (unhide HP)) hwf hz).mono ?_
 rintro e w1 ⟨rfl, hb1⟩
 have hbw1 := hbel.trans (hb1.mono hbel.size)
 have C0 := B0.below hb1 (by have := B0.lt; omega)
 have C1 := B1.below hb1 (by have := B1.lt; omega)
 have c1 : w1.cell? ⟨w.heap.size + 1, 0, none⟩ = some (.slice none 0 0) := C1.cell 0
 have f1 := C1.frozen 0
 by_cases hF : formI p = 0
 ·have HF := hide hF
  rw [hF]
  clear hF
  have l1 := C1.lt
  have hb2 := box_below w1 (.cells #[.slice none 0 0] 24)
  have hbw2 := hbw1.trans (hb2.mono hbw1.size)
  have D0 := C0.below hb2 C0.lt
  have D1 := C1.below hb2 C1.lt
  have D2 := Blk.new w1 #[.slice none 0 0] 24
  go_wp2_with fail
  generalize w1.alloc _ = w2 at *
  have hw1 := hbw1.size
  refine (cer_attempt p _ w.heap.size w1.heap.size w2 D0 (prog_keep (Keeps.of_below hbw2) (unhide HP)) D2 (unhide HF) hz Q (unhide HQ (unhide HF))).mono ?_
  rintro e w5 ⟨h5, hM5⟩
  have hbw5 : Below w.heap.size w w5 := hbw2.trans (hM5.below hbw2.size (fun k hk e => by omega))
  have E1 := D1.mods hM5 (by omega)
  have e1 : w5.cell? ⟨w.heap.size + 1, 0, none⟩ = some (.slice none 0 0) := E1.cell 0
  have g1 := E1.frozen 0
  have hz2 := hb2.size
  clear c1 f1 HQ
  rcases h5 with ⟨v, rfl, E3, hN, hA⟩ | ⟨rfl, E3, hA⟩
  ·obtain ⟨va, vn, vcap, hv⟩ : ∃ a n cap, v = .slice a n cap := by
    obtain ⟨a, _, _, cap, h, _⟩ := hN
    exact ⟨a, _, cap, h⟩
   subst hv
   have e3 : w5.cell? ⟨w1.heap.size, 0, none⟩ = some (.slice va vn vcap) := E3.cell 0
   have R1 := E1.setCell 0 (.slice va vn vcap)
   have hM6 : Mods (fun k => k = w.heap.size + 1) w5 (w5.setCell ⟨w.heap.size + 1, 0, none⟩ (.slice va vn vcap)) := (Mods.refl (fun k => k = w.heap.size + 1) w5).setCell (p := ⟨w.heap.size + 1, 0, none⟩) (fun _ => rfl) _
   have HFin : Hid (CertifyR p Q w (w5.setCell ⟨w.heap.size + 1, 0, none⟩ (.slice va vn vcap)) (.returned (.tuple #[.agg #[.slice va vn vcap], .int .i64 0]))) :=
    ⟨fun e => absurd (unhide HF) e, fun _ => .inl ⟨hA, _, rfl, NewP.mods hN hM6 (fun k hk e => by omega) (by omega)⟩, hbw5.trans (hM6.below hbw5.size (fun k hk e => by omega))⟩
   clear hN hA hM6
   go_wp2_with fail
   refine bodyPost_ret (results_blk2 rfl aggPr1 R1 rfl rfl) rfl ?_
   exact unhide HFin
  ·have e3 : w5.cell? ⟨w1.heap.size, 0, none⟩ = some (.slice none 0 0) := E3.cell 0
   have R1 := E1.setCell 0 (.slice none 0 0)
   have hM6 : Mods (fun k => k = w.heap.size + 1) w5 (w5.setCell ⟨w.heap.size + 1, 0, none⟩ (.slice none 0 0)) := (Mods.refl (fun k => k = w.heap.size + 1) w5).setCell (p := ⟨w.heap.size + 1, 0, none⟩) (fun _ => rfl) _
   have HFin : Hid (CertifyR p Q w (w5.setCell ⟨w.heap.size + 1, 0, none⟩ (.slice none 0 0)) (.returned (.tuple #[.agg #[.slice none 0 0], .int .i64 5]))) :=
    ⟨fun e => absurd (unhide HF) e, fun _ => .inr ⟨hA, rfl⟩, hbw5.trans (hM6.below hbw5.size (fun k hk e => by omega))⟩
   clear hA hM6
   go_wp2_with fail
   refine bodyPost_ret (results_blk2 rfl aggPr1 R1 rfl rfl) rfl ?_
   exact unhide HFin
 ·have HFF := hide hF
  have hF' : (formI p != 0) = true := by simpa using hF
  have R1 := C1.setCell 0 (.slice none 0 0)
  have HB := hide (hbw1.setCell (p := ⟨w.heap.size + 1, 0, none⟩) (by dsimp only; omega) (.slice none 0 0))
  clear hF
  go_wp2_with fail
  refine bodyPost_ret (results_blk2 rfl aggPr1 R1 rfl rfl) rfl ?_
  exact ⟨fun _ => rfl, fun e => absurd e (unhide HFF), unhide HB⟩
end Go.Proofs.YtiiokkllmchohaaGreat
/- The law Agreed, walked. -/
namespace Go.Proofs.YtiiokkllmchohaaGreat
open Go.RowKit Go.Shelf
attribute [local go_sem ↓] Go.wp_at_zero Go.wp_at_succ
attribute [local go_sem] frz_drew

def solC (p : List LClass) (Q : Nat → Nat → Option SvSt) (c : Nat) : Bool := match p[c]? with
 | some x => (List.range x.meths.length).all fun k => (Q c k).isSome
 | none => true
def solA (p : List LClass) (Q : Nat → Nat → Option SvSt) : Bool := (List.range p.length).all (solC p Q)
theorem solC_at {p : List LClass} {Q : Nat → Nat → Option SvSt} {c : Nat} (h : c < p.length) : solC p Q c = (List.range p[c].meths.length).all fun k => (Q c k).isSome := by
 unfold solC
 rw [List.getElem?_eq_getElem h]
theorem solA_iff {p : List LClass} {Q : Nat → Nat → Option SvSt} : solA p Q = true ↔ AllS p Q := by
 unfold solA
 rw [List.all_eq_true]
 constructor
 ·intro h
  refine alls_of fun c hc k m hm e => ?_
  have h1 := h c (List.mem_range.2 hc)
  rw [solC_at hc, List.all_eq_true] at h1
  have h2 := h1 k (List.mem_range.2 (List.getElem?_eq_some_iff.1 hm).1)
  rw [e] at h2
  cases h2
 ·intro h c hc
  have hc' := List.mem_range.1 hc
  rw [solC_at hc', List.all_eq_true]
  intro k hk
  have hk' := List.mem_range.1 hk
  have := alls_get h hc' (List.getElem?_eq_getElem hk')
  cases e : Q c k with
  | none => exact absurd e this
  | some s => rfl
theorem all_snocR (f : Nat → Bool) (c : Nat) : (List.range (c + 1)).all f = ((List.range c).all f && f c) := by
 rw [List.range_succ, List.all_append]
 simp
set_option maxHeartbeats 2000000 in
set_option maxRecDepth 100000 in
theorem keep_agreed (p : List LClass) (vp : Value) (w : World) (hp : RProg w vp p) (hwf : wfProg p) (hz : szProg p ≤ 4194304) :
  Calls Tryz.prog 6 #[.agg #[vp]] w fun e w' => e = .returned (.bool true) ∧ Below w.heap.size w w' := by
 have hpl : p.length ≤ 4194304 := Nat.le_trans (szProg_len p) hz
 have HP := hide hp
 obtain ⟨pa, pb, poff, pcap, rfl, _, hpa, hpr⟩ := sl_open hp
 have HPR := hide hpr
 clear hp hpr
 have hbel := box_below w (.cells #[.slice pa p.length pcap] 24)
 have B0 := Blk.new w #[.slice pa p.length pcap] 24
 go_enter Tryz.func6, Tryz.ntmps6
 go_wp2_with fail
 generalize w.alloc _ = W at *
 refine (keep_awake W).mono ?_
 rintro e w1 ⟨rfl, hb1⟩
 have hbw1 := hbel.trans (hb1.mono hbel.size)
 have C1 := B0.below hb1 (by have := B0.lt; omega)
 have q1 : w1.cell? ⟨w.heap.size, 0, none⟩ = some (.slice pa p.length pcap) := C1.cell 0
 clear hb1 hbel B0
 go_wp2_with fail
 refine (code_form p _ w1 (prog_keep (Keeps.of_below hbw1) (unhide HP)) hwf hz).mono ?_
 rintro e w2 ⟨rfl, hb2⟩
 have hbw2 := hbw1.trans (hb2.mono hbw1.size)
 have C2 := C1.below hb2 (by have := C1.lt; omega)
 have q2 : w2.cell? ⟨w.heap.size, 0, none⟩ = some (.slice pa p.length pcap) := C2.cell 0
 clear hb2 hbw1 C1 q1
 by_cases hF : formI p = 0
 ·have HF := hide hF
  obtain ⟨Q, hQ⟩ := ends_ex hF
  have HQ := hide hQ
  rw [hF]
  clear hF hQ
  go_wp2_with fail
  go_loopw [5, 6] (fun s i wr => ∃ c : Nat, c ≤ p.length ∧ i = .int .i64 c ∧ s = .bool ((List.range c).all (solC p Q)) ∧ Below w2.heap.size w2 wr) (fun _ i _ => p.length - (intOf i).toNat)
  case atStart => exact ⟨0, Nat.zero_le _, rfl, rfl, Below.refl _ _⟩
  case round =>
   obtain ⟨c, hc, rfl, rfl, hbr⟩ := hrel
   obtain ⟨wo, rfl⟩ : ∃ wo : World, wo = wr := ⟨_, rfl⟩
   have hfin : Below w.heap.size w wo := hbw2.trans (hbr.mono hbw2.size)
   have e0 := Keeps.of_below hbr _ _ q2
   by_cases hlt : c < p.length
   ·obtain rfl := hpa (ne_nil_of_lt hlt)
    obtain ⟨vf, vm, c0, c1, c2, hf, hmt⟩ := unhide HPR c hlt
    have hxl : szClass p[c] ≤ 4194304 := Nat.le_trans (szClass_le (List.getElem_mem hlt)) hz
    have HO := hide (fun (k : Nat) (hk : k < p[c].meths.length) => ownM_some hlt hk)
    have HSC := hide (solC_at (Q := Q) hlt)
    generalize p[c] = x at *
    obtain ⟨ma, mb, moff, mcap, rfl, hmcap, hma, hmr⟩ := sl_open hmt
    have hms : x.meths.length ≤ 4194304 := Nat.le_trans (szMeths_le x) hxl
    have HC2 := hide c2
    have hk0 : (0 : Int) ≤ (c : Int) := by omega
    have hk1 : (c : Int) < (p.length : Int) := by omega
    have HSN := hide (all_snocR (solC p Q) c)
    generalize (List.range c).all (solC p Q) = A0 at *
    clear hmr hmt c0 c1 c2 hf hma
    go_wp2_with fail
    go_loopw [5, 7] (fun s i wr => ∃ k : Nat, k ≤ x.meths.length ∧ i = .int .i64 k ∧ s = .bool (A0 && (List.range k).all fun k => (Q c k).isSome) ∧ Below w2.heap.size w2 wr) (fun _ i _ => x.meths.length - (intOf i).toNat)
    case atStart => exact ⟨0, Nat.zero_le _, rfl, by simp, hbr⟩
    case round =>
     obtain ⟨k, hk, rfl, rfl, hbr2⟩ := hrel
     have hf2 : Below w.heap.size w wr := hbw2.trans (hbr2.mono hbw2.size)
     have e1 := Keeps.of_below hbr2 _ _ q2
     have g2 := Keeps.of_below hf2 _ _ (unhide HC2)
     have hlt0 := cell_lt e1
     have hlt1 := cell_lt g2
     by_cases hlt2 : k < x.meths.length
     ·have hown := unhide HO k hlt2
      obtain ⟨N, hN⟩ := unhide HQ c k _ hown
      have hch := checkI_own (unhide HF) hown
      have hps := fun h => pass_solves (unhide HF) hz hown h hN
      have HT := hide (show ∀ m, formI p = 0 → ownM p (c : Int) (k : Int) = some m → solveN p m N (putP sv0 0 (beginS c m)) = some (Q c k) from fun m _ h => by
       rw [hown] at h
       cases h
       exact hN)
      have HOW := hide hown
      have HSN2 := hide (all_snocR (fun k => (Q c k).isSome) k)
      generalize ((List.range k).all fun k => (Q c k).isSome) = A1 at *
      generalize x.meths[k] = m at *
      have HCH := hide hch
      have HPS := hide hps
      clear hch hps hN hown
      go_wp2_with fail
      refine (code_chk p _ (c : Int) (k : Int) wr (prog_keep (Keeps.of_below hf2) (unhide HP)) hwf hz).mono ?_
      rintro e w3 ⟨rfl, hb3⟩
      rw [unhide HCH]
      obtain ⟨xi, hxi⟩ : ∃ xi : Int, xi = if passB p (c : Int) m then 0 else 5 := ⟨_, rfl⟩
      rw [← hxi]
      have HXI := hide hxi
      clear hxi
      have hbr3 := hbr2.trans (hb3.mono hbr2.size)
      have hf3 : Below w.heap.size w w3 := hbw2.trans (hbr3.mono hbw2.size)
      have e3 := Keeps.of_below hbr3 _ _ q2
      clear e1 g2
      go_wp2_with fail
      refine (code_infer p _ (c : Int) (k : Int) w3 (prog_keep (Keeps.of_below hf3) (unhide HP)) hwf hz N (Q c k) (unhide HT)).mono ?_
      rintro e w4 ⟨_, _, h4, hb4⟩
      obtain ⟨h5, h6⟩ := h4 (unhide HF) m (unhide HOW)
      have hbr4 := hbr3.trans (hb4.mono hbr3.size)
      obtain ⟨ya, yn, ycap, yi, rfl, hyi⟩ : ∃ a n cap yi, e = .returned (.tuple #[.slice a n cap, .int .i64 yi]) ∧ yi = if (Q c k).isSome then 0 else 5 := by
       cases hq : Q c k with
       | none => exact ⟨_, _, _, _, h5 hq, rfl⟩
       | some s =>
        obtain ⟨v, hv, cs, hO, _⟩ := h6 s hq
        obtain ⟨a, cap, rfl⟩ := own_form hO
        exact ⟨_, _, _, _, hv, rfl⟩
      have hnot : ¬ (xi = 0 ∧ yi = 5) := fun ⟨h1, h2⟩ => by
       rw [unhide HXI] at h1
       rw [hyi] at h2
       cases hq : passB p (c : Int) m with
       | false => rw [hq] at h1; simp at h1
       | true =>
        obtain ⟨s, hs⟩ := unhide HPS hq
        rw [hs] at h2
        simp at h2
      have hxx : xi = 0 ∨ xi = 5 := by
       rw [unhide HXI]
       split
       ·exact .inl rfl
       ·exact .inr rfl
      have hnx : (A0 && (List.range (k + 1)).all fun k => (Q c k).isSome) = (A0 && A1 && (Q c k).isSome) := by rw [unhide HSN2, Bool.and_assoc]
      have HE := hide hnx
      clear hnx h4 h5 h6 HXI HPS HCH HT HOW HSN2
      generalize (Q c k).isSome = b at *
      generalize (A0 && A1) = A at *
      cases b with
      | true =>
       rw [if_pos rfl] at hyi
       subst hyi
       clear hnot
       rcases hxx with rfl | rfl
       ·cases A with
        | true =>
         go_wp2_with fail
         exact ⟨⟨k + 1, by omega, by go_num, by rw [unhide HE]; rfl, hbr4⟩, by simp [intOf]; omega⟩
        | false =>
         go_wp2_with fail
         exact ⟨⟨k + 1, by omega, by go_num, by rw [unhide HE]; rfl, hbr4⟩, by simp [intOf]; omega⟩
       ·cases A with
        | true =>
         go_wp2_with fail
         exact ⟨⟨k + 1, by omega, by go_num, by rw [unhide HE]; rfl, hbr4⟩, by simp [intOf]; omega⟩
        | false =>
         go_wp2_with fail
         exact ⟨⟨k + 1, by omega, by go_num, by rw [unhide HE]; rfl, hbr4⟩, by simp [intOf]; omega⟩
      | false =>
       rw [if_neg (by simp)] at hyi
       subst hyi
       obtain rfl : xi = 5 := by
        rcases hxx with h | h
        ·exact absurd ⟨h, rfl⟩ hnot
        ·exact h
       clear hnot hxx
       cases A with
       | true =>
        go_wp2_with fail
        exact ⟨⟨k + 1, by omega, by go_num, by rw [unhide HE]; rfl, hbr4⟩, by simp [intOf]; omega⟩
       | false =>
        go_wp2_with fail
        exact ⟨⟨k + 1, by omega, by go_num, by rw [unhide HE]; rfl, hbr4⟩, by simp [intOf]; omega⟩
     ·obtain rfl : k = x.meths.length := by omega
      have hx : (A0 && (List.range x.meths.length).all fun k => (Q c k).isSome) = (List.range (c + 1)).all (solC p Q) := by rw [unhide HSN, unhide HSC]
      rw [hx]
      clear hx
      obtain ⟨A, hA⟩ : ∃ A, A = (List.range (c + 1)).all (solC p Q) := ⟨_, rfl⟩
      rw [← hA]
      have HAA := hide hA
      clear hA
      go_wp2_with fail
      exact ⟨⟨c + 1, by omega, by go_num, congrArg Value.bool (unhide HAA), hbr2⟩, by simp [intOf]; omega⟩
   ·obtain rfl : c = p.length := by omega
    have hsa := solA_iff (p := p) (Q := Q)
    unfold solA at hsa
    generalize (List.range p.length).all (solC p Q) = A at *
    have HSA := hide hsa
    clear hsa
    go_wp2_with fail
    refine (code_certify p _ wo (prog_keep (Keeps.of_below hfin) (unhide HP)) hwf hz Q (fun _ => unhide HQ)).mono ?_
    rintro e w3 ⟨_, h3, hb3⟩
    have hf3 := hfin.trans (hb3.mono hfin.size)
    rcases h3 (unhide HF) with ⟨hA, v, rfl, hN⟩ | ⟨hA, rfl⟩
    ·obtain rfl : A = true := (unhide HSA).2 hA
     have hS := ends_sols (unhide HQ) hA
     have hFq := cert_form (unhide HF) hz hS
     have hwq := cert_wf hwf (unhide HF) hz hS
     have hpq : passAllB (certP p (getR Q)) = true := passAllB_iff.2 (cert_passAll (unhide HF) hS)
     obtain ⟨hQ2, hA2⟩ := cert_ends (unhide HQ) hA
     have hag : certP (certP p (getR Q)) (getR Q) = certP p (getR Q) := cert_again
     have RQ := hN.read
     generalize certP p (getR Q) = q at *
     have hzq : szProg q ≤ 4194304 := Nat.le_trans (form_sz hFq) (by omega)
     have heq : encodeI q = (encProg q, 0) := by unfold encodeI; rw [if_pos hFq]
     have HRQ := hide RQ
     obtain ⟨va, _, _, vcap, rfl, _⟩ := RQ
     have HX := hide (And.intro hFq (And.intro hwq (And.intro hpq (And.intro hQ2 (And.intro hA2 (And.intro hag heq))))))
     have hbx := box_below w3 (.cells #[.slice va q.length vcap] 24)
     have BQ := Blk.new w3 #[.slice va q.length vcap] 24
     have hf4 := hf3.trans (hbx.mono hf3.size)
     have HRQ4 := hide (prog_keep (Keeps.of_below hbx) (unhide HRQ))
     clear hS hFq hwq hpq hQ2 hA2 hag heq hN hA h3 HRQ hb3 HSA HQ HF e0 hbr
     go_wp2_with fail
     generalize w3.alloc _ = w4 at *
     refine (keep_passes q _ w4 (unhide HRQ4) (unhide HX).2.1 (unhide HX).1 hzq).mono ?_
     rintro e w5 ⟨rfl, hb5⟩
     rw [(unhide HX).2.2.1]
     have hf5 := hf4.trans (hb5.mono hf4.size)
     have BQ5 := BQ.below hb5 BQ.lt
     have y5 : w5.cell? ⟨w3.heap.size, 0, none⟩ = some (.slice va q.length vcap) := BQ5.cell 0
     have HRQ5 := hide (prog_keep (Keeps.of_below hb5) (unhide HRQ4))
     clear hb5 HRQ4
     go_wp2_with fail
     refine (code_encode q _ w5 (unhide HRQ5) (unhide HX).2.1 hzq).mono ?_
     rintro e w6 ⟨rfl, hb6⟩
     rw [(unhide HX).2.2.2.2.2.2]
     have hf6 := hf5.trans (hb6.mono hf5.size)
     have BQ6 := BQ5.below hb6 BQ5.lt
     have y6 : w6.cell? ⟨w3.heap.size, 0, none⟩ = some (.slice va q.length vcap) := BQ6.cell 0
     have HRQ6 := hide (prog_keep (Keeps.of_below hb6) (unhide HRQ5))
     clear hb6 HRQ5 y5
     go_wp2_with fail
     refine (code_certify q _ w6 (unhide HRQ6) (unhide HX).2.1 hzq Q (fun _ => (unhide HX).2.2.2.1)).mono ?_
     rintro e w7 ⟨_, h7, hb7⟩
     have hf7 := hf6.trans (hb7.mono hf6.size)
     rcases h7 (unhide HX).1 with ⟨_, v7, rfl, hN7⟩ | ⟨hA7, _⟩
     rotate_left
     ·exact absurd (unhide HX).2.2.2.2.1 hA7
     rw [(unhide HX).2.2.2.2.2.1] at hN7
     have R7 := hN7.read
     have HR7 := hide R7
     obtain ⟨ta, _, _, tcap, rfl, _⟩ := R7
     have hbx7 := box_below w7 (.cells #[.slice ta q.length tcap] 24)
     have BT := Blk.new w7 #[.slice ta q.length tcap] 24
     have hf8 := hf7.trans (hbx7.mono hf7.size)
     have HR8 := hide (prog_keep (Keeps.of_below hbx7) (unhide HR7))
     clear h7 hN7 HR7 hb7 y6
     go_wp2_with fail
     generalize w7.alloc _ = w8 at *
     refine (code_encode q _ w8 (unhide HR8) (unhide HX).2.1 hzq).mono ?_
     rintro e w9 ⟨rfl, hb9⟩
     rw [(unhide HX).2.2.2.2.2.2]
     have hf9 := hf8.trans (hb9.mono hf8.size)
     clear HX
     go_wp2_with fail
     go_ret
     exact ⟨rfl, hf9⟩
    ·obtain rfl : A = false := by
      cases A with
      | false => rfl
      | true => exact absurd ((unhide HSA).1 rfl) hA
     go_wp2_with fail
     go_ret
     exact ⟨rfl, hf3.trans ((box_below w3 _).mono hf3.size)⟩
 ·have hF' : (formI p != 0) = true := by simpa using hF
  clear hF
  go_wp2_with fail
  go_ret
  exact ⟨rfl, hbw2⟩
end Go.Proofs.YtiiokkllmchohaaGreat
/- RowA -/
namespace Go.Proofs.YtiiokkllmchohaaGreat
open Go.ChangeShapes Go.WideShapes Go.ChangeAt Go.RowKit

theorem bulk_single {H : Type} {d0 : DataW H} (hk : Rows.uptoSmall H ([d0] ++ []) = true) : Rows.uptoBulk d0 ≤ 1048576 := by
 have h := of_decide_eq_true hk
 simp only [List.append_nil, Rows.uptoBulkAll] at h
 omega
set_option maxRecDepth 100000 in
theorem agreed_contract (H : Type) (enc : TypeId × Value → H) (W : World) (base : Nat) (args : Array Value) (ds gs : List (DataW H)) (before : List MemPlace)
  (hval : ∀ (j : Nat) t v, Tryz.f6.params[j]? = some t → args[j]? = some v → Value.okWide Tryz.prog W .any base t v)
  (hW : DataW.Whole enc Tryz.prog Tryz.f6.params.toList Rows.agreedSpec.vars false W args.toList ds gs before) (hk : Rows.uptoSmall H (ds ++ gs) = true) :
  Calls Tryz.prog 6 args W fun e W' => ∃ v, e = .returned v ∧ Rows.agreedSpec.post enc Tryz.prog Tryz.f6 false true false false W args v W' := by
 have hW' := hW
 obtain ⟨p, q, hA0, hV, rfl, hfz, hnd⟩ := hW
 have hA : DataW.TrodAll enc Tryz.prog W 0 (fun _ => true) true Tryz.f6.params.toList args.toList ds p := hA0
 rw [Tryz.params6] at hA hval
 obtain ⟨v0, d0, rfl, rfl, h0⟩ := trodAll_one hA
 obtain ⟨rfl, rfl⟩ := trodVars_none hV
 have hbulk := bulk_single hk
 obtain ⟨vp, lp, rfl, r0, f0, z0⟩ := open_prog (hval 0 24 _ rfl rfl) h0
 clear hA0
 refine (keep_agreed lp vp W r0 f0 (by omega)).mono fun e W' ⟨he, hB⟩ => ?_
 subst he
 have e1 : Rows.agreedSpec.fn H ([d0] ++ []) = { results := [.lit (.bool true)], args := [d0] } := rfl
 refine ⟨_, rfl, _, _, _, [], p, [], hW', ?_, ?_, ?_, hB.frame _, fun h => by cases h⟩
 ·rw [e1]
  exact trodAll_mk1 (shut_bool Tryz.underlying4 _)
 ·rw [e1]
  exact trodAll_mk1 (Below.trod keep_laid (by kernel_rfl) (of_decide_eq_true (by kernel_rfl)) h0 hB (fun x hx => hW'.lt x (by simp [hx])))
 ·rw [e1]
  rfl

set_option maxRecDepth 100000 in
theorem agreed_lifted (os : Os) (started : os.Started) (H : Type) (enc : TypeId × Value → H) (F : Stop.Interp) :
  ReturnsInHanded {} Tryz.checked os 6 .any ((Rows.OpenSpec.upto Rows.agreedSpec).pre6 enc Tryz.prog Tryz.f6 Rows.agreedUptoRow.domain false) (((Rows.OpenSpec.upto Rows.agreedSpec).at F).post enc Tryz.prog Tryz.f6 false true false false) := by
 refine returnsInHanded_of_cond (C := Tryz.checked) (s := Rows.OpenSpec.upto Rows.agreedSpec) (k := Rows.uptoSmall) rfl keep_knob started (by kernel_rfl) Tryz.func6
  (OpenSpec.witness (enc := enc) (C := Tryz.checked) (s := Rows.OpenSpec.upto Rows.agreedSpec) (k := Rows.uptoSmall) rfl false ⟨#[], #[.agg #[.slice none 0 0]], []⟩ 8 (by kernel_rfl) (by kernel_rfl) (by kernel_rfl)
   (x := ([.agg [.nil]], [], [])) (by kernel_rfl) rfl (by kernel_rfl)) ?_
 intro W base args ds gs before hval hW _ hk _
 exact agreed_contract H enc W base args ds gs before hval hW hk

theorem agreed_over : Rows.agreedUptoRow.holds Tryz.pinned (Rows.OpenSpec.upto Rows.agreedSpec) :=
 OpenClaim.holds_of_cond 6 Tryz.f6 rfl rfl rfl rfl rfl rfl rfl ⟨rfl, rfl, rfl, rfl, rfl⟩ rfl rfl rfl rfl rfl (by kernel_rfl) Tryz.func6 (by kernel_rfl)
  (of_decide_eq_true (by kernel_rfl)) (by unfold Func.isWrapper; first | (rw [if_pos (by decide +kernel)]; kernel_rfl) | (rw [if_neg (by decide +kernel)]; exact ⟨rfl, rfl⟩))
  (fun os started H enc _ F => agreed_lifted os started H enc F)
theorem agreed_holds : Rows.AgreedUptoSaid := agreed_over
end Go.Proofs.YtiiokkllmchohaaGreat
