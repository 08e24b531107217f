/- The pass of all methods; Run's function. -/
import Derived.Test.YtiiokkllmchohaaGreatT21
/- PassE -/
namespace Go.Proofs.YtiiokkllmchohaaGreat
open Go.RowKit Go.Shelf
attribute [local go_sem ↓] Go.wp_at_zero Go.wp_at_succ
attribute [local go_sem] frz_drew

def passCB (p : List LClass) (c : Nat) : Bool := (((p[c]?).map (·.meths)).getD []).all (passB p (c : Int))
def passAllB (p : List LClass) : Bool := (List.range p.length).all (passCB p)
theorem passCB_at {p : List LClass} {c : Nat} (h : c < p.length) : passCB p c = p[c].meths.all (passB p (c : Int)) := by
  unfold passCB
  rw [List.getElem?_eq_getElem h]; rfl
theorem passAllB_iff {p : List LClass} : passAllB p = true ↔ ∀ c k m, ownM p c k = some m → passB p c m = true := by
  unfold passAllB
  rw [List.all_eq_true]
  constructor
  · intro h c k m hm
    unfold ownM at hm
    split at hm
    · rename_i hck
      cases hx : p[c.toNat]? with
      | none => rw [hx] at hm; cases hm
      | some x =>
        rw [hx, Option.bind_some] at hm
        have hlt := (List.getElem?_eq_some_iff.1 hx).1
        have h1 := h c.toNat (List.mem_range.2 hlt)
        unfold passCB at h1
        rw [hx] at h1
        have := List.all_eq_true.1 h1 m (List.mem_of_getElem? hm)
        rw [show ((c.toNat : Nat) : Int) = c by omega] at this
        exact this
    · cases hm
  · intro h c hc
    have hlt := List.mem_range.1 hc
    rw [passCB_at hlt, List.all_eq_true]
    intro m hm
    obtain ⟨k, hk, rfl⟩ := List.getElem_of_mem hm
    exact h c k _ (ownM_some hlt hk)
theorem range_snoc (f : Nat → Bool) (c : Nat) (h : (List.range c).all f = true) : (List.range (c + 1)).all f = f c := by
  rw [List.range_succ, List.all_append, h]
  simp
theorem range_no {f : Nat → Bool} {c n : Nat} (hc : c < n) (h : f c = false) : (List.range n).all f = false := by
  rw [List.all_eq_false]
  exact ⟨c, List.mem_range.2 hc, by simp [h]⟩
set_option maxHeartbeats 4000000 in
set_option maxRecDepth 100000 in
theorem pass_all (p : List LClass) (vc : Value) (w : World) (hp : RProg w vc p) (hF : formI p = 0) (hz : szProg p ≤ 4194304) :
    Calls Tryz.prog 61 #[.agg #[vc]] w fun e w' => MustR (passAllB p) w w' e := by
  have G := form_good hF hz
  have hpl : p.length ≤ 4194304 := Nat.le_trans (szProg_len p) hz
  have HP := hide hp
  obtain ⟨pa, pb, poff, pcap, rfl, _, hpa, hpr⟩ := sl_open hp
  have HPR := hide hpr
  clear hp hpr
  go_enter Tryz.func61, Tryz.ntmps61
  go_wp2_with fail
  generalize hW : w.alloc _ = W
  have hbel : Below w.heap.size w W := by rw [← hW]; exact box_below _ _
  have hbox : W.cell? ⟨w.heap.size, 0, none⟩ = some (.slice pa p.length pcap) := by rw [← hW]; exact box_cell _ _ _ 0
  clear hW
  go_loopw [9] (fun s wr => ∃ c : Nat, c ≤ p.length ∧ s = .int .i64 c ∧ (List.range c).all (passCB p) = true ∧ Below W.heap.size W wr) (fun s _ => p.length - (intOf s).toNat)
  case atStart => exact ⟨0, Nat.zero_le _, rfl, rfl, Below.refl _ _⟩
  case round =>
    obtain ⟨c, hc, rfl, hall, hbr⟩ := hrel
    obtain ⟨wo, rfl⟩ : ∃ wo : World, wo = wr := ⟨_, rfl⟩
    have hfin : Below w.heap.size w wo := hbel.trans (hbr.mono hbel.size)
    by_cases hlt : c < p.length
    · obtain rfl := hpa (ne_nil_of_lt hlt)
      obtain ⟨vf, vm, c0, c1, c2, hf, hmt⟩ := (unhide HPR c hlt).keep (Keeps.of_below hfin)
      have hxl : szClass p[c] ≤ 4194304 := Nat.le_trans (szClass_le (List.getElem_mem hlt)) hz
      have HO := hide (fun (k : Nat) (hk : k < p[c].meths.length) => form_own hF (ownM_some hlt hk))
      have HNO := hide (fun h : p[c].meths.all (passB p (c : Int)) = false => range_no (f := passCB p) hlt (by rw [passCB_at hlt]; exact h))
      have HS := hide (show p[c].meths.all (passB p (c : Int)) = true → (List.range (c + 1)).all (passCB p) = true from fun h => by rw [range_snoc _ _ hall, passCB_at hlt]; exact h)
      clear hall
      generalize p[c] = x at *
      obtain ⟨fa, _, _, fcap, rfl, _⟩ := hf
      obtain ⟨ma, mb, moff, mcap, rfl, hmcap, hma, hmr⟩ := sl_open hmt
      have HMR := hide hmr
      have hms : x.meths.length ≤ 4194304 := Nat.le_trans (szMeths_le x) hxl
      have hltb := cell_lt c0
      clear hmr hmt
      have e0 := Keeps.of_below hbr _ _ hbox
      go_wp2_with fail
      have hbz := hbr.trans ((box_below wo (.cells #[.int .i64 x.sup, .slice fa x.fields.length fcap, .slice ma x.meths.length mcap] 66)).mono hbr.size)
      have hk0 := box_keeps wo (.cells #[.int .i64 x.sup, .slice fa x.fields.length fcap, .slice ma x.meths.length mcap] 66)
      generalize wo.alloc _ = Z at *
      have HK0 := hide hk0
      have b0 := hk0 _ _ e0
      clear hk0 c0 c1 c2 e0 hbr hfin
      have hfz := hbel.trans (hbz.mono hbel.size)
      go_loopw [17] (fun s wr => ∃ k : Nat, k ≤ x.meths.length ∧ s = .int .i64 k ∧ (x.meths.take k).all (passB p (c : Int)) = true ∧ Below Z.heap.size Z wr) (fun s _ => x.meths.length - (intOf s).toNat)
      case atStart => exact ⟨0, Nat.zero_le _, rfl, rfl, Below.refl _ _⟩
      case round =>
        obtain ⟨k, hk, rfl, hall2, hbr2⟩ := hrel
        have HA2 := hide hall2
        clear hall2
        have hf2 : Below w.heap.size w wr := hfz.trans (hbr2.mono hfz.size)
        by_cases hlt2 : k < x.meths.length
        · obtain rfl := hma (ne_nil_of_lt hlt2)
          obtain ⟨va, vcd, vfr, hv, m0, m1, m2, m3, m4, m5, m6⟩ := ((unhide HMR k hlt2).keep (unhide HK0)).keep (Keeps.of_below hbr2)
          obtain ⟨o0, o1, O⟩ := unhide HO k hlt2
          have HN2 := hide (fun h : passB p (c : Int) x.meths[k] = false => all_no (f := passB p (c : Int)) hlt2 h)
          have hS2 := all_snoc (f := passB p (c : Int)) hlt2
          rw [HA2.out] at hS2
          have HS2 := hide hS2
          clear hS2
          generalize x.meths[k] = m at *
          have HV := hide hv
          obtain ⟨ala, _, _, alc, rfl, _⟩ := hv.1
          obtain ⟨cla, _, _, clc, rfl, _⟩ := hv.2.1
          obtain ⟨fla, _, _, flc, rfl, _⟩ := hv.2.2
          have hltm := cell_lt m0
          have e1 := Keeps.of_below hbr2 _ _ b0
          have hlt1 := cell_lt e1
          clear hv
          go_wp2_with fail
          have hby := hbr2.trans ((box_below wr (.cells #[.int .i64 m.slot, .slice ala m.args.length alc, .int .i64 m.ret, .int .i64 m.locals, .int .i64 m.stack, .slice cla m.code.length clc, .slice fla m.frames.length flc] 63)).mono hbr2.size)
          have hky := box_keeps wr (.cells #[.int .i64 m.slot, .slice ala m.args.length alc, .int .i64 m.ret, .int .i64 m.locals, .int .i64 m.stack, .slice cla m.code.length clc, .slice fla m.frames.length flc] 63)
          obtain ⟨w0, rfl⟩ : ∃ w0 : World, w0 = wr := ⟨_, rfl⟩
          generalize w0.alloc _ = Y at *
          have HVY := hide ((unhide HV).keep hky)
          have hfy := hfz.trans (hby.mono hfz.size)
          have HPY := hide (prog_keep (Keeps.of_below hfy) (unhide HP))
          clear m0 m1 m2 m3 m4 m5 m6 e1 hky HV
          refine (pass_pass p _ (c : Int) m _ _ _ _ (unhide HPY) o0 o1 (unhide HVY) G O.ok O.ins O.c40 O.fr O.f40 O.a7 O.bg).mono ?_
          rintro e w1 ⟨h1, h2, hb1⟩
          cases hq : passB p (c : Int) m with
          | false =>
            obtain rfl := h2 hq
            have HQ := hide (unhide HNO (unhide HN2 hq))
            clear hq h1 h2
            go_wp2_with fail
            exact ⟨rfl, fun e => (by rw [show passAllB p = false from unhide HQ] at e; cases e), fun _ => rfl, hfy.trans (hb1.mono hfy.size)⟩
          | true =>
            obtain rfl := h1 hq
            have HQ := hide hq
            clear hq h1 h2
            go_wp2_with fail
            refine ⟨⟨k + 1, by omega, by go_num, by rw [unhide HS2, unhide HQ]; rfl, hby.trans (hb1.mono hby.size)⟩, by simp [intOf]; omega⟩
        · obtain rfl : k = x.meths.length := by omega
          go_wp2_with fail
          refine ⟨⟨c + 1, by omega, by go_num, unhide HS (by rw [← unhide HA2, List.take_length]), hbz.trans (hbr2.mono hbz.size)⟩, by simp [intOf]; omega⟩
    · obtain rfl : c = p.length := by omega
      have HA := hide hall
      clear hall
      go_wp2_with fail
      go_end0
      exact ⟨fun _ => rfl, fun e => (by rw [show passAllB p = true from unhide HA] at e; cases e), hfin⟩
end Go.Proofs.YtiiokkllmchohaaGreat
