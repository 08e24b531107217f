/- The code's writer: classes, programs; what Encode answers. -/
import Derived.Laws.DeepNot64
import Derived.Test.YtiiokkllmchohaaT12
import Derived.Test.YtiiokkllmchohaaT18
/- WriteD -/
namespace Go.Proofs.Ytiiokkllmchohaa
open Go.RowKit
attribute [local go_sem ↓] Go.wp_at_zero Go.wp_at_succ

theorem take_sum_succ {α : Type} (f : α → Nat) {l : List α} {k : Nat} (h : k < l.length) : ((l.take (k + 1)).map f).sum = ((l.take k).map f).sum + f l[k] := by
  rw [List.take_add_one, List.getElem?_eq_getElem h, List.map_append, List.sum_append]; simp
theorem take_flat_succ {α : Type} (f : α → List UInt8) {l : List α} {k : Nat} (h : k < l.length) : (l.take (k + 1)).flatMap f = (l.take k).flatMap f ++ f l[k] := by
  rw [List.take_add_one, List.getElem?_eq_getElem h, List.flatMap_append]; simp

set_option maxHeartbeats 2000000 in
set_option maxRecDepth 100000 in
theorem wr_class (x : LClass) (vf vm : Value) (w0 w : World) (bw : Nat) (bs : List UInt8) (hf : SlAt 1 (RInt w0) vf x.fields) (hm : SlAt 7 (RMeth w0) vm x.meths) (h0 : Below w0.heap.size w0 w) (hw0 : w0.heap.size ≤ bw) (hw : wfClass x) (h : WrAt w bw bs) (hs : szClass x ≤ 4194304) (hlen : bs.length + 10 * szClass x ≤ 1073741824) :
    Calls Try.prog 30 #[.pointer (some ⟨bw, 0, none⟩), .agg #[.int .i64 x.sup, vf, vm]] w fun e w' => e = .returned (.tuple #[]) ∧ WrAt w' bw (bs ++ encClass x) ∧ Wrote w w' bw := by
  have HF := hide hf
  have HSZ := hide (show x.fields.length + (x.meths.map szMeth).sum + 4 = szClass x from rfl)
  have hfl : x.fields.length ≤ 4194304 := Nat.le_trans (szFields_le x) hs
  have hms : x.meths.length ≤ 4194304 := Nat.le_trans (szMeths_le x) hs
  have hlen' : bs.length + 10 * x.fields.length + 10 * (x.meths.map szMeth).sum + 40 ≤ 1073741824 := by have := unhide HSZ; omega
  clear HSZ
  obtain ⟨fa, _, _, fcap, rfl, _⟩ := hf
  obtain ⟨ma, mb, moff, mcap, rfl, _, hma, hmr⟩ := sl_open hm
  have HMR := hide hmr
  clear hmr hm
  have S0 := hide (WSt.start h #[.int .i64 x.sup, .slice fa x.fields.length fcap, .slice ma x.meths.length mcap] 34)
  go_enter Try.func30, Try.ntmps30
  go_wp2_with fail
  generalize w.alloc _ = W at *
  refine Calls.mono (wr_number x.sup _ bw _ hw.1 (unhide S0).wrote_at (by have := (unhide S0).len; omega)) ?_
  rintro e w1 ⟨rfl, hW, hwr⟩
  have S1 := hide ((unhide S0).step (by decide) (by decide) hW hwr (encN_len _))
  clear hW hwr S0
  obtain ⟨c0, c1, c2⟩ := blk3 (unhide S1).box
  go_wp2_with fail
  clear c0 c1 c2
  refine Calls.mono (wr_number (x.fields.length : Int) _ bw _ (i64_nat hfl) (unhide S1).wrote_at (by have := (unhide S1).len; omega)) ?_
  rintro e w2 ⟨rfl, hW, hwr⟩
  have S2 := hide ((unhide S1).step (by decide) (by decide) hW hwr (encN_len _))
  clear hW hwr S1
  obtain ⟨c0, c1, c2⟩ := blk3 (unhide S2).box
  go_wp2_with fail
  clear c0 c1 c2
  refine Calls.mono (wr_types x.fields _ w0 _ bw _ (unhide HF) ((unhide S2).wr.from h0 hw0) hw0 hw.2.1 (unhide S2).wrote_at hfl (by have := (unhide S2).len; omega)) ?_
  rintro e w3 ⟨rfl, hW, hwr⟩
  have S3 := hide ((unhide S2).step (by decide) (by decide) hW hwr (encTs_len _))
  clear hW hwr S2
  obtain ⟨c0, c1, c2⟩ := blk3 (unhide S3).box
  go_wp2_with fail
  clear c0 c1 c2
  refine Calls.mono (wr_number (x.meths.length : Int) _ bw _ (i64_nat hms) (unhide S3).wrote_at (by have := (unhide S3).len; omega)) ?_
  rintro e w4 ⟨rfl, hW, hwr⟩
  have S4 := hide ((unhide S3).step (by decide) (by decide) hW hwr (encN_len _))
  clear hW hwr S3
  obtain ⟨c0, c1, c2⟩ := blk3 (unhide S4).box
  go_wp2_with fail
  clear c0 c1 c2
  have HEAD := hide (show [] ++ encN x.sup ++ encN (x.fields.length : Int) ++ encTs x.fields ++ encN (x.meths.length : Int) = encCH x from rfl)
  have hhl := encCH_len x
  rw [unhide HEAD] at S4
  clear HEAD
  go_loopw [27] (fun s wr => ∃ k : Nat, k ≤ x.meths.length ∧ s = .int .i64 k ∧ WSt w wr bw w.heap.size 34 [.int .i64 x.sup, .slice fa x.fields.length fcap, .slice ma x.meths.length mcap] bs (encCH x ++ (x.meths.take k).flatMap encMeth) (10 * x.fields.length + 30 + 10 * ((x.meths.take k).map szMeth).sum)) (fun s _ => x.meths.length - (intOf s).toNat)
  case atStart => exact ⟨0, Nat.zero_le _, rfl, by simpa using ⟨(unhide S4).wrote_at, (unhide S4).wr, (unhide S4).box, by rw [List.length_append]; omega⟩⟩
  case round =>
    obtain ⟨k, hk, rfl, hSt⟩ := hrel
    have ST := hide hSt
    clear hSt
    by_cases hlt : k < x.meths.length
    · obtain rfl := hma (ne_nil_of_lt hlt)
      obtain ⟨va, vcd, vfr, hv, m0, m1, m2, m3, m4, m5, m6⟩ := unhide HMR k hlt
      have hkf := Keeps.of_below ((unhide ST).wr.from h0 hw0)
      replace m0 := hkf _ _ m0
      replace m1 := hkf _ _ m1
      replace m2 := hkf _ _ m2
      replace m3 := hkf _ _ m3
      replace m4 := hkf _ _ m4
      replace m5 := hkf _ _ m5
      replace m6 := hkf _ _ m6
      have hwm := hw.2.2 _ (List.getElem_mem hlt)
      have hml : szMeth x.meths[k] ≤ 4194304 := Nat.le_trans (szMeth_le (List.getElem_mem hlt)) hs
      have HAC := hide (take_flat_succ encMeth hlt)
      have HSU := hide (take_sum_succ szMeth hlt)
      have hsle := sum_take_le szMeth (k + 1) x.meths
      rw [unhide HSU] at hsle
      have HFL := hide (encMeth_len x.meths[k])
      generalize x.meths[k] = m at *
      have HV := hide hv
      obtain ⟨aa, _, _, acap, rfl, _⟩ := hv.1
      obtain ⟨ca, _, _, ccap, rfl, _⟩ := hv.2.1
      obtain ⟨ff, _, _, ffcap, rfl, _⟩ := hv.2.2
      have hltb := cell_lt m0
      have T0 := hide ((unhide ST).alloc (.cells #[.int .i64 m.slot, .slice aa m.args.length acap, .int .i64 m.ret, .int .i64 m.locals, .int .i64 m.stack, .slice ca m.code.length ccap, .slice ff m.frames.length ffcap] 58))
      clear hkf ST hv
      go_wp2_with fail
      generalize wr.alloc _ = Z at *
      clear m0 m1 m2 m3 m4 m5 m6
      refine Calls.mono (wr_method m _ _ _ w0 _ bw _ (unhide HV) ((unhide T0).wr.from h0 hw0) hw0 hwm (unhide T0).wrote_at hml (by have := (unhide T0).len; omega)) ?_
      rintro e z1 ⟨rfl, hW, hwr⟩
      have T1 := hide ((unhide T0).step (by decide) (by decide) hW hwr (unhide HFL))
      clear hW hwr T0
      go_wp2_with fail
      refine ⟨⟨k + 1, by omega, by go_num, ?_⟩, by simp [intOf]; omega⟩
      rw [unhide HAC, unhide HSU, ← List.append_assoc]
      exact ⟨(unhide T1).wrote_at, (unhide T1).wr, (unhide T1).box, by have := (unhide T1).len; omega⟩
    · go_wp2
      go_end0
      refine ⟨rfl, app_eq (unhide ST).wrote_at ?_, (unhide ST).wr⟩
      rw [List.take_of_length_le (by omega)]
      rfl

theorem encN_ne (n : Int) : encN n ≠ [] := by
  unfold encN
  rw [encU]
  split <;> simp
theorem push_all : ∀ (bs : List UInt8) (r : ByteArray), (bs.map fun b => (b.toNat : Int)).foldl (fun r n => r.push (UInt8.ofNat n.toNat)) r = ⟨(r.data.toList ++ bs).toArray⟩
  | [], r => by simp
  | b :: l, r => by
    rw [List.map_cons, List.foldl_cons, push_all l]
    congr 1
    simp [ByteArray.push]
/-- The bytes that were written, as a string. -/
theorem conv_bytes {w : World} {base : Nat} {vb : Value} {bs : List UInt8} (h : w.ownsRow base 5 1 vb bs.length (bs.map byteV)) (hne : bs ≠ []) : (convert 73 9 vb).run Try.prog w = .ok (.string ⟨bs.toArray⟩) w := by
  rcases h.2 with ⟨rfl, h0⟩ | ⟨g, cap, cur, rfl, hb, hg, hnc, hcm, hcs, htk⟩
  · exact absurd (List.eq_nil_of_length_eq_zero h0) hne
  · rw [run_convert_bytes_string _ _ _ 5 _ _ _ Try.underlying73 Try.underlying5 Try.underlying9]
    have hl := run_loadCells_list (P := Try.prog) w ⟨g, 0, none⟩ (bs.map byteV) (fun j v hj => by
      rw [← htk, List.getElem?_take] at hj
      split at hj
      · rw [show (⟨g, 0, none⟩ : Addr).add j = ⟨g, j, none⟩ by unfold Addr.add; split <;> simp_all]
        unfold World.cell?
        simp only [hg]
        simpa using hj
      · cases hj)
    rw [List.length_map] at hl
    rw [run_bytesToString w _ _ _ (bs.map fun b => (b.toNat : Int)) (by rw [List.map_map]; exact hl), push_all]
    rfl

set_option maxHeartbeats 2000000 in
set_option maxRecDepth 100000 in
theorem code_write (p : List LClass) (vc : Value) (w : World) (hp : RProg w vc p) (hwf : wfProg p) (hz : szProg p ≤ 4194304) :
    Calls Try.prog 11 #[.agg #[vc]] w fun e w' => e = .returned (.string ⟨(encProg p).toArray⟩) ∧ Below w.heap.size w w' := by
  have hpl : p.length ≤ 4194304 := Nat.le_trans (szProg_len p) hz
  have HSZ := hide (show (p.map szClass).sum = szProg p from rfl)
  obtain ⟨pa, pb, poff, pcap, rfl, _, hpa, hpr⟩ := sl_open hp
  have HPR := hide hpr
  clear hp hpr
  go_enter Try.func11, Try.ntmps11
  go_wp2_with fail
  generalize hW : (w.alloc _).alloc _ = W
  have hbel : Below w.heap.size w W := by rw [← hW]; exact box2_below _ _ _
  have S0 : Hid (WSt W W (w.heap.size + 1) w.heap.size 24 [.slice pa p.length pcap] [] [] 0) := by
    rw [← hW]
    refine ⟨⟨.slice none 0 0, by simpa using Blk.new (w.alloc (.cells #[.slice pa p.length pcap] 24)) #[.slice none 0 0] 75, World.ownsRow_nil _ _ _ _⟩, Wrote.refl _ _, (Blk.new w #[.slice pa p.length pcap] 24).alloc _, by simp⟩
  clear hW
  have hle : w.heap.size ≤ w.heap.size + 1 := Nat.le_succ _
  refine Calls.mono (wr_number (p.length : Int) _ (w.heap.size + 1) _ (i64_nat hpl) (unhide S0).wrote_at (by simp)) ?_
  rintro e w1 ⟨rfl, hW, hwr⟩
  have S1 := hide ((unhide S0).step (by decide) (by decide) hW hwr (encN_len _))
  clear hW hwr S0
  have c0 : w1.cell? ⟨w.heap.size, 0, none⟩ = some (.slice pa p.length pcap) := (unhide S1).box.cell 0
  go_wp2_with fail
  clear c0
  go_loopw [13] (fun s wr => ∃ k : Nat, k ≤ p.length ∧ s = .int .i64 k ∧ WSt W wr (w.heap.size + 1) w.heap.size 24 [.slice pa p.length pcap] [] (encN (p.length : Int) ++ (p.take k).flatMap encClass) (10 + 10 * ((p.take k).map szClass).sum)) (fun s _ => p.length - (intOf s).toNat)
  case atStart => exact ⟨0, Nat.zero_le _, rfl, by simpa using unhide S1⟩
  case round =>
    obtain ⟨k, hk, rfl, hSt⟩ := hrel
    have ST := hide hSt
    clear hSt
    by_cases hlt : k < p.length
    · obtain rfl := hpa (ne_nil_of_lt hlt)
      obtain ⟨vf, vm, c0, c1, c2, hf, hm⟩ := unhide HPR k hlt
      have hkf := Keeps.of_below ((unhide ST).wr.from hbel hle)
      replace c0 := hkf _ _ c0
      replace c1 := hkf _ _ c1
      replace c2 := hkf _ _ c2
      have hwx := hwf _ (List.getElem_mem hlt)
      have hxl : szClass p[k] ≤ 4194304 := Nat.le_trans (szClass_le (List.getElem_mem hlt)) hz
      have HAC := hide (take_flat_succ encClass hlt)
      have HSU := hide (take_sum_succ szClass hlt)
      have hsle := sum_take_le szClass (k + 1) p
      rw [unhide HSU, unhide HSZ] at hsle
      have HFL := hide (encClass_len p[k])
      generalize p[k] = x at *
      have HF := hide hf
      have HM := hide hm
      obtain ⟨fa, _, _, fcap, rfl, _⟩ := hf
      obtain ⟨ma, _, _, mcap, rfl, _⟩ := hm
      have hltb := cell_lt c0
      have T0 := hide ((unhide ST).alloc (.cells #[.int .i64 x.sup, .slice fa x.fields.length fcap, .slice ma x.meths.length mcap] 34))
      clear hkf ST
      go_wp2_with fail
      generalize wr.alloc _ = Z at *
      clear c0 c1 c2
      refine Calls.mono (wr_class x _ _ w _ (w.heap.size + 1) _ (unhide HF) (unhide HM) ((unhide T0).wr.from hbel hle) hle hwx (unhide T0).wrote_at hxl (by have := (unhide T0).len; simp only [List.nil_append, List.length_nil] at this ⊢; omega)) ?_
      rintro e z1 ⟨rfl, hW, hwr⟩
      have T1 := hide ((unhide T0).step (by decide) (by decide) hW hwr (unhide HFL))
      clear hW hwr T0
      go_wp2_with fail
      refine ⟨⟨k + 1, by omega, by go_num, ?_⟩, by simp [intOf]; omega⟩
      rw [unhide HAC, unhide HSU, ← List.append_assoc]
      exact ⟨(unhide T1).wrote_at, (unhide T1).wr, (unhide T1).box, by have := (unhide T1).len; omega⟩
    · have hfin := (unhide ST).wr.from hbel hle
      obtain ⟨vb, hB, hrow⟩ := app_eq (unhide ST).wrote_at (show [] ++ (encN (p.length : Int) ++ (p.take k).flatMap encClass) = encProg p by rw [List.take_of_length_le (by omega)]; rfl)
      have hconv := conv_bytes hrow (fun e => by
        have : encN (p.length : Int) ≠ [] := encN_ne _
        exact this (List.append_eq_nil_iff.1 e).1)
      have c0 : wr.cell? ⟨w.heap.size + 1, 0, none⟩ = some vb := hB.cell 0
      obtain ⟨ba, bcap, rfl⟩ := own_form hrow
      clear ST hB hrow
      go_wp2_with fail
      go_ret
      exact ⟨rfl, hfin⟩

set_option maxHeartbeats 2000000 in
theorem code_encode (p : List LClass) (vc : Value) (w : World) (hp : RProg w vc p) (hwf : wfProg p) (hz : szProg p ≤ 4194304) :
    Calls Try.prog 4 #[.agg #[vc]] w fun e w' => e = .returned (.tuple #[.string ⟨(encodeI p).1.toArray⟩, .int .i64 (encodeI p).2]) ∧ Below w.heap.size w w' := by
  have HP := hide hp
  obtain ⟨pa, _, _, pcap, rfl, _⟩ := hp
  go_enter Try.func4, Try.ntmps4
  go_wp2_with fail
  generalize hW : w.alloc _ = W
  have hbel : Below w.heap.size w W := by rw [← hW]; exact box_below _ _
  have hbox : W.cell? ⟨w.heap.size, 0, none⟩ = some (.slice pa p.length pcap) := by rw [← hW]; exact box_cell _ _ _ 0
  clear hW
  refine Calls.mono (code_check p _ _ (prog_keep (Keeps.of_below hbel) (unhide HP)) hwf hz) ?_
  rintro e w1 ⟨he, hb1⟩
  have b1 := Keeps.of_below hb1 _ _ hbox
  have hf1 := hbel.trans (hb1.mono hbel.size)
  clear hbel hbox hb1
  by_cases hF : formI p = 0
  · have HE : Hid (encodeI p = (encProg p, 0)) := by show _ = _; unfold encodeI; rw [if_pos hF]
    rw [hF] at he
    subst he
    clear hF
    go_wp2_with fail
    refine Calls.mono (code_write p _ _ (prog_keep (Keeps.of_below hf1) (unhide HP)) hwf hz) ?_
    rintro e w2 ⟨rfl, hb2⟩
    go_wp2_with fail
    go_ret2
    exact ⟨by rw [unhide HE]; rfl, hf1.trans (hb2.mono hf1.size)⟩
  · have HE : Hid (encodeI p = ([], formI p)) := by show _ = _; unfold encodeI; rw [if_neg hF]
    have hF' : (formI p != 0) = true := by simpa using hF
    subst he
    generalize formI p = fi at *
    go_wp2_with fail
    go_ret2
    exact ⟨by rw [unhide HE]; rfl, hf1⟩
end Go.Proofs.Ytiiokkllmchohaa
/- The code's reader: giving up, bytes, numbers. -/
namespace Go.Proofs.Ytiiokkllmchohaa
open Go.RowKit
attribute [local go_sem ↓] Go.wp_at_zero Go.wp_at_succ

/-- The panic by which one gives up. -/
def refC (why : Int) : List PanicEntry := [{ v := .iface 79 (.agg #[.int .i64 why]), recovered := false }]

set_option maxHeartbeats 400000 in
theorem code_giveUp (why : Int) (w : World) : Calls Try.prog 64 #[.int .i64 why] w fun e w' => e = .panicked (refC why) ∧ w' = w := by
  go_enter Try.func64, Try.ntmps64
  go_wp2
  exact ⟨rfl, rfl, rfl⟩
set_option maxHeartbeats 400000 in
theorem wire_giveUp (w : World) : Calls Try.prog 35 #[] w fun e w' => e = .panicked (refC 1) ∧ w' = w := by
  go_enter Try.func35, Try.ntmps35
  go_wp2_with (go_at_call 64; refine (code_giveUp _ _).mono ?_; rintro e w' ⟨rfl, rfl⟩)
  exact ⟨rfl, rfl, rfl⟩

/-- The code's reader lies in block br; s is what is left. -/
def CRd (w : World) (br : Nat) (s : List UInt8) : Prop := Blk w br 82 [.string ⟨s.toArray⟩]

set_option maxHeartbeats 400000 in
theorem rd_next_nil (w : World) (br : Nat) (h : CRd w br []) : Calls Try.prog 81 #[.pointer (some ⟨br, 0, none⟩)] w fun e w' => e = .panicked (refC 1) ∧ w' = w := by
  have c0 : w.cell? ⟨br, 0, none⟩ = some (.string ⟨#[]⟩) := h.cell 0
  go_enter Try.func81, Try.ntmps81
  go_wp2_with (go_at_call 35; refine (wire_giveUp _).mono ?_; rintro e w' ⟨rfl, rfl⟩)
  exact ⟨rfl, rfl, rfl⟩
theorem ext1 (b : UInt8) (r : List UInt8) : (ByteArray.mk (b :: r).toArray).extract 1 (r.length + 1) = ⟨r.toArray⟩ := by
  apply ByteArray.ext
  simp [ByteArray.data_extract]
set_option maxHeartbeats 400000 in
theorem rd_next_cons (w : World) (br : Nat) (b : UInt8) (r : List UInt8) (h : CRd w br (b :: r)) : Calls Try.prog 81 #[.pointer (some ⟨br, 0, none⟩)] w fun e w' => e = .returned (.int .u8 b.toNat) ∧ CRd w' br r ∧ Mods (fun k => k = br) w w' := by
  have c0 : w.cell? ⟨br, 0, none⟩ = some (.string ⟨(b :: r).toArray⟩) := h.cell 0
  have f0 := h.frozen 0
  go_enter Try.func81, Try.ntmps81
  go_wp2_with fail
  go_ret
  refine ⟨rfl, ?_, (Mods.refl (fun k => k = br) w).setCell (p := ⟨br, 0, none⟩) (fun _ => rfl) _⟩
  have := Blk.setCell h 0 (.string ((ByteArray.mk (b :: r).toArray).extract 1 (r.length + 1)))
  rw [ext1] at this ⊢
  exact this

theorem u64_and1 (v : Nat) (h : v < 18446744073709551616) : bits .and .u64 (v : Int) 1 = ((v % 2 : Nat) : Int) := by
  have := u64_and_nat v 1 h (by omega)
  rw [show ((1 : Nat) : Int) = 1 from rfl] at this
  rw [this, Nat.and_one_is_mod]
set_option maxHeartbeats 400000 in
theorem rd_unfold (v : Nat) (w : World) (h : v < 18446744073709551616) : Calls Try.prog 82 #[.int .u64 v] w fun e w' => e = .returned (.int .i64 (unfoldZ v)) ∧ w' = w := by
  have h1 := u64_and1 v h
  have h2 : v / 2 < 9223372036854775808 := by omega
  by_cases hb : v % 2 = 1
  · have HU := hide (show unfoldZ v = -1 - ((v / 2 : Nat) : Int) by unfold unfoldZ; rw [if_pos hb]; omega)
    rw [hb] at h1
    have h3 := i64_not (v / 2) h2
    go_enter Try.func82, Try.ntmps82
    go_wp2_with fail
    go_ret
    exact ⟨ret_int (by rw [unhide HU, ← h3]; rfl), rfl⟩
  · have HU := hide (show unfoldZ v = ((v / 2 : Nat) : Int) by unfold unfoldZ; rw [if_neg hb])
    rw [show v % 2 = 0 by omega] at h1
    go_enter Try.func82, Try.ntmps82
    go_wp2_with fail
    go_ret
    exact ⟨ret_int (by rw [unhide HU]; rfl), rfl⟩

theorem u8_low (b : UInt8) : bits .and .u8 (b.toNat : Int) 127 = ((b.toNat % 128 : Nat) : Int) := by
  have := u8_and_nat b.toNat 127 b.toNat_lt (by omega)
  rw [show ((127 : Nat) : Int) = 127 from rfl] at this
  rw [this, show (127 : Nat) = 2 ^ 7 - 1 from rfl, Nat.and_two_pow_sub_one_eq_mod]
theorem or_shift {acc x sh : Nat} (h1 : acc < 2 ^ sh) (h2 : x * 2 ^ sh < 18446744073709551616) (h3 : sh ≤ 64) : bits .or .u64 (acc : Int) ((x * 2 ^ sh : Nat) : Int) = ((acc + x * 2 ^ sh : Nat) : Int) := by
  have h4 : 2 ^ sh ≤ 2 ^ 64 := Nat.pow_le_pow_right (by omega) h3
  rw [u64_or_nat acc (x * 2 ^ sh) (by omega) h2]
  have := Nat.two_pow_add_eq_or_of_lt h1 x
  rw [Nat.mul_comm x, Nat.or_comm, ← this, Nat.add_comm]
theorem shl_fact {acc sh : Nat} (b : UInt8) (h1 : acc < 2 ^ sh) (h2 : b.toNat % 128 * 2 ^ sh < 18446744073709551616) (h3 : sh ≤ 64) :
    bits .or .u64 (acc : Int) (IntKind.u64.wrap (IntKind.u64.wrap (bits .and .u8 (b.toNat : Int) 127) * 2 ^ sh)) = ((acc + b.toNat % 128 * 2 ^ sh : Nat) : Int) := by
  rw [u8_low, IntKind.wrap_u64 ((b.toNat % 128 : Nat) : Int), show ((b.toNat % 128 : Nat) : Int) % 18446744073709551616 = ((b.toNat % 128 : Nat) : Int) by omega]
  rw [show ((b.toNat % 128 : Nat) : Int) * 2 ^ sh = ((b.toNat % 128 * 2 ^ sh : Nat) : Int) by push_cast; rfl, IntKind.wrap_u64, show ((b.toNat % 128 * 2 ^ sh : Nat) : Int) % 18446744073709551616 = ((b.toNat % 128 * 2 ^ sh : Nat) : Int) from Int.emod_eq_of_lt (by omega) (by omega)]
  exact or_shift h1 h2 h3

set_option maxHeartbeats 1000000 in
set_option maxRecDepth 100000 in
theorem rd_number (s : List UInt8) (w : World) (br : Nat) (h : CRd w br s) : Calls Try.prog 59 #[.pointer (some ⟨br, 0, none⟩)] w fun e w' =>
    (∀ n r, pN s = some (n, r) → e = .returned (.int .i64 n) ∧ CRd w' br r) ∧ (pN s = none → e = .panicked (refC 1)) ∧ Mods (fun k => k = br) w w' := by
  have HH := hide h
  clear h
  go_enter Try.func59, Try.ntmps59
  go_wp2_with fail
  go_loopw [3, 4] (fun s3 s4 wr => ∃ (f acc sh : Nat) (t : List UInt8), f ≤ 9 ∧ sh = 7 * (9 - f) ∧ s4 = .int .i64 (sh : Int) ∧ s3 = .int .u64 acc ∧ acc < 2 ^ sh ∧ CRd wr br t ∧ Mods (fun k => k = br) w wr ∧ pU 10 s = (pU (f + 1) t).map (fun x => (acc + x.1 * 2 ^ sh, x.2))) (fun _ s4 _ => 64 - (intOf s4).toNat)
  case atStart => exact ⟨9, 0, 0, s, by omega, rfl, rfl, rfl, by simp, unhide HH, Mods.refl _ _, by simp⟩
  case round =>
    obtain ⟨f, acc, sh, t, hf, hsh, rfl, rfl, hacc, hR, hm, hp⟩ := hrel
    have HP := hide hp
    have HAC := hide hacc
    have HSH := hide hsh
    have hsh64 : sh ≤ 63 := by omega
    have h64 : 2 ^ sh ≤ 2 ^ 63 := Nat.pow_le_pow_right (by omega) hsh64
    clear hp hacc hsh
    cases t with
    | nil =>
      clear h64
      go_wp2_with (go_at_call 81; refine (rd_next_nil _ br hR).mono ?_; rintro e w' ⟨rfl, rfl⟩)
      refine ⟨rfl, ?_, ?_, hm⟩
      · intro n r e
        unfold pN at e
        rw [unhide HP] at e
        simp [pU] at e
      · intro _; rfl
    | cons b r =>
      have H64 := hide h64
      clear h64
      go_wp2_with fail
      refine Calls.mono (rd_next_cons _ br b r hR) ?_
      rintro e w1 ⟨rfl, hR1, hm1⟩
      have HR1 := hide hR1
      have HM1 := hide (hm.trans hm1 (fun _ _ e => e))
      clear hR1 hm1 hR hm
      have hb := b.toNat_lt
      by_cases hA : f = 0 ∧ 1 < b.toNat
      · have HN : Hid (pN s = none) := by show _ = _; unfold pN; rw [unhide HP, pU, if_pos hA]; rfl
        have k1 : ((sh : Int) == 63) = true := by have := unhide HSH; simp; omega
        have k2 : (1 : Int) < (b.toNat : Int) := by omega
        go_wp2_with (go_at_call 35; refine (wire_giveUp _).mono ?_; rintro e w' ⟨rfl, rfl⟩)
        refine ⟨rfl, ?_, fun _ => rfl, unhide HM1⟩
        intro n r e
        rw [unhide HN] at e; cases e
      · have hx : b.toNat % 128 * 2 ^ sh < 18446744073709551616 := by
          by_cases h0 : f = 0
          · have : b.toNat % 128 ≤ 1 := by omega
            have := Nat.mul_le_mul this (unhide H64)
            omega
          · have : 2 ^ sh ≤ 2 ^ 56 := Nat.pow_le_pow_right (by omega) (by have := unhide HSH; omega)
            have := Nat.mul_le_mul (show b.toNat % 128 ≤ 127 by omega) this
            omega
        have hor := shl_fact b (unhide HAC) hx (by omega)
        have hacc2 : acc + b.toNat % 128 * 2 ^ sh < 18446744073709551616 := by
          by_cases h0 : f = 0
          · have h1 : b.toNat % 128 ≤ 1 := by omega
            have h2 := Nat.mul_le_mul h1 (unhide H64)
            have := unhide HAC
            have := unhide H64
            omega
          · have h1 : 2 ^ sh ≤ 2 ^ 56 := Nat.pow_le_pow_right (by omega) (by have := unhide HSH; omega)
            have h2 := Nat.mul_le_mul (show b.toNat % 128 ≤ 127 by omega) h1
            have := unhide HAC
            omega
        have HX := hide hx
        have HA2 := hide hacc2
        clear hx hacc2
        have k1 : (((sh : Int) == 63) && decide ((1 : Int) < (b.toNat : Int))) = false := by
          have := unhide HSH
          cases h63 : ((sh : Int) == 63)
          · rfl
          · simp at h63 ⊢; omega
        by_cases hlt : b.toNat < 128
        · have k3 : (b.toNat : Int) < 128 := by omega
          by_cases hz : b.toNat = 0 ∧ f < 9
          · have HN : Hid (pN s = none) := by show _ = _; unfold pN; rw [unhide HP, pU, if_neg hA, if_pos hlt, if_pos hz]; rfl
            have k4 : ((b.toNat : Int) == 0) = true := by simp; omega
            have k5 : (0 : Int) < (sh : Int) := by have := unhide HSH; omega
            by_cases h63 : f = 0
            · have k6 : ((sh : Int) == 63) = true := by have := unhide HSH; simp; omega
              have k7 : ¬ (1 : Int) < (b.toNat : Int) := by omega
              clear k1 hz hA
              go_wp2_with (go_at_call 35; refine (wire_giveUp _).mono ?_; rintro e w' ⟨rfl, rfl⟩)
              refine ⟨rfl, ?_, fun _ => rfl, unhide HM1⟩
              intro n r e
              rw [unhide HN] at e; cases e
            · have k6 : ((sh : Int) == 63) = false := by have := unhide HSH; simp; omega
              clear k1 hz hA
              go_wp2_with (go_at_call 35; refine (wire_giveUp _).mono ?_; rintro e w' ⟨rfl, rfl⟩)
              refine ⟨rfl, ?_, fun _ => rfl, unhide HM1⟩
              intro n r e
              rw [unhide HN] at e; cases e
          · have HN : Hid (pN s = some (unfoldZ (acc + b.toNat % 128 * 2 ^ sh), r)) := by
              show _ = _; unfold pN; rw [unhide HP, pU, if_neg hA, if_pos hlt, if_neg hz, Nat.mod_eq_of_lt hlt]; rfl
            clear k1
            by_cases h63 : f = 0
            · have k6 : ((sh : Int) == 63) = true := by have := unhide HSH; simp; omega
              have k7 : ¬ (1 : Int) < (b.toNat : Int) := by omega
              have k4 : ((b.toNat : Int) == 0) = false := by simp; omega
              clear hz hA
              go_wp2_with fail
              refine Calls.mono (rd_unfold _ _ (unhide HA2)) ?_
              rintro e w2 ⟨rfl, rfl⟩
              go_wp2_with fail
              go_ret
              refine ⟨?_, ?_, unhide HM1⟩
              · intro n r' e
                rw [unhide HN] at e
                simp only [Option.some.injEq, Prod.mk.injEq] at e
                obtain ⟨rfl, rfl⟩ := e
                exact ⟨rfl, unhide HR1⟩
              · intro e
                rw [unhide HN] at e; cases e
            · have k6 : ((sh : Int) == 63) = false := by have := unhide HSH; simp; omega
              by_cases h0 : b.toNat = 0
              · have k4 : ((b.toNat : Int) == 0) = true := by simp; omega
                have k5 : ¬ (0 : Int) < (sh : Int) := by have := unhide HSH; omega
                clear hz hA
                have H0 := hide h0
                clear h0
                go_wp2_with fail
                refine Calls.mono (rd_unfold _ _ (unhide HA2)) ?_
                rintro e w2 ⟨rfl, rfl⟩
                go_wp2_with fail
                go_ret
                refine ⟨?_, ?_, unhide HM1⟩
                · intro n r' e
                  rw [unhide HN] at e
                  simp only [Option.some.injEq, Prod.mk.injEq] at e
                  obtain ⟨rfl, rfl⟩ := e
                  exact ⟨rfl, unhide HR1⟩
                · intro e
                  rw [unhide HN] at e; cases e
              · have k4 : ((b.toNat : Int) == 0) = false := by simp; omega
                clear hz hA
                go_wp2_with fail
                refine Calls.mono (rd_unfold _ _ (unhide HA2)) ?_
                rintro e w2 ⟨rfl, rfl⟩
                go_wp2_with fail
                go_ret
                refine ⟨?_, ?_, unhide HM1⟩
                · intro n r' e
                  rw [unhide HN] at e
                  simp only [Option.some.injEq, Prod.mk.injEq] at e
                  obtain ⟨rfl, rfl⟩ := e
                  exact ⟨rfl, unhide HR1⟩
                · intro e
                  rw [unhide HN] at e; cases e
        · have h0 : f ≠ 0 := by omega
          have k3 : ¬ (b.toNat : Int) < 128 := by omega
          have k6 : ((sh : Int) == 63) = false := by have := unhide HSH; simp; omega
          clear k1
          have HNX : Hid (pU 10 s = (pU f r).map (fun x => (acc + b.toNat % 128 * 2 ^ sh + x.1 * 2 ^ (sh + 7), x.2))) := by
            show _ = _
            rw [unhide HP, pU, if_neg hA, if_neg hlt, Option.map_map]
            congr 1
            funext x
            simp only [Function.comp, Prod.mk.injEq, and_true]
            have e1 : x.1 * 128 * 2 ^ sh = x.1 * 2 ^ (sh + 7) := by rw [Nat.pow_add, Nat.mul_assoc, Nat.mul_comm (2 ^ sh)]
            rw [(by omega : b.toNat - 128 = b.toNat % 128), Nat.add_mul, e1]
            omega
          have HB2 : Hid (acc + b.toNat % 128 * 2 ^ sh < 2 ^ (sh + 7)) := by
            show _ < _
            have h1 := unhide HAC
            have h2 : b.toNat % 128 + 1 ≤ 128 := by omega
            have h3 := Nat.mul_le_mul_right (2 ^ sh) h2
            rw [Nat.pow_add, Nat.mul_comm (2 ^ sh), show (2 : Nat) ^ 7 = 128 from rfl]
            rw [Nat.add_mul] at h3
            omega
          clear hA
          go_wp2_with fail
          obtain ⟨f', rfl⟩ : ∃ f', f = f' + 1 := ⟨f - 1, by omega⟩
          refine ⟨⟨f', acc + b.toNat % 128 * 2 ^ sh, sh + 7, r, by omega, by have := unhide HSH; omega, by go_num, rfl, unhide HB2, unhide HR1, unhide HM1, unhide HNX⟩, by simp [intOf]; omega⟩
end Go.Proofs.Ytiiokkllmchohaa
