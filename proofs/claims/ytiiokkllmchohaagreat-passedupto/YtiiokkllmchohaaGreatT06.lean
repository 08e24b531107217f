/- Walks of the law's own helpers: lists that are the same, where both hold the same. -/
import Derived.Deep.DrawnRows
import Derived.Deep.RegionHeld3
import Derived.Test.YtiiokkllmchohaaGreatT01
namespace Go.Proofs.YtiiokkllmchohaaGreat
open Go.RowKit
attribute [local go_sem ↓] Go.wp_at_zero Go.wp_at_succ
set_option maxHeartbeats 400000 in
theorem same_types (l : List Int) (v u : Value) (w : World) (hl : SlAt 1 (RInt w) v l) (hr : SlAt 1 (RInt w) u l) (hs : l.length ≤ 8388608) :
  Calls Tryz.prog 86 #[v, u] w fun e w' => e = .returned (.bool true) ∧ ∃ n, w' = w.drewN n := by
 obtain ⟨a, b, off, cap, rfl, hcap, ha, hc⟩ := ints_open hl
 obtain ⟨a', b', off', cap', rfl, hcap', ha', hc'⟩ := ints_open hr
 have hne : ((l.length : Int) == (l.length : Int)) = true := by simp
 go_enter Tryz.func86, Tryz.ntmps86
 go_wp2
 go_loopw [5] (fun i wr => ∃ k : Nat, k ≤ l.length ∧ i = .int .i64 k ∧ ∃ n, wr = w.drewN n) (fun i _ => l.length - (intOf i).toNat)
 case atStart => exact ⟨0, Nat.zero_le _, rfl, 0, rfl⟩
 case round =>
  obtain ⟨k, hk, rfl, nn, rfl⟩ := hrel
  by_cases hlt : k < l.length
  ·obtain rfl := ha (ne_nil_of_lt hlt)
   obtain rfl := ha' (ne_nil_of_lt hlt)
   go_wp2
   go_quiet (fail)
   go_wp2
   exact ⟨⟨k + 1, by omega, by go_num, nn + nq, by first | rfl | rw [World.drewN_drewN]⟩, by simp [intOf]; omega⟩
  ·go_wp2
   go_ret
   exact ⟨rfl, _, rfl⟩
def Drew (w w' : World) : Prop := ∃ n, w' = w.drewN n
theorem Drew.refl (w : World) : Drew w w := ⟨0, rfl⟩
theorem Drew.step {w w' : World} (h : Drew w w') (n : Nat) : Drew w (w'.drewN n) := by
 obtain ⟨k, rfl⟩ := h
 exact ⟨k + n, by rw [World.drewN_drewN]⟩
theorem Drew.below {w w' : World} (h : Drew w w') (B : Nat) : Below B w w' := by
 obtain ⟨k, rfl⟩ := h
 exact below_drewN (Below.refl _ _) _
theorem keeps_drewN (w : World) (n : Nat) : Keeps w (w.drewN n) := Keeps.of_below (below_drewN (Below.refl _ _) _)

set_option maxHeartbeats 1000000 in
set_option maxRecDepth 100000 in
theorem same_frames (l : List LFrame) (v u : Value) (w : World) (hl : SlAt 3 (RFrame w) v l) (hr : SlAt 3 (RFrame w) u l) (hs : (l.map szFrame).sum ≤ 4194304) :
  Calls Tryz.prog 45 #[v, u] w fun e w' => e = .returned (.bool true) ∧ ∃ n, w' = w.drewN n := by
 have hlen : l.length ≤ 4194304 := Nat.le_trans (length_le_sum_map szFrame (fun f => by unfold szFrame; omega) l) hs
 obtain ⟨a, b, off, cap, rfl, hcap, ha, hc⟩ := sl_open hl
 obtain ⟨a', b', off', cap', rfl, hcap', ha', hc'⟩ := sl_open hr
 have HC := hide hc
 have HC' := hide hc'
 clear hc hc' hl hr
 have hne : ((l.length : Int) == (l.length : Int)) = true := by simp
 go_enter Tryz.func45, Tryz.ntmps45
 go_wp2
 go_loopw [5] (fun i wr => ∃ k : Nat, k ≤ l.length ∧ i = .int .i64 k ∧ Drew w wr) (fun i _ => l.length - (intOf i).toNat)
 case atStart => exact ⟨0, Nat.zero_le _, rfl, Drew.refl _⟩
 case round =>
  obtain ⟨k, hk, rfl, hdr⟩ := hrel
  have hkp := Keeps.of_below (hdr.below _)
  by_cases hlt : k < l.length
  ·obtain rfl := ha (ne_nil_of_lt hlt)
   obtain rfl := ha' (ne_nil_of_lt hlt)
   obtain ⟨vl, vs, c0, c1, c2, h1, h2⟩ := (unhide HC k hlt).keep hkp
   obtain ⟨vl', vs', c0', c1', c2', h1', h2'⟩ := (unhide HC' k hlt).keep hkp
   have hfs := Nat.le_trans (le_sum_map szFrame l _ (List.getElem_mem hlt)) hs
   generalize l[k] = f at *
   have hll : f.locals.length ≤ 8388608 := by unfold szFrame at hfs; omega
   have hsl : f.stack.length ≤ 8388608 := by unfold szFrame at hfs; omega
   have H1 := hide h1
   have H2 := hide h2
   have H1' := hide h1'
   have H2' := hide h2'
   obtain ⟨_, _, _, _, rfl, _⟩ := sl_open h1
   obtain ⟨_, _, _, _, rfl, _⟩ := sl_open h2
   obtain ⟨_, _, _, _, rfl, _⟩ := sl_open h1'
   obtain ⟨_, _, _, _, rfl, _⟩ := sl_open h2'
   clear h1 h2 h1' h2' hkp
   go_wp2
   go_quiet ((go_at_call 86; exact Calls.quiet_of (same_types f.locals _ _ _ (ints_keep (keeps_drewN _ _) (unhide H1)) (ints_keep (keeps_drewN _ _) (unhide H1')) hll)))
   have d0 := keeps_drewN wr nq _ _ c0
   have d2 := keeps_drewN wr nq _ _ c2
   have d0' := keeps_drewN wr nq _ _ c0'
   have d2' := keeps_drewN wr nq _ _ c2'
   have H3 := hide (ints_keep (keeps_drewN wr nq) (unhide H2))
   have H3' := hide (ints_keep (keeps_drewN wr nq) (unhide H2'))
   have hdr2 := hdr.step nq
   generalize wr.drewN nq = w2 at *
   clear H1 H2 H1' H2' c0 c1 c2 c0' c1' c2' hdr
   go_wp2
   go_quiet ((go_at_call 86; exact Calls.quiet_of (same_types f.stack _ _ _ (ints_keep (keeps_drewN _ _) (unhide H3)) (ints_keep (keeps_drewN _ _) (unhide H3')) hsl)))
   go_wp2
   go_quiet (fail)
   go_wp2
   exact ⟨⟨k + 1, by omega, by go_num, by first | exact (hdr2.step _).step _ | exact hdr2.step _⟩, by simp [intOf]; omega⟩
  ·go_wp2
   go_ret
   exact ⟨rfl, hdr⟩
abbrev mval (m : LMeth) (va vc vf : Value) : Value := .agg #[.int .i64 m.slot, va, .int .i64 m.ret, .int .i64 m.locals, .int .i64 m.stack, vc, vf]

set_option maxHeartbeats 2000000 in
set_option maxRecDepth 100000 in
theorem same_method (m : LMeth) (va vc vf va' vc' vf' : Value) (w : World) (hm : MVals w m va vc vf) (hm' : MVals w m va' vc' vf') (hs : szMeth m ≤ 4194304) :
  Calls Tryz.prog 89 #[mval m va vc vf, mval m va' vc' vf'] w fun e w' => e = .returned (.bool true) ∧ Below w.heap.size w w' := by
 have hal : m.args.length ≤ 8388608 := by unfold szMeth at hs; omega
 have hcl : m.code.length ≤ 4194304 := by unfold szMeth at hs; omega
 have hfl : (m.frames.map szFrame).sum ≤ 4194304 := by unfold szMeth at hs; omega
 obtain ⟨h1, h2, h3⟩ := hm
 obtain ⟨h1', h2', h3'⟩ := hm'
 have H1 := hide h1
 have H3 := hide h3
 have H1' := hide h1'
 have H3' := hide h3'
 obtain ⟨aa, _, _, acap, rfl, _⟩ := sl_open h1
 obtain ⟨ca, cb, coff, ccap, rfl, _, hca, hcr⟩ := sl_open h2
 obtain ⟨fa, _, _, fcap, rfl, _⟩ := sl_open h3
 obtain ⟨aa', _, _, acap', rfl, _⟩ := sl_open h1'
 obtain ⟨ca', cb', coff', ccap', rfl, _, hca', hcr'⟩ := sl_open h2'
 have HCR := hide hcr
 have HCR' := hide hcr'
 clear hcr hcr'
 obtain ⟨fa', _, _, fcap', rfl, _⟩ := sl_open h3'
 clear h1 h2 h3 h1' h2' h3'
 unfold mval
 go_enter Tryz.func89, Tryz.ntmps89
 go_wp2_with fail
 generalize hW : (w.alloc _).alloc _ = W
 have hbel : Below w.heap.size w W := by rw [← hW]; exact box2_below _ _ _
 have l0 : W.cell? ⟨w.heap.size, 0, none⟩ = some (.int .i64 m.slot) := by rw [← hW]; exact box2_fst _ _ _ _ 0
 have l2 : W.cell? ⟨w.heap.size, 2, none⟩ = some (.int .i64 m.ret) := by rw [← hW]; exact box2_fst _ _ _ _ 2
 have l3 : W.cell? ⟨w.heap.size, 3, none⟩ = some (.int .i64 m.locals) := by rw [← hW]; exact box2_fst _ _ _ _ 3
 have l4 : W.cell? ⟨w.heap.size, 4, none⟩ = some (.int .i64 m.stack) := by rw [← hW]; exact box2_fst _ _ _ _ 4
 have l5 : W.cell? ⟨w.heap.size, 5, none⟩ = some (.slice ca m.code.length ccap) := by rw [← hW]; exact box2_fst _ _ _ _ 5
 have l6 : W.cell? ⟨w.heap.size, 6, none⟩ = some (.slice fa m.frames.length fcap) := by rw [← hW]; exact box2_fst _ _ _ _ 6
 have r0 : W.cell? ⟨w.heap.size + 1, 0, none⟩ = some (.int .i64 m.slot) := by rw [← hW]; exact box2_snd _ _ _ _ 0
 have r2 : W.cell? ⟨w.heap.size + 1, 2, none⟩ = some (.int .i64 m.ret) := by rw [← hW]; exact box2_snd _ _ _ _ 2
 have r3 : W.cell? ⟨w.heap.size + 1, 3, none⟩ = some (.int .i64 m.locals) := by rw [← hW]; exact box2_snd _ _ _ _ 3
 have r4 : W.cell? ⟨w.heap.size + 1, 4, none⟩ = some (.int .i64 m.stack) := by rw [← hW]; exact box2_snd _ _ _ _ 4
 have r5 : W.cell? ⟨w.heap.size + 1, 5, none⟩ = some (.slice ca' m.code.length ccap') := by rw [← hW]; exact box2_snd _ _ _ _ 5
 have r6 : W.cell? ⟨w.heap.size + 1, 6, none⟩ = some (.slice fa' m.frames.length fcap') := by rw [← hW]; exact box2_snd _ _ _ _ 6
 clear hW
 have KP := hide (Keeps.of_below hbel)
 refine (same_types m.args _ _ _ (ints_keep (unhide KP) (unhide H1)) (ints_keep (unhide KP) (unhide H1')) hal).mono ?_
 rintro e w1 ⟨rfl, n1, rfl⟩
 go_wp2_with fail
 refine (same_frames m.frames _ _ _ (frames_keep ((unhide KP).trans (keeps_drewN _ _)) (unhide H3)) (frames_keep ((unhide KP).trans (keeps_drewN _ _)) (unhide H3')) hfl).mono ?_
 rintro e w2 ⟨rfl, n2, rfl⟩
 have hd2 : Drew W ((W.drewN n1).drewN n2) := ((Drew.refl W).step n1).step n2
 generalize (W.drewN n1).drewN n2 = W2 at *
 have hk2 := Keeps.of_below (hd2.below _)
 have s0 := hk2 _ _ l0
 have s2 := hk2 _ _ l2
 have s3 := hk2 _ _ l3
 have s4 := hk2 _ _ l4
 have s5 := hk2 _ _ l5
 have t0 := hk2 _ _ r0
 have t2 := hk2 _ _ r2
 have t3 := hk2 _ _ r3
 have t4 := hk2 _ _ r4
 have t5 := hk2 _ _ r5
 clear l0 l2 l3 l4 l6 r0 r2 r3 r4 r6
 have K2 := hide hk2
 clear hk2
 go_wp2_with fail
 go_loopw [7] (fun i wr => ∃ k : Nat, k ≤ m.code.length ∧ i = .int .i64 k ∧ Drew W2 wr) (fun i _ => m.code.length - (intOf i).toNat)
 case atStart => exact ⟨0, Nat.zero_le _, rfl, Drew.refl _⟩
 case round =>
  obtain ⟨k, hk, rfl, hdr⟩ := hrel
  have hkp := Keeps.of_below (hdr.below _)
  have u5 := hkp _ _ s5
  have v5 := hkp _ _ t5
  by_cases hlt : k < m.code.length
  ·obtain rfl := hca (ne_nil_of_lt hlt)
   obtain rfl := hca' (ne_nil_of_lt hlt)
   obtain ⟨c0, c1, c2⟩ := (unhide HCR k hlt).keep (((unhide KP).trans (unhide K2)).trans hkp)
   obtain ⟨c0', c1', c2'⟩ := (unhide HCR' k hlt).keep (((unhide KP).trans (unhide K2)).trans hkp)
   clear hkp s0 s2 s3 s4 s5 t0 t2 t3 t4 t5
   generalize m.code[k] = i at *
   go_wp2
   go_quiet (fail)
   go_wp2
   exact ⟨⟨k + 1, by omega, by go_num, hdr.step _⟩, by simp [intOf]; omega⟩
  ·go_wp2
   go_ret
   exact ⟨rfl, hbel.trans ((hd2.below _).trans (hdr.below _))⟩

set_option maxHeartbeats 4000000 in
set_option maxRecDepth 100000 in
theorem same_program (p : List LClass) (vc vc' : Value) (w : World) (hp : RProg w vc p) (hp' : RProg w vc' p) (hz : szProg p ≤ 4194304) :
  Calls Tryz.prog 49 #[.agg #[vc], .agg #[vc']] w fun e w' => e = .returned (.bool true) ∧ Below w.heap.size w w' := by
 have hpl : p.length ≤ 4194304 := Nat.le_trans (szProg_len p) hz
 obtain ⟨pa, pb, poff, pcap, rfl, hpcap, hpa, hpr⟩ := sl_open hp
 obtain ⟨pa', pb', poff', pcap', rfl, hpcap', hpa', hpr'⟩ := sl_open hp'
 have HPR := hide hpr
 have HPR' := hide hpr'
 clear hp hp' hpr hpr'
 go_enter Tryz.func49, Tryz.ntmps49
 go_wp2_with fail
 generalize hW : (w.alloc _).alloc _ = W
 have hbel : Below w.heap.size w W := by rw [← hW]; exact box2_below _ _ _
 have l0 : W.cell? ⟨w.heap.size, 0, none⟩ = some (.slice pa p.length pcap) := by rw [← hW]; exact box2_fst _ _ _ _ 0
 have r0 : W.cell? ⟨w.heap.size + 1, 0, none⟩ = some (.slice pa' p.length pcap') := by rw [← hW]; exact box2_snd _ _ _ _ 0
 clear hW
 have KP := hide (Keeps.of_below hbel)
 have hsz := hbel.size
 go_loopw [5] (fun s wr => ∃ c : Nat, c ≤ p.length ∧ s = .int .i64 c ∧ Below W.heap.size W wr) (fun s _ => p.length - (intOf s).toNat)
 case atStart => exact ⟨0, Nat.zero_le _, rfl, Below.refl _ _⟩
 case round =>
  obtain ⟨c, hc, rfl, hbr⟩ := hrel
  have KR := hide (Keeps.of_below hbr)
  have hszr := hbr.size
  have q0 := unhide KR _ _ l0
  have q0' := unhide KR _ _ r0
  by_cases hlt : c < p.length
  ·obtain rfl := hpa (ne_nil_of_lt hlt)
   obtain rfl := hpa' (ne_nil_of_lt hlt)
   obtain ⟨vf, vm, c0, c1, c2, hf, hmt⟩ := (unhide HPR c hlt).keep ((unhide KP).trans (unhide KR))
   obtain ⟨vf', vm', c0', c1', c2', hf', hmt'⟩ := (unhide HPR' c hlt).keep ((unhide KP).trans (unhide KR))
   have hxl : szClass p[c] ≤ 4194304 := Nat.le_trans (szClass_le (List.getElem_mem hlt)) hz
   generalize p[c] = x at *
   have hfl : x.fields.length ≤ 8388608 := by have := szFields_le x; omega
   have hms : x.meths.length ≤ 4194304 := Nat.le_trans (szMeths_le x) hxl
   have HF := hide hf
   have HF' := hide hf'
   have HMT := hide hmt
   have HMT' := hide hmt'
   obtain ⟨fa, _, _, fcap, rfl, _⟩ := sl_open hf
   obtain ⟨fa', _, _, fcap', rfl, _⟩ := sl_open hf'
   obtain ⟨ma, mb, moff, mcap, rfl, _, hma, hmr⟩ := sl_open hmt
   obtain ⟨ma', mb', moff', mcap', rfl, _, hma', hmr'⟩ := sl_open hmt'
   have HMR := hide hmr
   have HMR' := hide hmr'
   have hlt1 := cell_lt c0
   have hlt2 := cell_lt q0'
   have hlt3 := cell_lt c0'
   clear hf hmt hf' hmt' hmr hmr'
   obtain ⟨wo, rfl⟩ : ∃ wo : World, wo = wr := ⟨_, rfl⟩
   go_wp2_with fail
   generalize hW2 : (wo.alloc _).alloc _ = W2
   have hb2 : Below wo.heap.size wo W2 := by rw [← hW2]; exact box2_below _ _ _
   have s0 : W2.cell? ⟨wo.heap.size, 0, none⟩ = some (.int .i64 x.sup) := by rw [← hW2]; exact box2_fst _ _ _ _ 0
   have s2 : W2.cell? ⟨wo.heap.size, 2, none⟩ = some (.slice ma x.meths.length mcap) := by rw [← hW2]; exact box2_fst _ _ _ _ 2
   have s0' : W2.cell? ⟨wo.heap.size + 1, 0, none⟩ = some (.int .i64 x.sup) := by rw [← hW2]; exact box2_snd _ _ _ _ 0
   have s2' : W2.cell? ⟨wo.heap.size + 1, 2, none⟩ = some (.slice ma' x.meths.length mcap') := by rw [← hW2]; exact box2_snd _ _ _ _ 2
   clear hW2 c0 c1 c2 c0' c1' c2' q0 q0'
   have hnext : Below W.heap.size W W2 := hbr.trans (hb2.mono hszr)
   have K2 := hide (Keeps.of_below hb2)
   refine (same_types x.fields _ _ _ (ints_keep (unhide K2) (unhide HF)) (ints_keep (unhide K2) (unhide HF')) hfl).mono ?_
   rintro e w3 ⟨rfl, n3, rfl⟩
   have u0 := keeps_drewN W2 n3 _ _ s0
   have u2 := keeps_drewN W2 n3 _ _ s2
   have u0' := keeps_drewN W2 n3 _ _ s0'
   have u2' := keeps_drewN W2 n3 _ _ s2'
   have hn3 : Below W.heap.size W (W2.drewN n3) := below_drewN hnext _
   have K3 := hide ((unhide K2).trans (keeps_drewN W2 n3))
   generalize W2.drewN n3 = W3 at *
   clear s0 s2 s0' s2' K2 hb2
   go_wp2_with fail
   go_loopw [9] (fun s wi => ∃ k : Nat, k ≤ x.meths.length ∧ s = .int .i64 k ∧ Below W3.heap.size W3 wi) (fun s _ => x.meths.length - (intOf s).toNat)
   case atStart => exact ⟨0, Nat.zero_le _, rfl, Below.refl _ _⟩
   case round =>
    obtain ⟨k, hk, rfl, hbi⟩ := hrel
    have KI := hide (Keeps.of_below hbi)
    have hszi := hbi.size
    have v2 := unhide KI _ _ u2
    have v2' := unhide KI _ _ u2'
    by_cases hk2 : k < x.meths.length
    ·obtain rfl := hma (ne_nil_of_lt hk2)
     obtain rfl := hma' (ne_nil_of_lt hk2)
     obtain ⟨va, vcd, vfr, hmv, m0, m1, m2, m3, m4, m5, m6⟩ := (unhide HMR k hk2).keep ((unhide K3).trans (unhide KI))
     obtain ⟨va', vcd', vfr', hmv', m0', m1', m2', m3', m4', m5', m6'⟩ := (unhide HMR' k hk2).keep ((unhide K3).trans (unhide KI))
     have hml : szMeth x.meths[k] ≤ 4194304 := Nat.le_trans (szMeth_le (List.getElem_mem hk2)) hxl
     generalize x.meths[k] = m at *
     have HMV := hide hmv
     have HMV' := hide hmv'
     obtain ⟨ha1, hc1, hf1⟩ := hmv
     obtain ⟨ha1', hc1', hf1'⟩ := hmv'
     obtain ⟨aa, _, _, acap, rfl, _⟩ := sl_open ha1
     obtain ⟨ca, _, _, ccap, rfl, _⟩ := sl_open hc1
     obtain ⟨fra, _, _, frcap, rfl, _⟩ := sl_open hf1
     obtain ⟨aa', _, _, acap', rfl, _⟩ := sl_open ha1'
     obtain ⟨ca', _, _, ccap', rfl, _⟩ := sl_open hc1'
     obtain ⟨fra', _, _, frcap', rfl, _⟩ := sl_open hf1'
     have hki : (k : Int) < (x.meths.length : Int) := by omega
     have hkz : (0 : Int) ≤ (k : Int) := by omega
     clear ha1 hc1 hf1 ha1' hc1' hf1' u0 u2 u0' u2'
     go_wp2_with fail
     go_region_held3 (fun w' => w'.cell? ⟨wo.heap.size, 2, none⟩ = some (.slice (some ⟨mb, moff, none⟩) x.meths.length mcap) ∧ w'.cell? ⟨wo.heap.size + 1, 2, none⟩ = some (.slice (some ⟨mb', moff', none⟩) x.meths.length mcap') ∧
       w'.cell? ⟨mb, moff + k * 7, none⟩ = some (.int .i64 m.slot) ∧ w'.cell? ⟨mb, moff + k * 7 + 1, none⟩ = some (.slice aa m.args.length acap) ∧ w'.cell? ⟨mb, moff + k * 7 + 2, none⟩ = some (.int .i64 m.ret) ∧ w'.cell? ⟨mb, moff + k * 7 + 3, none⟩ = some (.int .i64 m.locals) ∧
       w'.cell? ⟨mb, moff + k * 7 + 4, none⟩ = some (.int .i64 m.stack) ∧ w'.cell? ⟨mb, moff + k * 7 + 5, none⟩ = some (.slice ca m.code.length ccap) ∧ w'.cell? ⟨mb, moff + k * 7 + 6, none⟩ = some (.slice fra m.frames.length frcap) ∧
       w'.cell? ⟨mb', moff' + k * 7, none⟩ = some (.int .i64 m.slot) ∧ w'.cell? ⟨mb', moff' + k * 7 + 1, none⟩ = some (.slice aa' m.args.length acap') ∧ w'.cell? ⟨mb', moff' + k * 7 + 2, none⟩ = some (.int .i64 m.ret) ∧ w'.cell? ⟨mb', moff' + k * 7 + 3, none⟩ = some (.int .i64 m.locals) ∧
       w'.cell? ⟨mb', moff' + k * 7 + 4, none⟩ = some (.int .i64 m.stack) ∧ w'.cell? ⟨mb', moff' + k * 7 + 5, none⟩ = some (.slice ca' m.code.length ccap') ∧ w'.cell? ⟨mb', moff' + k * 7 + 6, none⟩ = some (.slice fra' m.frames.length frcap'))
      (first | go_keep | (exact ⟨Keeps.of_below hb5 _ _ (by simpa using v2), Keeps.of_below hb5 _ _ (by simpa using v2'), Keeps.of_below hb5 _ _ (by simpa using m0), Keeps.of_below hb5 _ _ (by simpa using m1), Keeps.of_below hb5 _ _ (by simpa using m2), Keeps.of_below hb5 _ _ (by simpa using m3), Keeps.of_below hb5 _ _ (by simpa using m4), Keeps.of_below hb5 _ _ (by simpa using m5), Keeps.of_below hb5 _ _ (by simpa using m6),
         Keeps.of_below hb5 _ _ (by simpa using m0'), Keeps.of_below hb5 _ _ (by simpa using m1'), Keeps.of_below hb5 _ _ (by simpa using m2'), Keeps.of_below hb5 _ _ (by simpa using m3'), Keeps.of_below hb5 _ _ (by simpa using m4'), Keeps.of_below hb5 _ _ (by simpa using m5'), Keeps.of_below hb5 _ _ (by simpa using m6')⟩))
      (first | ((go_at_call 89; refine (same_method m _ _ _ _ _ _ _ ((unhide HMV).keep (Keeps.of_below ((Below.refl _ _).drew))) ((unhide HMV').keep (Keeps.of_below ((Below.refl _ _).drew))) hml).mono ?_); rintro e w5 ⟨rfl, hb5⟩))
     have hnx : Below W3.heap.size W3 w5 := hbi.drew.trans (hb5.mono (by simpa using hszi))
     go_wp2_with fail
     exact ⟨⟨k + 1, by omega, by go_num, hnx⟩, by simp [intOf]; omega⟩
    ·go_wp2_with fail
     exact ⟨⟨c + 1, by omega, by go_num, hn3.trans (hbi.mono hn3.size)⟩, by simp [intOf]; omega⟩
  ·go_wp2_with fail
   go_ret
   exact ⟨rfl, hbel.trans (hbr.mono hsz)⟩
end Go.Proofs.YtiiokkllmchohaaGreat
