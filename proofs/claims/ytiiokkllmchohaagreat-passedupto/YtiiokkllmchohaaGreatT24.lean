/- A method that is found in a program that holds. -/
import Derived.Test.YtiiokkllmchohaaGreatT14
import Derived.Test.YtiiokkllmchohaaGreatT22
namespace Go.Proofs.YtiiokkllmchohaaGreat
open Go.RowKit Go.Shelf
attribute [local go_sem ↓] Go.wp_at_zero Go.wp_at_succ
attribute [local go_sem] frz_drew
def FindCR (p : List LClass) (c k : Int) (w w' : World) (e : Ending) : Prop :=
 (∀ m, formI p = 0 → ownM p c k = some m → ∃ va vco vf, e = .returned (.tuple #[methV m va vco vf, .int .i64 0]) ∧ GVals w.cell? m va vco vf) ∧ (formI p = 0 → ownM p c k = none → e = .returned (.tuple #[.agg zero7.toArray, .int .i64 4])) ∧
  (formI p ≠ 0 → e = .returned (.tuple #[.agg zero7.toArray, .int .i64 (formI p)])) ∧ Below w.heap.size w w'
set_option maxHeartbeats 1000000 in
set_option maxRecDepth 100000 in
theorem code_find (p : List LClass) (vc : Value) (c k : Int) (w : World) (hp : RProg w vc p) (hwf : wfProg p) (hz : szProg p ≤ 4194304) :
  Calls Tryz.prog 39 #[.agg #[vc], .int .i64 c, .int .i64 k] w fun e w' => FindCR p c k w w' e := by
 have HP := hide hp
 have hpl : p.length ≤ 4194304 := Nat.le_trans (szProg_len p) hz
 obtain ⟨pa, _, _, pcap, rfl, _⟩ := hp
 have hbel : Below w.heap.size w ((w.alloc (.cells #[.slice pa p.length pcap] 24)).alloc (.cells zero7.toArray 63)) := box2_below _ _ _
 have B0 : Blk ((w.alloc (.cells #[.slice pa p.length pcap] 24)).alloc (.cells zero7.toArray 63)) w.heap.size 24 [.slice pa p.length pcap] := (Blk.new w _ _).alloc _
 have B1 : Blk ((w.alloc (.cells #[.slice pa p.length pcap] 24)).alloc (.cells zero7.toArray 63)) (w.heap.size + 1) 63 zero7 := by
  have := Blk.new (w.alloc (.cells #[.slice pa p.length pcap] 24)) zero7.toArray 63
  rw [World.size_alloc] at this
  exact this
 have HRP := hide (prog_keep (Keeps.of_below hbel) (unhide HP))
 go_enter Tryz.func39, Tryz.ntmps39
 go_wp2_with fail
 refine (code_check p _ _ (unhide HRP) hwf hz).mono ?_
 rintro e w1 ⟨rfl, hb1⟩
 replace B0 := B0.below hb1 B0.lt
 replace B1 := B1.below hb1 B1.lt
 have hbw := hbel.trans (hb1.mono hbel.size)
 have c0 : w1.cell? ⟨w.heap.size, 0, none⟩ = some (.slice pa p.length pcap) := B0.cell 0
 clear hbel hb1 HRP
 by_cases hF : formI p = 0
 ·have HF := hide hF
  rw [hF]
  clear hF
  go_wp2_with fail
  refine (code_ownmeth p _ c k w _ (unhide HP) hbw hpl).mono ?_
  rintro e w2 ⟨h1, h2, hb2⟩
  have hbw2 := hbw.trans (hb2.mono hbw.size)
  cases hm : ownM p c k with
  | none =>
   obtain rfl := h2 hm
   have HM := hide hm
   have C1 := B1.below hb2 B1.lt
   clear hm h1 h2
   go_wp2_with (first
    | (refine wpList_store_blk aggMeth (Blk.new _ _ _) 0 zero7 rfl (by simp) zero7_one (.tmp 9) (.tmp 22) rfl rfl rfl rfl ?_; intro w3 hB3 hM3 hs3; have D1 := C1.below ((box_below w2 _).trans (hM3.below (by simp) (fun k hk e => by omega))) C1.lt)
    | (refine wpList_store_blk aggMeth D1 0 zero7 rfl (by simp [zero7]) zero7_one (.tmp 6) (.tmp 26) rfl rfl rfl rfl ?_; intro w7 hB7 hM7 hs7))
   rw [putAt_all (by rfl)] at hB7
   have hbw3 := hbw2.trans (((box_below w2 _).trans (hM3.below (by simp) (fun k hk e => by omega))).mono hbw2.size)
   refine bodyPost_ret (results_blk2 rfl aggMeth hB7 rfl rfl) rfl ?_
   exact ⟨fun m _ e => (by rw [unhide HM] at e; cases e), fun _ _ => rfl, fun e => absurd (unhide HF) e, hbw3.trans (hM7.below hbw3.size (fun k hk e => by omega))⟩
  | some m =>
   obtain ⟨va, vco, vf, rfl, hv⟩ := h1 m hm
   have HM := hide hm
   have HV := hide hv
   have C1 := B1.below hb2 B1.lt
   unfold methV
   obtain ⟨hva, hvc, hvf⟩ := hv
   obtain ⟨aa, _, _, acap, rfl, _⟩ := hva
   obtain ⟨ca, _, _, ccap, rfl, _⟩ := hvc
   obtain ⟨fa, _, _, fcap, rfl, _⟩ := hvf
   have hone : ∀ v ∈ [Value.int .i64 m.slot, .slice aa m.args.length acap, .int .i64 m.ret, .int .i64 m.locals, .int .i64 m.stack, .slice ca m.code.length ccap, .slice fa m.frames.length fcap], v.oneCell' = true := fun v hv => by
    simp only [List.mem_cons, List.not_mem_nil, or_false] at hv
    rcases hv with rfl | rfl | rfl | rfl | rfl | rfl | rfl <;> rfl
   clear hm h1 h2
   go_wp2_with (first
    | (refine wpList_store_blk aggMeth (Blk.new _ _ _) 0 _ rfl (by simp) hone (.tmp 9) (.tmp 22) rfl rfl rfl rfl ?_; intro w3 hB3 hM3 hs3; rw [putAt_all (by rfl)] at hB3; have D1 := C1.below ((box_below w2 _).trans (hM3.below (by simp) (fun k hk e => by omega))) C1.lt)
    | refine wpList_load_blk aggMeth hB3 0 _ rfl (fun j v e => by simpa using e) (.tmp 9) rfl rfl rfl ?_
    | (refine wpList_store_blk aggMeth D1 0 _ rfl (by simp [zero7]) hone (.tmp 6) (.tmp 27) rfl rfl rfl rfl ?_; intro w7 hB7 hM7 hs7))
   rw [putAt_all (by rfl)] at hB7
   have hbw3 := hbw2.trans (((box_below w2 _).trans (hM3.below (by simp) (fun k hk e => by omega))).mono hbw2.size)
   refine bodyPost_ret (results_blk2 rfl aggMeth hB7 rfl rfl) rfl ?_
   refine ⟨fun m' _ e => ?_, fun _ e => (by rw [unhide HM] at e; cases e), fun e => absurd (unhide HF) e, hbw3.trans (hM7.below hbw3.size (fun k hk e => by omega))⟩
   rw [unhide HM] at e
   obtain rfl := Option.some.inj e
   exact ⟨_, _, _, rfl, unhide HV⟩
 ·have HF := hide hF
  have hF' : (formI p != 0) = true := by simpa using hF
  clear hF
  go_wp2_with (refine wpList_store_blk aggMeth B1 0 zero7 rfl (by simp [zero7]) zero7_one (.tmp 6) (.tmp 15) rfl rfl rfl rfl ?_; intro w7 hB7 hM7 hs7)
  rw [putAt_all (by rfl)] at hB7
  refine bodyPost_ret (results_blk2 rfl aggMeth hB7 rfl rfl) rfl ?_
  exact ⟨fun m e => absurd e (unhide HF), fun e => absurd e (unhide HF), fun _ => rfl, hbw.trans (hM7.below hbw.size (fun k hk e => by omega))⟩
end Go.Proofs.YtiiokkllmchohaaGreat
