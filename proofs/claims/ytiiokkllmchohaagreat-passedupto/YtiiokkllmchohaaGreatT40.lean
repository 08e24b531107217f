/- The document's solver, walked. -/
import Derived.Test.YtiiokkllmchohaaGreatT30
import Derived.Test.YtiiokkllmchohaaGreatT37
import Derived.Test.YtiiokkllmchohaaGreatT38
import Derived.Test.YtiiokkllmchohaaGreatT39
namespace Go.Proofs.YtiiokkllmchohaaGreat
open Go.RowKit Go.Shelf
attribute [local go_sem ↓] Go.wp_at_zero Go.wp_at_succ
attribute [local go_sem] frz_drew
set_option maxHeartbeats 4000000 in
set_option maxRecDepth 100000 in
theorem rs_solved (p : List LClass) (vc : Value) (c : Int) (m : LMeth) (va vco vf : Value) (w : World) (hp : RProg w vc p) (hv : GVals w.cell? m va vco vf) (hF : formI p = 0) (hz : szProg p ≤ 4194304) (M : MOk p m) (hins : ∀ i ∈ m.code, insB p m i = true) (h40 : m.code.length ≤ 40) (hc0 : 0 ≤ c) (hc1 : c < (p.length : Int)) (h1 : 1 + (m.args.length : Int) ≤ m.locals) (hb : CdOk p m (beginS c m)) (hcl : 1 ≤ m.code.length) (N : Nat) (r : Option (List (Option TSt))) (hN : cSolve p m N (cStart c m) = some r) :
  Calls Tryz.prog 52 #[.agg #[vc], .int .i64 c, methV m va vco vf] w fun e w' => SolvdR p m r w w' e := by
 have HP := hide hp
 have HV := hide hv
 have HN := hide hN
 have G := form_good hF hz
 have h6 := (form_all hF).1.2
 have hpl : p.length ≤ 4194304 := Nat.le_trans (szProg_len p) hz
 have HBG := hide (fun w hv => rs_begin c m va vco vf w hv hc0 (by omega) h1 M.loc)
 have HST := hide (fun (x : LIns) s ib vl vs w hp hv hi hS tS hl hk => rs_step p vc m va vco vf x s ib vl vs w hp hv hF hz M hi hS tS hl hk)
 have HGO := hide (fun (i : Nat) w hv hi => rs_goes m va vco vf i w hv hi h40)
 have HJN := hide (fun s t ia ib val vas vbl vbs w hp hA hB tA tB l1 l2 hll => rs_joined p vc s t ia ib val vas vbl vbs w hp G.sup h6 hA hB tA tB l1 l2 hll)
 have HUN := hide (fun s t ia ib val vas vbl vbs w hp hA hB tA tB l1 l2 => rs_under p vc s t ia ib val vas vbl vbs w hp G.sup hpl hA hB tA tB l1 l2)
 unfold methV at HBG HST HGO ⊢
 obtain ⟨iS, hiS, hi0, hi1, hi2⟩ := info_parts infoRS
 obtain ⟨pa, _, _, pcap, rfl, _⟩ := hp
 obtain ⟨aa, _, _, acap, rfl, _⟩ := hv.1
 obtain ⟨ca, cb, off, ccap, rfl, _, hca, hcr⟩ := sl_open hv.2.1
 obtain ⟨fa, _, _, fcap, rfl, _⟩ := hv.2.2
 obtain rfl := hca (ne_nil_of_lt (show 0 < m.code.length by omega))
 have HCR := hide hcr
 clear hcr hv hca hN
 have hbel : Below w.heap.size w ((w.alloc (.cells #[.slice pa p.length pcap] 24)).alloc (.cells #[.int .i64 m.slot, .slice aa m.args.length acap, .int .i64 m.ret, .int .i64 m.locals, .int .i64 m.stack, .slice (some ⟨cb, off, none⟩) m.code.length ccap, .slice fa m.frames.length fcap] 63)) := box2_below _ _ _
 have B0 := (Blk.new w #[.slice pa p.length pcap] 24).alloc (.cells #[.int .i64 m.slot, .slice aa m.args.length acap, .int .i64 m.ret, .int .i64 m.locals, .int .i64 m.stack, .slice (some ⟨cb, off, none⟩) m.code.length ccap, .slice fa m.frames.length fcap] 63)
 have B1 := Blk.new (w.alloc (.cells #[.slice pa p.length pcap] 24)) #[.int .i64 m.slot, .slice aa m.args.length acap, .int .i64 m.ret, .int .i64 m.locals, .int .i64 m.stack, .slice (some ⟨cb, off, none⟩) m.code.length ccap, .slice fa m.frames.length fcap] 63
 rw [World.size_alloc] at B1
 have hW2 : ((w.alloc (.cells #[.slice pa p.length pcap] 24)).alloc (.cells #[.int .i64 m.slot, .slice aa m.args.length acap, .int .i64 m.ret, .int .i64 m.locals, .int .i64 m.stack, .slice (some ⟨cb, off, none⟩) m.code.length ccap, .slice fa m.frames.length fcap] 63)).heap.size = w.heap.size + 1 + 1 := by simp
 go_enter Tryz.func52, Tryz.ntmps52
 go_upto_region 1 with fail
 generalize (w.alloc _).alloc _ = W at *
 have d5 : W.cell? ⟨w.heap.size + 1, 5, none⟩ = some (.slice (some ⟨cb, off, none⟩) m.code.length ccap) := B1.cell 5
 have HW2 := hide hW2
 clear hW2
 go_upto_region 2 with (at_make; refine wpList_make_blk rfl (.tmp 20) (.tmp 20) 99 rfl 149 iS (.agg #[.bool false, .slice none 0 0, .slice none 0 0]) 3 56 Tryz.underlying99 hiS hi0 hi1 hi2 _ _ _ m.code.length rfl rfl (by omega) (by omega) (by omega) ?_; intro w2 hb2 hm2 hs2)
 have hbw2 : Below w.heap.size w w2 := hbel.trans (hm2.below hbel.size (fun k hk e => e))
 have R0 := RowS.new (p := p) (m := m) (B := w.heap.size) hb2
 have C0 := B0.mods hm2 (fun e => e)
 have C1 := B1.mods hm2 (fun e => e)
 obtain ⟨lb, hlb⟩ : ∃ lb, lb = W.heap.size := ⟨_, rfl⟩
 have hlo : w.heap.size + 1 < lb := by have := unhide HW2; omega
 rw [← hlb] at hb2 R0 ⊢
 have m0 : w2.cell? ⟨w.heap.size + 1, 0, none⟩ = some (.int .i64 m.slot) := C1.cell 0
 have m1 : w2.cell? ⟨w.heap.size + 1, 1, none⟩ = some (.slice aa m.args.length acap) := C1.cell 1
 have m2 : w2.cell? ⟨w.heap.size + 1, 2, none⟩ = some (.int .i64 m.ret) := C1.cell 2
 have m3 : w2.cell? ⟨w.heap.size + 1, 3, none⟩ = some (.int .i64 m.locals) := C1.cell 3
 have m4 : w2.cell? ⟨w.heap.size + 1, 4, none⟩ = some (.int .i64 m.stack) := C1.cell 4
 have m5 : w2.cell? ⟨w.heap.size + 1, 5, none⟩ = some (.slice (some ⟨cb, off, none⟩) m.code.length ccap) := C1.cell 5
 have m6 : w2.cell? ⟨w.heap.size + 1, 6, none⟩ = some (.slice fa m.frames.length fcap) := C1.cell 6
 have HI0 : Hid (SvI w w2 p m lb (.slice pa p.length pcap) (.slice aa m.args.length acap) (.slice (some ⟨cb, off, none⟩) m.code.length ccap) (.slice fa m.frames.length fcap) (List.replicate m.code.length none) (madeCells (Value.agg #[.bool false, .slice none 0 0, .slice none 0 0]).cells (m.code.length * 3)).toList) := ⟨hbw2, C0, C1, R0, by simp, hlo⟩
 clear hlb hs2 hm2 hb2 R0 C0 C1 B0 B1 hbel d5 HW2
 go_wp2_with fail
 refine (unhide HBG w2 (GVals.keep (Keeps.of_below hbw2) (unhide HV))).mono ?_
 rintro e V3 ⟨vl0, rfl, hS0, hb3⟩
 obtain ⟨a0, n0, c0, rfl⟩ : ∃ a n c, vl0 = .slice a n c := by obtain ⟨a, _, _, c, rfl, _⟩ := hS0.1; exact ⟨a, _, c, rfl⟩
 have I3 := (unhide HI0).below hb3
 have hz0 := (unhide HI0).rows.blk.lt
 have hbz := hbw2.size
 have hcb : StOk p m (cutS m (beginS c m)) := ⟨⟨fun x hx => hb.2.2.2.1 x (List.mem_of_mem_take hx), hb.2.2.2.2⟩, cut_len (by omega) M.loc hb.1, hb.2.2.1⟩
 have HS0 : Hid (StG (sel (fun k => w.heap.size ≤ k ∧ k ≠ lb) V3) (cutS m (beginS c m)) (.slice a0 n0 c0) (.slice none 0 0)) := StG.keep (sel_mods (Mods.refl (fun _ => False) V3) fun k hk hS => ⟨fun e => e, by (try dsimp only at hS); omega, by (try dsimp only at hS); omega⟩) hS0
 have hB3 := I3.rows.blk
 have hl3 := I3.rows.len
 have hln : (List.replicate m.code.length (none : Option TSt)).length = m.code.length := by simp
 have k00 : (0 : Int) < (m.code.length : Int) := by omega
 have HI3 := hide I3
 clear I3 hS0 m0 m1 m2 m3 m4 m5 m6 HI0
 obtain ⟨cz, hcz⟩ : ∃ cz, cz = (madeCells (Value.agg #[.bool false, .slice none 0 0, .slice none 0 0]).cells (m.code.length * 3)).toList := ⟨_, rfl⟩
 rw [← hcz] at hB3 hl3 HI3
 go_upto_region 3 with (refine wpList_store_blk aggRS hB3 0 [.bool true, .slice a0 n0 c0, .slice none 0 0] rfl (by rw [hl3, hln]; omega) one3 (.tmp 26) (.tmp 25) rfl rfl rfl rfl ?_; intro V4 hB4 hM4 hs4)
 have HI4 : Hid (SvI w V4 p m lb (.slice pa p.length pcap) (.slice aa m.args.length acap) (.slice (some ⟨cb, off, none⟩) m.code.length ccap) (.slice fa m.frames.length fcap) (cStart c m) (putAt cz (0 * 3) [.bool true, .slice a0 n0 c0, .slice none 0 0])) := (unhide HI3).set (k := 0) (by rw [hln]; omega) hM4 hB4 (unhide HS0) hcb
 clear hB4 hM4 hs4 hB3 hl3 hcz HI3 HS0 hb3 hbw2 hcb hz0 hbz
 go_wp2_with fail
 go_loopg [9] N (fun g q V => ∃ (b : Bool) (R : List (Option TSt)) (cs : List Value), q = .bool b ∧ SvI w V p m lb (.slice pa p.length pcap) (.slice aa m.args.length acap) (.slice (some ⟨cb, off, none⟩) m.code.length ccap) (.slice fa m.frames.length fcap) R cs ∧ (b = true → cSolve p m g R = some r) ∧ (b = false → r = some R))
 case atStart => exact ⟨true, _, _, rfl, unhide HI4, fun _ => unhide HN, fun e => by cases e⟩
 case round =>
  clear HI4 HN hln
  rename World => Wr1
  obtain ⟨b, R, cs, rfl, hI, hbt, hbf⟩ := hrel
  have HI := hide hI
  cases b with
  | false =>
   have HR := hide (hbf rfl)
   clear hbf hbt hI
   go_wp2_with fail
   go_ret2
   exact ⟨fun e => (by rw [unhide HR] at e; cases e), fun R' e => (by rw [unhide HR] at e; cases e; exact ⟨lb, cs, rfl, (unhide HI).rows, (unhide HI).len, by omega⟩), (unhide HI).bel⟩
  | true =>
   have hC := hbt rfl
   clear hbf hbt hI
   cases gk with
   | zero => cases hC
   | succ g1 =>
   have HC := hide hC
   clear hC
   go_wp2_with fail
   go_loopg [9, 10] m.code.length (fun g q i V => ∃ (k : Nat) (b : Bool) (R2 : List (Option TSt)) (cs2 : List Value), k ≤ m.code.length ∧ g = m.code.length - k ∧ q = .bool b ∧ i = .int .i64 k ∧ cRound p m R k = some (R2, b) ∧ SvI w V p m lb (.slice pa p.length pcap) (.slice aa m.args.length acap) (.slice (some ⟨cb, off, none⟩) m.code.length ccap) (.slice fa m.frames.length fcap) R2 cs2)
   case atStart => exact ⟨0, false, R, cs, Nat.zero_le _, rfl, rfl, rfl, rfl, unhide HI⟩
   case round =>
    clear HI
    rename World => Wr2
    obtain ⟨k, b, R2, cs2, hk, hgk, rfl, rfl, hR2, hI2⟩ := hrel
    have HI2 := hide hI2
    have HR2 := hide hR2
    have HGK := hide hgk
    have hl2 := hI2.len
    clear hR2 hgk
    by_cases hlt : k < m.code.length
    rotate_left
    ·obtain rfl : k = m.code.length := by omega
     have ke : ¬ (m.code.length : Int) < (m.code.length : Int) := by omega
     have HE : Hid ((b = true → cSolve p m g1 R2 = some r) ∧ (b = false → r = some R2)) := by
      have h9 := unhide HC
      unfold cSolve at h9
      rw [unhide HR2] at h9
      cases b with
      | true => exact ⟨fun _ => h9, fun e => by cases e⟩
      | false => exact ⟨fun e => (by cases e), fun _ => by cases h9; rfl⟩
     clear hI2
     go_wp2_with fail
     go_roundg g1
     case measure => exact Nat.lt_succ_self _
     case rel => exact ⟨b, R2, cs2, rfl, unhide HI2, (unhide HE).1, (unhide HE).2⟩
    have k0 : (0 : Int) ≤ (k : Int) := by omega
    have k1 : (k : Int) < (m.code.length : Int) := by omega
    obtain ⟨ra, rn, rc, ra', rn', rc', r0, r1, r2, hRS, hRO⟩ := hI2.rows.at_ (i := k) (by omega)
    obtain ⟨rr, hrr⟩ : ∃ rr, rr = R2.getD k none := ⟨_, rfl⟩
    rw [← hrr] at r0 hRS hRO
    have HRR := hide hrr
    clear hrr
    cases rr with
    | none =>
     dsimp only [Option.isSome] at r0
     have HE : Hid (cRound p m R (k + 1) = some (R2, b)) := by
      show _ = _
      unfold cRound
      rw [unhide HR2, Option.bind_some]
      unfold cAt
      rw [← unhide HRR]
     clear hI2 hRS hRO r1 r2
     go_wp2_with fail
     go_roundg (m.code.length - (k + 1))
     case measure => have := unhide HGK; omega
     case rel => exact ⟨k + 1, b, R2, cs2, by omega, rfl, rfl, by go_num, unhide HE, unhide HI2⟩
    | some s =>
    dsimp only [Option.isSome] at r0
    have hSO := hRO s rfl
    have hSS : StG (sel (fun k => w.heap.size ≤ k ∧ k ≠ lb) Wr2) s (.slice ra rn rc) (.slice ra' rn' rc') := hRS
    have hIA : insAt m k = m.code[k] := by unfold insAt; rw [List.getElem?_eq_getElem hlt]; rfl
    have hmem : insAt m k ∈ m.code := by rw [hIA]; exact List.getElem_mem _
    obtain ⟨x0, x1, x2⟩ := unhide HCR k hlt
    rw [← hIA] at x0 x1 x2
    obtain ⟨x, hx⟩ : ∃ x, x = insAt m k := ⟨_, rfl⟩
    rw [← hx] at x0 x1 x2 hmem
    have HX := hide hx
    have HRC := hide (And.intro r0 (And.intro r1 r2))
    have HO := hide (fun Y (hY : Below Wr2.heap.size Wr2 Y) => And.intro ((((unhide HI2).below hY).b0.cell 0)) (And.intro ((((unhide HI2).below hY).b1.cell 0)) (And.intro ((((unhide HI2).below hY).b1.cell 1)) (And.intro ((((unhide HI2).below hY).b1.cell 2)) (And.intro ((((unhide HI2).below hY).b1.cell 3)) (And.intro ((((unhide HI2).below hY).b1.cell 4)) (And.intro ((((unhide HI2).below hY).b1.cell 5)) (And.intro ((((unhide HI2).below hY).b1.cell 6)) (And.intro (Keeps.of_below hY _ _ (unhide HRC).1) (And.intro (Keeps.of_below hY _ _ (unhide HRC).2.1) (And.intro (Keeps.of_below hY _ _ (unhide HRC).2.2) (And.intro (Keeps.of_below (((unhide HI2).below hY).bel) _ _ x0) (And.intro (Keeps.of_below (((unhide HI2).below hY).bel) _ _ x1) (Keeps.of_below (((unhide HI2).below hY).bel) _ _ x2))))))))))))))
    have hlb2 := hI2.rows.blk.lt
    clear hx hIA x0 x1 x2 hRS hRO r1 r2
    go_upto_region 10 with fail
    go_cut [11, 12] (fun s11 s12 wx => (rStep p m x s = none ∧ s12 = .bool false ∧ Below w.heap.size w wx) ∨ ∃ (out : TSt) (bo : Nat) (oa oa' : Option Addr) (on oc on' oc' : Nat), rStep p m x s = some out ∧ s11 = .pointer (some ⟨bo, 0, none⟩) ∧ s12 = .bool true ∧ SvI w wx p m lb (.slice pa p.length pcap) (.slice aa m.args.length acap) (.slice (some ⟨cb, off, none⟩) m.code.length ccap) (.slice fa m.frames.length fcap) R2 cs2 ∧ OutS wx p m w.heap.size lb bo out (.slice oa on oc) (.slice oa' on' oc'))
    case first =>
     clear r0
     refine wp_region_noPanic ?_
     refine wp_region_held_drew (S := (fun w' => w'.cell? ⟨w.heap.size, 0, none⟩ = some (.slice pa p.length pcap) ∧ w'.cell? ⟨w.heap.size + 1, 0, none⟩ = some (.int .i64 m.slot) ∧ w'.cell? ⟨w.heap.size + 1, 1, none⟩ = some (.slice aa m.args.length acap) ∧ w'.cell? ⟨w.heap.size + 1, 2, none⟩ = some (.int .i64 m.ret) ∧ w'.cell? ⟨w.heap.size + 1, 3, none⟩ = some (.int .i64 m.locals) ∧ w'.cell? ⟨w.heap.size + 1, 4, none⟩ = some (.int .i64 m.stack) ∧ w'.cell? ⟨w.heap.size + 1, 5, none⟩ = some (.slice (some ⟨cb, off, none⟩) m.code.length ccap) ∧ w'.cell? ⟨w.heap.size + 1, 6, none⟩ = some (.slice fa m.frames.length fcap) ∧ w'.cell? ⟨lb, k * 3, none⟩ = some (.bool true) ∧ w'.cell? ⟨lb, k * 3 + 1, none⟩ = some (.slice ra rn rc) ∧ w'.cell? ⟨lb, k * 3 + 2, none⟩ = some (.slice ra' rn' rc') ∧ w'.cell? ⟨cb, off + k * 3, none⟩ = some (.int .i64 x.op) ∧ w'.cell? ⟨cb, off + k * 3 + 1, none⟩ = some (.int .i64 x.a) ∧ w'.cell? ⟨cb, off + k * 3 + 2, none⟩ = some (.int .i64 x.b))) (by kernel_rfl) ?_ (fun hHeld => ?_)
     ·exact (unhide HO) _ drew_below
     refine take_x (some 41) 0 rfl rfl ?_
     refine take_x (some 42) 1 rfl rfl ?_
     refine take_x (some 43) 2 rfl rfl ?_
     refine take_x (some 44) 3 rfl rfl ?_
     refine take_x (some 45) 4 rfl rfl ?_
     refine take_x (some 46) 5 rfl rfl ?_
     refine take_x (some 47) 6 rfl rfl ?_
     refine take_x (some 48) 7 rfl rfl ?_
     refine take_x (some 49) 8 rfl rfl ?_
     refine take_x (some 50) 9 rfl rfl ?_
     refine take_x (some 51) 10 rfl rfl ?_
     refine wpAnyH_ready (rs := [11, 15]) (by kernel_rfl) (by simp) ?_
     refine AllReadyH.cons rfl (fun K hK => ?_) (AllReadyH.cons rfl (fun K hK => ?_) AllReadyH.nil)
     ·go_simp
      refine (unhide HST x s true _ _ Wr2.drew (prog_keep (Keeps.of_below drew_below) (prog_keep (Keeps.of_below hI2.bel) (unhide HP))) (GVals.keep (Keeps.of_below drew_below) (GVals.keep (Keeps.of_below hI2.bel) (unhide HV))) (hins _ hmem) (StG.keep (Keeps.of_below drew_below) (StG.keep sel_world hSS)) hSO.1 hSO.2.1 hSO.2.2).mono ?_
      rintro e w2 hSt
      have hdr : Wr2.drew.heap.size = Wr2.heap.size := rfl
      obtain ⟨q2, oa, on, oc, oa', on', oc', ok, rfl, hS1, hS2, hb2'⟩ := hSt.form
      have hb2 : Below Wr2.heap.size Wr2 w2 := ⟨hb2'.os, hb2'.tape, hb2'.output, hb2'.size, hb2'.block⟩
      have hz2 := hb2.size
      have HS := hide (And.intro hS1 hS2)
      clear hSt hb2'
      go_wp2_with fail
      refine hK.out _ _ ((unhide HO) _ hb2) (fun hHeld => ?_)
      clear hK K
      try simp only [Act.put, List.setIfInBounds_toArray, List.set_cons_zero, List.set_cons_succ]
      refine take_x (some 40) 12 rfl rfl ?_
      refine take_x (some 53) 13 rfl rfl ?_
      refine take_x (some 54) 14 rfl rfl ?_
      refine wpAnyH_ready (rs := [15]) (by kernel_rfl) (by simp) ?_
      refine AllReadyH.cons rfl (fun K hK => ?_) AllReadyH.nil
      go_simp
      have hb3 : Below Wr2.heap.size Wr2 (w2.alloc (.cells #[.bool false, .slice none 0 0, .slice none 0 0] 149)) := hb2.alloc hb2.size _
      have B4 := Blk.new w2 #[.bool false, .slice none 0 0, .slice none 0 0] 149
      refine hK.out _ _ ((unhide HO) _ hb3) (fun hHeld => ?_)
      clear hK K
      try simp only [Act.put, List.setIfInBounds_toArray, List.set_cons_zero, List.set_cons_succ]
      obtain ⟨b4, hb4⟩ : ∃ b, b = w2.heap.size := ⟨_, rfl⟩
      have hb4' : Wr2.heap.size ≤ b4 := by omega
      rw [← hb4] at B4 ⊢
      have hnot : Hid (∀ s', rStep p m x s = some s' → StG (sel (fun k => (w.heap.size ≤ k ∧ k ≠ lb) ∧ k ≠ b4) (w2.alloc (.cells #[.bool false, .slice none 0 0, .slice none 0 0] 149))) s' (.slice oa on oc) (.slice oa' on' oc')) := fun s' e => StG.keep (sel_mods (Mods.of_below (box_below w2 _)) fun k hk hS => ⟨fun e => by omega, ⟨by have := hI2.bel.size; (try dsimp only at hS); omega, by (try dsimp only at hS); omega⟩, by omega⟩) ((unhide HS).1 s' e).2.2
      generalize w2.alloc _ = V at *
      clear hb4 hb2 hz2 hHeld hdr
      refine wpAnyH_ready (rs := [16]) (by kernel_rfl) (by simp) ?_
      refine AllReadyH.cons rfl (fun K hK => ?_) AllReadyH.nil
      refine wp_store_blk aggRS B4 0 [.bool q2, .slice oa on oc, .slice oa' on' oc'] rfl (by simp) one3 (.tmp 11) (.tmp 53) rfl rfl rfl ?_
      intro w6 hB6 hM6 hs6
      rw [putAt_all (by rfl)] at hB6
      have hb6 : Below Wr2.heap.size Wr2 w6 := hb3.trans (hM6.below hb3.size (fun k hk e => by omega))
      refine hK.out _ _ ((unhide HO) _ hb6) (fun hHeld => ?_)
      clear hK K
      try simp only [Act.put, List.setIfInBounds_toArray]
      refine take_x (some 12) 17 rfl rfl ?_
      refine wpAnyH_done (by kernel_rfl) ?_ _
      refine NoPanic.normal ?_
      have I6 := (unhide HI2).below hb6
      have hE6 : Hid (∀ s', rStep p m x s = some s' → StG (sel (fun k => w.heap.size ≤ k ∧ k ≠ lb) w6) s' (.slice oa on oc) (.slice oa' on' oc')) := fun s' e => StG.keep (sel_mods hM6 fun k hk hS => ⟨hS.2, hS.1⟩) (unhide hnot s' e)
      clear hHeld hM6 hs6 B4 hnot hb3
      go_wp2_with fail
      go_meet
      case rel =>
       cases hr : rStep p m x s with
       | none => exact .inl ⟨rfl, by rw [(unhide HS).2 hr], I6.bel⟩
       | some out =>
        obtain ⟨e1, e2, _⟩ := (unhide HS).1 out hr
        subst e1 e2
        exact .inr ⟨out, b4, oa, oa', on, oc, on', oc', rfl, rfl, rfl, I6, hB6, unhide hE6 out hr, rStep_ok G M (hins _ hmem) hSO hr, by omega⟩
     ·go_simp
      have hz1 := box_below Wr2.drew (.cells #[.bool false, .slice none 0 0, .slice none 0 0] 149)
      have hz2 : Below Wr2.heap.size Wr2 (Wr2.drew.alloc (.cells #[.bool false, .slice none 0 0, .slice none 0 0] 149)) := ⟨hz1.os, hz1.tape, hz1.output, hz1.size, hz1.block⟩
      have hsz : (Wr2.drew.alloc (.cells #[.bool false, .slice none 0 0, .slice none 0 0] 149)).heap.size = Wr2.heap.size + 1 := by simp
      obtain ⟨b4, hb4⟩ : ∃ b, b = Wr2.heap.size := ⟨_, rfl⟩
      refine hK.out _ _ ((unhide HO) _ hz2) (fun hHeld => ?_)
      clear hK K
      try simp only [Act.put, List.setIfInBounds_toArray, List.set_cons_zero, List.set_cons_succ]
      refine wpAnyH_ready (rs := [11]) (by kernel_rfl) (by simp) ?_
      refine AllReadyH.cons rfl (fun K hK => ?_) AllReadyH.nil
      go_simp
      refine (unhide HST x s true _ _ _ (prog_keep (Keeps.of_below hz2) (prog_keep (Keeps.of_below hI2.bel) (unhide HP))) (GVals.keep (Keeps.of_below hz2) (GVals.keep (Keeps.of_below hI2.bel) (unhide HV))) (hins _ hmem) (StG.keep (Keeps.of_below hz2) (StG.keep sel_world hSS)) hSO.1 hSO.2.1 hSO.2.2).mono ?_
      rintro e V hSt
      obtain ⟨q2, oa, on, oc, oa', on', oc', ok, rfl, hS1, hS2, hb2'⟩ := hSt.form
      have hb2 : Below (Wr2.heap.size + 1) (Wr2.drew.alloc (.cells #[.bool false, .slice none 0 0, .slice none 0 0] 149)) V := ⟨hb2'.os, hb2'.tape, hb2'.output, by have := hb2'.size; simpa using this, fun i hi => hb2'.block i (by simpa using hi)⟩
      have hb3 : Below Wr2.heap.size Wr2 V := hz2.trans (hb2.mono (by simp))
      have B4' : Blk (Wr2.drew.alloc (.cells #[.bool false, .slice none 0 0, .slice none 0 0] 149)) Wr2.heap.size 149 [.bool false, .slice none 0 0, .slice none 0 0] := Blk.new Wr2.drew #[.bool false, .slice none 0 0, .slice none 0 0] 149
      have B4 := B4'.below hb2 (by omega)
      have HS := hide (And.intro hS1 hS2)
      have hnot : Hid (∀ s', rStep p m x s = some s' → StG (sel (fun k => (w.heap.size ≤ k ∧ k ≠ lb) ∧ k ≠ b4) V) s' (.slice oa on oc) (.slice oa' on' oc')) := fun s' e => StG.keep (sel_mods (Mods.refl (fun _ => False) V) fun k hk hS => ⟨fun e => e, ⟨by have := hI2.bel.size; (try dsimp only at hS); omega, by (try dsimp only at hS); omega⟩, by (try dsimp only at hS); omega⟩) ((unhide HS).1 s' e).2.2
      clear hSt hb2' hsz
      go_wp2_with fail
      refine hK.out _ _ ((unhide HO) _ hb3) (fun hHeld => ?_)
      clear hK K
      try simp only [Act.put, List.setIfInBounds_toArray, List.set_cons_zero, List.set_cons_succ]
      refine take_x (some 40) 12 rfl rfl ?_
      refine take_x (some 53) 13 rfl rfl ?_
      refine take_x (some 54) 14 rfl rfl ?_
      have hb4' : Wr2.heap.size ≤ b4 := by omega
      rw [← hb4] at B4 ⊢
      clear hb4 hb2 hz2 hz1 hHeld B4'
      refine wpAnyH_ready (rs := [16]) (by kernel_rfl) (by simp) ?_
      refine AllReadyH.cons rfl (fun K hK => ?_) AllReadyH.nil
      refine wp_store_blk aggRS B4 0 [.bool q2, .slice oa on oc, .slice oa' on' oc'] rfl (by simp) one3 (.tmp 11) (.tmp 53) rfl rfl rfl ?_
      intro w6 hB6 hM6 hs6
      rw [putAt_all (by rfl)] at hB6
      have hb6 : Below Wr2.heap.size Wr2 w6 := hb3.trans (hM6.below hb3.size (fun k hk e => by omega))
      refine hK.out _ _ ((unhide HO) _ hb6) (fun hHeld => ?_)
      clear hK K
      try simp only [Act.put, List.setIfInBounds_toArray]
      refine take_x (some 12) 17 rfl rfl ?_
      refine wpAnyH_done (by kernel_rfl) ?_ _
      refine NoPanic.normal ?_
      have I6 := (unhide HI2).below hb6
      have hE6 : Hid (∀ s', rStep p m x s = some s' → StG (sel (fun k => w.heap.size ≤ k ∧ k ≠ lb) w6) s' (.slice oa on oc) (.slice oa' on' oc')) := fun s' e => StG.keep (sel_mods hM6 fun k hk hS => ⟨hS.2, hS.1⟩) (unhide hnot s' e)
      clear hHeld hM6 hs6 B4 hnot hb3
      go_wp2_with fail
      go_meet
      case rel =>
       cases hr : rStep p m x s with
       | none => exact .inl ⟨rfl, by rw [(unhide HS).2 hr], I6.bel⟩
       | some out =>
        obtain ⟨e1, e2, _⟩ := (unhide HS).1 out hr
        subst e1 e2
        exact .inr ⟨out, b4, oa, oa', on, oc, on', oc', rfl, rfl, rfl, I6, hB6, unhide hE6 out hr, rStep_ok G M (hins _ hmem) hSO hr, by omega⟩
    case rest =>
     rename World => U3
     clear r0 HO HRC hSS hSO hlb2 hI2 HI2
     rcases hcut with ⟨hn, rfl, hbl⟩ | ⟨out, bo, oa, oa', on, oc, on', oc', hs, rfl, rfl, I4, OB⟩
     ·have HNO : Hid (r = none) := cSolve_no (unhide HC) (show k + 1 ≤ m.code.length by omega) (by unfold cRound; rw [unhide HR2, Option.bind_some]; unfold cAt; rw [← unhide HRR]; dsimp only; rw [← unhide HX, hn]; rfl)
      clear hn
      go_wp2_with fail
      go_ret2
      exact ⟨fun _ => rfl, fun R' e => (by rw [unhide HNO] at e; cases e), hbl⟩
     obtain ⟨gl, hgl⟩ : ∃ gl, gl = goesL x k := ⟨_, rfl⟩
     have HG : Hid (cRound p m R (k + 1) = cReachL p m.code.length out gl (R2, b)) := by
      show _ = _
      unfold cRound
      rw [unhide HR2, Option.bind_some]
      unfold cAt
      rw [← unhide HRR]
      dsimp only
      rw [← unhide HX, hs, Option.bind_some, hgl]
     have m0 : U3.cell? ⟨w.heap.size + 1, 0, none⟩ = some (.int .i64 m.slot) := I4.b1.cell 0
     have m1 : U3.cell? ⟨w.heap.size + 1, 1, none⟩ = some (.slice aa m.args.length acap) := I4.b1.cell 1
     have m2 : U3.cell? ⟨w.heap.size + 1, 2, none⟩ = some (.int .i64 m.ret) := I4.b1.cell 2
     have m3 : U3.cell? ⟨w.heap.size + 1, 3, none⟩ = some (.int .i64 m.locals) := I4.b1.cell 3
     have m4 : U3.cell? ⟨w.heap.size + 1, 4, none⟩ = some (.int .i64 m.stack) := I4.b1.cell 4
     have m5 : U3.cell? ⟨w.heap.size + 1, 5, none⟩ = some (.slice (some ⟨cb, off, none⟩) m.code.length ccap) := I4.b1.cell 5
     have m6 : U3.cell? ⟨w.heap.size + 1, 6, none⟩ = some (.slice fa m.frames.length fcap) := I4.b1.cell 6
     have HI4 := hide I4
     have HOB := hide OB
     have hnn : ∀ y ∈ gl, 0 ≤ y := fun y hy => goesL_nn (hins _ hmem) (by rw [← hgl]; exact hy)
     have HNN := hide hnn
     clear hs I4 OB hnn
     go_wp2_with fail
     refine (unhide HGO k U3 (GVals.keep (Keeps.of_below (unhide HI4).bel) (unhide HV)) hlt).mono ?_
     rintro e V6 ⟨v, rfl, hL, hb6⟩
     rw [← unhide HX, ← hgl] at hL
     obtain ⟨la, lq, lo, lc, rfl, _, hlh, hlr⟩ := ints_openG hL
     have HI6 := hide ((unhide HI4).below hb6)
     have HOB6 := hide ((unhide HOB).below hb6)
     have HL6 : Hid (∀ (j : Nat) (hj : j < gl.length), sel (fun k => k ≠ lb) V6 ⟨lq, lo + j, none⟩ = some (.int .i64 gl[j])) := fun j hj => sel_mods (Mods.refl (fun _ => False) V6) (fun k hk hS => ⟨fun e => e, by have := (unhide HI4).rows.blk.lt; (try dsimp only at hS); omega⟩) _ _ (hlr j hj)
     have hg2 : gl.length ≤ 2 := by rw [hgl]; unfold goesL; cases fallsB x <;> cases jumpsB x <;> simp
     have HLH := hide hlh
     clear m0 m1 m2 m3 m4 m5 m6 hL hlr hlh hgl hb6 HI4 HOB
     go_wp2_with fail
     go_loopg [9, 14] gl.length (fun g q i V => ∃ (j : Nat) (b3 : Bool) (R3 : List (Option TSt)) (cs3 : List Value), j ≤ gl.length ∧ g = gl.length - j ∧ q = .bool b3 ∧ i = .int .i64 j ∧ cReachL p m.code.length out (gl.take j) (R2, b) = some (R3, b3) ∧ SvI w V p m lb (.slice pa p.length pcap) (.slice aa m.args.length acap) (.slice (some ⟨cb, off, none⟩) m.code.length ccap) (.slice fa m.frames.length fcap) R3 cs3 ∧ OutS V p m w.heap.size lb bo out (.slice oa on oc) (.slice oa' on' oc') ∧ ∀ (j : Nat) (hj : j < gl.length), sel (fun k => k ≠ lb) V ⟨lq, lo + j, none⟩ = some (.int .i64 gl[j]))
     case atStart => exact ⟨0, b, R2, _, Nat.zero_le _, rfl, rfl, rfl, rfl, unhide HI6, unhide HOB6, unhide HL6⟩
     case round =>
      clear HI6 HOB6 HL6
      rename World => Wr3
      obtain ⟨j, b3, R3, cs3, hj, hgj, rfl, rfl, hgo, I7, OB7, L7⟩ := hrel
      have HI7 := hide I7
      have HOB7 := hide OB7
      have HL7 := hide L7
      have HGJ := hide hgj
      have HR3 := hide hgo
      have hl3 := I7.len
      clear hgj hgo
      by_cases hjl : j < gl.length
      rotate_left
      ·obtain rfl : j = gl.length := by omega
       have ke2 : ¬ (gl.length : Int) < (gl.length : Int) := by omega
       have HE : Hid (cRound p m R (k + 1) = some (R3, b3)) := by
        show _ = _
        rw [unhide HG, ← unhide HR3, List.take_length]
       clear I7 OB7 L7
       go_wp2_with fail
       go_roundg (m.code.length - (k + 1))
       case measure => have := unhide HGK; omega
       case rel => exact ⟨k + 1, b3, R3, cs3, by omega, rfl, rfl, by go_num, unhide HE, unhide HI7⟩
      obtain rfl := unhide HLH (ne_nil_of_lt hjl)
      have j0 : (0 : Int) ≤ (j : Int) := by omega
      have j1 : (j : Int) < (gl.length : Int) := by omega
      have y0 := (sel_some (L7 j hjl)).2
      obtain ⟨y, hy⟩ : ∃ y, y = gl[j] := ⟨_, rfl⟩
      have HS3 : Hid (cReachL p m.code.length out (gl.take (j + 1)) (R2, b) = if (m.code.length : Int) ≤ y then none else cReach p out y.toNat (R3, b3)) := by
       show _ = _
       rw [List.take_add_one, List.getElem?_eq_getElem hjl, ← hy]
       show cReachL p m.code.length out (gl.take j ++ [y]) (R2, b) = _
       rw [cReachL_snoc, unhide HR3, Option.bind_some]
      have hy0 : 0 ≤ y := unhide HNN y (by rw [hy]; exact List.getElem_mem hjl)
      rw [← hy] at y0
      have HLY : Hid (sel (fun k => k ≠ lb) Wr3 ⟨lq, lo + j, none⟩ = some (.int .i64 y)) := by rw [hy]; exact L7 j hjl
      clear hy
      by_cases hyl : (m.code.length : Int) ≤ y
      ·have HNO : Hid (r = none) := cSolve_no (unhide HC) (show k + 1 ≤ m.code.length by omega) (by rw [unhide HG]; exact cReachL_none (j := j + 1) (by rw [unhide HS3, if_pos hyl]))
       have hbl := I7.bel
       clear I7 OB7 L7
       go_wp2_with fail
       go_ret2
       exact ⟨fun _ => rfl, fun R' e => (by rw [unhide HNO] at e; cases e), hbl⟩
      obtain ⟨yn, rfl⟩ := Int.eq_ofNat_of_zero_le hy0
      have HS4 : Hid (cReachL p m.code.length out (gl.take (j + 1)) (R2, b) = cReach p out yn (R3, b3)) := by show _ = _; rw [unhide HS3, if_neg hyl, Int.toNat_natCast]
      have hyn : (yn : Int) < (m.code.length : Int) := by omega
      obtain ⟨ta, tn, tc, ta', tn', tc', t0, t1, t2, hTS, hTO⟩ := I7.rows.at_ (i := yn) (by omega)
      obtain ⟨r3, hr3⟩ : ∃ r3, r3 = R3.getD yn none := ⟨_, rfl⟩
      rw [← hr3] at t0 hTS hTO
      have HR := hide hr3
      have HO := hide (fun Y (hY : Below Wr3.heap.size Wr3 Y) => And.intro ((((unhide HI7).below hY).b0.cell 0)) (And.intro (Keeps.of_below hY _ _ (sel_some (unhide HLY)).2) (And.intro (Keeps.of_below hY _ _ t0) (And.intro (Keeps.of_below hY _ _ t1) (And.intro (Keeps.of_below hY _ _ t2) (And.intro (((unhide HOB7).below hY).blk.cell 0) (And.intro (((unhide HOB7).below hY).blk.cell 1) (((unhide HOB7).below hY).blk.cell 2))))))))
      have hlb7 := I7.rows.blk.lt
      have hB7 := I7.bel.size
      have hmb := M.loc
      have hmk := M.stk
      have hoo := OB7.ok
      have hto8 : (hdS r3).loc.length ≤ 8 ∧ (hdS r3).stk.length ≤ 8 ∧ (r3.isSome = true → (hdS r3).loc.length = out.loc.length) ∧ TIn p (hdS r3) := by
       cases r3 with
       | none => exact ⟨by simp [hdS], by simp [hdS], fun e => (by cases e), fun x hx => (by cases hx), fun x hx => (by cases hx)⟩
       | some s3 =>
        obtain ⟨o1, o2, o3⟩ := hTO s3 rfl
        have e2 := hoo.2.1
        exact ⟨by show s3.loc.length ≤ 8; omega, by show s3.stk.length ≤ 8; omega, fun _ => by show s3.loc.length = _; omega, o1⟩
      have HTS := hide hTS
      have HTO := hide hTO
      clear hr3 t0 t1 t2 hTO I7 OB7 L7
      go_upto_region 19 with fail
      go_cut [15, 16] (fun s15 s16 wx => ∃ (bx : Nat) (q2 : Bool) (oa1 oa1' : Option Addr) (on1 oc1 on1' oc1' : Nat) (ok : Bool), s15 = .pointer (some ⟨bx, 0, none⟩) ∧ s16 = .bool ok ∧ Blk wx bx 149 [.bool q2, .slice oa1 on1 oc1, .slice oa1' on1' oc1'] ∧ (∀ g, cJn p r3 out = some g → q2 = true ∧ ok = true ∧ StG (sel (fun k => w.heap.size ≤ k ∧ k ≠ lb) wx) g (.slice oa1 on1 oc1) (.slice oa1' on1' oc1')) ∧ (cJn p r3 out = none → ok = false) ∧ lb < bx ∧ Below Wr3.heap.size Wr3 wx)
      case first =>
       clear y0
       refine wp_region_noPanic ?_
       refine wp_region_held_drew (S := (fun w' => w'.cell? ⟨w.heap.size, 0, none⟩ = some (.slice pa p.length pcap) ∧ w'.cell? ⟨lq, lo + j, none⟩ = some (.int .i64 yn) ∧ w'.cell? ⟨lb, yn * 3, none⟩ = some (.bool r3.isSome) ∧ w'.cell? ⟨lb, yn * 3 + 1, none⟩ = some (.slice ta tn tc) ∧ w'.cell? ⟨lb, yn * 3 + 2, none⟩ = some (.slice ta' tn' tc') ∧ w'.cell? ⟨bo, 0, none⟩ = some (.bool true) ∧ w'.cell? ⟨bo, 1, none⟩ = some (.slice oa on oc) ∧ w'.cell? ⟨bo, 2, none⟩ = some (.slice oa' on' oc'))) (by kernel_rfl) ?_ (fun hHeld => ?_)
       ·exact (unhide HO) _ drew_below
       refine take_x (some 74) 0 rfl rfl ?_
       refine take_x (some 75) 1 rfl rfl ?_
       refine take_x (some 76) 2 rfl rfl ?_
       refine take_x (some 77) 3 rfl rfl ?_
       refine take_x (some 78) 4 rfl rfl ?_
       refine take_x (some 79) 5 rfl rfl ?_
       refine take_x (some 80) 6 rfl rfl ?_
       refine take_x (some 81) 7 rfl rfl ?_
       refine take_x (some 82) 8 rfl rfl ?_
       refine wpAnyH_ready (rs := [9, 13]) (by kernel_rfl) (by simp) ?_
       refine AllReadyH.cons rfl (fun K hK => ?_) (AllReadyH.cons rfl (fun K hK => ?_) AllReadyH.nil)
       ·go_simp
        refine (unhide HJN (hdS r3) out r3.isSome true _ _ _ _ Wr3.drew (prog_keep (Keeps.of_below drew_below) (prog_keep (Keeps.of_below (unhide HI7).bel) (unhide HP))) (StG.keep (Keeps.of_below drew_below) (StG.keep sel_world hTS)) (StG.keep (Keeps.of_below drew_below) (StG.keep sel_world (unhide HOB7).st)) hto8.2.2.2 hoo.1 hto8.1 hto8.2.1 hto8.2.2.1).mono ?_
        rintro e w2 hSt
        have hdr : Wr3.drew.heap.size = Wr3.heap.size := rfl
        obtain ⟨q2, oa, on, oc, oa', on', oc', ok, rfl, hS1, hS2, hb2'⟩ := RjR.form (S := fun k => w.heap.size ≤ k ∧ k ≠ lb) hSt (StG.keep (sel_mods (Mods.of_below drew_below) fun k hk hS => ⟨fun e => by omega, hS⟩) (unhide HOB7).st) (fun k hk => ⟨by omega, by omega⟩)
        have hb2 : Below Wr3.heap.size Wr3 w2 := ⟨hb2'.os, hb2'.tape, hb2'.output, hb2'.size, hb2'.block⟩
        have hz2 := hb2.size
        have HS := hide (And.intro hS1 hS2)
        clear hSt hb2'
        go_wp2_with fail
        refine hK.out _ _ ((unhide HO) _ hb2) (fun hHeld => ?_)
        clear hK K
        try simp only [Act.put, List.setIfInBounds_toArray, List.set_cons_zero, List.set_cons_succ]
        refine take_x (some 73) 10 rfl rfl ?_
        refine take_x (some 84) 11 rfl rfl ?_
        refine take_x (some 85) 12 rfl rfl ?_
        refine wpAnyH_ready (rs := [13]) (by kernel_rfl) (by simp) ?_
        refine AllReadyH.cons rfl (fun K hK => ?_) AllReadyH.nil
        go_simp
        have hb3 : Below Wr3.heap.size Wr3 (w2.alloc (.cells #[.bool false, .slice none 0 0, .slice none 0 0] 149)) := hb2.alloc hb2.size _
        have B4 := Blk.new w2 #[.bool false, .slice none 0 0, .slice none 0 0] 149
        refine hK.out _ _ ((unhide HO) _ hb3) (fun hHeld => ?_)
        clear hK K
        try simp only [Act.put, List.setIfInBounds_toArray, List.set_cons_zero, List.set_cons_succ]
        obtain ⟨b4, hb4⟩ : ∃ b, b = w2.heap.size := ⟨_, rfl⟩
        have hb4' : Wr3.heap.size ≤ b4 := by omega
        rw [← hb4] at B4 ⊢
        have hnot : Hid (∀ g, cJn p r3 out = some g → StG (sel (fun k => (w.heap.size ≤ k ∧ k ≠ lb) ∧ k ≠ b4) (w2.alloc (.cells #[.bool false, .slice none 0 0, .slice none 0 0] 149))) g (.slice oa on oc) (.slice oa' on' oc')) := fun s' e => StG.keep (sel_mods (Mods.of_below (box_below w2 _)) fun k hk hS => ⟨fun e => by omega, hS, by omega⟩) ((unhide HS).1 s' e).2.2
        generalize w2.alloc _ = V at *
        clear hb4 hb2 hz2 hHeld hdr
        refine wpAnyH_ready (rs := [14]) (by kernel_rfl) (by simp) ?_
        refine AllReadyH.cons rfl (fun K hK => ?_) AllReadyH.nil
        refine wp_store_blk aggRS B4 0 [.bool q2, .slice oa on oc, .slice oa' on' oc'] rfl (by simp) one3 (.tmp 15) (.tmp 84) rfl rfl rfl ?_
        intro w6 hB6 hM6 hs6
        rw [putAt_all (by rfl)] at hB6
        have hb6 : Below Wr3.heap.size Wr3 w6 := hb3.trans (hM6.below hb3.size (fun k hk e => by omega))
        refine hK.out _ _ ((unhide HO) _ hb6) (fun hHeld => ?_)
        clear hK K
        try simp only [Act.put, List.setIfInBounds_toArray]
        refine take_x (some 16) 15 rfl rfl ?_
        refine wpAnyH_done (by kernel_rfl) ?_ _
        refine NoPanic.normal ?_
        have hE6 : Hid (∀ g, cJn p r3 out = some g → StG (sel (fun k => w.heap.size ≤ k ∧ k ≠ lb) w6) g (.slice oa on oc) (.slice oa' on' oc')) := fun s' e => StG.keep (sel_mods hM6 fun k hk hS => ⟨hS.2, hS.1⟩) (unhide hnot s' e)
        clear hHeld hM6 hs6 B4 hnot hb3
        go_wp2_with fail
        go_meet
        case rel => exact ⟨b4, q2, oa, oa', on, oc, on', oc', ok, rfl, rfl, hB6, fun g e => ⟨((unhide HS).1 g e).1, ((unhide HS).1 g e).2.1, unhide hE6 g e⟩, (unhide HS).2, by omega, hb6⟩
       ·go_simp
        have hz1 := box_below Wr3.drew (.cells #[.bool false, .slice none 0 0, .slice none 0 0] 149)
        have hz2 : Below Wr3.heap.size Wr3 (Wr3.drew.alloc (.cells #[.bool false, .slice none 0 0, .slice none 0 0] 149)) := ⟨hz1.os, hz1.tape, hz1.output, hz1.size, hz1.block⟩
        have hsz : (Wr3.drew.alloc (.cells #[.bool false, .slice none 0 0, .slice none 0 0] 149)).heap.size = Wr3.heap.size + 1 := by simp
        obtain ⟨b4, hb4⟩ : ∃ b, b = Wr3.heap.size := ⟨_, rfl⟩
        refine hK.out _ _ ((unhide HO) _ hz2) (fun hHeld => ?_)
        clear hK K
        try simp only [Act.put, List.setIfInBounds_toArray, List.set_cons_zero, List.set_cons_succ]
        refine wpAnyH_ready (rs := [9]) (by kernel_rfl) (by simp) ?_
        refine AllReadyH.cons rfl (fun K hK => ?_) AllReadyH.nil
        go_simp
        refine (unhide HJN (hdS r3) out r3.isSome true _ _ _ _ _ (prog_keep (Keeps.of_below hz2) (prog_keep (Keeps.of_below (unhide HI7).bel) (unhide HP))) (StG.keep (Keeps.of_below hz2) (StG.keep sel_world hTS)) (StG.keep (Keeps.of_below hz2) (StG.keep sel_world (unhide HOB7).st)) hto8.2.2.2 hoo.1 hto8.1 hto8.2.1 hto8.2.2.1).mono ?_
        rintro e V hSt
        obtain ⟨q2, oa, on, oc, oa', on', oc', ok, rfl, hS1, hS2, hb2'⟩ := RjR.form (S := fun k => (w.heap.size ≤ k ∧ k ≠ lb) ∧ k ≠ b4) hSt (StG.keep (sel_mods (Mods.of_below hz2) fun k hk hS => ⟨fun e => by omega, hS, by omega⟩) (unhide HOB7).st) (fun k hk => by rw [hsz] at hk; exact ⟨⟨by omega, by omega⟩, by omega⟩)
        have hb2 : Below (Wr3.heap.size + 1) (Wr3.drew.alloc (.cells #[.bool false, .slice none 0 0, .slice none 0 0] 149)) V := ⟨hb2'.os, hb2'.tape, hb2'.output, by have := hb2'.size; simpa using this, fun i hi => hb2'.block i (by simpa using hi)⟩
        have hb3 : Below Wr3.heap.size Wr3 V := hz2.trans (hb2.mono (by simp))
        have B4' : Blk (Wr3.drew.alloc (.cells #[.bool false, .slice none 0 0, .slice none 0 0] 149)) Wr3.heap.size 149 [.bool false, .slice none 0 0, .slice none 0 0] := Blk.new Wr3.drew #[.bool false, .slice none 0 0, .slice none 0 0] 149
        have B4 := B4'.below hb2 (by omega)
        have HS := hide (And.intro hS1 hS2)
        have hnot : Hid (∀ g, cJn p r3 out = some g → StG (sel (fun k => (w.heap.size ≤ k ∧ k ≠ lb) ∧ k ≠ b4) V) g (.slice oa on oc) (.slice oa' on' oc')) := fun s' e => ((unhide HS).1 s' e).2.2
        clear hSt hb2' hsz
        go_wp2_with fail
        refine hK.out _ _ ((unhide HO) _ hb3) (fun hHeld => ?_)
        clear hK K
        try simp only [Act.put, List.setIfInBounds_toArray, List.set_cons_zero, List.set_cons_succ]
        refine take_x (some 73) 10 rfl rfl ?_
        refine take_x (some 84) 11 rfl rfl ?_
        refine take_x (some 85) 12 rfl rfl ?_
        have hb4' : Wr3.heap.size ≤ b4 := by omega
        rw [← hb4] at B4 ⊢
        clear hb4 hb2 hz2 hz1 hHeld B4'
        refine wpAnyH_ready (rs := [14]) (by kernel_rfl) (by simp) ?_
        refine AllReadyH.cons rfl (fun K hK => ?_) AllReadyH.nil
        refine wp_store_blk aggRS B4 0 [.bool q2, .slice oa on oc, .slice oa' on' oc'] rfl (by simp) one3 (.tmp 15) (.tmp 84) rfl rfl rfl ?_
        intro w6 hB6 hM6 hs6
        rw [putAt_all (by rfl)] at hB6
        have hb6 : Below Wr3.heap.size Wr3 w6 := hb3.trans (hM6.below hb3.size (fun k hk e => by omega))
        refine hK.out _ _ ((unhide HO) _ hb6) (fun hHeld => ?_)
        clear hK K
        try simp only [Act.put, List.setIfInBounds_toArray]
        refine take_x (some 16) 15 rfl rfl ?_
        refine wpAnyH_done (by kernel_rfl) ?_ _
        refine NoPanic.normal ?_
        have hE6 : Hid (∀ g, cJn p r3 out = some g → StG (sel (fun k => w.heap.size ≤ k ∧ k ≠ lb) w6) g (.slice oa on oc) (.slice oa' on' oc')) := fun s' e => StG.keep (sel_mods hM6 fun k hk hS => ⟨hS.2, hS.1⟩) (unhide hnot s' e)
        clear hHeld hM6 hs6 B4 hnot hb3
        go_wp2_with fail
        go_meet
        case rel => exact ⟨b4, q2, oa, oa', on, oc, on', oc', ok, rfl, rfl, hB6, fun g e => ⟨((unhide HS).1 g e).1, ((unhide HS).1 g e).2.1, unhide hE6 g e⟩, (unhide HS).2, by omega, hb6⟩
      case rest =>
       rename World => U4
       obtain ⟨bx, q2, oa1, oa1', on1, oc1, on1', oc1', ok, rfl, rfl, hBx, hJ1, hJ2, hbx, hb4⟩ := hcut
       have I8 := (unhide HI7).below hb4
       have OB8 := (unhide HOB7).below hb4
       have HL8 : Hid (∀ (j : Nat) (hj : j < gl.length), sel (fun k => k ≠ lb) U4 ⟨lq, lo + j, none⟩ = some (.int .i64 gl[j])) := fun j' hj' => sel_mods (Mods.of_below hb4) (fun k hk hS => ⟨fun e => by omega, hS⟩) _ _ (unhide HL7 j' hj')
       have HLY8 : Hid (sel (fun k => k ≠ lb) U4 ⟨lq, lo + j, none⟩ = some (.int .i64 yn)) := sel_mods (Mods.of_below hb4) (fun k hk hS => ⟨fun e => by omega, hS⟩) _ _ (unhide HLY)
       clear y0 HO HTS HTO HI7 HOB7 HL7 HLY hb4 hto8 hTS hlb7 hB7
       cases hcj : cJn p r3 out with
       | none =>
        have HNO : Hid (r = none) := cSolve_no (unhide HC) (show k + 1 ≤ m.code.length by omega) (by rw [unhide HG]; exact cReachL_none (j := j + 1) (by rw [unhide HS4, cReach_is, ← unhide HR, hcj]; rfl))
        obtain rfl := hJ2 hcj
        have hbl := I8.bel
        clear hcj hJ1 hJ2 I8 OB8
        go_wp2_with fail
        go_ret2
        exact ⟨fun _ => rfl, fun R' e => (by rw [unhide HNO] at e; cases e), hbl⟩
       | some g =>
       obtain ⟨rfl, rfl, hgS⟩ := hJ1 g hcj
       have HCR2 : Hid (cReach p out yn (R3, b3) = if cSm p r3 g then some (R3, b3) else some (R3.set yn (some g), true)) := by show _ = _; rw [cReach_is, ← unhide HR, hcj, Option.bind_some]
       have hgO : StOk p m g := cJn_ok (fun s e => (by obtain ⟨_, _, _, _, _, _, _, _, _, _, h9⟩ := I8.rows.at_ (i := yn) (by omega); exact h9 s (by rw [← unhide HR]; exact e))) hoo hcj
       obtain ⟨ta, tn, tc, ta', tn', tc', t0, t1, t2, hTS, hTO⟩ := I8.rows.at_ (i := yn) (by omega)
       rw [← unhide HR] at t0 hTS hTO
       have y0 := (sel_some (unhide HLY8)).2
       have g0 : U4.cell? ⟨bx, 0, none⟩ = some (.bool true) := hBx.cell 0
       have g1' : U4.cell? ⟨bx, 1, none⟩ = some (.slice oa1 on1 oc1) := hBx.cell 1
       have g2' : U4.cell? ⟨bx, 2, none⟩ = some (.slice oa1' on1' oc1') := hBx.cell 2
       have p0 : U4.cell? ⟨w.heap.size, 0, none⟩ = some (.slice pa p.length pcap) := I8.b0.cell 0
       have HO := hide (fun Y (hY : Below U4.heap.size U4 Y) => And.intro ((I8.below hY).b0.cell 0) (And.intro (Keeps.of_below hY _ _ y0) (And.intro ((hBx.below hY hBx.lt).cell 0) (And.intro ((hBx.below hY hBx.lt).cell 1) (And.intro ((hBx.below hY hBx.lt).cell 2) (And.intro (Keeps.of_below hY _ _ t0) (And.intro (Keeps.of_below hY _ _ t1) (Keeps.of_below hY _ _ t2))))))))
       have HI8 := hide I8
       have HOB8 := hide OB8
       have HBx := hide hBx
       have HGS := hide hgS
       have HGO8 := hide hgO
       clear hcj hJ1 hJ2 t1 t2 g0 g1' g2' p0 hgS hBx
       go_upto_if 96 with fail
       go_cut [17] (fun s17 wx => s17 = .bool (cSm p r3 g) ∧ Below U4.heap.size U4 wx)
       case first =>
        cases r3 with
        | none =>
         dsimp only [Option.isSome] at *
         go_wp2_with fail
         go_meet
         case rel => exact ⟨rfl, Below.refl _ _⟩
        | some t3 =>
         dsimp only [Option.isSome] at *
         clear y0 t0
         have htt := hTO t3 rfl
         go_upto_region 24 with fail
         refine wp_region_noPanic ?_
         refine wp_region_held_drew (S := (fun w' => w'.cell? ⟨w.heap.size, 0, none⟩ = some (.slice pa p.length pcap) ∧ w'.cell? ⟨lq, lo + j, none⟩ = some (.int .i64 yn) ∧ w'.cell? ⟨bx, 0, none⟩ = some (.bool true) ∧ w'.cell? ⟨bx, 1, none⟩ = some (.slice oa1 on1 oc1) ∧ w'.cell? ⟨bx, 2, none⟩ = some (.slice oa1' on1' oc1') ∧ w'.cell? ⟨lb, yn * 3, none⟩ = some (.bool true) ∧ w'.cell? ⟨lb, yn * 3 + 1, none⟩ = some (.slice ta tn tc) ∧ w'.cell? ⟨lb, yn * 3 + 2, none⟩ = some (.slice ta' tn' tc'))) (by kernel_rfl) ?_ (fun hHeld => ?_)
         ·exact (unhide HO) _ drew_below
         refine take_x (some 97) 0 rfl rfl ?_
         refine take_x (some 98) 1 rfl rfl ?_
         refine take_x (some 99) 2 rfl rfl ?_
         refine take_x (some 100) 3 rfl rfl ?_
         refine take_x (some 101) 4 rfl rfl ?_
         refine take_x (some 102) 5 rfl rfl ?_
         refine take_x (some 103) 6 rfl rfl ?_
         refine take_x (some 104) 7 rfl rfl ?_
         refine take_x (some 105) 8 rfl rfl ?_
         refine wpAnyH_ready (rs := [9]) (by kernel_rfl) (by simp) ?_
         refine AllReadyH.cons rfl (fun K hK => ?_) AllReadyH.nil
         go_simp
         refine (unhide HUN g t3 true true _ _ _ _ U4.drew (prog_keep (Keeps.of_below drew_below) (prog_keep (Keeps.of_below I8.bel) (unhide HP))) (StG.keep (Keeps.of_below drew_below) (StG.keep sel_world (unhide HGS))) (StG.keep (Keeps.of_below drew_below) (StG.keep sel_world hTS)) hgO.1 htt.1 (by have := hgO.2.1; omega) (by have := hgO.2.2; omega)).mono ?_
         rintro e w1 ⟨rfl, hb1'⟩
         have hb1 : Below U4.heap.size U4 w1 := ⟨hb1'.os, hb1'.tape, hb1'.output, hb1'.size, hb1'.block⟩
         obtain ⟨uu, huu⟩ : ∃ uu, uu = underB p g t3 := ⟨_, rfl⟩
         rw [← huu]
         have HUU := hide huu
         clear hb1' huu
         go_wp2_with fail
         refine hK.out _ _ ((unhide HO) _ hb1) (fun hHeld => ?_)
         clear hK K
         try simp only [Act.put, List.setIfInBounds_toArray, List.set_cons_zero, List.set_cons_succ]
         refine take_x (some 17) 10 rfl rfl ?_
         refine wpAnyH_done (by kernel_rfl) ?_ _
         refine NoPanic.normal ?_
         go_wp2_with fail
         go_meet
         case rel => exact ⟨by rw [unhide HUU]; rfl, hb1⟩
       case rest =>
        rename World => U5
        obtain ⟨rfl, hb5⟩ := hcut
        have I9 := I8.below hb5
        have OB9 := OB8.below hb5
        have HL9 : Hid (∀ (j : Nat) (hj : j < gl.length), sel (fun k => k ≠ lb) U5 ⟨lq, lo + j, none⟩ = some (.int .i64 gl[j])) := fun j' hj' => sel_mods (Mods.of_below hb5) (fun k hk hS => ⟨fun e => by omega, hS⟩) _ _ (unhide HL8 j' hj')
        have y1 := Keeps.of_below hb5 _ _ y0
        have hB9 := (unhide HBx).below hb5 (unhide HBx).lt
        have hS9 : StG (sel (fun k => w.heap.size ≤ k ∧ k ≠ lb) U5) g (.slice oa1 on1 oc1) (.slice oa1' on1' oc1') := StG.keep (sel_mods (Mods.of_below hb5) fun k hk hS => ⟨fun e => by omega, hS⟩) (unhide HGS)
        have hc9 := I9.rows.blk
        have hcl9 := I9.rows.len
        have g0 : U5.cell? ⟨bx, 0, none⟩ = some (.bool true) := hB9.cell 0
        have g1' : U5.cell? ⟨bx, 1, none⟩ = some (.slice oa1 on1 oc1) := hB9.cell 1
        have g2' : U5.cell? ⟨bx, 2, none⟩ = some (.slice oa1' on1' oc1') := hB9.cell 2
        have HO5 := hide (fun Y (hY : Below U5.heap.size U5 Y) => And.intro (Keeps.of_below hY _ _ y1) (And.intro ((hB9.below hY hB9.lt).cell 0) (And.intro ((hB9.below hY hB9.lt).cell 1) ((hB9.below hY hB9.lt).cell 2))))
        have HI9 := hide I9
        have HOB9 := hide OB9
        have HS9 := hide hS9
        clear HO t0 hTS hTO y0 I8 OB8 HI8 HOB8 HBx HGS HL8 HLY8 hb5 I9 OB9 hS9
        obtain ⟨sm, hsm⟩ : ∃ sm, sm = cSm p r3 g := ⟨_, rfl⟩
        rw [← hsm] at HCR2 ⊢
        clear hsm
        cases sm with
        | true =>
         have HE : Hid (cReachL p m.code.length out (gl.take (j + 1)) (R2, b) = some (R3, b3)) := by show _ = _; rw [unhide HS4, unhide HCR2]; rfl
         clear y1 g0 g1' g2' hB9 HO5
         go_wp2_with fail
         go_roundg (gl.length - (j + 1))
         case measure => have := unhide HGJ; omega
         case rel => exact ⟨j + 1, b3, R3, cs3, by omega, rfl, rfl, by go_num, unhide HE, unhide HI9, unhide HOB9, unhide HL9⟩
        | false =>
         have HE : Hid (cReachL p m.code.length out (gl.take (j + 1)) (R2, b) = some (R3.set yn (some g), true)) := by show _ = _; rw [unhide HS4, unhide HCR2]; rfl
         clear y1 g0 g1' g2'
         go_upto_region 26 with fail
         refine wp_region_noPanic ?_
         refine wp_region_held_drew (S := (fun w' => w'.cell? ⟨lq, lo + j, none⟩ = some (.int .i64 yn) ∧ w'.cell? ⟨bx, 0, none⟩ = some (.bool true) ∧ w'.cell? ⟨bx, 1, none⟩ = some (.slice oa1 on1 oc1) ∧ w'.cell? ⟨bx, 2, none⟩ = some (.slice oa1' on1' oc1'))) (by kernel_rfl) ?_ (fun hHeld => ?_)
         ·exact (unhide HO5) _ drew_below
         refine take_x (some 109) 0 rfl rfl ?_
         refine take_x (some 110) 1 rfl rfl ?_
         refine take_x (some 111) 2 rfl rfl ?_
         refine take_x (some 112) 3 rfl rfl ?_
         refine take_x (some 113) 4 rfl rfl ?_
         refine take_x (some 114) 5 rfl rfl ?_
         refine take_x (some 115) 6 rfl rfl ?_
         refine wpAnyH_ready (rs := [7]) (by kernel_rfl) (by simp) ?_
         refine AllReadyH.cons rfl (fun K hK => ?_) AllReadyH.nil
         refine wp_store_blk aggRS hc9.drew (yn * 3) [.bool true, .slice oa1 on1 oc1, .slice oa1' on1' oc1'] rfl (by rw [hcl9]; omega) one3 (.tmp 115) (.tmp 114) rfl (by go_simp) rfl ?_
         intro w6 hB6 hM6 hs6
         have hM6' : Mods (fun k => k = lb) U5 w6 := ((Mods.refl _ U5).drew).trans hM6 (fun _ _ e => e)
         have hne5 : lq ≠ lb := (sel_some (unhide HL9 j hjl)).1
         have hk6 : ∀ a v, a.block ≠ lb → U5.cell? a = some v → w6.cell? a = some v := fun a v ha e => (sel_some (sel_mods (S := fun k => k ≠ lb) (S' := fun k => k ≠ lb) hM6' (fun k _ hk => ⟨hk, hk⟩) a v (by rw [sel_eq ha]; exact e))).2
         have hbx5 : bx ≠ lb := by omega
         obtain ⟨z0, z1, z2, z3⟩ := (unhide HO5) _ (Below.refl _ _)
         refine hK.out _ _ ⟨hk6 _ _ hne5 z0, hk6 _ _ hbx5 z1, hk6 _ _ hbx5 z2, hk6 _ _ hbx5 z3⟩ (fun hHeld => ?_)
         clear hK K z0 z1 z2 z3
         try simp only [Act.put, List.setIfInBounds_toArray]
         refine wpAnyH_done (by kernel_rfl) ?_ _
         refine NoPanic.normal ?_
         have I10 := (unhide HI9).set (k := yn) (by omega) hM6' hB6 (unhide HS9) (unhide HGO8)
         have OB10 := (unhide HOB9).mods hM6'
         have HL10 : Hid (∀ (j : Nat) (hj : j < gl.length), sel (fun k => k ≠ lb) w6 ⟨lq, lo + j, none⟩ = some (.int .i64 gl[j])) := fun j' hj' => sel_mods hM6' (fun k _ hk => ⟨hk, hk⟩) _ _ (unhide HL9 j' hj')
         have HI10 := hide I10
         have HOB10 := hide OB10
         clear I10 OB10 hk6 hB6 hM6 hM6' hs6 hHeld HO5 hc9 hcl9 hB9
         go_wp2_with fail
         go_roundg (gl.length - (j + 1))
         case measure => have := unhide HGJ; omega
         case rel => exact ⟨j + 1, true, _, _, by omega, rfl, rfl, by go_num, unhide HE, unhide HI10, unhide HOB10, unhide HL10⟩
end Go.Proofs.YtiiokkllmchohaaGreat
namespace Go.Proofs.YtiiokkllmchohaaGreat
open Go.RowKit Go.Shelf
abbrev OldS (n bx : Nat) (v : Value) : Nat → Prop := fun g => (g < n ∨ bx < g) ∧ v.ownBlock ≠ some g
def GrwI {α : Type} (E : TypeId) (sz : Nat) (C : (Addr → Option Value) → α → List Value → Prop) (n : Nat) (V : World) (bx : Nat) (v : Value) (q : List α) : Prop :=
 ∃ cs, V.ownsRow (bx + 1) E sz v q.length cs ∧ RowG sz (C (sel (OldS n bx v) V)) cs q
section
variable {α : Type} {E : TypeId} {sz n : Nat} {C : (Addr → Option Value) → α → List Value → Prop} {V V' : World} {bx : Nat} {v v' : Value} {q : List α}
theorem GrwI.below (hK : ∀ g g' x c, GLe g g' → C g x c → C g' x c) (i : GrwI E sz C n V bx v q) (b : Below V.heap.size V V') : GrwI E sz C n V' bx v q := by
 obtain ⟨cs, hO, hR⟩ := i
 exact ⟨cs, own_mods hO (Mods.of_below b) (fun g hg e => by have := (hO.lt g hg).2; omega), hR.mono fun x c hc => hK _ _ _ _ (sel_mods (Mods.of_below b) fun k hk hS => ⟨fun e => by omega, hS⟩) hc⟩
theorem GrwI.next (hK : ∀ g g' x c, GLe g g' → C g x c → C g' x c) {cs : List Value} (hR : RowG sz (C (sel (OldS n bx v) V)) cs q) (hlt : ∀ g, v.ownBlock = some g → bx + 1 ≤ g) (hn : n ≤ bx) {B : Nat} (hBv : ∀ g, v.ownBlock = some g → g < B) (hB : bx < B) {x : α} {c : List Value} (hc : C (sel (fun k => k < n ∨ B ≤ k) V) x c) (hl : c.length = sz)
  (hO' : V'.ownsRow (bx + 1) E sz v' (q.length + 1) (cs ++ c)) (hM : Mods (fun k => v.ownBlock = some k) V V') (hv : v'.ownBlock = v.ownBlock ∨ ∃ k, V.heap.size ≤ k ∧ v'.ownBlock = some k) (i : Nat) : GrwI E sz C n (V'.setCell ⟨bx, i, none⟩ v') bx v' (q ++ [x]) := by
 have hM2 : Mods (fun k => k = bx) V' (V'.setCell ⟨bx, i, none⟩ v') := (Mods.refl (fun k => k = bx) V').setCell (p := ⟨bx, i, none⟩) (fun _ => rfl) _
 have hold : GLe (sel (OldS n bx v) V) (sel (OldS n bx v') (V'.setCell ⟨bx, i, none⟩ v')) :=
  (sel_mods (S' := OldS n bx v') hM fun k hk hS => ⟨hS.2, hS.1, fun e => by
    rcases hv with hv | ⟨k', hk', hv⟩
    ·exact hS.2 (by rw [← hv]; exact e)
    ·rw [hv] at e
     cases e
     omega⟩).trans (sel_mods hM2 fun k hk hS => ⟨fun e => by have := hS.1; omega, hS⟩)
 have hnew : GLe (sel (fun k => k < n ∨ B ≤ k) V) (sel (OldS n bx v') (V'.setCell ⟨bx, i, none⟩ v')) :=
  (sel_mods (S' := OldS n bx v') hM fun k hk hS => ⟨fun e => by have := hBv k e; have := hlt k e; omega, by omega, fun e => by
    rcases hv with hv | ⟨k', hk', hv⟩
    ·have := hBv k (by rw [← hv]; exact e)
     have := hlt k (by rw [← hv]; exact e)
     omega
    ·rw [hv] at e
     cases e
     omega⟩).trans (sel_mods hM2 fun k hk hS => ⟨fun e => by have := hS.1; omega, hS⟩)
 exact ⟨_, by simpa using own_mods hO' hM2 (fun g hg e => by have := (hO'.lt g hg).1; omega), (hR.mono fun y c hc => hK _ _ _ _ hold hc).snoc (hK _ _ _ _ hnew hc) hl⟩
end
theorem clsK : ∀ (g g' : Addr → Option Value) (x : LClass) (c : List Value), GLe g g' → ClsC g x c → ClsC g' x c := fun _ _ _ _ h r => ClsC.keep h r
theorem metK : ∀ (g g' : Addr → Option Value) (x : LMeth) (c : List Value), GLe g g' → MeC g x c → MeC g' x c := fun _ _ _ _ h r => MeC.keep h r
theorem infoMet : (Tryz.prog.info? 63).map (fun i => (i.zero, i.size, i.bytes)) = some (some (.agg #[.int .i64 0, .slice none 0 0, .int .i64 0, .int .i64 0, .int .i64 0, .slice none 0 0, .slice none 0 0]), 7, 104) := by kernel_rfl
structure MwI (n : Nat) (Vc V : World) (by_ : Nat) (vp vf vm : Value) (sup : Int) (q : List LMeth) : Prop where
 bel : Below Vc.heap.size Vc V
 blk : Blk V by_ 66 [.int .i64 sup, vf, vm]
 row : GrwI 63 7 MeC n V by_ vm q
 lo : Vc.heap.size < by_
theorem MwI.below {n : Nat} {Vc V V' : World} {by_ : Nat} {vp vf vm : Value} {sup : Int} {q : List LMeth} (i : MwI n Vc V by_ vp vf vm sup q) (b : Below V.heap.size V V') : MwI n Vc V' by_ vp vf vm sup q :=
 ⟨i.bel.trans (b.mono i.bel.size), i.blk.below b i.blk.lt, i.row.below metK b, i.lo⟩
theorem MwI.next {n : Nat} {Vc V : World} {by_ : Nat} {vp vf vm : Value} {sup : Int} {q : List LMeth} (i : MwI n Vc V by_ vp vf vm sup q) (hn : n ≤ Vc.heap.size) (hq : q.length ≤ 4194304) {B : Nat} (hBv : ∀ g, vm.ownBlock = some g → g < B) (hB : by_ < B) {x : LMeth} {va vc vfr : Value} (hx : GVals (sel (fun k => k < n ∨ B ≤ k) V) x va vc vfr) :
  ∃ a m cap w', (Builtin.append_ #[64, 64] 64 #[vm, .slice (some ⟨V.heap.size, 0, none⟩) 1 1]).run Tryz.prog (V.alloc (.cells #[.int .i64 x.slot, va, .int .i64 x.ret, .int .i64 x.locals, .int .i64 x.stack, vc, vfr] 63)) = .ok (.slice a m cap) w' ∧
   w'.cell? ⟨by_, 2, none⟩ = some vm ∧ w'.frozen? ⟨by_, 2, none⟩ = false ∧ MwI n Vc (w'.setCell ⟨by_, 2, none⟩ (.slice a m cap)) by_ vp vf (.slice a m cap) sup (q ++ [x]) ∧ Mods (fun k => vm.ownBlock = some k ∨ k = by_) V (w'.setCell ⟨by_, 2, none⟩ (.slice a m cap)) ∧ ∀ g, vm.ownBlock = some g → by_ < g := by
 obtain ⟨iM, hM0, hM1, hM2, hM3⟩ := info_parts infoMet
 obtain ⟨cs, hO, hR⟩ := i.row
 have hlt := hO.lt
 have hsz := i.bel.size
 have hby := i.blk.lt
 have hlo := i.lo
 obtain ⟨v', w', happ, hO', hM, hv⟩ := app_ex (P := Tryz.prog) (W := V) 64 64 63 iM _ 7 104 Tryz.underlying64 hM0 hM1 hM2 hM3 rfl (by decide) (by_ + 1) vm q.length cs hO #[.int .i64 x.slot, va, .int .i64 x.ret, .int .i64 x.locals, .int .i64 x.stack, vc, vfr] rfl
  (fun u hu => by
    simp only [List.mem_cons, List.not_mem_nil, or_false] at hu
    have v1 := slAt_one hx.1
    have v2 := slAt_one hx.2.1
    have v3 := slAt_one hx.2.2
    rcases hu with rfl | rfl | rfl | rfl | rfl | rfl | rfl <;> first | rfl | assumption) V.heap.size rfl (by unfold maxLen; omega) (by omega) (by omega)
 obtain ⟨a, cap, rfl⟩ := own_form hO'
 have n2 : ¬ vm.ownBlock = some by_ := fun e => by have := (hlt _ e).1; omega
 have hb2 := i.blk.mods hM n2
 have hMb : Mods (fun k => k = by_) w' (w'.setCell ⟨by_, 2, none⟩ (.slice a (q.length + 1) cap)) := (Mods.refl (fun k => k = by_) w').setCell (p := ⟨by_, 2, none⟩) (fun _ => rfl) _
 exact ⟨a, _, cap, w', happ, hb2.cell 2, hb2.frozen 2, ⟨(i.bel.trans (hM.below hsz (fun k hk e => by have := (hlt k e).1; omega))).trans (hMb.below (Nat.le_trans hsz hM.size) (fun k hk e => by omega)), hb2.setCell 2 _, GrwI.next metK hR (fun g hg => (hlt g hg).1) (by omega) hBv hB ⟨va, vc, vfr, rfl, hx⟩ rfl hO' hM hv 2, i.lo⟩, (hM.mono fun _ _ h => .inl h).trans (hMb.mono fun _ _ h => .inr h) (fun _ _ h => h), fun g hg => (hlt g hg).1⟩
theorem MwI.fin {n : Nat} {Vc V : World} {by_ : Nat} {vp vf vm : Value} {sup : Int} {q : List LMeth} (i : MwI n Vc V by_ vp vf vm sup q) : SlAt 7 (GMeth (sel (fun k => k < n ∨ by_ + 1 ≤ k) V)) vm q := by
 obtain ⟨cs, hO, hR⟩ := i.row
 exact own_metS hO (hR.mono fun x c hc => MeC.keep (sel_mods (Mods.refl (fun _ => False) V) fun k _ hk => ⟨fun f => f, by have := hk.1; omega⟩) hc) (fun g hg => .inr (hO.lt g hg).1)
structure CwI (n : Nat) (w V : World) (bo : Nat) (vp v : Value) (q : List LClass) : Prop where
 bel : Below w.heap.size w V
 b0 : Blk V w.heap.size 24 [vp]
 b1 : Blk V (w.heap.size + 1) 24 [.slice none 0 0]
 blk : Blk V bo 24 [v]
 row : GrwI 66 3 ClsC n V bo v q
 lo : w.heap.size + 1 < bo
 nle : n ≤ w.heap.size
theorem CwI.below {n : Nat} {w V V' : World} {bo : Nat} {vp v : Value} {q : List LClass} (i : CwI n w V bo vp v q) (b : Below V.heap.size V V') : CwI n w V' bo vp v q :=
 ⟨i.bel.trans (b.mono i.bel.size), i.b0.below b i.b0.lt, i.b1.below b i.b1.lt, i.blk.below b i.blk.lt, i.row.below clsK b, i.lo, i.nle⟩
theorem CwI.next {n : Nat} {w V : World} {bo : Nat} {vp v : Value} {q : List LClass} (i : CwI n w V bo vp v q) (hq : q.length ≤ 4194304) {B : Nat} (hBv : ∀ g, v.ownBlock = some g → g < B) (hB : bo < B) {x : LClass} {vf vm : Value} (h1 : SlAt 1 (GInt (sel (fun k => k < n ∨ B ≤ k) V)) vf x.fields) (h2 : SlAt 7 (GMeth (sel (fun k => k < n ∨ B ≤ k) V)) vm x.meths) :
  ∃ a m cap w', (Builtin.append_ #[22, 22] 22 #[v, .slice (some ⟨V.heap.size, 0, none⟩) 1 1]).run Tryz.prog (V.alloc (.cells #[.int .i64 x.sup, vf, vm] 66)) = .ok (.slice a m cap) w' ∧
   w'.cell? ⟨bo, 0, none⟩ = some v ∧ w'.frozen? ⟨bo, 0, none⟩ = false ∧ CwI n w (w'.setCell ⟨bo, 0, none⟩ (.slice a m cap)) bo vp (.slice a m cap) (q ++ [x]) := by
 obtain ⟨iC, hC, hC0, hC1, hC2⟩ := info_parts infoCls
 obtain ⟨cs, hO, hR⟩ := i.row
 have hlt := hO.lt
 have hsz := i.bel.size
 have hbo := i.blk.lt
 have hlo := i.lo
 have hnn := i.nle
 obtain ⟨v', w', happ, hO', hM, hv⟩ := app_ex (P := Tryz.prog) (W := V) 22 22 66 iC _ 3 56 Tryz.underlying22 hC hC0 hC1 hC2 rfl (by decide) (bo + 1) v q.length cs hO #[.int .i64 x.sup, vf, vm] rfl
  (fun u hu => by
    simp only [List.mem_cons, List.not_mem_nil, or_false] at hu
    rcases hu with rfl | rfl | rfl
    ·rfl
    ·exact slAt_one h1
    ·exact slAt_one h2) V.heap.size rfl (by unfold maxLen; omega) (by omega) (by omega)
 obtain ⟨a, cap, rfl⟩ := own_form hO'
 have nn : ∀ k, k ≤ bo → ¬ v.ownBlock = some k := fun k hk e => by have := (hlt _ e).1; omega
 have hb2 := i.blk.mods hM (nn _ (Nat.le_refl _))
 have hMb : Mods (fun k => k = bo) w' (w'.setCell ⟨bo, 0, none⟩ (.slice a (q.length + 1) cap)) := (Mods.refl (fun k => k = bo) w').setCell (p := ⟨bo, 0, none⟩) (fun _ => rfl) _
 exact ⟨a, _, cap, w', happ, hb2.cell 0, hb2.frozen 0, (i.bel.trans (hM.below hsz (fun k hk e => nn k (by omega) e))).trans (hMb.below (Nat.le_trans hsz hM.size) (fun k hk e => by omega)), (i.b0.mods hM (nn _ (by omega))).mods hMb (by omega), (i.b1.mods hM (nn _ (by omega))).mods hMb (by omega), hb2.setCell 0 _, GrwI.next clsK hR (fun g hg => (hlt g hg).1) (by omega) hBv hB ⟨vf, vm, rfl, h1, h2⟩ rfl hO' hM hv 0, i.lo, i.nle⟩
theorem CwI.fin {n : Nat} {w V V' : World} {bo : Nat} {vp v : Value} {q : List LClass} (i : CwI n w V bo vp v q) (hM : Mods (fun k => k = w.heap.size + 1) V V') : SlAt 3 (GClass (sel (fun k => k < n ∨ w.heap.size + 1 < k) V')) v q := by
 obtain ⟨cs, hO, hR⟩ := i.row
 have hlo := i.lo
 have hnn := i.nle
 have h := own_clsS (S := fun k => k < n ∨ bo + 1 ≤ k) hO (hR.mono fun x c hc => ClsC.keep (sel_mods (Mods.refl (fun _ => False) V) fun k _ hk => ⟨fun f => f, by have := hk.1; omega⟩) hc) (fun g hg => .inr (hO.lt g hg).1)
 exact prog_keep (sel_mods hM fun k _ hk => ⟨fun e => by omega, by omega⟩) h
end Go.Proofs.YtiiokkllmchohaaGreat
