/- The solver: Solve. -/
import Derived.Laws.Tables
import Derived.Test.YtiiokkllmchohaaGreatT18
import Derived.Test.YtiiokkllmchohaaGreatT22
import Derived.Test.YtiiokkllmchohaaGreatT24
/- SolS -/
namespace Go.Proofs.YtiiokkllmchohaaGreat
open Go.RowKit Go.Shelf
attribute [local go_sem ↓] Go.wp_at_zero Go.wp_at_succ
attribute [local go_sem] frz_drew

theorem aggSv : AggOk Tryz.prog 134 768 := ⟨by kernel_rfl, by kernel_rfl⟩
def css0 : List (List Value) := List.replicate 40 zero17
theorem sv0_cells : SvC sv0 css0 := by
  refine ⟨by simp [sv0], by simp [sv0], by simp [sv0], by simp [css0], fun i x c e1 e2 => ?_⟩
  obtain rfl := List.eq_of_mem_replicate (List.mem_of_getElem? e1)
  obtain rfl := List.eq_of_mem_replicate (List.mem_of_getElem? e2)
  rw [← zeroS_cells]
  exact StC_cells zeroS_ok
theorem sv_built (vp a b c d e f g : Value) : Tryz.prog.built 134 [(0, .agg #[vp]), (1, .agg #[a, b, c, d, e, f, g])] = some (svCells vp [a, b, c, d, e, f, g] css0 sv0).toArray := by kernel_rfl
theorem wpList_build2 {P : Program} {ty : TypeId} {w : World} {ops : Array Oper} {rest : List Oper} {o : Oper} {a : Act} {Q : Exit → Act → World → Prop} (x y : Operand) {u v : Value} {L : List Value} (hb : P.built ty [(0, u), (1, v)] = some L.toArray)
    (hgd : o.guard = none) (ho : o.op = .build ty #[(0, x), (1, y)]) (hx : a.eval x = u) (hy : a.eval y = v) (h : wpList P ops Q rest (a.put o.dst (.agg L.toArray)) w) : wpList P ops Q (o :: rest) a w := by
  refine wpList_plain hgd fun K hK => ?_
  unfold Oper.wp execOp
  simp only [ho, List.map_toArray, List.map_cons, List.map_nil, hx, hy, Sem.run_bind, run_build w ty #[(0, u), (1, v)] L.toArray hb, Result.andThen_ok, Sem.run_pure]
  exact hK _ _ h
theorem svCells_one {vp : Value} {mc : List Value} {css : List (List Value)} {s : SvSt} (h : SvC s css) (h1 : vp.oneCell' = true) (h2 : ∀ v ∈ mc, v.oneCell' = true) : ∀ v ∈ svCells vp mc css s, v.oneCell' = true := by
  intro v hv
  unfold svCells at hv
  rcases List.mem_append.1 hv with hv | hv
  · rcases List.mem_cons.1 hv with rfl | hv
    · exact h1
    · exact h2 v hv
  · rcases List.mem_append.1 hv with hv | hv
    · obtain ⟨c, hc, hv⟩ := List.mem_flatten.1 hv
      obtain ⟨i, hi, rfl⟩ := List.getElem_of_mem hc
      have hx := List.getElem?_eq_getElem (show i < s.st.length by rw [h.l1, ← h.lc]; exact hi)
      exact (h.cs i _ _ hx (List.getElem?_eq_getElem hi)).one v hv
    · rcases List.mem_append.1 hv with hv | hv
      · obtain ⟨b, _, rfl⟩ := List.mem_map.1 hv; rfl
      · obtain ⟨b, _, rfl⟩ := List.mem_map.1 hv; rfl
theorem svCells_len {vp : Value} {mc : List Value} {css : List (List Value)} {s : SvSt} (h : SvC s css) (hm : mc.length = 7) : (svCells vp mc css s).length = 768 := by
  unfold svCells
  rw [List.length_append, List.length_append, List.length_append, List.length_map, List.length_map, flt_len css h.all, List.length_cons, hm, h.lc, h.l2, h.l3]
theorem marks_ret0 {P : Program} {fn : Func} {R : Ending → World → Prop} {tmps : Array Value} {w : World} {v : Value} (hv : (results fn tmps).run P w = .ok v w) (hR : R (.returned v) w) :
    marksPost P fn R .ret { tmps := tmps, defers := [] } w := ⟨v, hv, hR⟩
theorem reach0 (p : List LClass) (g : TSt) : reachP p 0 g sv0 = some (putP sv0 0 g) := rfl
def SolveR (r : Option SvSt) (m : LMeth) (w w' : World) (e : Ending) : Prop :=
  (∀ s', r = some s' → ∃ v, e = .returned v ∧ FrsAt w' w.heap.size v (frmL m s' m.code.length)) ∧ (r = none → e = .panicked (refC 5)) ∧ Below w.heap.size w w'
def SolvI (p : List LClass) (m : LMeth) (r : Option SvSt) (bs : Nat) (vp : Value) (mc : List Value) (w : World) (N : Nat) (V : World) : Prop :=
  ∃ s1, solveN p m N s1 = some r ∧ SvAt V bs vp mc s1 ∧ SvTy p m.stack s1 ∧ Below w.heap.size w V
set_option maxHeartbeats 1000000 in
set_option maxRecDepth 100000 in
theorem sv_solve (p : List LClass) (vp : Value) (c : Int) (m : LMeth) (va vco vf : Value) (w : World) (hp : RProg w vp p) (hv : GVals w.cell? m va vco vf) (G : Good p) (hc0 : 0 ≤ c) (hc1 : c < (p.length : Int)) (O : MethOk p c m) (hl0 : 0 ≤ m.locals) (N : Nat) (r : Option SvSt) (hN : solveN p m N (putP sv0 0 (beginS c m)) = some r) :
    Calls Tryz.prog 41 #[.agg #[vp], .int .i64 c, methV m va vco vf] w fun e w' => SolveR r m w w' e := by
  have HP := hide hp
  have HV := hide hv
  have HN := hide hN
  have hz : p.length ≤ 4194304 := Nat.le_trans (szProg_len p) G.sz
  unfold methV
  obtain ⟨pa, _, _, pcap, rfl, _⟩ := hp
  obtain ⟨hva, hvc, hvf⟩ := hv
  obtain ⟨aa, _, _, acap, rfl, _⟩ := hva
  obtain ⟨fa, _, _, fcap, rfl, _⟩ := hvf
  obtain ⟨ca, _, _, ccap, rfl, _⟩ := hvc
  clear hN
  obtain ⟨SL, hSL⟩ : ∃ SL, SL = svCells (.slice pa p.length pcap) [.int .i64 m.slot, .slice aa m.args.length acap, .int .i64 m.ret, .int .i64 m.locals, .int .i64 m.stack, .slice ca m.code.length ccap, .slice fa m.frames.length fcap] css0 sv0 := ⟨_, rfl⟩
  have HB := hide (sv_built (.slice pa p.length pcap) (.int .i64 m.slot) (.slice aa m.args.length acap) (.int .i64 m.ret) (.int .i64 m.locals) (.int .i64 m.stack) (.slice ca m.code.length ccap) (.slice fa m.frames.length fcap))
  rw [← hSL] at HB
  have hone : ∀ v ∈ SL, v.oneCell' = true := by
    rw [hSL]
    refine svCells_one sv0_cells rfl (fun v hv => ?_)
    simp only [List.mem_cons, List.not_mem_nil, or_false] at hv
    rcases hv with rfl | rfl | rfl | rfl | rfl | rfl | rfl <;> rfl
  have hlen : SL.length = 768 := by rw [hSL]; exact svCells_len sv0_cells rfl
  have hzl : Tryz.zeroCells134.toList.length = 768 := by rw [Array.length_toList, Tryz.zeroCells134_size]
  have HSL := hide hSL
  clear hSL
  refine calls_of_wpF Tryz.func41 rfl ?_
  simp only [Tryz.ntmps41, List.size_toArray, List.length_cons, List.length_nil, Nat.reduceAdd, Nat.reduceSub, Array.replicate_succ, Array.replicate_zero, List.push_toArray, List.append_toArray, List.nil_append, List.cons_append]
  refine wpF_seq_wp ?_
  go_wp2_with fail
  have hb2 : Below w.heap.size w ((w.alloc (.cells #[.slice pa p.length pcap] 24)).alloc (.cells #[.int .i64 m.slot, .slice aa m.args.length acap, .int .i64 m.ret, .int .i64 m.locals, .int .i64 m.stack, .slice ca m.code.length ccap, .slice fa m.frames.length fcap] 63)) := box2_below _ _ _
  have B0 := (Blk.new w #[.slice pa p.length pcap] 24).alloc (.cells #[.int .i64 m.slot, .slice aa m.args.length acap, .int .i64 m.ret, .int .i64 m.locals, .int .i64 m.stack, .slice ca m.code.length ccap, .slice fa m.frames.length fcap] 63)
  have B1 := Blk.new (w.alloc (.cells #[.slice pa p.length pcap] 24)) #[.int .i64 m.slot, .slice aa m.args.length acap, .int .i64 m.ret, .int .i64 m.locals, .int .i64 m.stack, .slice ca m.code.length ccap, .slice fa m.frames.length fcap] 63
  have hsz : ((w.alloc (.cells #[.slice pa p.length pcap] 24)).alloc (.cells #[.int .i64 m.slot, .slice aa m.args.length acap, .int .i64 m.ret, .int .i64 m.locals, .int .i64 m.stack, .slice ca m.code.length ccap, .slice fa m.frames.length fcap] 63)).heap.size = w.heap.size + 1 + 1 := by simp
  rw [World.size_alloc] at B1
  generalize (w.alloc _).alloc _ = W at *
  have HSZ := hide hsz
  clear hsz
  have p0 : W.cell? ⟨w.heap.size, 0, none⟩ = some (.slice pa p.length pcap) := B0.cell 0
  have m0 : W.cell? ⟨w.heap.size + 1, 0, none⟩ = some (.int .i64 m.slot) := B1.cell 0
  have m1 : W.cell? ⟨w.heap.size + 1, 1, none⟩ = some (.slice aa m.args.length acap) := B1.cell 1
  have m2 : W.cell? ⟨w.heap.size + 1, 2, none⟩ = some (.int .i64 m.ret) := B1.cell 2
  have m3 : W.cell? ⟨w.heap.size + 1, 3, none⟩ = some (.int .i64 m.locals) := B1.cell 3
  have m4 : W.cell? ⟨w.heap.size + 1, 4, none⟩ = some (.int .i64 m.stack) := B1.cell 4
  have m5 : W.cell? ⟨w.heap.size + 1, 5, none⟩ = some (.slice ca m.code.length ccap) := B1.cell 5
  have m6 : W.cell? ⟨w.heap.size + 1, 6, none⟩ = some (.slice fa m.frames.length fcap) := B1.cell 6
  refine wpF_seq_wp ?_
  go_wp2_with (first
    | refine wpList_build2 (.tmp 8) (.tmp 9) (unhide HB) rfl rfl rfl rfl ?_
    | (refine wpList_store_blk aggSv (Blk.new W Tryz.zeroCells134 134) 0 SL hlen (by rw [hzl]; omega) hone (.tmp 7) (.tmp 10) rfl rfl rfl rfl ?_; intro w3 hB3 hM3 hs3))
  rw [putAt_all (by rw [hlen, hzl])] at hB3
  have hsz := unhide HSZ
  have hb3 : Below W.heap.size W w3 := (box_below W _).trans (hM3.below (by simp) (fun k hk e => by omega))
  have hbw3 := hb2.trans (hb3.mono hb2.size)
  obtain ⟨bs, hbs⟩ : ∃ b, b = W.heap.size := ⟨_, rfl⟩
  have hbs' : w.heap.size ≤ bs := by omega
  rw [← hbs] at hB3 ⊢
  have HA : Hid (SvAt w3 bs (.slice pa p.length pcap) (methCs m (.slice aa m.args.length acap) (.slice ca m.code.length ccap) (.slice fa m.frames.length fcap)) sv0) := ⟨css0, sv0_cells, by rw [unhide HSL] at hB3; exact hB3⟩
  have C1 := B1.below hb3 (by omega)
  have lb := hB3.lt
  clear hbs hsz HSZ
  clear hB3 hM3 hs3 HSL hlen hone HB hzl B0 B1 p0 m0 m1 m2 m3 m4 m5 m6
  have m0 : w3.cell? ⟨w.heap.size + 1, 0, none⟩ = some (.int .i64 m.slot) := C1.cell 0
  have m1 : w3.cell? ⟨w.heap.size + 1, 1, none⟩ = some (.slice aa m.args.length acap) := C1.cell 1
  have m2 : w3.cell? ⟨w.heap.size + 1, 2, none⟩ = some (.int .i64 m.ret) := C1.cell 2
  have m3 : w3.cell? ⟨w.heap.size + 1, 3, none⟩ = some (.int .i64 m.locals) := C1.cell 3
  have m4 : w3.cell? ⟨w.heap.size + 1, 4, none⟩ = some (.int .i64 m.stack) := C1.cell 4
  have m5 : w3.cell? ⟨w.heap.size + 1, 5, none⟩ = some (.slice ca m.code.length ccap) := C1.cell 5
  have m6 : w3.cell? ⟨w.heap.size + 1, 6, none⟩ = some (.slice fa m.frames.length fcap) := C1.cell 6
  refine wpF_seq_wp ?_
  go_wp2_with fail
  refine (st_begin c m _ _ _ _ hc0 (by omega) (GVals.keep (Keeps.of_below hbw3) (unhide HV)) O.a7).mono ?_
  rintro e w4 ⟨rfl, hb4⟩
  have hbw4 := hbw3.trans (hb4.mono hbw3.size)
  have HA4 : Hid (SvAt w4 bs (.slice pa p.length pcap) (methCs m (.slice aa m.args.length acap) (.slice ca m.code.length ccap) (.slice fa m.frames.length fcap)) sv0) := (unhide HA).mods (Mods.of_below hb4) (by omega)
  have hok := okS_begin (c := c) O.a7
  have HRP4 := hide (prog_keep (Keeps.of_below hbw4) (unhide HP))
  clear m0 m1 m2 m3 m4 m5 m6 HA hb4
  go_wp2_with fail
  have hms : 0 ≤ m.stack := by have := O.bg.2.2; omega
  refine (sv_reach p 0 (beginS c m) (stCells (beginS c m)) w4 bs _ _ sv0 (unhide HA4) rfl (by omega) (StC_cells hok) (unhide HRP4) G.sup hz m.stack O.bg (sv0_ty p hms)).mono ?_
  rintro e w5 ⟨h1, _, hM5⟩
  obtain ⟨rfl, hA5, hT5⟩ := h1 _ (reach0 p _)
  have hbw5 : Below w.heap.size w w5 := hbw4.trans (hM5.below hbw4.size (fun k hk e => by omega))
  have HI0 : Hid (SolvI p m r bs (.slice pa p.length pcap) (methCs m (.slice aa m.args.length acap) (.slice ca m.code.length ccap) (.slice fa m.frames.length fcap)) w N w5) := ⟨_, unhide HN, hA5, hT5, hbw5⟩
  clear h1 hM5 hA5 hT5 HA4 HRP4 hbw4 hbw3 hb3 C1
  go_wp2_with fail
  generalize Value.agg SL.toArray = g10
  generalize Value.agg (stCells (beginS c m)).toArray = g13
  generalize Value.agg #[Value.int .i64 m.slot, .slice aa m.args.length acap, .int .i64 m.ret, .int .i64 m.locals, .int .i64 m.stack, .slice ca m.code.length ccap, .slice fa m.frames.length fcap] = g2
  generalize Value.agg #[Value.slice pa p.length pcap] = g0
  refine wpF_seq ?_
  refine wpF_block ?_
  refine wpF_loop (fun N a V => ∃ u, a = { tmps := #[g0, .int .i64 c, g2, .pointer (some ⟨w.heap.size, 0, none⟩), undef, .pointer (some ⟨w.heap.size + 1, 0, none⟩), .slice none 0 0, .pointer (some ⟨bs, 0, none⟩), g0, g2, g10, .int .i64 c, g2, g13, .tuple #[], u, undef], defers := [] } ∧ SolvI p m r bs (.slice pa p.length pcap) (methCs m (.slice aa m.args.length acap) (.slice ca m.code.length ccap) (.slice fa m.frames.length fcap)) w N V) N ⟨undef, rfl, unhide HI0⟩ ?_
  clear HI0 HN hbw5
  rintro N a V ⟨u, rfl, s1, hsn, hA, hT, hb⟩
  cases N with
  | zero => cases hsn
  | succ n =>
    refine wpF_of_wp ?_
    have HSN := hide hsn
    clear hsn
    go_wp2_with fail
    refine (sv_goRound p _ m _ _ _ w V bs s1 hA (unhide HP) (unhide HV) hb hbs' O.c40 hT G O.ok O.ins).mono ?_
    rintro e V2 ⟨h1, h2, hM⟩
    have hb2 : Below w.heap.size w V2 := hb.trans (hM.below hb.size (fun k hk e => by omega))
    cases hr : roundP p m s1 m.code.length with
    | none =>
      obtain rfl := h2 hr
      have HR : Hid (r = none) := by
        have h := unhide HSN
        unfold solveN at h
        rw [hr] at h
        exact (Option.some.inj h).symm
      clear hr h1 h2
      go_wp2_with fail
      exact marks_panic0 ⟨fun s' e => (by rw [unhide HR] at e; cases e), fun _ => rfl, hb2⟩
    | some x =>
      obtain ⟨s2, b⟩ := x
      obtain ⟨rfl, hA2, hT2⟩ := h1 s2 b hr
      cases b with
      | true =>
        have HI2 : Hid (SolvI p m r bs (.slice pa p.length pcap) (methCs m (.slice aa m.args.length acap) (.slice ca m.code.length ccap) (.slice fa m.frames.length fcap)) w n V2) := by
          refine ⟨s2, ?_, hA2, hT2, hb2⟩
          have h := unhide HSN
          unfold solveN at h
          rw [hr] at h
          exact h
        clear hr h1 h2 hA2 hT2
        go_wp2_with fail
        exact ⟨n, by omega, _, rfl, unhide HI2⟩
      | false =>
        have HR : Hid (r = some s2) := by
          have h := unhide HSN
          unfold solveN at h
          rw [hr] at h
          exact (Option.some.inj h).symm
        have HA2 := hide hA2
        clear hr h1 h2 hA2 hT2
        go_wp2_with fail
        refine wpF_seq_wp ?_
        go_wp2_with fail
        refine (sv_frames _ m _ _ _ V2 bs s2 (unhide HA2) (GVals.keep (Keeps.of_below hb2) (unhide HV)) O.c40 hl0 O.ok.loc).mono ?_
        rintro e V3 ⟨v, rfl, ⟨cs, hO, hF, hD⟩, hb3⟩
        obtain ⟨ra, rcap, rfl⟩ := own_form hO
        have HF : Hid (SolveR r m w V3 (.returned (.slice ra (frmL m s2 m.code.length).length rcap))) := by
          refine ⟨fun s' e => ?_, fun e => (by rw [unhide HR] at e; cases e), hb2.trans (hb3.mono hb2.size)⟩
          rw [unhide HR] at e
          obtain rfl := Option.some.inj e
          exact ⟨_, rfl, cs, own_base hO hb2.size, FrCs.base hb2.size _ _ hF, hD⟩
        clear hO hF hD
        go_wp2_with fail
        refine wpF_of_wp ?_
        go_wp2_with fail
        exact marks_ret0 (results_tmp (t := 6) rfl _ _ _) (unhide HF)
end Go.Proofs.YtiiokkllmchohaaGreat
/- The code's Infer. -/
namespace Go.Proofs.YtiiokkllmchohaaGreat
open Go.RowKit Go.Shelf
attribute [local go_sem ↓] Go.wp_at_zero Go.wp_at_succ
attribute [local go_sem] frz_drew

theorem form_loc {p : List LClass} (h : formI p = 0) {c k : Int} {m : LMeth} (hm : ownM p c k = some m) : 0 ≤ m.locals := by
  unfold ownM at hm
  split at hm
  · cases hx : p[c.toNat]? with
    | none => rw [hx] at hm; cases hm
    | some x =>
      rw [hx, Option.bind_some] at hm
      have hb := bareB_iff.1 (form_bare h hx hm)
      obtain ⟨_, _, a3, ha, hr, hl, hl8, hs0, hs8⟩ := hb
      omega
  · cases hm
def Inf1R (r : Option SvSt) (m : LMeth) (b3 : Nat) (w w' : World) (e : Ending) : Prop :=
  (∀ s', r = some s' → ∃ v, e = .returned (.tuple #[]) ∧ Blk w' b3 36 [v] ∧ FrsAt w' w.heap.size v (frmL m s' m.code.length)) ∧ (r = none → e = .panicked (refC 5) ∧ Blk w' b3 36 [.slice none 0 0]) ∧ Mods (fun k => k = b3) w w'
set_option maxHeartbeats 1000000 in
set_option maxRecDepth 100000 in
theorem inf1 (p : List LClass) (vc : Value) (c : Int) (m : LMeth) (va vco vf : Value) (b0 b1 b2 b3 : Nat) (w : World) (h : ChkBox w b0 b1 b2 p vc c m va vco vf) (hb3 : Blk w b3 36 [.slice none 0 0]) (G : Good p) (hc0 : 0 ≤ c) (hc1 : c < (p.length : Int)) (O : MethOk p c m) (hl0 : 0 ≤ m.locals) (N : Nat) (r : Option SvSt) (hN : solveN p m N (putP sv0 0 (beginS c m)) = some r) :
    Calls Tryz.prog 40 #[.pointer (some ⟨b0, 0, none⟩), .pointer (some ⟨b1, 0, none⟩), .pointer (some ⟨b2, 0, none⟩), .pointer (some ⟨b3, 0, none⟩)] w fun e w' => Inf1R r m b3 w w' e := by
  have H := hide h
  have HN := hide hN
  obtain ⟨pa, _, _, pcap, rfl, _⟩ := h.rp
  obtain ⟨hva, hvc, hvf⟩ := h.gv
  obtain ⟨aa, _, _, acap, rfl, _⟩ := hva
  obtain ⟨ca, _, _, ccap, rfl, _⟩ := hvc
  obtain ⟨fa, _, _, fcap, rfl, _⟩ := hvf
  have q0 : w.cell? ⟨b0, 0, none⟩ = some (.slice pa p.length pcap) := h.c0.cell 0
  have q1 : w.cell? ⟨b1, 0, none⟩ = some (.int .i64 c) := h.c1.cell 0
  have m0 : w.cell? ⟨b2, 0, none⟩ = some (.int .i64 m.slot) := h.c2.cell 0
  have m1 : w.cell? ⟨b2, 1, none⟩ = some (.slice aa m.args.length acap) := h.c2.cell 1
  have m2 : w.cell? ⟨b2, 2, none⟩ = some (.int .i64 m.ret) := h.c2.cell 2
  have m3 : w.cell? ⟨b2, 3, none⟩ = some (.int .i64 m.locals) := h.c2.cell 3
  have m4 : w.cell? ⟨b2, 4, none⟩ = some (.int .i64 m.stack) := h.c2.cell 4
  have m5 : w.cell? ⟨b2, 5, none⟩ = some (.slice ca m.code.length ccap) := h.c2.cell 5
  have m6 : w.cell? ⟨b2, 6, none⟩ = some (.slice fa m.frames.length fcap) := h.c2.cell 6
  clear h hN
  go_enter Tryz.func40, Tryz.ntmps40
  go_wp2_with fail
  refine (sv_solve p _ c m _ _ _ _ (unhide H).rp (unhide H).gv G hc0 hc1 O hl0 N r (unhide HN)).mono ?_
  rintro e w1 ⟨h1, h2, hb⟩
  have B3 := hb3.below hb hb3.lt
  have l3 := hb3.lt
  clear q0 q1 m0 m1 m2 m3 m4 m5 m6 HN
  cases r with
  | none =>
    obtain rfl := h2 rfl
    clear h1 h2
    go_wp2_with fail
    exact ⟨rfl, fun s' e => (by cases e), fun _ => ⟨rfl, B3⟩, bnone hb⟩
  | some s' =>
    obtain ⟨v, rfl, cs, hO, hF, hD⟩ := h1 s' rfl
    obtain ⟨ra, rcap, rfl⟩ := own_form hO
    have c3 : w1.cell? ⟨b3, 0, none⟩ = some (.slice none 0 0) := B3.cell 0
    have f3 := B3.frozen 0
    have hM : Mods (fun k => k = b3) w1 (w1.setCell ⟨b3, 0, none⟩ (.slice ra (frmL m s' m.code.length).length rcap)) := (Mods.refl (fun k => k = b3) w1).setCell (p := ⟨b3, 0, none⟩) (fun _ => rfl) _
    have HF : Hid (Inf1R (some s') m b3 w (w1.setCell ⟨b3, 0, none⟩ (.slice ra (frmL m s' m.code.length).length rcap)) (.returned (.tuple #[]))) := by
      refine ⟨fun s2 e => ?_, fun e => (by cases e), (bnone hb).trans hM (fun _ _ e => e)⟩
      obtain rfl := Option.some.inj e
      refine ⟨_, rfl, B3.setCell 0 _, cs, own_mods hO hM (fun g hg e => by have := (hO.lt g hg).1; omega), FrCs.mods hM _ _ hF (fun g hg e => by have := (FrCs.lt _ _ hF g hg).1; omega), hD⟩
    clear h1 h2 hO hF hD hM
    go_wp2_with fail
    go_end0
    exact unhide HF
def Inf2R (r : Option SvSt) (m : LMeth) (b3 : Nat) (w w' : World) (e : Ending) : Prop :=
  (∀ s', r = some s' → ∃ v, e = .returned (.int .i64 0) ∧ Blk w' b3 36 [v] ∧ FrsAt w' w.heap.size v (frmL m s' m.code.length)) ∧ (r = none → e = .returned (.int .i64 5) ∧ Blk w' b3 36 [.slice none 0 0]) ∧ Mods (fun k => k = b3) w w'
set_option maxHeartbeats 1000000 in
set_option maxRecDepth 100000 in
theorem inf_attempt (p : List LClass) (vc : Value) (c : Int) (m : LMeth) (va vco vf : Value) (b0 b1 b2 b3 : Nat) (w : World) (h : ChkBox w b0 b1 b2 p vc c m va vco vf) (hb3 : Blk w b3 36 [.slice none 0 0]) (G : Good p) (hc0 : 0 ≤ c) (hc1 : c < (p.length : Int)) (O : MethOk p c m) (hl0 : 0 ≤ m.locals) (N : Nat) (r : Option SvSt) (hN : solveN p m N (putP sv0 0 (beginS c m)) = some r) :
    Calls Tryz.prog 36 #[.func (.func 40) #[] #[.pointer (some ⟨b0, 0, none⟩), .pointer (some ⟨b1, 0, none⟩), .pointer (some ⟨b2, 0, none⟩), .pointer (some ⟨b3, 0, none⟩)]] w fun e w' => Inf2R r m b3 w w' e := by
  have hmf : ∀ (fn : Fn) (first cap : Array Value) (w : World), (Instr.makeFunc fn first cap).run Tryz.prog w = .ok (.func fn first cap) w := fun _ _ _ _ => rfl
  have H1 := hide (h.below (box_below w (.cells #[.int .i64 0] 26)))
  have HB3 := hide (hb3.alloc (.cells #[.int .i64 0] 26))
  have be := Blk.new w #[.int .i64 0] 26
  have hbw := box_below w (.cells #[.int .i64 0] 26)
  have HN := hide hN
  have l3 := hb3.lt
  clear h hb3 hN
  go_enter_defers Tryz.func36, Tryz.ntmps36
  go_wp2_with fail
  generalize w.alloc _ = W at *
  refine Calls.mono (inf1 p vc c m va vco vf b0 b1 b2 b3 _ (unhide H1) (unhide HB3) G hc0 hc1 O hl0 N r (unhide HN)) ?_
  rintro e w1 ⟨h1, h2, hM⟩
  have be1 := be.mods hM (by omega)
  have c0 : w1.cell? ⟨w.heap.size, 0, none⟩ = some (.int .i64 0) := be1.cell 0
  have f0 := be1.frozen 0
  have HM := hide ((bnone (S := fun k => k = b3) hbw).trans hM (fun _ _ e => e))
  have hsz := hbw.size
  clear HN
  cases r with
  | none =>
    obtain ⟨rfl, B3⟩ := h2 rfl
    clear h1 h2 hM
    go_wp2_with fail
    refine leaves_cons (f := 72) (args := #[.pointer (some ⟨w.heap.size, 0, none⟩)]) (by simp) (by simp [go_sem]) ?_
    refine (catch_giving ⟨w.heap.size, 0, none⟩ 5 0 _ c0 f0).mono ?_
    rintro e u' w2 ⟨rfl, rfl, rfl⟩
    have Z0 := ((be1.alloc (.cells #[.int .i64 5] 119)).setCell 0 (.int .i64 5)).cell 0
    have Z2 := ((unhide HM).alloc (.cells #[.int .i64 5] 119)).setCell (p := ⟨w.heap.size, 0, none⟩) (fun h => absurd h (Nat.lt_irrefl _)) (.int .i64 5)
    have Z3 := (B3.alloc (.cells #[.int .i64 5] 119)).setCell_ne (p := ⟨w.heap.size, 0, none⟩) (by dsimp only; omega) (.int .i64 5)
    generalize World.setCell _ _ _ = Z at Z0 Z2 Z3 ⊢
    replace Z0 : Z.cell? ⟨w.heap.size, 0, none⟩ = some (.int .i64 5) := Z0
    have HF : Hid (Inf2R none m b3 w Z (.returned (.int .i64 5))) := ⟨fun s' e => (by cases e), fun _ => ⟨rfl, Z3⟩, Z2⟩
    clear c0 f0
    simp [Leaves, settle, results, Tryz.results36, go_sem, Z0]
    exact unhide HF
  | some s' =>
    obtain ⟨v, rfl, B3, cs, hO, hF, hD⟩ := h1 s' rfl
    have HFr := hide (And.intro hO (And.intro hF hD))
    clear h1 h2 hM hO hF hD
    go_wp2_with fail
    have Z0 := (be1.setCell 0 (.int .i64 0)).cell 0
    have Z2 := (unhide HM).setCell (p := ⟨w.heap.size, 0, none⟩) (fun h => absurd h (Nat.lt_irrefl _)) (.int .i64 0)
    have Z3 := B3.setCell_ne (p := ⟨w.heap.size, 0, none⟩) (by dsimp only; omega) (.int .i64 0)
    have hMZ : Mods (fun k => k = w.heap.size) w1 (w1.setCell ⟨w.heap.size, 0, none⟩ (.int .i64 0)) := (Mods.refl (fun k => k = w.heap.size) w1).setCell (p := ⟨w.heap.size, 0, none⟩) (fun _ => rfl) _
    generalize World.setCell _ _ _ = Z at Z0 Z2 Z3 hMZ ⊢
    replace Z0 : Z.cell? ⟨w.heap.size, 0, none⟩ = some (.int .i64 0) := Z0
    have HF : Hid (Inf2R (some s') m b3 w Z (.returned (.int .i64 0))) := by
      have hWs := be.lt
      refine ⟨fun s2 e => ?_, fun e => (by cases e), Z2⟩
      obtain rfl := Option.some.inj e
      obtain ⟨hO, hF, hD⟩ := unhide HFr
      refine ⟨_, rfl, Z3, cs, own_base (own_mods hO hMZ (fun g hg e => by have := (hO.lt g hg).1; omega)) hsz, FrCs.base hsz _ _ (FrCs.mods hMZ _ _ hF (fun g hg e => by have := (FrCs.lt _ _ hF g hg).1; omega)), hD⟩
    clear c0 f0
    refine leaves_cons (f := 72) (args := #[.pointer (some ⟨w.heap.size, 0, none⟩)]) (by simp) (by simp [go_sem]) ?_
    refine (catch_idle ⟨w.heap.size, 0, none⟩ _).mono ?_
    rintro e u' w2 ⟨rfl, rfl, rfl⟩
    simp [Leaves, settle, results, Tryz.results36, go_sem, Z0]
    exact unhide HF
def InferR (p : List LClass) (c k : Int) (r : Option SvSt) (w w' : World) (e : Ending) : Prop :=
  (formI p ≠ 0 → e = .returned (.tuple #[.slice none 0 0, .int .i64 (formI p)])) ∧ (formI p = 0 → ownM p c k = none → e = .returned (.tuple #[.slice none 0 0, .int .i64 4])) ∧
    (formI p = 0 → ∀ m, ownM p c k = some m → (r = none → e = .returned (.tuple #[.slice none 0 0, .int .i64 5])) ∧ (∀ s, r = some s → ∃ v, e = .returned (.tuple #[v, .int .i64 0]) ∧ FrsAt w' w.heap.size v (frmL m s m.code.length))) ∧ Below w.heap.size w w'
set_option maxHeartbeats 1000000 in
set_option maxRecDepth 100000 in
theorem code_infer (p : List LClass) (vc : Value) (c k : Int) (w : World) (hp : RProg w vc p) (hwf : wfProg p) (hz : szProg p ≤ 4194304) (N : Nat) (r : Option SvSt) (hT : ∀ m, formI p = 0 → ownM p c k = some m → solveN p m N (putP sv0 0 (beginS c m)) = some r) :
    Calls Tryz.prog 18 #[.agg #[vc], .int .i64 c, .int .i64 k] w fun e w' => InferR p c k r w w' e := by
  have hmf : ∀ (fn : Fn) (first cap : Array Value) (w : World), (Instr.makeFunc fn first cap).run Tryz.prog w = .ok (.func fn first cap) w := fun _ _ _ _ => rfl
  have HP := hide hp
  obtain ⟨pa, _, _, pcap, rfl, _⟩ := hp
  have hbel : Below w.heap.size w ((w.alloc (.cells #[.slice pa p.length pcap] 24)).alloc (.cells #[.int .i64 c] 3)) := box2_below _ _ _
  have B0 : Blk ((w.alloc (.cells #[.slice pa p.length pcap] 24)).alloc (.cells #[.int .i64 c] 3)) w.heap.size 24 [.slice pa p.length pcap] := (Blk.new w _ _).alloc _
  have B1 : Blk ((w.alloc (.cells #[.slice pa p.length pcap] 24)).alloc (.cells #[.int .i64 c] 3)) (w.heap.size + 1) 3 [.int .i64 c] := by
    have := Blk.new (w.alloc (.cells #[.slice pa p.length pcap] 24)) #[.int .i64 c] 3
    rw [World.size_alloc] at this
    exact this
  have HRP := hide (prog_keep (Keeps.of_below hbel) (unhide HP))
  go_enter Tryz.func18, Tryz.ntmps18
  go_wp2_with fail
  refine (code_find p _ c k _ (unhide HRP) hwf hz).mono ?_
  rintro e w1 ⟨h1, h2, h3, hb1⟩
  replace B0 := B0.below hb1 B0.lt
  replace B1 := B1.below hb1 B1.lt
  have hbw := hbel.trans (hb1.mono hbel.size)
  by_cases hF : formI p = 0
  · cases hm : ownM p c k with
    | none =>
      obtain rfl := h2 hF hm
      have HFM := hide (And.intro hF hm)
      clear h1 h2 h3 hF hm
      go_wp2_with (refine wpList_store_blk aggMeth (Blk.new _ _ _) 0 zero7 rfl (by simp) zero7_one (.tmp 8) (.tmp 16) rfl rfl rfl rfl ?_; intro w3 hB3 hM3 hs3)
      refine bodyPost_ret (results_tmp2 rfl _ _ _) rfl ?_
      have hb3 := (box_below w1 _).trans (hM3.below (by simp) (fun k hk e => by omega))
      exact ⟨fun e => absurd (unhide HFM).1 e, fun _ _ => rfl, fun _ m e => (by rw [(unhide HFM).2] at e; cases e), hbw.trans (hb3.mono hbw.size)⟩
    | some m =>
      obtain ⟨va, vco, vf, rfl, hv⟩ := h1 m hF hm
      obtain ⟨o0, o1, O⟩ := form_own hF hm
      have hl0 := form_loc hF hm
      have G := form_good hF hz
      have hN := hT m hF hm
      have HFM := hide (And.intro hF hm)
      have HV := hide (GVals.keep (Keeps.of_below hb1) hv)
      clear h1 h2 h3 hF hm
      unfold methV
      obtain ⟨hva, hvc, hvf⟩ := hv
      obtain ⟨aa, _, _, acap, rfl, _⟩ := hva
      obtain ⟨ca, _, _, ccap, rfl, _⟩ := hvc
      obtain ⟨fa, _, _, fcap, rfl, _⟩ := hvf
      have hone : ∀ v ∈ [Value.int .i64 m.slot, .slice aa m.args.length acap, .int .i64 m.ret, .int .i64 m.locals, .int .i64 m.stack, .slice ca m.code.length ccap, .slice fa m.frames.length fcap], v.oneCell' = true := fun v hv => by
        simp only [List.mem_cons, List.not_mem_nil, or_false] at hv
        rcases hv with rfl | rfl | rfl | rfl | rfl | rfl | rfl <;> rfl
      have HNN := hide hN
      have HHT := hide hT
      clear hN hT
      go_wp2_with (refine wpList_store_blk aggMeth (Blk.new _ _ _) 0 _ rfl (by simp) hone (.tmp 8) (.tmp 16) rfl rfl rfl rfl ?_; intro w3 hB3 hM3 hs3)
      rw [putAt_all (by rfl)] at hB3
      have hb3 := (box_below w1 _).trans (hM3.below (by simp) (fun k hk e => by omega))
      have hbw3 := hbw.trans (hb3.mono hbw.size)
      rw [World.size_alloc] at hs3
      have hb4 := hb3.trans ((box_below w3 (.cells #[.slice none 0 0] 36)).mono hb3.size)
      have hbw4 := hbw.trans (hb4.mono hbw.size)
      have B3 := Blk.new w3 #[.slice none 0 0] 36
      rw [hs3] at B3
      have hw1 := hbw.size
      refine (inf_attempt p _ c m _ _ _ w.heap.size (w.heap.size + 1) w1.heap.size (w1.heap.size + 1) _ ⟨B0.below hb4 B0.lt, B1.below hb4 B1.lt, hB3.alloc _, prog_keep (Keeps.of_below hbw4) (unhide HP), GVals.keep (Keeps.of_below hb4) (unhide HV)⟩ B3 G o0 o1 O hl0 N r (unhide HNN)).mono ?_
      rintro e w5 ⟨g1, g2, hM5⟩
      have hb5 : Below w.heap.size w w5 := hbw4.trans (hM5.below hbw4.size (fun k hk e => by omega))
      clear HNN HHT hB3 hM3 hb3 hbw3 hb4 hone
      cases r with
      | none =>
        obtain ⟨rfl, C3⟩ := g2 rfl
        have c3 : w5.cell? ⟨w1.heap.size + 1, 0, none⟩ = some (.slice none 0 0) := C3.cell 0
        have HF : Hid (InferR p c k none w w5 (.returned (.tuple #[.slice none 0 0, .int .i64 5]))) :=
          ⟨fun e => absurd (unhide HFM).1 e, fun _ e => (by rw [(unhide HFM).2] at e; cases e), fun _ m2 e => ⟨fun _ => rfl, fun s e => (by cases e)⟩, hb5⟩
        clear g1 g2
        go_wp2_with fail
        refine bodyPost_ret (results_tmp2 rfl _ _ _) rfl ?_
        exact unhide HF
      | some s =>
        obtain ⟨v, rfl, C3, hFr⟩ := g1 s rfl
        obtain ⟨ra, rcap, hv⟩ := own_form hFr.choose_spec.1
        have c3 : w5.cell? ⟨w1.heap.size + 1, 0, none⟩ = some v := C3.cell 0
        rw [hv] at c3
        have HF : Hid (InferR p c k (some s) w w5 (.returned (.tuple #[v, .int .i64 0]))) := by
          refine ⟨fun e => absurd (unhide HFM).1 e, fun _ e => (by rw [(unhide HFM).2] at e; cases e), fun _ m2 e => ⟨fun e => (by cases e), fun s' e' => ?_⟩, hb5⟩
          obtain rfl := Option.some.inj e'
          rw [(unhide HFM).2] at e
          obtain rfl := Option.some.inj e
          obtain ⟨cs, hO, hC, hD⟩ := hFr
          exact ⟨_, rfl, cs, own_base hO hbw4.size, FrCs.base hbw4.size _ _ hC, hD⟩
        rw [hv] at HF
        clear g1 g2 hFr hv
        go_wp2_with fail
        refine bodyPost_ret (results_tmp2 rfl _ _ _) rfl ?_
        exact unhide HF
  · obtain rfl := h3 hF
    have HFF := hide hF
    have hF' : (formI p != 0) = true := by simpa using hF
    clear h1 h2 h3 hF
    go_wp2_with (refine wpList_store_blk aggMeth (Blk.new _ _ _) 0 zero7 rfl (by simp) zero7_one (.tmp 8) (.tmp 16) rfl rfl rfl rfl ?_; intro w3 hB3 hM3 hs3)
    refine bodyPost_ret (results_tmp2 rfl _ _ _) rfl ?_
    have hb3 := (box_below w1 _).trans (hM3.below (by simp) (fun k hk e => by omega))
    exact ⟨fun _ => rfl, fun e => absurd e (unhide HFF), fun e => absurd e (unhide HFF), hbw.trans (hb3.mono hbw.size)⟩
end Go.Proofs.YtiiokkllmchohaaGreat
