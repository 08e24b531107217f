/- The solver: Solve. -/
import Derived.Laws.Tables
import Derived.Test.YtiiokkllmchohaaGreatT12
import Derived.Test.YtiiokkllmchohaaGreatT23
/- SolS -/
namespace Go.Proofs.YtiiokkllmchohaaGreat
open Go.RowKit Go.Shelf
attribute [local go_sem ↓] Go.wp_at_zero Go.wp_at_succ
attribute [local go_sem] frz_drew

theorem aggSv : AggOk Tryz.prog 134 768 := ⟨by kernel_rfl, by kernel_rfl⟩
def css0 : List (List Value) := List.replicate 40 zero17
theorem sv0_cells : SvC sv0 css0 := by
  refine ⟨by simp [sv0], by simp [sv0], by simp [sv0], by simp [css0], fun i x c e1 e2 => ?_⟩
  obtain rfl := List.eq_of_mem_replicate (List.mem_of_getElem? e1)
  obtain rfl := List.eq_of_mem_replicate (List.mem_of_getElem? e2)
  rw [← zeroS_cells]
  exact StC_cells zeroS_ok
theorem sv_built (vp a b c d e f g : Value) : Tryz.prog.built 134 [(0, .agg #[vp]), (1, .agg #[a, b, c, d, e, f, g])] = some (svCells vp [a, b, c, d, e, f, g] css0 sv0).toArray := by kernel_rfl
theorem wpList_build2 {P : Program} {ty : TypeId} {w : World} {ops : Array Oper} {rest : List Oper} {o : Oper} {a : Act} {Q : Exit → Act → World → Prop} (x y : Operand) {u v : Value} {L : List Value} (hb : P.built ty [(0, u), (1, v)] = some L.toArray)
    (hgd : o.guard = none) (ho : o.op = .build ty #[(0, x), (1, y)]) (hx : a.eval x = u) (hy : a.eval y = v) (h : wpList P ops Q rest (a.put o.dst (.agg L.toArray)) w) : wpList P ops Q (o :: rest) a w := by
  refine wpList_plain hgd fun K hK => ?_
  unfold Oper.wp execOp
  simp only [ho, List.map_toArray, List.map_cons, List.map_nil, hx, hy, Sem.run_bind, run_build w ty #[(0, u), (1, v)] L.toArray hb, Result.andThen_ok, Sem.run_pure]
  exact hK _ _ h
theorem svCells_one {vp : Value} {mc : List Value} {css : List (List Value)} {s : SvSt} (h : SvC s css) (h1 : vp.oneCell' = true) (h2 : ∀ v ∈ mc, v.oneCell' = true) : ∀ v ∈ svCells vp mc css s, v.oneCell' = true := by
  intro v hv
  unfold svCells at hv
  rcases List.mem_append.1 hv with hv | hv
  · rcases List.mem_cons.1 hv with rfl | hv
    · exact h1
    · exact h2 v hv
  · rcases List.mem_append.1 hv with hv | hv
    · obtain ⟨c, hc, hv⟩ := List.mem_flatten.1 hv
      obtain ⟨i, hi, rfl⟩ := List.getElem_of_mem hc
      have hx := List.getElem?_eq_getElem (show i < s.st.length by rw [h.l1, ← h.lc]; exact hi)
      exact (h.cs i _ _ hx (List.getElem?_eq_getElem hi)).one v hv
    · rcases List.mem_append.1 hv with hv | hv
      · obtain ⟨b, _, rfl⟩ := List.mem_map.1 hv; rfl
      · obtain ⟨b, _, rfl⟩ := List.mem_map.1 hv; rfl
theorem svCells_len {vp : Value} {mc : List Value} {css : List (List Value)} {s : SvSt} (h : SvC s css) (hm : mc.length = 7) : (svCells vp mc css s).length = 768 := by
  unfold svCells
  rw [List.length_append, List.length_append, List.length_append, List.length_map, List.length_map, flt_len css h.all, List.length_cons, hm, h.lc, h.l2, h.l3]
theorem marks_ret0 {P : Program} {fn : Func} {R : Ending → World → Prop} {tmps : Array Value} {w : World} {v : Value} (hv : (results fn tmps).run P w = .ok v w) (hR : R (.returned v) w) :
    marksPost P fn R .ret { tmps := tmps, defers := [] } w := ⟨v, hv, hR⟩
theorem reach0 (p : List LClass) (g : TSt) : reachP p 0 g sv0 = some (putP sv0 0 g) := rfl
def SolveR (r : Option SvSt) (m : LMeth) (w w' : World) (e : Ending) : Prop :=
  (∀ s', r = some s' → ∃ v, e = .returned v ∧ FrsAt w' w.heap.size v (frmL m s' m.code.length)) ∧ (r = none → e = .panicked (refC 5)) ∧ Below w.heap.size w w'
def SolvI (p : List LClass) (m : LMeth) (r : Option SvSt) (bs : Nat) (vp : Value) (mc : List Value) (w : World) (N : Nat) (V : World) : Prop :=
  ∃ s1, solveN p m N s1 = some r ∧ SvAt V bs vp mc s1 ∧ SvTy p m.stack s1 ∧ Below w.heap.size w V
set_option maxHeartbeats 1000000 in
set_option maxRecDepth 100000 in
theorem sv_solve (p : List LClass) (vp : Value) (c : Int) (m : LMeth) (va vco vf : Value) (w : World) (hp : RProg w vp p) (hv : GVals w.cell? m va vco vf) (G : Good p) (hc0 : 0 ≤ c) (hc1 : c < (p.length : Int)) (O : MethOk p c m) (hl0 : 0 ≤ m.locals) (N : Nat) (r : Option SvSt) (hN : solveN p m N (putP sv0 0 (beginS c m)) = some r) :
    Calls Tryz.prog 41 #[.agg #[vp], .int .i64 c, methV m va vco vf] w fun e w' => SolveR r m w w' e := by
  have HP := hide hp
  have HV := hide hv
  have HN := hide hN
  have hz : p.length ≤ 4194304 := Nat.le_trans (szProg_len p) G.sz
  unfold methV
  obtain ⟨pa, _, _, pcap, rfl, _⟩ := hp
  obtain ⟨hva, hvc, hvf⟩ := hv
  obtain ⟨aa, _, _, acap, rfl, _⟩ := hva
  obtain ⟨fa, _, _, fcap, rfl, _⟩ := hvf
  obtain ⟨ca, _, _, ccap, rfl, _⟩ := hvc
  clear hN
  obtain ⟨SL, hSL⟩ : ∃ SL, SL = svCells (.slice pa p.length pcap) [.int .i64 m.slot, .slice aa m.args.length acap, .int .i64 m.ret, .int .i64 m.locals, .int .i64 m.stack, .slice ca m.code.length ccap, .slice fa m.frames.length fcap] css0 sv0 := ⟨_, rfl⟩
  have HB := hide (sv_built (.slice pa p.length pcap) (.int .i64 m.slot) (.slice aa m.args.length acap) (.int .i64 m.ret) (.int .i64 m.locals) (.int .i64 m.stack) (.slice ca m.code.length ccap) (.slice fa m.frames.length fcap))
  rw [← hSL] at HB
  have hone : ∀ v ∈ SL, v.oneCell' = true := by
    rw [hSL]
    refine svCells_one sv0_cells rfl (fun v hv => ?_)
    simp only [List.mem_cons, List.not_mem_nil, or_false] at hv
    rcases hv with rfl | rfl | rfl | rfl | rfl | rfl | rfl <;> rfl
  have hlen : SL.length = 768 := by rw [hSL]; exact svCells_len sv0_cells rfl
  have hzl : Tryz.zeroCells134.toList.length = 768 := by rw [Array.length_toList, Tryz.zeroCells134_size]
  have HSL := hide hSL
  clear hSL
  refine calls_of_wpF Tryz.func41 rfl ?_
  simp only [Tryz.ntmps41, List.size_toArray, List.length_cons, List.length_nil, Nat.reduceAdd, Nat.reduceSub, Array.replicate_succ, Array.replicate_zero, List.push_toArray, List.append_toArray, List.nil_append, List.cons_append]
  refine wpF_seq_wp ?_
  go_wp2_with fail
  have hb2 : Below w.heap.size w ((w.alloc (.cells #[.slice pa p.length pcap] 24)).alloc (.cells #[.int .i64 m.slot, .slice aa m.args.length acap, .int .i64 m.ret, .int .i64 m.locals, .int .i64 m.stack, .slice ca m.code.length ccap, .slice fa m.frames.length fcap] 63)) := box2_below _ _ _
  have B0 := (Blk.new w #[.slice pa p.length pcap] 24).alloc (.cells #[.int .i64 m.slot, .slice aa m.args.length acap, .int .i64 m.ret, .int .i64 m.locals, .int .i64 m.stack, .slice ca m.code.length ccap, .slice fa m.frames.length fcap] 63)
  have B1 := Blk.new (w.alloc (.cells #[.slice pa p.length pcap] 24)) #[.int .i64 m.slot, .slice aa m.args.length acap, .int .i64 m.ret, .int .i64 m.locals, .int .i64 m.stack, .slice ca m.code.length ccap, .slice fa m.frames.length fcap] 63
  have hsz : ((w.alloc (.cells #[.slice pa p.length pcap] 24)).alloc (.cells #[.int .i64 m.slot, .slice aa m.args.length acap, .int .i64 m.ret, .int .i64 m.locals, .int .i64 m.stack, .slice ca m.code.length ccap, .slice fa m.frames.length fcap] 63)).heap.size = w.heap.size + 1 + 1 := by simp
  rw [World.size_alloc] at B1
  generalize (w.alloc _).alloc _ = W at *
  have HSZ := hide hsz
  clear hsz
  have p0 : W.cell? ⟨w.heap.size, 0, none⟩ = some (.slice pa p.length pcap) := B0.cell 0
  have m0 : W.cell? ⟨w.heap.size + 1, 0, none⟩ = some (.int .i64 m.slot) := B1.cell 0
  have m1 : W.cell? ⟨w.heap.size + 1, 1, none⟩ = some (.slice aa m.args.length acap) := B1.cell 1
  have m2 : W.cell? ⟨w.heap.size + 1, 2, none⟩ = some (.int .i64 m.ret) := B1.cell 2
  have m3 : W.cell? ⟨w.heap.size + 1, 3, none⟩ = some (.int .i64 m.locals) := B1.cell 3
  have m4 : W.cell? ⟨w.heap.size + 1, 4, none⟩ = some (.int .i64 m.stack) := B1.cell 4
  have m5 : W.cell? ⟨w.heap.size + 1, 5, none⟩ = some (.slice ca m.code.length ccap) := B1.cell 5
  have m6 : W.cell? ⟨w.heap.size + 1, 6, none⟩ = some (.slice fa m.frames.length fcap) := B1.cell 6
  refine wpF_seq_wp ?_
  go_wp2_with (first
    | refine wpList_build2 (.tmp 8) (.tmp 9) (unhide HB) rfl rfl rfl rfl ?_
    | (refine wpList_store_blk aggSv (Blk.new W Tryz.zeroCells134 134) 0 SL hlen (by rw [hzl]; omega) hone (.tmp 7) (.tmp 10) rfl rfl rfl rfl ?_; intro w3 hB3 hM3 hs3))
  rw [putAt_all (by rw [hlen, hzl])] at hB3
  have hsz := unhide HSZ
  have hb3 : Below W.heap.size W w3 := (box_below W _).trans (hM3.below (by simp) (fun k hk e => by omega))
  have hbw3 := hb2.trans (hb3.mono hb2.size)
  obtain ⟨bs, hbs⟩ : ∃ b, b = W.heap.size := ⟨_, rfl⟩
  have hbs' : w.heap.size ≤ bs := by omega
  rw [← hbs] at hB3 ⊢
  have HA : Hid (SvAt w3 bs (.slice pa p.length pcap) (methCs m (.slice aa m.args.length acap) (.slice ca m.code.length ccap) (.slice fa m.frames.length fcap)) sv0) := ⟨css0, sv0_cells, by rw [unhide HSL] at hB3; exact hB3⟩
  have C1 := B1.below hb3 (by omega)
  have lb := hB3.lt
  clear hbs hsz HSZ
  clear hB3 hM3 hs3 HSL hlen hone HB hzl B0 B1 p0 m0 m1 m2 m3 m4 m5 m6
  have m0 : w3.cell? ⟨w.heap.size + 1, 0, none⟩ = some (.int .i64 m.slot) := C1.cell 0
  have m1 : w3.cell? ⟨w.heap.size + 1, 1, none⟩ = some (.slice aa m.args.length acap) := C1.cell 1
  have m2 : w3.cell? ⟨w.heap.size + 1, 2, none⟩ = some (.int .i64 m.ret) := C1.cell 2
  have m3 : w3.cell? ⟨w.heap.size + 1, 3, none⟩ = some (.int .i64 m.locals) := C1.cell 3
  have m4 : w3.cell? ⟨w.heap.size + 1, 4, none⟩ = some (.int .i64 m.stack) := C1.cell 4
  have m5 : w3.cell? ⟨w.heap.size + 1, 5, none⟩ = some (.slice ca m.code.length ccap) := C1.cell 5
  have m6 : w3.cell? ⟨w.heap.size + 1, 6, none⟩ = some (.slice fa m.frames.length fcap) := C1.cell 6
  refine wpF_seq_wp ?_
  go_wp2_with fail
  refine (st_begin c m _ _ _ _ hc0 (by omega) (GVals.keep (Keeps.of_below hbw3) (unhide HV)) O.a7).mono ?_
  rintro e w4 ⟨rfl, hb4⟩
  have hbw4 := hbw3.trans (hb4.mono hbw3.size)
  have HA4 : Hid (SvAt w4 bs (.slice pa p.length pcap) (methCs m (.slice aa m.args.length acap) (.slice ca m.code.length ccap) (.slice fa m.frames.length fcap)) sv0) := (unhide HA).mods (Mods.of_below hb4) (by omega)
  have hok := okS_begin (c := c) O.a7
  have HRP4 := hide (prog_keep (Keeps.of_below hbw4) (unhide HP))
  clear m0 m1 m2 m3 m4 m5 m6 HA hb4
  go_wp2_with fail
  have hms : 0 ≤ m.stack := by have := O.bg.2.2; omega
  refine (sv_reach p 0 (beginS c m) (stCells (beginS c m)) w4 bs _ _ sv0 (unhide HA4) rfl (by omega) (StC_cells hok) (unhide HRP4) G.sup hz m.stack O.bg (sv0_ty p hms)).mono ?_
  rintro e w5 ⟨h1, _, hM5⟩
  obtain ⟨rfl, hA5, hT5⟩ := h1 _ (reach0 p _)
  have hbw5 : Below w.heap.size w w5 := hbw4.trans (hM5.below hbw4.size (fun k hk e => by omega))
  have HI0 : Hid (SolvI p m r bs (.slice pa p.length pcap) (methCs m (.slice aa m.args.length acap) (.slice ca m.code.length ccap) (.slice fa m.frames.length fcap)) w N w5) := ⟨_, unhide HN, hA5, hT5, hbw5⟩
  clear h1 hM5 hA5 hT5 HA4 HRP4 hbw4 hbw3 hb3 C1
  go_wp2_with fail
  generalize Value.agg SL.toArray = g10
  generalize Value.agg (stCells (beginS c m)).toArray = g13
  generalize Value.agg #[Value.int .i64 m.slot, .slice aa m.args.length acap, .int .i64 m.ret, .int .i64 m.locals, .int .i64 m.stack, .slice ca m.code.length ccap, .slice fa m.frames.length fcap] = g2
  generalize Value.agg #[Value.slice pa p.length pcap] = g0
  refine wpF_seq ?_
  refine wpF_block ?_
  refine wpF_loop (fun N a V => ∃ u, a = { tmps := #[g0, .int .i64 c, g2, .pointer (some ⟨w.heap.size, 0, none⟩), undef, .pointer (some ⟨w.heap.size + 1, 0, none⟩), .slice none 0 0, .pointer (some ⟨bs, 0, none⟩), g0, g2, g10, .int .i64 c, g2, g13, .tuple #[], u, undef], defers := [] } ∧ SolvI p m r bs (.slice pa p.length pcap) (methCs m (.slice aa m.args.length acap) (.slice ca m.code.length ccap) (.slice fa m.frames.length fcap)) w N V) N ⟨undef, rfl, unhide HI0⟩ ?_
  clear HI0 HN hbw5
  rintro N a V ⟨u, rfl, s1, hsn, hA, hT, hb⟩
  cases N with
  | zero => cases hsn
  | succ n =>
    refine wpF_of_wp ?_
    have HSN := hide hsn
    clear hsn
    go_wp2_with fail
    refine (sv_goRound p _ m _ _ _ w V bs s1 hA (unhide HP) (unhide HV) hb hbs' O.c40 hT G O.ok O.ins).mono ?_
    rintro e V2 ⟨h1, h2, hM⟩
    have hb2 : Below w.heap.size w V2 := hb.trans (hM.below hb.size (fun k hk e => by omega))
    cases hr : roundP p m s1 m.code.length with
    | none =>
      obtain rfl := h2 hr
      have HR : Hid (r = none) := by
        have h := unhide HSN
        unfold solveN at h
        rw [hr] at h
        exact (Option.some.inj h).symm
      clear hr h1 h2
      go_wp2_with fail
      exact marks_panic0 ⟨fun s' e => (by rw [unhide HR] at e; cases e), fun _ => rfl, hb2⟩
    | some x =>
      obtain ⟨s2, b⟩ := x
      obtain ⟨rfl, hA2, hT2⟩ := h1 s2 b hr
      cases b with
      | true =>
        have HI2 : Hid (SolvI p m r bs (.slice pa p.length pcap) (methCs m (.slice aa m.args.length acap) (.slice ca m.code.length ccap) (.slice fa m.frames.length fcap)) w n V2) := by
          refine ⟨s2, ?_, hA2, hT2, hb2⟩
          have h := unhide HSN
          unfold solveN at h
          rw [hr] at h
          exact h
        clear hr h1 h2 hA2 hT2
        go_wp2_with fail
        exact ⟨n, by omega, _, rfl, unhide HI2⟩
      | false =>
        have HR : Hid (r = some s2) := by
          have h := unhide HSN
          unfold solveN at h
          rw [hr] at h
          exact (Option.some.inj h).symm
        have HA2 := hide hA2
        clear hr h1 h2 hA2 hT2
        go_wp2_with fail
        refine wpF_seq_wp ?_
        go_wp2_with fail
        refine (sv_frames _ m _ _ _ V2 bs s2 (unhide HA2) (GVals.keep (Keeps.of_below hb2) (unhide HV)) O.c40 hl0 O.ok.loc).mono ?_
        rintro e V3 ⟨v, rfl, ⟨cs, hO, hF, hD⟩, hb3⟩
        obtain ⟨ra, rcap, rfl⟩ := own_form hO
        have HF : Hid (SolveR r m w V3 (.returned (.slice ra (frmL m s2 m.code.length).length rcap))) := by
          refine ⟨fun s' e => ?_, fun e => (by rw [unhide HR] at e; cases e), hb2.trans (hb3.mono hb2.size)⟩
          rw [unhide HR] at e
          obtain rfl := Option.some.inj e
          exact ⟨_, rfl, cs, own_base hO hb2.size, FrCs.base hb2.size _ _ hF, hD⟩
        clear hO hF hD
        go_wp2_with fail
        refine wpF_of_wp ?_
        go_wp2_with fail
        exact marks_ret0 (results_tmp (t := 6) rfl _ _ _) (unhide HF)
end Go.Proofs.YtiiokkllmchohaaGreat
