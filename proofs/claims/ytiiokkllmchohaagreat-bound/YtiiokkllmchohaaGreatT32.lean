/- The machine: work. -/
import Derived.WalkMore
import Derived.Test.YtiiokkllmchohaaGreatT30
import Derived.Test.YtiiokkllmchohaaGreatT31
/- WorkA -/
namespace Go.Proofs.YtiiokkllmchohaaGreat
open Go.RowKit Go.Shelf
attribute [local go_sem ↓] Go.wp_at_zero Go.wp_at_succ
attribute [local go_sem] frz_drew
attribute [local go_sem] fld_num fld_obj fld_args

def WorkR (w0 : World) (mb : Nat) (vp : Value) (fuel : Int) (ask : Bool) (R : MaSt × Int) (w' : World) (e : Ending) : Prop := e = .returned (.int .i64 R.2) ∧ ∃ A, MaX w0 w' mb vp fuel ask R.1 A
def WorkI (p : List LClass) (w0 : World) (mb : Nat) (vp : Value) (fuel : Int) (ask : Bool) (R : MaSt × Int) (V : World) : Prop :=
  ∃ n st A, RunOk p fuel n st ∧ runM p fuel n st = some R ∧ (st.steps : Int) ≤ fuel ∧ MaX w0 V mb vp fuel ask st A
def intC : Option Value → Nat
  | some (.int _ n) => n.toNat
  | _ => 0
theorem add_block (a : Addr) (j : Nat) : (a.add j).block = a.block := by unfold Addr.add; split <;> rfl
theorem aggIns : AggOk Tryz.prog 60 3 := ⟨by kernel_rfl, by kernel_rfl⟩
section
variable {w0 w w' : World} {ρ : Nat → Nat × Nat} {mb : Nat} {vp : Value} {fuel : Int} {ask : Bool} {st : MaSt} {A : List Nat} {X : List FrX} {Y : List Value} {vr vpr : Value} {i : Nat} {f : MFr} {x : FrX}
theorem MaA.jump (h : MaA w0 w ρ mb vp fuel ask st A X Y vr vpr) (hf : st.frames[i]? = some f) (hx : X[i]? = some x) (pc : Nat) :
    (∃ ρ', MaA w0 (w.setCell ⟨x.fb, 7, none⟩ (.int .i64 (pc : Int))) ρ' mb vp fuel ask (goF st i f pc f.stk) A (X.set i { x with vs := x.vs }) Y vr vpr) ∧ w.cell? ⟨x.fb, 7, none⟩ = some (.int .i64 (f.pc : Int)) ∧ w.frozen? ⟨x.fb, 7, none⟩ = false := by
  have F := h.fr i f x hf hx
  have l7 := F.fr.l7
  have hM : Mods (fun k => k = x.fb) w (w.setCell ⟨x.fb, 7, none⟩ (.int .i64 (pc : Int))) := (Mods.refl (fun k => k = x.fb) w).setCell (p := ⟨x.fb, 7, none⟩) (fun _ => rfl) _
  have hB := F.fr.blk.setCell 7 (.int .i64 (pc : Int))
  have hB7 : (x.mc ++ [.int .i64 (f.pc : Int), x.vl, x.vs]).set 7 (.int .i64 (pc : Int)) = x.mc ++ [.int .i64 (pc : Int), x.vl, x.vs] := by
    rw [List.set_append_right _ _ (by omega), l7]; rfl
  rw [hB7] at hB
  refine ⟨h.upd hf hx hM (fun k _ e => .inl (e ▸ F.r0)) (pc := pc) (loc := f.loc) (stk := f.stk) (vs' := x.vs) ⟨hB, l7, F.fr.base, own_mods F.fr.lo hM (fun g hg e => own_ne F.fr.lo F.fr.blk tv_ne_fr (e ▸ hg)), own_mods F.fr.st hM (fun g hg e => own_ne F.fr.st F.fr.blk tv_ne_fr (e ▸ hg)), F.fr.ne⟩ (.inl rfl) F.okl F.oks, F.fr.c7.1, F.fr.blk.frozen 7⟩
theorem MaA.tickA (h : MaA w0 w ρ mb vp fuel ask st A X Y vr vpr) : MaA w0 (w.setCell ⟨mb, 9, none⟩ (.int .i64 ((st.steps : Int) + 1))) ρ mb vp fuel ask (tick st) A X Y vr vpr ∧ w.cell? ⟨mb, 9, none⟩ = some (.int .i64 (st.steps : Int)) ∧ w.frozen? ⟨mb, 9, none⟩ = false := by
  have hM : Mods (fun k => k = mb) w (w.setCell ⟨mb, 9, none⟩ (.int .i64 ((st.steps : Int) + 1))) := (Mods.refl (fun k => k = mb) w).setCell (p := ⟨mb, 9, none⟩) (fun _ => rfl) _
  exact ⟨h.own hM (frs := st.frames) (X' := X) (told := st.told) (steps := st.steps + 1) (h.mach.setCell 9 _) (own_mods h.run hM (fun g hg e => own_ne h.run h.mach tp_ne_ma (e ▸ hg))) rfl h.lx (fun _ _ _ h1 h2 => ⟨h1, h2⟩) h.okt, h.mach.cell 9, h.mach.frozen 9⟩
end
theorem work_next {p : List LClass} {w0 wr U : World} {mb : Nat} {vp : Value} {fuel : Int} {ask : Bool} {R : MaSt × Int} {n : Nat} {st st1 : MaSt} (hok : RunOk p fuel (n + 1) st) (hrun : runM p fuel (n + 1) st = some R) (hs : stepM p fuel st = .inl (tick st1)) {ρ : Nat → Nat × Nat} {A : List Nat} {X : List FrX} {Y : List Value} {vr vpr : Value} (h1 : MaA w0 U ρ mb vp fuel ask st1 A X Y vr vpr) (hst : st1.steps = st.steps) (hlt : (st.steps : Int) < fuel) (h9 : wr.cell? ⟨mb, 9, none⟩ = some (.int .i64 (st.steps : Int))) :
    WorkI p w0 mb vp fuel ask R (U.setCell ⟨mb, 9, none⟩ (.int .i64 ((st.steps : Int) + 1))) ∧ fuel.toNat - intC ((U.setCell ⟨mb, 9, none⟩ (.int .i64 ((st.steps : Int) + 1))).cell? ⟨mb, 9, none⟩) < fuel.toNat - intC (wr.cell? ⟨mb, 9, none⟩) := by
  have ht := h1.tickA.1
  rw [hst] at ht
  refine ⟨⟨n, tick st1, A, hok.2 _ hs, ?_, ?_, ρ, X, Y, vr, vpr, ht⟩, ?_⟩
  · unfold runM at hrun
    rw [hs] at hrun
    exact hrun
  · show ((st1.steps + 1 : Nat) : Int) ≤ fuel
    rw [hst]; omega
  · have hc : (U.setCell ⟨mb, 9, none⟩ (.int .i64 ((st.steps : Int) + 1))).cell? ⟨mb, 9, none⟩ = some (.int .i64 (((tick st1).steps : Nat) : Int)) := ht.mach.cell 9
    rw [hc, h9]
    show fuel.toNat - ((st1.steps + 1 : Nat) : Int).toNat < fuel.toNat - (st.steps : Int).toNat
    rw [hst]; omega
theorem work_end {p : List LClass} {fuel : Int} {R : MaSt × Int} {n : Nat} {st : MaSt} (hrun : runM p fuel (n + 1) st = some R) {r : MaSt × Int} (hs : stepM p fuel st = .inr r) : R = r := by
  unfold runM at hrun
  rw [hs] at hrun
  exact (Option.some.inj hrun).symm
set_option maxHeartbeats 2000000 in
set_option maxRecDepth 100000 in
theorem ma_work (p : List LClass) (vp : Value) (w0 w : World) (mb : Nat) (fuel : Int) (ask : Bool) (R : MaSt × Int) (hask : ask = true ∨ R.2 ≠ 5) (h : WorkI p w0 mb vp fuel ask R w) (hfu : fuel ≤ 5000) (G : Good p) (hp : RProg w0 vp p) (hal : ∀ a b, (methOf p a b).isSome = true → 0 ≤ a → a < (p.length : Int) → (findM p a b).args.length ≤ 4194303) :
    Calls Tryz.prog 113 #[.pointer (some ⟨mb, 0, none⟩)] w fun e w' => WorkR w0 mb vp fuel ask R w' e := by
  have H := hide h
  have HASK := hide hask
  clear h hask
  go_enter Tryz.func113, Tryz.ntmps113
  go_wp2_with fail
  go_step3
  go_wp2_with fail
  go_step3
  go_wp2_with fail
  go_loopw [] (fun wr => WorkI p w0 mb vp fuel ask R wr) (fun wr => fuel.toNat - intC (wr.cell? ⟨mb, 9, none⟩))
  case atStart => exact unhide H
  case round =>
    obtain ⟨n, st, A, hok, hrun, hstp, hX⟩ := hrel
    obtain ⟨ρ, X, Y, vr, vpr, hA⟩ := hX
    cases n with
    | zero => cases hrun
    | succ n =>
    have hSO := hok.1
    obtain ⟨ra, rcap, rfl⟩ := own_form hA.run
    have n3 : wr.cell? ⟨mb, 3, none⟩ = some (.slice ra X.length rcap) := hA.mach.cell 3
    have h9 : wr.cell? ⟨mb, 9, none⟩ = some (.int .i64 (st.steps : Int)) := hA.mach.cell 9
    have hlx := hA.lx
    have h30 := hSO.len
    have HR := hide (And.intro hok hrun)
    have HA := hide hA
    clear hok hrun
    by_cases h0 : X.length = 0
    · have hs : stepM p fuel st = .inr (st, 1) := by
        have hn : st.frames = [] := List.eq_nil_of_length_eq_zero (by omega)
        unfold stepM
        rw [hn]; rfl
      have hR := work_end (unhide HR).2 hs
      have h1 : ¬ (0 : Int) < (X.length : Int) := by omega
      clear h0 hs hlx hA
      go_wp2_with fail
      go_ret
      rw [hR]
      exact ⟨rfl, A, ρ, _, _, _, _, unhide HA⟩
    · obtain ⟨fs, f, hfs⟩ := snoc_of (l := st.frames) (by omega)
      obtain ⟨X0, x, rfl⟩ := snoc_of (l := X) (by omega)
      have hx0 : X0.length = fs.length := by rw [hfs] at hlx; simpa using hlx
      have hxx : (X0 ++ [x]).length = X0.length + 1 := by simp
      have hgl : st.frames.getLast? = some f := by rw [hfs, List.getLast?_concat]
      have hfi : st.frames[X0.length]? = some f := by rw [hfs, hx0]; simp
      have hxi : (X0 ++ [x])[X0.length]? = some x := by simp
      have hil : st.frames.length - 1 = X0.length := by rw [hfs]; simp; omega
      have KF := hSO.fr f hgl
      obtain ⟨g, rcap2, hge, _, _, hrd⟩ := own_read hA.run (by omega)
      simp only [Value.slice.injEq, true_and] at hge
      obtain ⟨rfl, rfl⟩ := hge
      have r0 : wr.cell? ⟨g, X0.length, none⟩ = some (.pointer (some ⟨x.fb, 0, none⟩)) := by
        rw [hrd _ (by omega), List.map_append, List.getElem?_append_right (by simp)]; simp
      rw [hxx] at n3
      have hx30 : X0.length < 30 := by omega
      have hwr1 : IntKind.i64.wrap (X0.length : Int) = (X0.length : Int) := by rw [IntKind.wrap_i64]; omega
      have m0 : (0 : Int) ≤ (X0.length : Int) := by omega
      have m1 : (X0.length : Int) < (X0.length : Int) + 1 := by omega
      have m2 : (0 : Int) < (X0.length : Int) + 1 := by omega
      have HX := hide (And.intro hx0 (And.intro hil hlx))
      have HSO := hide hSO
      clear hrd h0 hA hx0 hil hlx hxx h30 hSO
      go_wp2_with fail
      refine wp_region_noPanic ?_
      refine wp_region_held_drew (S := (fun w' => w'.cell? ⟨mb, 3, none⟩ = some (.slice (some ⟨g, 0, none⟩) (X0.length + 1) rcap) ∧ w'.cell? ⟨g, X0.length, none⟩ = some (.pointer (some ⟨x.fb, 0, none⟩)))) (by kernel_rfl) ?_ (fun hHeld => ?_)
      · exact ⟨n3, r0⟩
      refine take_x (some 22) 0 rfl rfl ?_
      refine take_x (some 23) 1 rfl rfl ?_
      refine take_x (some 24) 2 rfl rfl ?_
      refine take_x (some 25) 3 rfl rfl ?_
      refine take_x (some 26) 4 rfl rfl ?_
      refine take_x (some 27) 5 rfl rfl ?_
      refine take_x (some 28) 6 rfl rfl ?_
      refine take_x (some 29) 7 rfl rfl ?_
      refine take_x (some 30) 8 rfl rfl ?_
      refine take_x (some 31) 9 rfl rfl ?_
      refine take_x (some 32) 10 rfl rfl ?_
      refine take_x (some 33) 11 rfl rfl ?_
      refine take_x (some 3) 12 rfl rfl ?_
      refine wpAnyH_done (by kernel_rfl) ?_ _
      refine NoPanic.normal ?_
      go_wp2_with fail
      have hA5 : ask = true ∨ lookP p fuel st.steps f ≠ 5 := (unhide HASK).imp id (fun h5 e => h5 (by
        have hs : stepM p fuel st = .inr (st, 5) := by
          unfold stepM
          rw [hgl]
          dsimp only
          rw [if_pos (by rw [e]; decide), e]
        rw [work_end (unhide HR).2 hs]))
      refine (ma_lookA p vp w0 wr.drew ρ mb fuel ask st A (X0 ++ [x]) Y _ vpr (unhide HA).drew G hp hal X0.length f x hfi hxi KF hA5).mono ?_
      clear hA5
      rintro e w1 ⟨rfl, hb1⟩
      have HA1 := hide ((unhide HA).drew.below hb1 (Nat.le_refl _))
      obtain ⟨lk, hlk⟩ : ∃ lk, lk = lookP p fuel st.steps f := ⟨_, rfl⟩
      rw [← hlk]
      have HLK := hide hlk
      clear hlk
      cases hl0 : lk != 0 with
      | true =>
        have hl1 : lk ≠ 0 := by simpa using hl0
        have hs : stepM p fuel st = .inr (st, lk) := by
          unfold stepM
          rw [hgl]
          dsimp only
          rw [if_pos (by rw [← unhide HLK]; exact hl1), ← unhide HLK]
        have hR := work_end (unhide HR).2 hs
        have HF : Hid (WorkR w0 mb vp fuel ask R w1 (.returned (.int .i64 lk))) := by
          rw [hR]
          exact ⟨rfl, A, ρ, _, _, _, _, unhide HA1⟩
        clear hs hl1 hR
        go_wp2_with fail
        rw [Exit.noGoto_ret]
        go_ret
        exact unhide HF
      | false =>
        obtain rfl : lk = 0 := by simpa using hl0
        have hlk := (unhide HLK).symm
        have hpl : f.pc < f.m.code.length := by
          have := KF.pc
          rcases Nat.lt_or_ge f.pc f.m.code.length with h | h
          · exact h
          · exfalso
            have he : f.pc = f.m.code.length := by omega
            unfold lookP at hlk
            rw [if_pos he] at hlk
            cases hlk
        have hsf : (st.steps : Int) < fuel := by
          rcases Int.lt_or_eq_of_le hstp with h | h
          · exact h
          · exfalso
            unfold lookP at hlk
            rw [if_neg (by omega), if_pos h] at hlk
            cases hlk
        have D := (unhide HSO).ok f hgl hlk
        have CO := (unhide HSO).cl f hgl hlk
        have F1 := (unhide HA1).fr X0.length f x hfi hxi
        obtain ⟨va, vco, vf, hmc, hG⟩ := F1.mt
        obtain ⟨hva, hvc, hvf⟩ := hG
        obtain ⟨ca, cb, off, ccap, rfl, hccap, hca, hcr⟩ := sl_open hvc
        obtain rfl := hca (ne_nil_of_lt hpl)
        obtain ⟨x0, x1, x2⟩ := hcr f.pc hpl
        have kb := Keeps.of_below (unhide HA1).bel
        have y0 := kb _ _ x0
        have y1 := kb _ _ x1
        have y2 := kb _ _ x2
        have hIA : insAt f.m f.pc = f.m.code[f.pc] := by unfold insAt; rw [List.getElem?_eq_getElem hpl]; rfl
        have I0 : InsOk p f.m (f.m.code[f.pc]).op (f.m.code[f.pc]).a (f.m.code[f.pc]).b := ins_ok (KF.ins _ (List.getElem_mem hpl))
        have hs0 : stepM p fuel st = stepI p st X0.length f (f.m.code[f.pc]).op (f.m.code[f.pc]).a (f.m.code[f.pc]).b := stepM_eq hgl hlk (unhide HX).2.1 hIA
        rw [hIA] at D CO
        generalize f.m.code[f.pc] = ins at *
        obtain ⟨op, a, b⟩ := ins
        dsimp only at y0 y1 y2 I0 D CO hs0
        have c5 : w1.cell? ⟨x.fb, 5, none⟩ = some (.slice (some ⟨cb, off, none⟩) f.m.code.length ccap) := by
          rw [F1.fr.blk.cell, hmc]; rfl
        have c7 := F1.fr.c7.1
        have p0 : (0 : Int) ≤ (f.pc : Int) := by omega
        have p1 : (f.pc : Int) < (f.m.code.length : Int) := by omega
        have HD := hide (And.intro D (And.intro CO I0))
        have HS0 := hide hs0
        have HLT := hide hsf
        clear D CO I0 hs0 x0 x1 x2 kb hcr hvc hva hvf F1 hIA hlk hl0
        go_wp2_with fail
        refine wp_region_noPanic ?_
        refine wp_region_held_drew (S := (fun w' => w'.cell? ⟨x.fb, 5, none⟩ = some (.slice (some ⟨cb, off, none⟩) f.m.code.length ccap) ∧ w'.cell? ⟨x.fb, 7, none⟩ = some (.int .i64 (f.pc : Int)) ∧ w'.cell? ⟨cb, off + f.pc * 3, none⟩ = some (.int .i64 op) ∧ w'.cell? ⟨cb, off + f.pc * 3 + 1, none⟩ = some (.int .i64 a) ∧ w'.cell? ⟨cb, off + f.pc * 3 + 2, none⟩ = some (.int .i64 b))) (by kernel_rfl) ?_ (fun hHeld => ?_)
        · exact ⟨c5, c7, y0, y1, y2⟩
        refine take_x (some 40) 0 rfl rfl ?_
        refine take_x (some 41) 1 rfl rfl ?_
        refine take_x (some 42) 2 rfl rfl ?_
        refine take_x (some 43) 3 rfl rfl ?_
        refine take_x (some 44) 4 rfl rfl ?_
        refine take_x (some 45) 5 rfl rfl ?_
        refine take_x (some 46) 6 rfl rfl ?_
        refine take_x (some 47) 7 rfl rfl ?_
        refine take_x (some 48) 8 rfl rfl ?_
        refine take_x (some 49) 9 rfl rfl ?_
        refine take_x (some 50) 10 rfl rfl ?_
        refine wpAnyH_ready (rs := [11]) (by kernel_rfl) (by simp) ?_
        refine AllReadyH.cons rfl (fun K hK => ?_) AllReadyH.nil
        go_simp
        have hal2 : Below w1.heap.size w1 (w1.drew.alloc (.cells #[.int .i64 0, .int .i64 0, .int .i64 0] 60)) := ⟨rfl, rfl, rfl, by simp, fun i hi => Below.heap_alloc w1.drew _ i hi⟩
        have k2 := Keeps.of_below hal2
        refine hK.out _ _ ⟨k2 _ _ c5, k2 _ _ c7, k2 _ _ y0, k2 _ _ y1, k2 _ _ y2⟩ (fun hHeld => ?_)
        clear hK K
        try simp only [Act.put, List.setIfInBounds_toArray, List.set_cons_zero, List.set_cons_succ]
        refine wpAnyH_ready (rs := [12]) (by kernel_rfl) (by simp) ?_
        refine AllReadyH.cons rfl (fun K hK => ?_) AllReadyH.nil
        refine wp_store_blk aggIns (Blk.new w1.drew #[.int .i64 0, .int .i64 0, .int .i64 0] 60) 0 [.int .i64 op, .int .i64 a, .int .i64 b] rfl (by simp) (fun v hv => by simp only [List.mem_cons, List.not_mem_nil, or_false] at hv; rcases hv with rfl | rfl | rfl <;> rfl) (.tmp 5) (.tmp 50) rfl rfl rfl ?_
        intro w2 hB2 hM2 hs2
        rw [putAt_all (by rfl)] at hB2
        have hb2 : Below w1.heap.size w1 w2 := hal2.trans (hM2.below (by simp) (fun k hk e => by have : w1.drew.heap.size = w1.heap.size := rfl; omega))
        have k3 := Keeps.of_below hb2
        refine hK.out _ _ ⟨k3 _ _ c5, k3 _ _ c7, k3 _ _ y0, k3 _ _ y1, k3 _ _ y2⟩ (fun hHeld => ?_)
        clear hK K
        try simp only [Act.put]
        refine wpAnyH_done (by kernel_rfl) ?_ _
        refine NoPanic.normal ?_
        obtain ⟨bI, hbI⟩ : ∃ bI, bI = w1.heap.size := ⟨_, rfl⟩
        change Blk w2 w1.heap.size 60 [.int .i64 op, .int .i64 a, .int .i64 b] at hB2
        rw [← hbI] at hB2 ⊢
        have HA2 := hide ((unhide HA1).below hb2 (Nat.le_refl _))
        have j0 : w2.cell? ⟨bI, 0, none⟩ = some (.int .i64 op) := hB2.cell 0
        have j1 : w2.cell? ⟨bI, 1, none⟩ = some (.int .i64 a) := hB2.cell 1
        have j2 : w2.cell? ⟨bI, 2, none⟩ = some (.int .i64 b) := hB2.cell 2
        have HBI := hide hB2
        have hxb : x.fb < bI := by rw [hbI]; exact ((unhide HA1).fr X0.length f x hfi hxi).fr.blk.lt
        clear hal2 k2 k3 hM2 hs2 hb2 hbI c5 c7 y0 y1 y2 HA1 hB2 n3 r0
        cases o7 : op == 7 with
        | true =>
          obtain rfl : op = 7 := by simpa using o7
          obtain ⟨a0, a1⟩ := (unhide HD).2.2.jmp (.inl rfl)
          obtain ⟨ka, rfl⟩ : ∃ ka : Nat, a = (ka : Int) := ⟨a.toNat, by omega⟩
          obtain ⟨⟨ρ', hJ⟩, c7, f7⟩ := (unhide HA2).jump hfi hxi ka
          have t9 := hJ.tickA.2
          have HJ := hide hJ
          have HSM : Hid (stepM p fuel st = .inl (tick (goF st X0.length f ka f.stk))) := (unhide HS0).trans (stepI_7 p st X0.length f ka b)
          obtain ⟨t9, ft9⟩ := t9
          have t9' : (w2.setCell ⟨x.fb, 7, none⟩ (.int .i64 (ka : Int))).cell? ⟨mb, 9, none⟩ = some (.int .i64 (st.steps : Int)) := t9
          clear hJ t9 o7
          go_wp2_with fail
          have hfin := work_next (unhide HR).1 (unhide HR).2 (unhide HSM) (unhide HJ) rfl (unhide HLT) h9
          exact hfin
        | false =>
        have p40 : (f.pc : Int) < 40 := by have := KF.c40; omega
        have hbs := (unhide HA2).bel.size
        cases o8 : op == 8 with
        | true =>
          obtain rfl : op = 8 := by simpa using o8
          obtain ⟨a0, a1⟩ := (unhide HD).2.2.jmp (.inr (.inl rfl))
          obtain ⟨ka, rfl⟩ : ∃ ka : Nat, a = (ka : Int) := ⟨a.toNat, by omega⟩
          have hs1 := (unhide HD).1.stk.s1 (by omega)
          have hsl := (unhide HD).1.sl
          have HST := hide (top_snoc (l := f.stk) hs1)
          have hdl : f.stk.dropLast.length = f.stk.length - 1 := List.length_dropLast
          go_wp2_with fail
          have F2 := (unhide HA2).fr X0.length f x hfi hxi
          have hP0 := ma_pop _ A x.fb x.mc (f.pc : Int) x.vl f.loc x.vs f.stk.dropLast (topV f.stk) w2 (by rw [← unhide HST]; exact F2.fr) (by omega)
          refine hP0.mono ?_
          rintro e w3 hP
          have B3 := (unhide HBI).mods hP.choose_spec.2.2.2 (by omega)
          obtain ⟨rfl, ρ3, vs3, hA3⟩ := (unhide HA2).pop hfi hxi (unhide HST) hP
          have HA3 := hide hA3
          have j13 : w3.cell? ⟨bI, 1, none⟩ = some (.int .i64 ((ka : Nat) : Int)) := B3.cell 1
          have hfi3 := setF_at hfi f.loc f.stk.dropLast
          have hxi3 := set_at hxi { x with vs := vs3 }
          unfold encV
          clear F2 hP0 hP hA3 HST
          cases hy : (topV f.stk).num == 0 with
          | true =>
            have HSM2 : Hid (stepM p fuel st = .inl (tick (goF st X0.length f ka f.stk.dropLast))) := (unhide HS0).trans (stepI_8a p st X0.length f ka b (by simpa using hy))
            obtain ⟨⟨ρ', hJ⟩, c7, f7⟩ := (unhide HA3).jump hfi3 hxi3 ka
            obtain ⟨t9, ft9⟩ := hJ.tickA.2
            have HJ := hide (show MaA _ _ _ _ _ _ _ (goF st X0.length f ka f.stk.dropLast) _ _ _ _ _ from by
              have e : goF (setF st X0.length f f.loc f.stk.dropLast) X0.length { f with loc := f.loc, stk := f.stk.dropLast } ka f.stk.dropLast = goF st X0.length f ka f.stk.dropLast := by unfold goF setF; simp [List.set_set]
              rw [← e]; exact hJ)
            have t9' : (w3.setCell ⟨x.fb, 7, none⟩ (.int .i64 ((ka : Nat) : Int))).cell? ⟨mb, 9, none⟩ = some (.int .i64 (st.steps : Int)) := t9
            clear hJ t9
            go_wp2_with fail
            exact work_next (unhide HR).1 (unhide HR).2 (unhide HSM2) (unhide HJ) rfl (unhide HLT) h9
          | false =>
            have HSM2 : Hid (stepM p fuel st = .inl (tick (goF st X0.length f (f.pc + 1) f.stk.dropLast))) := (unhide HS0).trans (stepI_8b p st X0.length f ka b (by simpa using hy))
            obtain ⟨⟨ρ', hJ⟩, c7, f7⟩ := (unhide HA3).jump hfi3 hxi3 (f.pc + 1)
            obtain ⟨t9, ft9⟩ := hJ.tickA.2
            have HJ := hide (show MaA _ _ _ _ _ _ _ (goF st X0.length f (f.pc + 1) f.stk.dropLast) _ _ _ _ _ from by
              have e : goF (setF st X0.length f f.loc f.stk.dropLast) X0.length { f with loc := f.loc, stk := f.stk.dropLast } (f.pc + 1) f.stk.dropLast = goF st X0.length f (f.pc + 1) f.stk.dropLast := by unfold goF setF; simp [List.set_set]
              rw [← e]; exact hJ)
            have t9' : (w3.setCell ⟨x.fb, 7, none⟩ (.int .i64 ((f.pc : Int) + 1))).cell? ⟨mb, 9, none⟩ = some (.int .i64 (st.steps : Int)) := t9
            have ft9' : (w3.setCell ⟨x.fb, 7, none⟩ (.int .i64 ((f.pc : Int) + 1))).frozen? ⟨mb, 9, none⟩ = false := ft9
            clear hJ t9 ft9
            go_wp2_with fail
            exact work_next (unhide HR).1 (unhide HR).2 (unhide HSM2) (unhide HJ) rfl (unhide HLT) h9
        | false =>
        cases o18 : op == 18 with
        | true =>
          obtain rfl : op = 18 := by simpa using o18
          obtain ⟨a0, a1⟩ := (unhide HD).2.2.jmp (.inr (.inr rfl))
          obtain ⟨ka, rfl⟩ : ∃ ka : Nat, a = (ka : Int) := ⟨a.toNat, by omega⟩
          have hs1 := (unhide HD).1.stk.s1 (by omega)
          have hsl := (unhide HD).1.sl
          have HST := hide (top_snoc (l := f.stk) hs1)
          have hdl : f.stk.dropLast.length = f.stk.length - 1 := List.length_dropLast
          go_wp2_with fail
          have F2 := (unhide HA2).fr X0.length f x hfi hxi
          have hP0 := ma_pop _ A x.fb x.mc (f.pc : Int) x.vl f.loc x.vs f.stk.dropLast (topV f.stk) w2 (by rw [← unhide HST]; exact F2.fr) (by omega)
          refine hP0.mono ?_
          rintro e w3 hP
          have B3 := (unhide HBI).mods hP.choose_spec.2.2.2 (by omega)
          obtain ⟨rfl, ρ3, vs3, hA3⟩ := (unhide HA2).pop hfi hxi (unhide HST) hP
          have HA3 := hide hA3
          have j13 : w3.cell? ⟨bI, 1, none⟩ = some (.int .i64 ((ka : Nat) : Int)) := B3.cell 1
          have hfi3 := setF_at hfi f.loc f.stk.dropLast
          have hxi3 := set_at hxi { x with vs := vs3 }
          unfold encV
          clear F2 hP0 hP hA3 HST
          cases hy : (topV f.stk).obj with
          | none =>
            have HSM2 : Hid (stepM p fuel st = .inl (tick (goF st X0.length f ka f.stk.dropLast))) := (unhide HS0).trans (stepI_18a p st X0.length f ka b hy)
            unfold objP
            obtain ⟨⟨ρ', hJ⟩, c7, f7⟩ := (unhide HA3).jump hfi3 hxi3 ka
            obtain ⟨t9, ft9⟩ := hJ.tickA.2
            have HJ := hide (show MaA _ _ _ _ _ _ _ (goF st X0.length f ka f.stk.dropLast) _ _ _ _ _ from by
              have e : goF (setF st X0.length f f.loc f.stk.dropLast) X0.length { f with loc := f.loc, stk := f.stk.dropLast } ka f.stk.dropLast = goF st X0.length f ka f.stk.dropLast := by unfold goF setF; simp [List.set_set]
              rw [← e]; exact hJ)
            have t9' : (w3.setCell ⟨x.fb, 7, none⟩ (.int .i64 ((ka : Nat) : Int))).cell? ⟨mb, 9, none⟩ = some (.int .i64 (st.steps : Int)) := t9
            clear hJ t9
            go_wp2_with fail
            exact work_next (unhide HR).1 (unhide HR).2 (unhide HSM2) (unhide HJ) rfl (unhide HLT) h9
          | some ko =>
            have HSM2 : Hid (stepM p fuel st = .inl (tick (goF st X0.length f (f.pc + 1) f.stk.dropLast))) := (unhide HS0).trans (stepI_18b p st X0.length f ka b (by rw [hy]; simp))
            unfold objP
            obtain ⟨⟨ρ', hJ⟩, c7, f7⟩ := (unhide HA3).jump hfi3 hxi3 (f.pc + 1)
            obtain ⟨t9, ft9⟩ := hJ.tickA.2
            have HJ := hide (show MaA _ _ _ _ _ _ _ (goF st X0.length f (f.pc + 1) f.stk.dropLast) _ _ _ _ _ from by
              have e : goF (setF st X0.length f f.loc f.stk.dropLast) X0.length { f with loc := f.loc, stk := f.stk.dropLast } (f.pc + 1) f.stk.dropLast = goF st X0.length f (f.pc + 1) f.stk.dropLast := by unfold goF setF; simp [List.set_set]
              rw [← e]; exact hJ)
            have t9' : (w3.setCell ⟨x.fb, 7, none⟩ (.int .i64 ((f.pc : Int) + 1))).cell? ⟨mb, 9, none⟩ = some (.int .i64 (st.steps : Int)) := t9
            have ft9' : (w3.setCell ⟨x.fb, 7, none⟩ (.int .i64 ((f.pc : Int) + 1))).frozen? ⟨mb, 9, none⟩ = false := ft9
            clear hJ t9 ft9
            go_wp2_with fail
            exact work_next (unhide HR).1 (unhide HR).2 (unhide HSM2) (unhide HJ) rfl (unhide HLT) h9
        | false =>
        cases o12 : op == 12 with
        | true =>
          obtain rfl : op = 12 := by simpa using o12
          have C := (unhide HD).2.1 rfl
          obtain ⟨a0, a1⟩ := (unhide HD).2.2.cls (by omega)
          have hmo := (unhide HD).2.2.call rfl
          have hsl := (unhide HD).1.sl
          have hcl := C.len
          have HCO := hide C.obj
          have hn0 : w2.cell? ⟨mb, 0, none⟩ = some vp := (unhide HA2).mach.cell 0
          clear C
          go_wp2_with fail
          refine (ma_find p vp a b w0 w2 mb hp (unhide HA2).bel hn0 G.sup G.sz a0 a1 hmo).mono ?_
          rintro e w3 ⟨ma, mco, mf, rfl, hG3, hb3⟩
          obtain ⟨hga, hgc, hgf⟩ := hG3
          obtain ⟨qa, _, _, qcap, rfl, _⟩ := hga
          have HA3 := hide ((unhide HA2).below hb3 (Nat.le_refl _))
          have HB3 := hide ((unhide HBI).below hb3 (unhide HBI).lt)
          obtain ⟨nA, hnA⟩ : ∃ nA, nA = (findM p a b).args.length := ⟨_, rfl⟩
          have HNA := hide hnA
          unfold methV
          rw [← hnA] at hcl ⊢
          clear hnA hgc hgf
          obtain ⟨rs, hrs⟩ : ∃ rs, rs = f.stk.take (f.stk.length - nA) := ⟨_, rfl⟩
          obtain ⟨ar, har⟩ : ∃ ar, ar = f.stk.drop (f.stk.length - nA) := ⟨_, rfl⟩
          have hrl : rs.length = f.stk.length - nA := by rw [hrs, List.length_take]; omega
          have hal' : ar.length = nA := by rw [har, List.length_drop]; omega
          have HSM0 := hide ((unhide HS0).trans (stepI_12 p st X0.length f a b))
          have HRS := hide (And.intro hrs har)
          go_wp2_with fail
          have F3 := (unhide HA3).fr X0.length f x hfi hxi
          refine (ma_take w0.heap.size A x.fb x.mc (f.pc : Int) x.vl f.loc x.vs f.stk nA w3 F3.fr (by omega) (by omega)).mono ?_
          rintro e w4 ⟨ta, tcap, vs4, rfl, htc, hnil, htg, hrd4, hF4, hob4, hM4⟩
          rw [← hrs] at hF4
          rw [← har] at hrd4
          have hxa : ∀ ad, ta = some ad → ∀ j u, (encL A ar)[j]? = some u → ad.block ≠ x.fb := fun ad e j u hu hbk => by
            have hj : j < (encL A ar).length := (List.getElem?_eq_some_iff.1 hu).1
            rw [encL_len, hal'] at hj
            obtain ⟨g4, hg4, hv4⟩ := htg (by omega)
            rw [e] at hg4
            obtain rfl := Option.some.inj hg4
            exact own_ne F3.fr.st F3.fr.blk tv_ne_fr (by rw [hv4]; exact congrArg some hbk)
          have okr : ∀ v ∈ rs, okV A v := fun v hv => F3.oks v (by rw [hrs] at hv; exact List.mem_of_mem_take hv)
          have oka : ∀ v ∈ ar, okV A v := fun v hv => F3.oks v (by rw [har] at hv; exact List.mem_of_mem_drop hv)
          obtain ⟨ρ4, hA4⟩ := (unhide HA3).upd hfi hxi hM4 (fun k _ e => .inl (e ▸ F3.r0)) (pc := f.pc) (loc := f.loc) (stk := rs) hF4 (.inl hob4) F3.okl okr
          have HA4 := hide hA4
          have HB4 := hide ((unhide HB3).mods hM4 (by omega))
          have HRD4 := hide hrd4
          have HXA := hide hxa
          have HNIL := hide hnil
          have HOKA := hide oka
          have hfi4 := set_at hfi { f with pc := f.pc, loc := f.loc, stk := rs }
          have hxi4 := set_at hxi { x with vs := vs4 }
          have HSTR := hide (top_snoc (l := rs) (by omega))
          have hdr : rs.dropLast.length = rs.length - 1 := List.length_dropLast
          have hoyr := topV_ok okr
          clear hrs har F3 htg hrd4 hF4 hob4 hM4 hA4 hxa hnil oka okr
          go_wp2_with fail
          have F4 := (unhide HA4).fr X0.length _ _ hfi4 hxi4
          refine (ma_pop w0.heap.size A x.fb x.mc (f.pc : Int) x.vl f.loc vs4 rs.dropLast (topV rs) w4 (by rw [← unhide HSTR]; exact F4.fr) (by omega)).mono ?_
          rintro e w5 hP5
          have hM5 := hP5.choose_spec.2.2.2
          obtain ⟨rfl, ρ5, vs5, hA5⟩ := (unhide HA4).pop hfi4 hxi4 (unhide HSTR) hP5
          have HRD5 : Hid (∀ ad, ta = some ad → ∀ j u, (encL A ar)[j]? = some u → w5.cell? (ad.add j) = some u) := fun ad e j u hu => hM5.cell ((unhide HRD4) ad e j u hu) (by rw [add_block]; exact (unhide HXA) ad e j u hu)
          have HB5 := hide ((unhide HB4).mods hM5 (by omega))
          have HA5 : Hid (∃ X5, (X5[X0.length]? = some { x with vs := vs5 }) ∧ X5.length = X0.length + 1 ∧ MaA w0 w5 ρ5 mb vp fuel ask (goF st X0.length f f.pc rs.dropLast) A X5 Y (.slice (some ⟨g, 0, none⟩) (X0 ++ [x]).length rcap) vpr) := by
            refine ⟨_, set_at hxi4 _, by simp, ?_⟩
            have e5 : setF { st with frames := st.frames.set X0.length { f with pc := f.pc, loc := f.loc, stk := rs } } X0.length { f with pc := f.pc, loc := f.loc, stk := rs } f.loc rs.dropLast = goF st X0.length f f.pc rs.dropLast := by unfold setF goF; simp [List.set_set]
            rw [← e5]
            exact hA5
          have he5 : encV A (topV rs) = [.int .i64 (topV rs).kind, .int .i64 (topV rs).num, objP A (topV rs).obj] := rfl
          rw [he5]
          clear F4 hP5 hM5 hA5 he5
          have hsm := unhide HSM0
          unfold callP at hsm
          dsimp only at hsm
          rw [← unhide HNA, ← (unhide HRS).1, ← (unhide HRS).2] at hsm
          have hlenf : st.frames.length = X0.length + 1 := by have := (unhide HX).2.2; rw [← this]; simp
          cases hy : (topV rs).obj with
          | none =>
            rw [hy] at hsm
            have hR := work_end (unhide HR).2 hsm
            obtain ⟨X5, _, _, hA5⟩ := unhide HA5
            have HF : Hid (WorkR w0 mb vp fuel ask R w5 (.returned (.int .i64 2))) := by
              rw [hR]
              exact ⟨rfl, A, ρ5, _, _, _, _, hA5⟩
            unfold objP
            clear hR hA5 hsm
            go_wp2_with fail
            rw [Exit.noGoto_ret]
            go_ret
            exact unhide HF
          | some ko =>
            rw [hy] at hsm
            dsimp only at hsm
            have hko : ko < A.length := hoyr ko hy
            obtain ⟨ob, hob⟩ : ∃ ob, A[ko]? = some ob := ⟨_, List.getElem?_eq_getElem hko⟩
            have hpo : objP A (some ko) = .pointer (some ⟨ob, 0, none⟩) := by
              show Value.pointer (some ⟨A.getD ko 0, 0, none⟩) = _
              rw [List.getD_eq_getElem?_getD, hob]; rfl
            rw [hpo]
            obtain ⟨X5, hx5, hl5, hA5⟩ := unhide HA5
            have n35 : w5.cell? ⟨mb, 3, none⟩ = some (.slice (some ⟨g, 0, none⟩) (X0.length + 1) rcap) := by
              have := hA5.mach.cell 3
              rw [this]
              show some (Value.slice _ (X0 ++ [x]).length _) = _
              rw [List.length_append]; rfl
            by_cases h30 : X0.length + 1 = 30
            · rw [if_pos (by omega)] at hsm
              have hR := work_end (unhide HR).2 hsm
              have HF : Hid (WorkR w0 mb vp fuel ask R w5 (.returned (.int .i64 7))) := by
                rw [hR]
                exact ⟨rfl, A, ρ5, _, _, _, _, hA5⟩
              have h30' : ((X0.length : Int) + 1 == 30) = true := beq_iff_eq.2 (by omega)
              clear hR hA5 hsm hpo hy h30
              go_wp2_with fail
              rw [Exit.noGoto_ret]
              go_ret
              exact unhide HF
            · rw [if_neg (by omega)] at hsm
              have h30' : ((X0.length : Int) + 1 == 30) = false := beq_eq_false_iff_ne.2 (by omega)
              have hfi5 : (goF st X0.length f f.pc rs.dropLast).frames[X0.length]? = some { f with pc := f.pc, stk := rs.dropLast } := set_at hfi _
              obtain ⟨⟨ρ6, hJ⟩, c7, f7⟩ := hA5.jump hfi5 hx5 (f.pc + 1)
              have c7' : w5.cell? ⟨x.fb, 7, none⟩ = some (.int .i64 (f.pc : Int)) := c7
              have f7' : w5.frozen? ⟨x.fb, 7, none⟩ = false := f7
              obtain ⟨o1, o2, o3, o4, o5⟩ := (unhide HCO) ko (by rw [← unhide HNA, ← (unhide HRS).1]; exact hy)
              have hla := hJ.la
              obtain ⟨oo, hoo⟩ : ∃ oo, st.objs[ko]? = some oo := ⟨_, List.getElem?_eq_getElem (by have : A.length = st.objs.length := hla; omega)⟩
              have hoa : objAt st ko = oo := by unfold objAt; rw [hoo]; rfl
              rw [hoa] at o1 o2 o3 o4 o5 hsm
              have hM6 : Mods (fun k => k = x.fb) w5 (w5.setCell ⟨x.fb, 7, none⟩ (.int .i64 ((f.pc + 1 : Nat) : Int))) := (Mods.refl (fun k => k = x.fb) w5).setCell (p := ⟨x.fb, 7, none⟩) (fun _ => rfl) _
              have HRD6 : Hid (∀ ad, ta = some ad → ∀ j u, (encL A ar)[j]? = some u → (w5.setCell ⟨x.fb, 7, none⟩ (.int .i64 ((f.pc + 1 : Nat) : Int))).cell? (ad.add j) = some u) := fun ad e j u hu => hM6.cell ((unhide HRD5) ad e j u hu) (by rw [add_block]; exact (unhide HXA) ad e j u hu)
              have B6 := (unhide HB5).mods hM6 (by omega)
              have j26 : (w5.setCell ⟨x.fb, 7, none⟩ (.int .i64 ((f.pc : Int) + 1))).cell? ⟨bI, 2, none⟩ = some (.int .i64 b) := B6.cell 2
              have e6 : goF (goF st X0.length f f.pc rs.dropLast) X0.length { f with pc := f.pc, stk := rs.dropLast } (f.pc + 1) rs.dropLast = goF st X0.length f (f.pc + 1) rs.dropLast := by unfold goF; simp [List.set_set]
              have HJ := hide (show MaA w0 (w5.setCell ⟨x.fb, 7, none⟩ (.int .i64 ((f.pc + 1 : Nat) : Int))) ρ6 mb vp fuel ask (goF st X0.length f (f.pc + 1) rs.dropLast) A _ Y _ vpr from e6 ▸ hJ)
              have HSM2 := hide hsm
              have HN := hide (show X5.length ≤ 4194304 by omega)
              clear hJ hA5 hsm hpo hy h30 hM6 B6 e6 c7 f7 hla hoa
              go_wp2_with fail
              have hbg := ma_begin p vp w0 _ ρ6 mb fuel ask _ A _ Y _ vpr (unhide HJ) hp G.sup G.sz ko oo ob hoo hob b ar ta tcap o1 o2 o3 (by rw [hal']; exact unhide HNIL) (unhide HRD6) (by rw [hal', unhide HNA]; exact o4) o5 (unhide HOKA) (by rw [List.length_set]; exact unhide HN)
              rw [hal'] at hbg
              refine hbg.mono ?_
              rintro e w7 ⟨rfl, ρ7, X7, Y7, vr7, vpr7, hA7⟩
              obtain ⟨t9, ft9⟩ := hA7.tickA.2
              have t9' : w7.cell? ⟨mb, 9, none⟩ = some (.int .i64 (st.steps : Int)) := t9
              have HA7 := hide hA7
              clear hA7 hbg t9
              go_wp2_with fail
              exact work_next (unhide HR).1 (unhide HR).2 (unhide HSM2) (unhide HA7) rfl (unhide HLT) h9
        | false =>
        cases o13 : op == 13 with
        | true =>
          obtain rfl : op = 13 := by simpa using o13
          have hs1 := (unhide HD).1.stk.s1 (by omega)
          have hsl := (unhide HD).1.sl
          have HST := hide (top_snoc (l := f.stk) hs1)
          have hdl : f.stk.dropLast.length = f.stk.length - 1 := List.length_dropLast
          go_wp2_with fail
          have F2 := (unhide HA2).fr X0.length f x hfi hxi
          have hoy := topV_ok F2.oks
          have hP0 := ma_pop _ A x.fb x.mc (f.pc : Int) x.vl f.loc x.vs f.stk.dropLast (topV f.stk) w2 (by rw [← unhide HST]; exact F2.fr) (by omega)
          refine hP0.mono ?_
          rintro e w3 hP
          obtain ⟨rfl, ρ3, vs3, hA3⟩ := (unhide HA2).pop hfi hxi (unhide HST) hP
          have HA3 := hide hA3
          clear F2 hP0 hP hA3 HST
          go_wp2_with fail
          have hx0 := (unhide HX).1
          have hfr3 : (setF st X0.length f f.loc f.stk.dropLast).frames = fs ++ [{ f with loc := f.loc, stk := f.stk.dropLast }] := by
            show st.frames.set _ _ = _
            rw [hfs, hx0, List.set_append_right _ _ (Nat.le_refl _), Nat.sub_self]; rfl
          refine (ma_end w0 w3 ρ3 mb vp fuel ask _ A _ Y _ vpr (unhide HA3) (topV f.stk) hoy fs _ hfr3 (by rw [List.length_set]; simp; omega) (fun q hq => ?_)).mono ?_
          · rcases List.mem_or_eq_of_mem_set hq with h | rfl
            · exact (unhide HSO).all q h
            · show f.stk.dropLast.length ≤ _
              omega
          rintro e w4 ⟨rfl, ρ4, X4, Y4, vr4, vpr4, hA4⟩
          have HSM2 : Hid (stepM p fuel st = .inl (tick (endSt (setF st X0.length f f.loc f.stk.dropLast) (topV f.stk)))) := (unhide HS0).trans (stepI_13 p st X0.length f a b)
          have hst4 : (endSt (setF st X0.length f f.loc f.stk.dropLast) (topV f.stk)).steps = st.steps := by
            unfold endSt
            split <;> rfl
          obtain ⟨t9, ft9⟩ := hA4.tickA.2
          rw [hst4] at t9
          have HA4 := hide hA4
          have HH4 := hide hst4
          clear hA4 hfr3 hst4
          go_wp2_with fail
          exact work_next (unhide HR).1 (unhide HR).2 (unhide HSM2) (unhide HA4) (unhide HH4) (unhide HLT) h9
        | false =>
          have ho : op ≠ 7 ∧ op ≠ 8 ∧ op ≠ 12 ∧ op ≠ 13 ∧ op ≠ 18 := ⟨by simpa using o7, by simpa using o8, by simpa using o12, by simpa using o13, by simpa using o18⟩
          have HO := hide ho
          clear ho
          go_wp2_with fail
          refine (ma_do p vp w0 w2 ρ mb fuel ask st A (X0 ++ [x]) Y _ vpr X0.length f x op a b (unhide HA2) hfi hxi G hp (unhide HD).2.2 (unhide HD).1 (unhide HO)).mono ?_
          rintro e w3 ⟨rfl, A3, ρ3, X3, Y3, vr3, vpr3, hfb3, hA3⟩
          have HSM := hide ((unhide HS0).trans (stepI_do p st X0.length f op a b (unhide HO)))
          obtain ⟨loc3, stk3, hf3, hst3, hln3⟩ := doP_frame p st X0.length f op a b hfi
          obtain ⟨x3, hx3, e3⟩ := Option.map_eq_some_iff.1 hfb3
          generalize doP p st X0.length f op a b = dp at *
          cases hk : dp.2 != 0 with
          | true =>
            have hR := work_end (unhide HR).2 ((unhide HSM).trans (if_neg (by simpa using hk)))
            have HF : Hid (WorkR w0 mb vp fuel ask R w3 (.returned (.int .i64 dp.2))) := by
              rw [hR]
              exact ⟨rfl, A3, ρ3, _, _, _, _, hA3⟩
            clear hR hA3 hf3 hx3 e3 hfb3 hst3 hln3 HSM
            go_wp2_with fail
            rw [Exit.noGoto_ret]
            go_ret
            exact unhide HF
          | false =>
            have hk0 : dp.2 = 0 := by simpa using hk
            have HSM2 := hide ((unhide HSM).trans (if_pos hk0))
            obtain ⟨⟨ρ', hJ⟩, c7, f7⟩ := hA3.jump hf3 hx3 (f.pc + 1)
            rw [e3] at hJ c7 f7
            obtain ⟨t9, ft9⟩ := hJ.tickA.2
            have hinc : incF dp.1 X0.length = goF dp.1 X0.length { f with loc := loc3, stk := stk3 } (f.pc + 1) stk3 := by
              unfold incF
              rw [hf3]; rfl
            have HJ := hide hJ
            have t9' : (w3.setCell ⟨x.fb, 7, none⟩ (.int .i64 ((f.pc : Int) + 1))).cell? ⟨mb, 9, none⟩ = some (.int .i64 (st.steps : Int)) := by
              rw [← hst3]; exact t9
            have ft9' : (w3.setCell ⟨x.fb, 7, none⟩ (.int .i64 ((f.pc : Int) + 1))).frozen? ⟨mb, 9, none⟩ = false := ft9
            have c7' : w3.cell? ⟨x.fb, 7, none⟩ = some (.int .i64 (f.pc : Int)) := c7
            rw [hinc] at HSM2
            have HST3 := hide hst3
            clear hJ t9 ft9 hinc hA3 hf3 hx3 e3 hfb3 hst3 hln3 HSM c7 hk0
            go_wp2_with fail
            exact work_next (unhide HR).1 (unhide HR).2 (unhide HSM2) (unhide HJ) (unhide HST3) (unhide HLT) h9
end Go.Proofs.YtiiokkllmchohaaGreat
/- The machine: Run. -/
namespace Go.Proofs.YtiiokkllmchohaaGreat
open Go.RowKit Go.Shelf
attribute [local go_sem ↓] Go.wp_at_zero Go.wp_at_succ
attribute [local go_sem] frz_drew
attribute [local go_sem] fld_num fld_obj fld_args

theorem fld_ret (s r l k : Int) (x y z : Value) (w : World) : (Instr.field 63 (.agg #[.int .i64 s, x, .int .i64 r, .int .i64 l, .int .i64 k, y, z]) 2).run Tryz.prog w = .ok (.int .i64 r) w := by kernel_rfl
attribute [local go_sem] fld_ret
def tellV (st : MaSt) (v : LVal) (t : Int) : Int := if t = 0 then v.num else match v.obj with
  | none => -1
  | some k => (objAt st k).cls
set_option maxHeartbeats 1000000 in
theorem ma_tell (w0 w : World) (ρ : Nat → Nat × Nat) (mb : Nat) (vp : Value) (fuel : Int) (ask : Bool) (st : MaSt) (A : List Nat) (X : List FrX) (Y : List Value) (vr vpr : Value) (h : MaA w0 w ρ mb vp fuel ask st A X Y vr vpr) (v : LVal) (t : Int) (ok : okV A v) :
    Calls Tryz.prog 114 #[.agg (encV A v).toArray, .int .i64 t] w fun e w' => e = .returned (.int .i64 (tellV st v t)) ∧ Below w.heap.size w w' := by
  have hbel := box_below w (.cells #[.int .i64 v.kind, .int .i64 v.num, objP A v.obj] 170)
  have B0 := Blk.new w #[.int .i64 v.kind, .int .i64 v.num, objP A v.obj] 170
  have H := hide (h.below hbel (Nat.le_refl _))
  have hla := h.la
  have hly := h.ly
  have q1 : (w.alloc (.cells #[.int .i64 v.kind, .int .i64 v.num, objP A v.obj] 170)).cell? ⟨w.heap.size, 1, none⟩ = some (.int .i64 v.num) := B0.cell 1
  unfold encV
  cases ht : t == 0 with
  | true =>
    have hv : tellV st v t = v.num := if_pos (by simpa using ht)
    rw [hv]
    clear hv h
    go_enter Tryz.func114, Tryz.ntmps114
    go_wp2_with fail
    go_ret
    exact ⟨rfl, hbel⟩
  | false =>
    have ht0 : ¬ t = 0 := by simpa using ht
    cases ho : v.obj with
    | none =>
      have hv : tellV st v t = -1 := by unfold tellV; rw [if_neg ht0, ho]
      rw [hv]
      unfold objP
      clear hv h B0 q1 H hbel
      go_enter Tryz.func114, Tryz.ntmps114
      go_wp2_with fail
      go_ret
      exact ⟨rfl, box_below _ _⟩
    | some k =>
      have hk : k < A.length := ok k ho
      obtain ⟨ob, hob⟩ : ∃ ob, A[k]? = some ob := ⟨_, List.getElem?_eq_getElem hk⟩
      obtain ⟨o, hoo⟩ : ∃ o, st.objs[k]? = some o := ⟨_, List.getElem?_eq_getElem (by omega)⟩
      obtain ⟨y, hy⟩ : ∃ y, Y[k]? = some y := ⟨_, List.getElem?_eq_getElem (by omega)⟩
      have hv : tellV st v t = o.cls := by unfold tellV; rw [if_neg ht0, ho]; show (objAt st k).cls = _; unfold objAt; rw [hoo]; rfl
      rw [hv]
      have hpo : objP A (some k) = .pointer (some ⟨ob, 0, none⟩) := by
        show Value.pointer (some ⟨A.getD k 0, 0, none⟩) = _
        rw [List.getD_eq_getElem?_getD, hob]; rfl
      have o0 : w.cell? ⟨ob, 0, none⟩ = some (.int .i64 o.cls) := (h.ob k o ob y hoo hob hy).blk.cell 0
      rw [hpo]
      have o1 := Keeps.of_below (box_below w (.cells #[.int .i64 v.kind, .int .i64 v.num, .pointer (some ⟨ob, 0, none⟩)] 170)) _ _ o0
      clear hv h B0 q1 H hbel
      go_enter Tryz.func114, Tryz.ntmps114
      go_wp2_with fail
      go_ret
      exact ⟨rfl, box_below _ _⟩
theorem aggOut : AggOk Tryz.prog 69 4 := ⟨by kernel_rfl, by kernel_rfl⟩
def st00 : MaSt := ⟨[], [], ⟨0, 0, none⟩, [], 0⟩
theorem MaA.start {w W : World} {vp : Value} {fuel : Int} {ask : Bool} {mb : Nat} (hb : Below w.heap.size w W) (hmb : w.heap.size ≤ mb) (hB : Blk W mb 172 [vp, .int .i64 fuel, .bool ask, .slice none 0 0, .int .i64 0, .int .i64 0, .int .i64 0, .pointer none, .slice none 0 0, .int .i64 0]) :
    ∃ ρ, MaA w W ρ mb vp fuel ask st00 [] [] [] (.slice none 0 0) (.slice none 0 0) := by
  refine ⟨fun k => if k < w.heap.size then (9, 0) else (5, 0), hB, hmb, ?_, World.ownsRow_nil _ _ _ _, fun g hg => (by cases hg), World.ownsRow_nil _ _ _ _, fun g hg => (by cases hg), rfl, fun i f x hf => (by cases hf), rfl, rfl, fun k o b v h => (by cases h), fun k hk => (by cases hk), hb, fun k hk => ?_⟩
  · show (if _ then _ else _) = _
    rw [if_neg (by omega)]
  · show (if _ then _ else _) = _
    rw [if_pos hk]
def startM (p : List LClass) (c slot : Int) (args : List Int) : MaSt := begSt p { st00 with objs := [⟨c, (fieldsOf p c).map firstV⟩] } 0 c slot (args.map numbV)
def RunR (p : List LClass) (c slot : Int) (R : MaSt × Int) (w w' : World) (e : Ending) : Prop :=
  ∃ vpr, e = .returned (.agg #[.int .i64 R.2, .int .i64 (if R.2 = 1 then tellV R.1 R.1.told (findM p c slot).ret else 0), vpr, .int .i64 (R.1.steps : Int)]) ∧ w'.ownsRow w.heap.size 3 1 vpr R.1.out.length (R.1.out.map (Value.int .i64)) ∧ Below w.heap.size w w'
set_option maxHeartbeats 1000000 in
set_option maxRecDepth 100000 in
theorem ma_run (p : List LClass) (vp : Value) (c slot : Int) (args : List Int) (va : Value) (fuel : Int) (w : World) (hp : RProg w vp p) (G : Good p) (hal : ∀ a b, (methOf p a b).isSome = true → 0 ≤ a → a < (p.length : Int) → (findM p a b).args.length ≤ 4194303) (c0 : 0 ≤ c) (c1 : c < (p.length : Int)) (hm : (methOf p c slot).isSome = true) (hva : SlAt 1 (RInt w) va args) (hl : 1 + (args.length : Int) ≤ (findM p c slot).locals) (hl8 : (findM p c slot).locals ≤ 8) (hfu : fuel ≤ 5000) (hf0 : 0 ≤ fuel)
    (N : Nat) (R : MaSt × Int) (hok : RunOk p fuel N (startM p c slot args)) (hrun : runM p fuel N (startM p c slot args) = some R) (ask : Bool) (hask : ask = true ∨ R.2 ≠ 5) :
    Calls Tryz.prog 62 #[.agg #[vp], .int .i64 c, .int .i64 slot, va, .int .i64 fuel, .bool ask] w fun e w' => RunR p c slot R w w' e := by
  obtain ⟨i0, hi0, hz0, hz1, hz2⟩ := info_parts infoVal
  have HASK := hide hask
  clear hask
  have HP := hide hp
  have HR := hide (And.intro hok hrun)
  obtain ⟨aa, ab, aoff, acap, rfl, hac, haa, har⟩ := sl_open hva
  obtain ⟨pa, _, _, pcap, rfl, _⟩ := hp
  clear hok hrun hva
  go_enter Tryz.func62, Tryz.ntmps62
  go_wp2_with fail
  generalize hW1 : (w.alloc _).alloc _ = W1
  have hbe1 : Below w.heap.size w W1 := by rw [← hW1]; exact box2_below _ _ _
  have hsz1 : W1.heap.size = w.heap.size + 1 + 1 := by rw [← hW1]; simp
  have A1 : Blk W1 (w.heap.size + 1) 69 [.int .i64 0, .int .i64 0, .slice none 0 0, .int .i64 0] := by
    rw [← hW1]
    have := Blk.new (w.alloc (.cells #[.slice pa p.length pcap] 24)) #[.int .i64 0, .int .i64 0, .slice none 0 0, .int .i64 0] 69
    rw [World.size_alloc] at this
    exact this
  clear hW1
  have B2 := Blk.new W1 #[.slice pa p.length pcap, .int .i64 fuel, .bool ask, .slice none 0 0, .int .i64 0, .int .i64 0, .int .i64 0, .pointer none, .slice none 0 0, .int .i64 0] 172
  have hbe2 := box_below W1 (.cells #[.slice pa p.length pcap, .int .i64 fuel, .bool ask, .slice none 0 0, .int .i64 0, .int .i64 0, .int .i64 0, .pointer none, .slice none 0 0, .int .i64 0] 172)
  generalize W1.alloc _ = W at *
  have hbel : Below w.heap.size w W := hbe1.trans (hbe2.mono hbe1.size)
  rw [← hsz1]
  obtain ⟨mb, hmb⟩ : ∃ mb, mb = W1.heap.size := ⟨_, rfl⟩
  obtain ⟨bo, hbo⟩ : ∃ bo, bo = w.heap.size + 1 := ⟨_, rfl⟩
  rw [← hbo] at A1 ⊢
  rw [← hmb] at B2 ⊢
  have hb1 : w.heap.size < bo := by omega
  have hb2 : bo < mb := by omega
  have lm := B2.lt
  have HRP1 := hide (prog_keep (Keeps.of_below hbe1) (unhide HP))
  have HMB := hide hmb
  clear hbo hmb hsz1
  have hal8 : args.length ≤ 7 := by omega
  go_loopw [14, 25] (fun v i wr => ∃ (k : Nat), k ≤ args.length ∧ i = .int .i64 k ∧ wr.ownsRow W.heap.size 170 3 v k (encL [] ((args.take k).map numbV)) ∧ Below W.heap.size W wr) (fun _ i _ => args.length - (intOf i).toNat)
  case atStart => exact ⟨0, Nat.zero_le _, rfl, World.ownsRow_nil _ _ _ _, Below.refl _ _⟩
  case round =>
    obtain ⟨k, hk, rfl, hO, hbr⟩ := hrel
    obtain ⟨ra, rcap, rfl⟩ := own_form hO
    by_cases hlt : k < args.length
    · obtain rfl := haa (ne_nil_of_lt hlt)
      have r0 := har k hlt
      unfold RInt GInt at r0
      have hbwr := hbel.trans (hbr.mono hbel.size)
      have r1 := Keeps.of_below hbwr _ _ r0
      have htk : args[k]? = some args[k] := List.getElem?_eq_getElem hlt
      generalize args[k] = an at *
      rw [Nat.mul_one] at r1
      have k0 : (0 : Int) ≤ (k : Int) := by omega
      have k1 : (k : Int) < (args.length : Int) := by omega
      have HO := hide hO
      have HTK := hide htk
      clear r0 hO htk har
      go_wp2_with fail
      refine (ma_number an _).mono ?_
      rintro e w2 ⟨rfl, hb2'⟩
      have hb12 := hbr.trans (hb2'.mono hbr.size)
      have hO2 := own_mods (unhide HO) (Mods.of_below hb2') (fun g hg e => by have := ((unhide HO).lt g hg).2; omega)
      obtain ⟨v3, w3, happ, hO3, hM3, hv3⟩ := app_ex (P := Tryz.prog) (W := w2) 173 173 170 i0 _ 3 24 Tryz.underlying173 hi0 hz0 hz1 hz2 rfl (by decide) W.heap.size _ _ _ hO2 #[.int .i64 0, .int .i64 an, .pointer none] rfl (fun v hv => by simp only [List.mem_cons, List.not_mem_nil, or_false] at hv; rcases hv with rfl | rfl | rfl <;> rfl) w2.heap.size rfl (by unfold maxLen; omega) (by omega) hb12.size
      obtain ⟨a3, cap3, rfl⟩ := own_form hO3
      have HN : Hid (w3.ownsRow W.heap.size 170 3 (.slice a3 (k + 1) cap3) (k + 1) (encL [] ((args.take (k + 1)).map numbV)) ∧ Below W.heap.size W w3) := by
        refine ⟨?_, hb12.trans (hM3.below hb12.size (fun g hg e => by have := (hO2.lt g e).1; omega))⟩
        rw [List.take_add_one, unhide HTK, List.map_append, encL_app]
        exact hO3
      clear hO3 hM3 hv3 hO2
      go_wp2_with (refine wpList_append_run rfl (.tmp 29) (.tmp 32) 173 rfl _ _ rfl rfl happ ?_)
      refine ⟨⟨k + 1, by omega, by go_num, unhide HN⟩, by simp [intOf]; omega⟩
    · obtain rfl : k = args.length := by omega
      rw [List.take_length] at hO
      have hbwr := hbel.trans (hbr.mono hbel.size)
      have C2 := B2.below hbr B2.lt
      have hb1r : Below W1.heap.size W1 wr := hbe2.trans (hbr.mono hbe2.size)
      obtain ⟨ρ0, hA0⟩ := MaA.start hb1r (Nat.le_of_eq (unhide HMB).symm) C2
      have HO := hide hO
      have hW0 := hbel.size
      have HA0 := hide hA0
      clear hO har haa hA0 C2 hbr
      go_wp2_with fail
      refine (ma_create p _ c W1 wr mb fuel ask (.slice none 0 0) 0 [] ⟨0, 0, none⟩ (.slice none 0 0) 0 (unhide HRP1) hb1r (Nat.le_of_eq (unhide HMB).symm) (unhide HA0).mach G.sup G.sz c0 c1 (by omega)).mono ?_
      rintro e w2 ⟨b, v, rfl, O, hMb, hM⟩
      obtain ⟨ρ1, hA1⟩ := (unhide HA0).newObj O hMb hM
      have HA1 := hide hA1
      have hO2 := own_mods (unhide HO) hM (fun g hg e => by have := ((unhide HO).lt g hg).1; omega)
      have hml : (args.map numbV).length = args.length := by simp
      have hnil : ra = none → (args.map numbV).length = 0 ∧ rcap = 0 := fun e => by
        rcases hO2.2 with ⟨e1, e2⟩ | ⟨g, cp, cur, e1, _⟩
        · simp only [Value.slice.injEq] at e1; exact ⟨by rw [hml]; omega, e1.2.2⟩
        · rw [e] at e1; simp at e1
      have hen : encL ([] ++ [b]) (args.map numbV) = encL [] (args.map numbV) := encL_more [] [b] (fun u hu => by obtain ⟨t, _, rfl⟩ := List.mem_map.1 hu; exact numbV_ok _ t)
      have hrd : ∀ ad, ra = some ad → ∀ j u, (encL ([] ++ [b]) (args.map numbV))[j]? = some u → w2.cell? (ad.add j) = some u := fun ad e j u hu => by
        rw [hen] at hu
        have hj : j < (encL [] (args.map numbV)).length := (List.getElem?_eq_some_iff.1 hu).1
        rw [encL_len, hml] at hj
        obtain ⟨g, cp, e1, _, _, hr⟩ := own_read hO2 (by omega)
        rw [e] at e1
        simp only [Value.slice.injEq, Option.some.injEq, true_and] at e1
        obtain ⟨rfl, rfl⟩ := e1
        rw [addr_plus, Nat.zero_add, hr j hj]
        exact hu
      have HB := hide (ma_begin p _ W1 w2 ρ1 mb fuel ask _ ([] ++ [b]) [] _ _ _ hA1 (unhide HRP1) G.sup G.sz 0 ⟨c, (fieldsOf p c).map firstV⟩ b rfl rfl slot (args.map numbV) ra rcap c0 c1 hm hnil hrd (by rw [hml]; exact hl) hl8 (fun u hu => by obtain ⟨t, _, rfl⟩ := List.mem_map.1 hu; exact numbV_ok _ t) (by simp))
      rw [hml] at HB
      clear O hMb hM hA1 hO2 hnil hen hrd hml
      go_wp2_with fail
      refine (unhide HB).mono ?_
      rintro e w3 ⟨rfl, hX3⟩
      have HWI : Hid (WorkI p W1 mb (.slice pa p.length pcap) fuel ask R w3) := ⟨N, startM p c slot args, [] ++ [b], (unhide HR).1, (unhide HR).2, hf0, hX3⟩
      clear hX3 HB HA1
      go_wp2_with fail
      refine (ma_work p _ W1 w3 mb fuel ask R (unhide HASK) (unhide HWI) hfu G (unhide HRP1) hal).mono ?_
      rintro e w4 ⟨rfl, A4, ρ4, X4, Y4, vr4, vpr4, hA4⟩
      have HA4 := hide hA4
      have E1 := A1.below hA4.bel A1.lt
      obtain ⟨pra, prc, rfl⟩ := own_form hA4.prn
      have n8 : w4.cell? ⟨mb, 8, none⟩ = some (.slice pra R.1.out.length prc) := hA4.mach.cell 8
      have n9 : w4.cell? ⟨mb, 9, none⟩ = some (.int .i64 (R.1.steps : Int)) := hA4.mach.cell 9
      have lE := E1.lt
      have hz1' := hbe1.size
      have hbw4 := hbe1.trans (hA4.bel.mono hbe1.size)
      have T4 := Blk.new w4 #[.int .i64 R.2, .int .i64 0, .slice pra R.1.out.length prc, .int .i64 (R.1.steps : Int)] 69
      have hb4a := box_below w4 (.cells #[.int .i64 R.2, .int .i64 0, .slice pra R.1.out.length prc, .int .i64 (R.1.steps : Int)] 69)
      have E4 := E1.alloc (.cells #[.int .i64 R.2, .int .i64 0, .slice pra R.1.out.length prc, .int .i64 (R.1.steps : Int)] 69)
      have HA5 := hide ((unhide HA4).below hb4a (Nat.le_refl _))
      have HPR := hide (And.intro (own_base (unhide HA4).prn hbe1.size) hbw4)
      clear hA4 HWI
      cases hk : R.2 == 1 with
      | false =>
        have HV : Hid ((if R.2 = 1 then tellV R.1 R.1.told (findM p c slot).ret else 0) = 0) := if_neg (by simpa using hk)
        go_wp2_with (first
          | refine wpList_load_blk aggOut T4 0 [.int .i64 R.2, .int .i64 0, .slice pra R.1.out.length prc, .int .i64 (R.1.steps : Int)] rfl (fun j u e => by simpa using e) (.tmp 18) rfl rfl rfl ?_
          | (refine wpList_store_blk aggOut E4 0 [.int .i64 R.2, .int .i64 0, .slice pra R.1.out.length prc, .int .i64 (R.1.steps : Int)] rfl (by simp) (fun v hv => by simp only [List.mem_cons, List.not_mem_nil, or_false] at hv; rcases hv with rfl | rfl | rfl | rfl <;> rfl) (.tmp 12) (.tmp 57) rfl rfl rfl rfl ?_; intro w6 hB6 hM6 hs6; rw [putAt_all (by rfl)] at hB6))
        refine bodyPost_ret (results_blk rfl aggOut hB6 rfl rfl) rfl ?_
        obtain ⟨hpr, hbf⟩ := unhide HPR
        have hbf2 := hbf.trans (hb4a.mono hbf.size)
        refine ⟨_, by rw [unhide HV], ?_, hbf2.trans (hM6.below hbf2.size (fun k hk e => by omega))⟩
        have hp2 := own_mods hpr (Mods.of_below hb4a) (fun g hg e => by have := (hpr.lt g hg).2; omega)
        exact own_mods hp2 hM6 (fun g hg e => by
          obtain ⟨cur, hcu⟩ := own_blk hp2 hg
          rw [e] at hcu
          exact absurd (hcu.uniq E4) (by decide))
      | true =>
        have HV : Hid ((if R.2 = 1 then tellV R.1 R.1.told (findM p c slot).ret else 0) = tellV R.1 R.1.told (findM p c slot).ret) := if_pos (by simpa using hk)
        have t0 : (w4.alloc (.cells #[.int .i64 R.2, .int .i64 0, .slice pra R.1.out.length prc, .int .i64 (R.1.steps : Int)] 69)).cell? ⟨mb, 5, none⟩ = some (.int .i64 R.1.told.kind) := (unhide HA5).mach.cell 5
        have t1 : (w4.alloc (.cells #[.int .i64 R.2, .int .i64 0, .slice pra R.1.out.length prc, .int .i64 (R.1.steps : Int)] 69)).cell? ⟨mb, 6, none⟩ = some (.int .i64 R.1.told.num) := (unhide HA5).mach.cell 6
        have t2 : (w4.alloc (.cells #[.int .i64 R.2, .int .i64 0, .slice pra R.1.out.length prc, .int .i64 (R.1.steps : Int)] 69)).cell? ⟨mb, 7, none⟩ = some (objP A4 R.1.told.obj) := (unhide HA5).mach.cell 7
        have tp : (w4.alloc (.cells #[.int .i64 R.2, .int .i64 0, .slice pra R.1.out.length prc, .int .i64 (R.1.steps : Int)] 69)).cell? ⟨mb, 0, none⟩ = some (.slice pa p.length pcap) := (unhide HA5).mach.cell 0
        go_wp2_with fail
        have l4 : w4.heap.size < (w4.alloc (.cells #[.int .i64 R.2, .int .i64 0, .slice pra R.1.out.length prc, .int .i64 (R.1.steps : Int)] 69)).heap.size := by simp
        generalize w4.alloc _ = U4 at *
        refine wp_region_noPanic ?_
        refine wp_region_held_drew (S := (fun w' => w'.cell? ⟨mb, 5, none⟩ = some (.int .i64 R.1.told.kind) ∧ w'.cell? ⟨mb, 6, none⟩ = some (.int .i64 R.1.told.num) ∧ w'.cell? ⟨mb, 7, none⟩ = some (objP A4 R.1.told.obj))) (by kernel_rfl) ?_ (fun hHeld => ?_)
        · exact ⟨t0, t1, t2⟩
        refine take_x (some 49) 0 rfl rfl ?_
        refine take_x (some 50) 1 rfl rfl ?_
        refine take_x (some 51) 2 rfl rfl ?_
        refine take_x (some 52) 3 rfl rfl ?_
        refine wpAnyH_ready (rs := [4]) (by kernel_rfl) (by simp) ?_
        refine AllReadyH.cons rfl (fun K hK => ?_) AllReadyH.nil
        go_simp
        refine (ma_find p _ c slot W1 U4.drew mb (unhide HRP1) (unhide HA5).bel.drew tp G.sup G.sz c0 c1 hm).mono ?_
        rintro e w5 ⟨ma, mco, mf, rfl, hG5, hb5⟩
        have hb5' : Below U4.heap.size U4 w5 := ⟨hb5.os, hb5.tape, hb5.output, hb5.size, hb5.block⟩
        have k5 := Keeps.of_below hb5'
        have HS5 := hide (And.intro (k5 _ _ t0) (And.intro (k5 _ _ t1) (k5 _ _ t2)))
        have HA6 := hide ((unhide HA5).below hb5' (Nat.le_refl _))
        have T5 := T4.below hb5' T4.lt
        have E5 := E4.below hb5' E4.lt
        have hot := (unhide HA4).okt
        unfold methV
        clear hG5
        go_wp2_with fail
        refine hK.out _ _ (unhide HS5) (fun hHeld => ?_)
        clear hK K
        try simp only [Act.put, List.setIfInBounds_toArray, List.set_cons_zero, List.set_cons_succ]
        refine take_x (some 54) 5 rfl rfl ?_
        refine wpAnyH_ready (rs := [6]) (by kernel_rfl) (by simp) ?_
        refine AllReadyH.cons rfl (fun K hK => ?_) AllReadyH.nil
        go_simp
        have hTL := ma_tell W1 w5 _ mb _ fuel ask R.1 A4 X4 Y4 _ _ (unhide HA6) R.1.told (findM p c slot).ret hot
        unfold encV at hTL
        refine hTL.mono ?_
        rintro e w6 ⟨rfl, hb6⟩
        have hb6' := hb5'.trans (hb6.mono hb5'.size)
        have k6 := Keeps.of_below hb6'
        have HS6 := hide (And.intro (k6 _ _ t0) (And.intro (k6 _ _ t1) (k6 _ _ t2)))
        have T6 := T5.below hb6 T5.lt
        have E6 := E5.below hb6 E5.lt
        rw [← unhide HV]
        generalize hvv : (if R.2 = 1 then tellV R.1 R.1.told (findM p c slot).ret else 0) = vv at *
        have HVV := hide hvv
        clear hvv hTL
        go_wp2_with fail
        refine hK.out _ _ (unhide HS6) (fun hHeld => ?_)
        clear hK K
        try simp only [Act.put, List.setIfInBounds_toArray, List.set_cons_zero, List.set_cons_succ]
        refine take_x (some 56) 7 rfl rfl ?_
        have c61 : w6.cell? ⟨w4.heap.size, 1, none⟩ = some (.int .i64 0) := T6.cell 1
        have f61 := T6.frozen 1
        have T7 := T6.setCell 1 (.int .i64 vv)
        have E7 := E6.setCell_ne (p := ⟨w4.heap.size, 1, none⟩) (by dsimp only; omega) (.int .i64 vv)
        have hM7 : Mods (fun k => k = w4.heap.size) w6 (w6.setCell ⟨w4.heap.size, 1, none⟩ (.int .i64 vv)) := (Mods.refl (fun k => k = w4.heap.size) w6).setCell (p := ⟨w4.heap.size, 1, none⟩) (fun _ => rfl) _
        have hmb4 : mb < w4.heap.size := (unhide HA4).lt
        refine wpAnyH_ready (rs := [8]) (by kernel_rfl) (by simp) ?_
        refine AllReadyH.cons rfl (fun K hK => ?_) AllReadyH.nil
        go_simp
        refine hK.out _ _ ⟨hM7.cell (unhide HS6).1 (by dsimp only; omega), hM7.cell (unhide HS6).2.1 (by dsimp only; omega), hM7.cell (unhide HS6).2.2 (by dsimp only; omega)⟩ (fun hHeld => ?_)
        clear hK K
        try simp only [Act.put, List.setIfInBounds_toArray, List.set_cons_zero, List.set_cons_succ]
        refine wpAnyH_done (by kernel_rfl) ?_ _
        refine NoPanic.normal ?_
        change Blk _ w4.heap.size 69 [.int .i64 R.2, .int .i64 vv, .slice pra R.1.out.length prc, .int .i64 (R.1.steps : Int)] at T7
        generalize w6.setCell _ _ = U7 at *
        go_wp2_with (first
          | refine wpList_load_blk aggOut T7 0 [.int .i64 R.2, .int .i64 vv, .slice pra R.1.out.length prc, .int .i64 (R.1.steps : Int)] rfl (fun j u e => by simpa using e) (.tmp 18) rfl rfl rfl ?_
          | (refine wpList_store_blk aggOut E7 0 [.int .i64 R.2, .int .i64 vv, .slice pra R.1.out.length prc, .int .i64 (R.1.steps : Int)] rfl (by simp) (fun v hv => by simp only [List.mem_cons, List.not_mem_nil, or_false] at hv; rcases hv with rfl | rfl | rfl | rfl <;> rfl) (.tmp 12) (.tmp 57) rfl rfl rfl rfl ?_; intro w8 hB8 hM8 hs8; rw [putAt_all (by rfl)] at hB8))
        refine bodyPost_ret (results_blk rfl aggOut hB8 rfl rfl) rfl ?_
        obtain ⟨hpr, hbf⟩ := unhide HPR
        have hb46 : Below w4.heap.size w4 w6 := hb4a.trans (hb6'.mono hb4a.size)
        have hp2 := own_mods hpr (Mods.of_below hb46) (fun g hg e => by have := (hpr.lt g hg).2; omega)
        have hp3 := own_mods hp2 hM7 (fun g hg e => by have := (hpr.lt g hg).2; omega)
        have hbf2 := hbf.trans (hb46.mono hbf.size)
        have hbf3 := hbf2.trans (hM7.below hbf2.size (fun k hk e => by have := hbf.size; omega))
        refine ⟨_, by rw [unhide HVV], ?_, hbf3.trans (hM8.below hbf3.size (fun k hk e => by omega))⟩
        exact own_mods hp3 hM8 (fun g hg e => by
          obtain ⟨cur, hcu⟩ := own_blk hp3 hg
          rw [e] at hcu
          exact absurd (hcu.uniq E7) (by decide))
end Go.Proofs.YtiiokkllmchohaaGreat
