/- The solver: a round. -/
import Derived.Test.YtiiokkllmchohaaGreatT14
import Derived.Test.YtiiokkllmchohaaGreatT15
/- SolY -/
namespace Go.Proofs.YtiiokkllmchohaaGreat
open Go.RowKit Go.Shelf
attribute [local go_sem ↓] Go.wp_at_zero Go.wp_at_succ
attribute [local go_sem] frz_drew

def RoundR (p : List LClass) (k : Int) (r : Option (SvSt × Bool)) (bs : Nat) (vp : Value) (mc : List Value) (w w' : World) (e : Ending) : Prop :=
  (∀ s' b, r = some (s', b) → e = .returned (.bool b) ∧ SvAt w' bs vp mc s' ∧ SvTy p k s') ∧ (r = none → e = .panicked (refC 5)) ∧ Mods (fun k => k = bs) w w'
theorem RoundR.yes {p : List LClass} {k : Int} {r : Option (SvSt × Bool)} {s' : SvSt} {b : Bool} {bs : Nat} {vp : Value} {mc : List Value} {w w' : World} {e : Ending} (hr : r = some (s', b)) (he : e = .returned (.bool b)) (hS : SvAt w' bs vp mc s') (hT : SvTy p k s') (hM : Mods (fun k => k = bs) w w') : RoundR p k r bs vp mc w w' e :=
  ⟨fun s2 b2 e2 => (by rw [hr] at e2; simp only [Option.some.injEq, Prod.mk.injEq] at e2; obtain ⟨rfl, rfl⟩ := e2; exact ⟨he, hS, hT⟩), fun e2 => (by rw [hr] at e2; cases e2), hM⟩
theorem RoundR.no {p : List LClass} {k : Int} {r : Option (SvSt × Bool)} {bs : Nat} {vp : Value} {mc : List Value} {w w' : World} (hr : r = none) (hM : Mods (fun k => k = bs) w w') : RoundR p k r bs vp mc w w' (.panicked (refC 5)) :=
  ⟨fun s2 b2 e2 => (by rw [hr] at e2; cases e2), fun _ => rfl, hM⟩
theorem roundP_none {p : List LClass} {m : LMeth} {s : SvSt} {k : Nat} (h : roundP p m s k = none) : ∀ n, k ≤ n → roundP p m s n = none := by
  intro n hn
  induction n with
  | zero => obtain rfl : k = 0 := by omega
            exact h
  | succ n ih =>
    rcases Nat.lt_or_ge n k with h1 | h1
    · obtain rfl : k = n + 1 := by omega
      exact h
    · unfold roundP
      rw [ih h1]; rfl
def RoundI (p : List LClass) (m : LMeth) (s : SvSt) (bs : Nat) (vp : Value) (mc : List Value) (w : World) (k : Nat) (b : Bool) (V : World) : Prop :=
  ∃ s1, roundP p m s k = some (s1, b) ∧ SvAt V bs vp mc s1 ∧ SvTy p m.stack s1 ∧ Mods (fun k => k = bs) w V
set_option maxHeartbeats 1000000 in
set_option maxRecDepth 100000 in
theorem sv_goRound (p : List LClass) (vp : Value) (m : LMeth) (va vco vf : Value) (w0 w : World) (bs : Nat) (s : SvSt) (h : SvAt w bs vp (methCs m va vco vf) s) (hp : RProg w0 vp p) (hv : GVals w0.cell? m va vco vf) (hbw : Below w0.heap.size w0 w) (hbs : w0.heap.size ≤ bs)
    (h40 : m.code.length ≤ 40) (T : SvTy p m.stack s) (G : Good p) (M : MOk p m) (hins : ∀ i ∈ m.code, insB p m i = true) :
    Calls Tryz.prog 80 #[.pointer (some ⟨bs, 0, none⟩)] w fun e w' => RoundR p m.stack (roundP p m s m.code.length) bs vp (methCs m va vco vf) w w' e := by
  have HI0 : Hid (RoundI p m s bs vp (methCs m va vco vf) w 0 false w) := ⟨s, rfl, h, T, Mods.refl _ _⟩
  have HV := hide hv
  have HG := hide (And.intro G (And.intro M hins))
  obtain ⟨css, hC, hB⟩ := h
  obtain ⟨hva, hvc, hvf⟩ := hv
  obtain ⟨aa, _, _, acap, rfl, _⟩ := hva
  obtain ⟨fa, _, _, fcap, rfl, _⟩ := hvf
  obtain ⟨ca, _, _, ccap, rfl, _⟩ := hvc
  have m5 : w.cell? ⟨bs, 6, none⟩ = some (.slice ca m.code.length ccap) := hB.cell 6
  clear G M hins T hC hB
  have n40 : (m.code.length : Int) ≤ 40 := by omega
  go_enter Tryz.func80, Tryz.ntmps80
  go_wp2_with fail
  go_loopw [3, 11] (fun b i wr => ∃ (k : Nat) (q : Bool), k ≤ m.code.length ∧ i = .int .i64 k ∧ b = .bool q ∧ RoundI p m s bs vp (methCs m (.slice aa m.args.length acap) (.slice ca m.code.length ccap) (.slice fa m.frames.length fcap)) w k q wr) (fun _ i _ => m.code.length - (intOf i).toNat)
  case atStart => exact ⟨0, false, Nat.zero_le _, rfl, rfl, unhide HI0⟩
  case round =>
    obtain ⟨k, q, hk, rfl, rfl, hI⟩ := hrel
    obtain ⟨s1, hR, hA, hT, hM⟩ := hI
    have hbV : Below w0.heap.size w0 wr := hbw.trans (hM.below hbw.size (fun k hk e => by omega))
    by_cases hlt : k < m.code.length
    · have k0 : (0 : Int) ≤ (k : Int) := by omega
      have k40 : (k : Int) < 40 := by omega
      have k41 : (k : Int) < (m.code.length : Int) := by omega
      have HA := hide hA
      have HT := hide hT
      have HM := hide hM
      obtain ⟨css, hC, hB⟩ := hA
      have r0 : wr.cell? ⟨bs, 728 + k, none⟩ = some (.bool (s1.ra.getD k false)) := by rw [hB.cell]; exact sv_ra hC rfl (by omega)
      cases hra : s1.ra.getD k false with
      | false =>
        rw [hra] at r0
        have HI : Hid (RoundI p m s bs vp (methCs m (.slice aa m.args.length acap) (.slice ca m.code.length ccap) (.slice fa m.frames.length fcap)) w (k + 1) q wr) := by
          refine ⟨s1, ?_, unhide HA, hT, hM⟩
          show (roundP p m s k).bind (askP p m k) = _
          rw [hR]
          show askP p m k (s1, q) = _
          unfold askP
          rw [if_neg (by rw [hra]; decide)]
        clear hra hB hC hR hT hM
        go_wp2_with fail
        refine ⟨⟨k + 1, q, by omega, by go_num, rfl, unhide HI⟩, by simp [intOf]; omega⟩
      | true =>
        rw [hra] at r0
        have HS : Hid (roundP p m s (k + 1) = (goOnP p m k { s1 with ra := s1.ra.set k false }).map fun s' => (s', true)) := by
          show (roundP p m s k).bind (askP p m k) = _
          rw [hR]
          show askP p m k (s1, q) = _
          unfold askP
          rw [if_pos hra]
        have f0 := hB.frozen (728 + k)
        have hB2 := hB.setCell (728 + k) (.bool false)
        rw [sv_setra hC rfl (by omega)] at hB2
        have HA2 : Hid (SvAt (wr.setCell ⟨bs, 728 + k, none⟩ (.bool false)) bs vp (methCs m (.slice aa m.args.length acap) (.slice ca m.code.length ccap) (.slice fa m.frames.length fcap)) { s1 with ra := s1.ra.set k false }) := ⟨css, hC.setra k false, hB2⟩
        have HM2 := hide (hM.setCell (p := ⟨bs, 728 + k, none⟩) (fun _ => rfl) (.bool false))
        have hbV2 := hbV.setCell (p := ⟨bs, 728 + k, none⟩) hbs (.bool false)
        clear hra hB hC hR hT hM hB2
        go_wp2_with fail
        generalize wr.setCell _ _ = V at *
        refine (sv_goOn p vp m _ _ _ k w0 V bs _ (unhide HA2) hp (unhide HV) hbV2 hbs hlt h40 (unhide HT) (unhide HG).1 (unhide HG).2.1 (unhide HG).2.2).mono ?_
        rintro e V2 ⟨h1, h2, hM3⟩
        have HM3 := hide ((unhide HM2).trans hM3 (fun _ _ e => e))
        cases hg : goOnP p m k { s1 with ra := s1.ra.set k false } with
        | none =>
          obtain rfl := h2 hg
          have HN : Hid (roundP p m s m.code.length = none) := roundP_none (k := k + 1) (by rw [unhide HS, hg]; rfl) _ (by omega)
          clear hg h1 h2 hM3
          go_wp2_with fail
          exact ⟨rfl, RoundR.no (unhide HN) (unhide HM3)⟩
        | some s2 =>
          obtain ⟨rfl, hA2, hT2⟩ := h1 s2 hg
          have HI : Hid (RoundI p m s bs vp (methCs m (.slice aa m.args.length acap) (.slice ca m.code.length ccap) (.slice fa m.frames.length fcap)) w (k + 1) true V2) :=
            ⟨s2, by rw [unhide HS, hg]; rfl, hA2, hT2, unhide HM3⟩
          clear hg h1 h2 hM3 hA2 hT2
          go_wp2_with fail
          refine ⟨⟨k + 1, true, by omega, by go_num, rfl, unhide HI⟩, by simp [intOf]; omega⟩
    · obtain rfl : k = m.code.length := by omega
      have HF := hide (RoundR.yes hR rfl hA hT hM)
      clear hR hA hT hM
      go_wp2_with fail
      go_ret
      exact unhide HF
end Go.Proofs.YtiiokkllmchohaaGreat
/- What a state tells as a frame: State.Frame. -/
namespace Go.Proofs.YtiiokkllmchohaaGreat
open Go.RowKit Go.Shelf
attribute [local go_sem ↓] Go.wp_at_zero Go.wp_at_succ
attribute [local go_sem] frz_drew

theorem addr_plus (b off j : Nat) : (⟨b, off, none⟩ : Addr).add j = ⟨b, off + j, none⟩ := by unfold Addr.add; split <;> simp_all
theorem aggFr : AggOk Tryz.prog 42 3 := ⟨by kernel_rfl, by kernel_rfl⟩
def FrR (s : TSt) (pc : Int) (n : Nat) (w w' : World) (e : Ending) : Prop :=
  ∃ vl vs, e = .returned (.agg #[.int .i64 pc, vl, vs]) ∧ w'.ownsRow w.heap.size 43 1 vl n ((s.loc.take n).map (Value.int .i64)) ∧ w'.ownsRow w.heap.size 43 1 vs s.stk.length (s.stk.map (Value.int .i64)) ∧
    (∀ g, vl.ownBlock = some g → vs.ownBlock ≠ some g) ∧ Below w.heap.size w w'
set_option maxHeartbeats 1000000 in
set_option maxRecDepth 100000 in
theorem st_frame (s : TSt) (cs : List Value) (pc : Int) (n : Nat) (w : World) (hS : StC s cs) (hn : n ≤ 8) :
    Calls Tryz.prog 146 #[.agg cs.toArray, .int .i64 pc, .int .i64 (n : Int)] w fun e w' => FrR s pc n w w' e := by
  obtain ⟨i0, hi0, hz0, hz1, hz2⟩ := info_parts infoType
  have s8 := hS.ok.2
  have l8 := hS.ok.1
  have hcl := hS.len
  have n0 : (0 : Int) ≤ (n : Int) := by omega
  have n8 : (n : Int) ≤ 8 := by omega
  have k0 : (0 : Int) ≤ (s.stk.length : Int) := by omega
  have k8 : (s.stk.length : Int) ≤ 8 := by omega
  go_enter Tryz.func146, Tryz.ntmps146
  go_wp2_with fail
  have hbel : Below w.heap.size w ((w.alloc (.cells cs.toArray 130)).alloc (.cells #[.int .i64 0, .slice none 0 0, .slice none 0 0] 42)) := box2_below _ _ _
  have B0 := (Blk.new w cs.toArray 130).alloc (.cells #[.int .i64 0, .slice none 0 0, .slice none 0 0] 42)
  have B1 := Blk.new (w.alloc (.cells cs.toArray 130)) #[.int .i64 0, .slice none 0 0, .slice none 0 0] 42
  rw [World.size_alloc] at B1
  generalize (w.alloc _).alloc _ = W at *
  have c16 : W.cell? ⟨w.heap.size, 16, none⟩ = some (.int .i64 (s.stk.length : Int)) := by rw [B0.cell]; exact hS.ht
  refine wp_region_noPanic ?_
  refine wp_region_held_drew (S := (fun w' => w'.cell? ⟨w.heap.size, 16, none⟩ = some (.int .i64 (s.stk.length : Int)))) (by kernel_rfl) ?_ (fun hHeld => ?_)
  · exact c16
  refine take_x (some 7) 0 rfl rfl ?_
  try simp only [Act.put, List.setIfInBounds_toArray, List.set_cons_zero, List.set_cons_succ]
  refine take_x (some 8) 1 rfl rfl ?_
  try simp only [Act.put, List.setIfInBounds_toArray, List.set_cons_zero, List.set_cons_succ]
  refine take_x (some 9) 2 rfl rfl ?_
  try simp only [Act.put, List.setIfInBounds_toArray, List.set_cons_zero, List.set_cons_succ]
  refine take_x (some 10) 3 rfl rfl ?_
  try simp only [Act.put, List.setIfInBounds_toArray, List.set_cons_zero, List.set_cons_succ]
  refine take_x (some 12) 5 rfl rfl ?_
  try simp only [Act.put, List.setIfInBounds_toArray, List.set_cons_zero, List.set_cons_succ]
  refine take_x (some 13) 6 rfl rfl ?_
  try simp only [Act.put, List.setIfInBounds_toArray, List.set_cons_zero, List.set_cons_succ]
  refine take_x (some 14) 7 rfl rfl ?_
  try simp only [Act.put, List.setIfInBounds_toArray, List.set_cons_zero, List.set_cons_succ]
  refine take_x (some 15) 8 rfl rfl ?_
  try simp only [Act.put, List.setIfInBounds_toArray, List.set_cons_zero, List.set_cons_succ]
  refine wpAnyH_ready (rs := [4]) (by kernel_rfl) (by simp) ?_
  refine AllReadyH.cons rfl (fun K hK => ?_) AllReadyH.nil
  have hsrc1 : ∀ ad, some (⟨w.heap.size, 0, none⟩ : Addr) = some ad → ∀ j u, ((s.loc.take n).map (Value.int .i64))[j]? = some u → W.cell? (ad.add j) = some u := fun ad e j u h => by
    obtain rfl := Option.some.inj e
    rw [addr_plus, B0.cell]
    rw [List.getElem?_map] at h
    obtain ⟨x, hx, rfl⟩ := Option.map_eq_some_iff.1 h
    rw [Nat.zero_add]
    rw [List.getElem?_take] at hx
    split at hx
    · exact hS.loc j x hx
    · cases hx
  refine wp_append_sl (.const (.slice none 0 0)) (.tmp 10) 40 rfl w.heap.size 43 i0 (.int .i64 0) 1 8 Tryz.underlying40 hi0 hz0 hz1 hz2 rfl (by decide) (.slice none 0 0) 0 [] rfl (World.ownsRow_nil _ _ _ _) (some ⟨w.heap.size, 0, none⟩) n 8 ((s.loc.take n).map (Value.int .i64)) rfl (by simp; omega) (fun e => by cases e) hsrc1 (oneCell_ints _) (by unfold maxLen; omega) (by omega) hbel.size ?_
  intro v1 w1 hown1 hg1 hat1
  rw [Nat.zero_add, List.nil_append] at hown1
  obtain ⟨a1, cap1, rfl⟩ := own_form hown1
  have hm1 : Mods (fun _ => False) W w1 := ((Mods.refl _ W).drew).grown hg1 (fun k e _ => by cases e)
  have hbw1 : Below w.heap.size w w1 := hbel.trans (hm1.below hbel.size (fun _ _ f => f))
  have B01 := B0.mods hm1 (fun f => f)
  have B11 := B1.mods hm1 (fun f => f)
  have c161 : w1.cell? ⟨w.heap.size, 16, none⟩ = some (.int .i64 (s.stk.length : Int)) := by rw [B01.cell]; exact hS.ht
  go_simp
  refine hK.out _ _ c161 (fun hHeld => ?_)
  clear hK K
  try simp only [Act.put, List.setIfInBounds_toArray, List.set_cons_zero, List.set_cons_succ]
  have hsrc2 : ∀ ad, some (⟨w.heap.size, 8, none⟩ : Addr) = some ad → ∀ j u, (s.stk.map (Value.int .i64))[j]? = some u → w1.cell? (ad.add j) = some u := fun ad e j u h => by
    obtain rfl := Option.some.inj e
    rw [addr_plus, B01.cell]
    rw [List.getElem?_map] at h
    obtain ⟨x, hx, rfl⟩ := Option.map_eq_some_iff.1 h
    exact hS.stk j x hx
  refine wpAnyH_ready (rs := [9]) (by kernel_rfl) (by simp) ?_
  refine AllReadyH.cons rfl (fun K hK => ?_) AllReadyH.nil
  refine wp_append_sl (.const (.slice none 0 0)) (.tmp 15) 40 rfl w.heap.size 43 i0 (.int .i64 0) 1 8 Tryz.underlying40 hi0 hz0 hz1 hz2 rfl (by decide) (.slice none 0 0) 0 [] rfl (World.ownsRow_nil _ _ _ _) (some ⟨w.heap.size, 8, none⟩) s.stk.length 8 (s.stk.map (Value.int .i64)) rfl (by simp) (fun e => by cases e) hsrc2 (oneCell_ints _) (by unfold maxLen; omega) (by omega) hbw1.size ?_
  intro v2 w2 hown2 hg2 hat2
  rw [Nat.zero_add, List.nil_append] at hown2
  obtain ⟨a2, cap2, rfl⟩ := own_form hown2
  have hm2 : Mods (fun _ => False) w1 w2 := (Mods.refl _ w1).grown hg2 (fun k e _ => by cases e)
  have hbw2 : Below w.heap.size w w2 := hbw1.trans (hm2.below hbw1.size (fun _ _ f => f))
  have B12 := B11.mods hm2 (fun f => f)
  have c162 : w2.cell? ⟨w.heap.size, 16, none⟩ = some (.int .i64 (s.stk.length : Int)) := hm2.cell c161 (fun f => f)
  have hown1' := own_mods hown1 hm2 (fun _ _ f => f)
  go_simp
  refine hK.out _ _ c162 (fun hHeld => ?_)
  clear hK K
  try simp only [Act.put, List.setIfInBounds_toArray, List.set_cons_zero, List.set_cons_succ]
  refine take_x (some 17) 10 rfl rfl ?_
  try simp only [Act.put, List.setIfInBounds_toArray, List.set_cons_zero, List.set_cons_succ]
  refine wpAnyH_ready (rs := [11]) (by kernel_rfl) (by simp) ?_
  refine AllReadyH.cons rfl (fun K hK => ?_) AllReadyH.nil
  refine wp_store_blk aggFr B12 0 [.int .i64 pc, .slice a1 n cap1, .slice a2 s.stk.length cap2] rfl (by simp) (fun v hv => by
    simp only [List.mem_cons, List.not_mem_nil, or_false] at hv
    rcases hv with rfl | rfl | rfl <;> rfl) (.tmp 6) (.tmp 17) rfl rfl rfl ?_
  intro w3 hB3 hM3 hs3
  rw [putAt_all (by rfl)] at hB3
  have c163 : w3.cell? ⟨w.heap.size, 16, none⟩ = some (.int .i64 (s.stk.length : Int)) := hM3.cell c162 (by dsimp only; omega)
  refine hK.out _ _ c163 (fun hHeld => ?_)
  clear hK K
  try simp only [Act.put]
  refine wpAnyH_done (by kernel_rfl) ?_ _
  refine NoPanic.normal ?_
  have HF : Hid (FrR s pc n w w3 (.returned (.agg #[.int .i64 pc, .slice a1 n cap1, .slice a2 s.stk.length cap2]))) := by
    have b1 := B1.lt
    have z1 := hm1.size
    refine ⟨_, _, rfl, ?_, ?_, fun g h1 h2 => ?_, hbw2.trans (hM3.below hbw2.size (fun k hk e => by omega))⟩
    · have := own_mods hown1' hM3 (fun g hg e => by
        rcases hat1 with h | h
        · rw [h] at hg; cases hg
        · rw [h] at hg; cases hg; change W.heap.size = _ at e; omega)
      simpa using this
    · have := own_mods hown2 hM3 (fun g hg e => by
        rcases hat2 with h | h
        · rw [h] at hg; cases hg
        · rw [h] at hg; cases hg; omega)
      simpa using this
    · have l1 := (hown1'.lt g h1).2
      rcases hat1 with h | h
      · rw [h] at h1; cases h1
      · rcases hat2 with h' | h'
        · rw [h'] at h2; cases h2
        · rw [h'] at h2; cases h2
          have := (hown1.lt _ h1).2
          omega
  go_wp2_with fail
  refine bodyPost_ret (results_blk rfl aggFr hB3 rfl rfl) rfl ?_
  exact unhide HF
end Go.Proofs.YtiiokkllmchohaaGreat
/- The solver: the frames that it tells. -/
namespace Go.Proofs.YtiiokkllmchohaaGreat
open Go.RowKit Go.Shelf
attribute [local go_sem ↓] Go.wp_at_zero Go.wp_at_succ
attribute [local go_sem] frz_drew

def frmL (m : LMeth) (s : SvSt) : Nat → List LFrame
  | 0 => []
  | k + 1 => frmL m s k ++ (if s.re.getD k false then [⟨(k : Int), (s.st.getD k zeroS).loc.take m.locals.toNat, (s.st.getD k zeroS).stk⟩] else [])
def FrCs (w : World) (B : Nat) : List Value → List LFrame → Prop
  | cs, [] => cs = []
  | cs, f :: l => ∃ b c r, cs = .int .i64 f.pc :: b :: c :: r ∧ w.ownsRow B 43 1 b f.locals.length (f.locals.map (Value.int .i64)) ∧ w.ownsRow B 43 1 c f.stack.length (f.stack.map (Value.int .i64)) ∧ FrCs w B r l
def FrsAt (w : World) (B : Nat) (v : Value) (l : List LFrame) : Prop :=
  ∃ cs, w.ownsRow B 42 3 v l.length cs ∧ FrCs w B cs l ∧ ((v :: cs).filterMap Value.ownBlock).Nodup
theorem FrCs.mods {S : Nat → Prop} {w w' : World} {B : Nat} (m : Mods S w w') : ∀ (l : List LFrame) (cs : List Value), FrCs w B cs l → (∀ g ∈ cs.filterMap Value.ownBlock, ¬ S g) → FrCs w' B cs l
  | [], _, h, _ => h
  | f :: l, _, ⟨b, c, r, rfl, h2, h3, h4⟩, hS => by
    refine ⟨b, c, r, rfl, own_mods h2 m (fun g hg => hS g ?_), own_mods h3 m (fun g hg => hS g ?_), FrCs.mods m l r h4 (fun g hg => hS g ?_)⟩
    · exact List.mem_filterMap.2 ⟨b, by simp, hg⟩
    · exact List.mem_filterMap.2 ⟨c, by simp, hg⟩
    · obtain ⟨x, hx, hx'⟩ := List.mem_filterMap.1 hg
      exact List.mem_filterMap.2 ⟨x, by simp [hx], hx'⟩
theorem FrCs.snoc {w : World} {B : Nat} {vl vs : Value} {f : LFrame} (h1 : w.ownsRow B 43 1 vl f.locals.length (f.locals.map (Value.int .i64))) (h2 : w.ownsRow B 43 1 vs f.stack.length (f.stack.map (Value.int .i64))) :
    ∀ (l : List LFrame) (cs : List Value), FrCs w B cs l → FrCs w B (cs ++ [.int .i64 f.pc, vl, vs]) (l ++ [f])
  | [], _, h => by
    obtain rfl : _ = [] := h
    exact ⟨_, _, _, rfl, h1, h2, rfl⟩
  | g :: l, _, ⟨b, c, r, rfl, g2, g3, g4⟩ => ⟨b, c, _, rfl, g2, g3, FrCs.snoc h1 h2 l r g4⟩
theorem FrCs.lt {w : World} {B : Nat} : ∀ (l : List LFrame) (cs : List Value), FrCs w B cs l → ∀ g ∈ cs.filterMap Value.ownBlock, B ≤ g ∧ g < w.heap.size
  | [], _, h, g, hg => by
    obtain rfl : _ = [] := h
    simp at hg
  | f :: l, _, ⟨b, c, r, rfl, h2, h3, h4⟩, g, hg => by
    obtain ⟨x, hx, hx'⟩ := List.mem_filterMap.1 hg
    rcases List.mem_cons.1 hx with rfl | hx
    · cases hx'
    · rcases List.mem_cons.1 hx with rfl | hx
      · exact h2.lt g hx'
      · rcases List.mem_cons.1 hx with rfl | hx
        · exact h3.lt g hx'
        · exact FrCs.lt l r h4 g (List.mem_filterMap.2 ⟨x, hx, hx'⟩)
theorem FrCs.base {w : World} {B B' : Nat} (hB : B' ≤ B) : ∀ (l : List LFrame) (cs : List Value), FrCs w B cs l → FrCs w B' cs l
  | [], _, h => h
  | f :: l, _, ⟨b, c, r, rfl, h2, h3, h4⟩ => ⟨b, c, r, rfl, own_base h2 hB, own_base h3 hB, FrCs.base hB l r h4⟩
theorem infoFr3 : (Tryz.prog.info? 42).map (fun i => (i.zero, i.size, i.bytes)) = some (some (.agg #[.int .i64 0, .slice none 0 0, .slice none 0 0]), 3, 56) := by kernel_rfl
theorem nodup_add {l : List Nat} {a : List Nat} (h : l.Nodup) (ha : a.Nodup) (hd : ∀ x ∈ l, x ∉ a) : (l ++ a).Nodup := List.nodup_append.2 ⟨h, ha, fun x hx _ hy e => hd x hx (e ▸ hy)⟩
theorem wp_append_run {P : Program} {w w' : World} {o : Oper} {a : Act} {K : Act → World → Prop} {Q : Exit → Act → World → Prop} (s x : Operand) (t : TypeId)
    (ho : o.op = .call { callee := .builtin .append, args := #[s, x], argTypes := #[t, t] }) (v u : Value) (hs : a.eval s = v) (hx : a.eval x = u) {v' : Value}
    (hr : (Builtin.append_ #[t, t] o.type #[v, u]).run P w = .ok v' w') (h : K (a.put o.dst v') w') : o.wp P a w K Q := by
  unfold Oper.wp execOp
  simp only [ho, resolve, invoke, builtin, Sem.run_bind, Sem.run_pure, Result.andThen_ok, List.map_toArray, List.map_cons, List.map_nil, hs, hx, hr]
  exact h
theorem FrsAt.snoc {w W : World} {B : Nat} {v v' : Value} {l : List LFrame} {cs : List Value} {f : LFrame} {vl vs : Value} (h2 : FrCs w B cs l) (h3 : ((v :: cs).filterMap Value.ownBlock).Nodup)
    (o1 : w.ownsRow B 43 1 vl f.locals.length (f.locals.map (Value.int .i64))) (o2 : w.ownsRow B 43 1 vs f.stack.length (f.stack.map (Value.int .i64))) (hd : ([vl, vs].filterMap Value.ownBlock).Nodup) (hn : ∀ g ∈ [vl, vs].filterMap Value.ownBlock, g ∉ (v :: cs).filterMap Value.ownBlock)
    (hW : W.ownsRow B 42 3 v' (l.length + 1) (cs ++ [.int .i64 f.pc, vl, vs])) (hM : Mods (fun k => v.ownBlock = some k) w W) (hv : v'.ownBlock = v.ownBlock ∨ ∃ k, w.heap.size ≤ k ∧ v'.ownBlock = some k) : FrsAt W B v' (l ++ [f]) := by
  have e0 : ∀ (a : Value) (r : List Value), (a :: r).filterMap Value.ownBlock = (match a.ownBlock with | some k => [k] | none => []) ++ r.filterMap Value.ownBlock := fun a r => by
    rw [List.filterMap_cons]; cases a.ownBlock <;> rfl
  have hcs : (cs.filterMap Value.ownBlock).Nodup := by
    rw [e0] at h3
    exact (List.nodup_append.1 h3).2.1
  have hvc : ∀ k, v.ownBlock = some k → k ∉ cs.filterMap Value.ownBlock := fun k hk hx => by
    rw [e0, hk] at h3
    exact (List.nodup_append.1 h3).2.2 k (by simp) k hx rfl
  have hvn : ∀ g ∈ [vl, vs].filterMap Value.ownBlock, v.ownBlock ≠ some g := fun g hg e => hn g hg (by rw [e0, e]; simp)
  have hfr := FrCs.snoc o1 o2 l cs h2
  have hfm : (cs ++ [.int .i64 f.pc, vl, vs]).filterMap Value.ownBlock = cs.filterMap Value.ownBlock ++ [vl, vs].filterMap Value.ownBlock := by
    rw [List.filterMap_append]; congr 1
  have hno : ((cs ++ [.int .i64 f.pc, vl, vs]).filterMap Value.ownBlock).Nodup := by
    rw [hfm]
    exact nodup_add hcs hd (fun x hx hx' => hn x hx' (by rw [e0]; exact List.mem_append.2 (.inr hx)))
  refine ⟨_, by simpa using hW, FrCs.mods hM _ _ hfr (fun g hg e => ?_), ?_⟩
  · rw [hfm] at hg
    rcases List.mem_append.1 hg with hg | hg
    · exact hvc g e hg
    · exact hvn g hg e
  · rw [e0]
    refine nodup_add (by cases v'.ownBlock <;> simp) hno (fun x hx hx' => ?_)
    rcases hv with e | ⟨k, hk, e⟩
    · rw [e] at hx
      rw [hfm] at hx'
      cases hq : v.ownBlock with
      | none => rw [hq] at hx; simp at hx
      | some k =>
        rw [hq] at hx
        obtain rfl : x = k := by simpa using hx
        rcases List.mem_append.1 hx' with hg | hg
        · exact hvc x hq hg
        · exact hvn x hg hq
    · rw [e] at hx
      obtain rfl : x = k := by simpa using hx
      have := (FrCs.lt _ _ hfr x hx').2
      omega
def FrmI (m : LMeth) (s : SvSt) (w : World) (k : Nat) (v : Value) (V : World) : Prop := FrsAt V w.heap.size v (frmL m s k) ∧ Below w.heap.size w V
theorem frmL_len (m : LMeth) (s : SvSt) : ∀ k, (frmL m s k).length ≤ k
  | 0 => Nat.le_refl _
  | k + 1 => by
    have := frmL_len m s k
    unfold frmL
    rw [List.length_append]
    split <;> simp <;> omega
set_option maxHeartbeats 1000000 in
set_option maxRecDepth 100000 in
theorem sv_frames (vp : Value) (m : LMeth) (va vco vf : Value) (w : World) (bs : Nat) (s : SvSt) (h : SvAt w bs vp (methCs m va vco vf) s) (hv : GVals w.cell? m va vco vf) (h40 : m.code.length ≤ 40) (hl0 : 0 ≤ m.locals) (hl8 : m.locals ≤ 8) :
    Calls Tryz.prog 81 #[.pointer (some ⟨bs, 0, none⟩)] w fun e w' => ∃ v, e = .returned v ∧ FrmI m s w m.code.length v w' := by
  obtain ⟨j0, gj0, gz0, gz1, gz2⟩ := info_parts infoFr3
  have HI0 : Hid (FrmI m s w 0 (.slice none 0 0) w) := ⟨⟨[], World.ownsRow_nil _ _ _ _, rfl, (List.nodup_nil : ([] : List Nat).Nodup)⟩, Below.refl _ _⟩
  obtain ⟨css, hC, hB⟩ := h
  obtain ⟨hva, hvc, hvf⟩ := hv
  obtain ⟨aa, _, _, acap, rfl, _⟩ := hva
  obtain ⟨fa, _, _, fcap, rfl, _⟩ := hvf
  obtain ⟨ca, _, _, ccap, rfl, _⟩ := hvc
  have m5 : w.cell? ⟨bs, 6, none⟩ = some (.slice ca m.code.length ccap) := hB.cell 6
  have n40 : (m.code.length : Int) ≤ 40 := by omega
  obtain ⟨ln, hln⟩ : ∃ ln : Nat, m.locals = (ln : Int) := ⟨m.locals.toNat, by omega⟩
  go_enter Tryz.func81, Tryz.ntmps81
  go_wp2_with fail
  go_loopw [3, 11] (fun v i wr => ∃ (k : Nat), k ≤ m.code.length ∧ i = .int .i64 k ∧ FrmI m s w k v wr) (fun _ i _ => m.code.length - (intOf i).toNat)
  case atStart => exact ⟨0, Nat.zero_le _, rfl, unhide HI0⟩
  case round =>
    obtain ⟨k, hk, rfl, hI⟩ := hrel
    have HI := hide hI
    obtain ⟨⟨cs, hO, hF, hD⟩, hb⟩ := hI
    obtain ⟨ra, rcap, rfl⟩ := own_form hO
    by_cases hlt : k < m.code.length
    · have k0 : (0 : Int) ≤ (k : Int) := by omega
      have k40 : (k : Int) < 40 := by omega
      have k41 : (k : Int) < (m.code.length : Int) := by omega
      have hBV := hB.below hb hB.lt
      have r0 : wr.cell? ⟨bs, 688 + k, none⟩ = some (.bool (s.re.getD k false)) := by rw [hBV.cell]; exact sv_re hC rfl (by omega)
      cases hre : s.re.getD k false with
      | false =>
        rw [hre] at r0
        have HI2 : Hid (FrmI m s w (k + 1) (.slice ra (frmL m s k).length rcap) wr) := by
          have e : frmL m s (k + 1) = frmL m s k := by
            show frmL m s k ++ _ = _
            rw [hre]; simp
          show FrsAt _ _ _ _ ∧ _
          rw [e]; exact unhide HI
        clear hre hO hF hD
        go_wp2_with fail
        refine ⟨⟨k + 1, by omega, by go_num, unhide HI2⟩, by simp [intOf]; omega⟩
      | true =>
        rw [hre] at r0
        have hil : k < s.st.length := by rw [hC.l1]; omega
        have hcl : k < css.length := by rw [hC.lc]; omega
        have hgi : StC (s.st.getD k zeroS) css[k] := by
          have e : s.st.getD k zeroS = s.st[k] := by rw [List.getD_eq_getElem?_getD, List.getElem?_eq_getElem hil]; rfl
          rw [e]
          exact hC.cs k _ _ (List.getElem?_eq_getElem hil) (List.getElem?_eq_getElem hcl)
        have hsv := fun j v (e : css[k][j]? = some v) => sv_state (vp := vp) hC (show (methCs m (.slice aa m.args.length acap) (.slice ca m.code.length ccap) (.slice fa m.frames.length fcap)).length = 7 from rfl) (List.getElem?_eq_getElem hcl) j v e
        have hli := hgi.len
        have HE : Hid (frmL m s (k + 1) = frmL m s k ++ [⟨(k : Int), (s.st.getD k zeroS).loc.take ln, (s.st.getD k zeroS).stk⟩]) := by
          show frmL m s k ++ _ = _
          rw [hre, hln]; rfl
        generalize css[k] = ci at *
        generalize s.st.getD k zeroS = u at *
        have c4 : wr.cell? ⟨bs, 4, none⟩ = some (.int .i64 (ln : Int)) := by rw [hBV.cell, ← hln]; rfl
        go_wp2_with fail
        refine wp_region_noPanic ?_
        refine wp_region_held_drew (S := (fun w' => Blk w' bs 134 (svCells vp (methCs m (.slice aa m.args.length acap) (.slice ca m.code.length ccap) (.slice fa m.frames.length fcap)) css s) ∧ w'.cell? ⟨bs, 4, none⟩ = some (.int .i64 (ln : Int)))) (by kernel_rfl) ?_ (fun hHeld => ?_)
        · exact ⟨hBV, c4⟩
        refine take_x (some 20) 0 rfl rfl ?_
        try simp only [Act.put, List.setIfInBounds_toArray, List.set_cons_zero, List.set_cons_succ]
        refine take_x (some 21) 1 rfl rfl ?_
        try simp only [Act.put, List.setIfInBounds_toArray, List.set_cons_zero, List.set_cons_succ]
        refine take_x (some 22) 2 rfl rfl ?_
        try simp only [Act.put, List.setIfInBounds_toArray, List.set_cons_zero, List.set_cons_succ]
        refine take_x (some 23) 3 rfl rfl ?_
        try simp only [Act.put, List.setIfInBounds_toArray, List.set_cons_zero, List.set_cons_succ]
        refine take_x (some 24) 4 rfl rfl ?_
        try simp only [Act.put, List.setIfInBounds_toArray, List.set_cons_zero, List.set_cons_succ]
        refine take_x (some 25) 5 rfl rfl ?_
        try simp only [Act.put, List.setIfInBounds_toArray, List.set_cons_zero, List.set_cons_succ]
        refine take_d (some 26) (i := 6) (v := .agg ci.toArray) rfl rfl (by kernel_rfl) (by kernel_rfl) (by kernel_rfl) (fun _ _ _ h => h) (Or.inl ⟨by rfl, fun w' hSw => exec_load_blk aggSt hSw.1 (8 + k * 17) ci hli hsv rfl rfl⟩) (by assumption) ?_
        try simp only [Act.put, List.setIfInBounds_toArray, List.set_cons_zero, List.set_cons_succ]
        refine take_x (some 27) 7 rfl rfl ?_
        try simp only [Act.put, List.setIfInBounds_toArray, List.set_cons_zero, List.set_cons_succ]
        refine take_x (some 28) 8 rfl rfl ?_
        try simp only [Act.put, List.setIfInBounds_toArray, List.set_cons_zero, List.set_cons_succ]
        refine take_x (some 29) 9 rfl rfl ?_
        try simp only [Act.put, List.setIfInBounds_toArray, List.set_cons_zero, List.set_cons_succ]
        refine take_x (some 30) 10 rfl rfl ?_
        try simp only [Act.put, List.setIfInBounds_toArray, List.set_cons_zero, List.set_cons_succ]
        refine take_x (some 31) 11 rfl rfl ?_
        try simp only [Act.put, List.setIfInBounds_toArray, List.set_cons_zero, List.set_cons_succ]
        refine take_x (some 32) 12 rfl rfl ?_
        try simp only [Act.put, List.setIfInBounds_toArray, List.set_cons_zero, List.set_cons_succ]
        refine wpAnyH_ready (rs := [13]) (by kernel_rfl) (by simp) ?_
        refine AllReadyH.cons rfl (fun K hK => ?_) AllReadyH.nil
        go_simp
        refine (st_frame u ci _ ln _ hgi (by omega)).mono ?_
        rintro e w2 ⟨vl, vs, rfl, o1, o2, od, hb2⟩
        have hb2' : Below wr.heap.size wr w2 := ⟨hb2.os, hb2.tape, hb2.output, hb2.size, hb2.block⟩
        obtain ⟨la, lcap, rfl⟩ := own_form o1
        obtain ⟨sa, scap, rfl⟩ := own_form o2
        have hBV2 := hBV.below hb2' hBV.lt
        have hsz := hb.size
        have hm2 := Mods.of_below hb2'
        have hlt1 := FrCs.lt _ _ hF
        have hlt0 := hO.lt
        have hO2 := own_mods hO hm2 (fun g hg e => by have := (hlt0 g hg).2; omega)
        have hF2 := FrCs.mods hm2 _ _ hF (fun g hg e => by have := (hlt1 g hg).2; omega)
        have hfl := frmL_len m s k
        obtain ⟨v3, w3, happ, hO3, hM3, hv3⟩ := app_ex (P := Tryz.prog) (W := w2) 36 36 42 j0 _ 3 56 Tryz.underlying36 gj0 gz0 gz1 gz2 rfl (by decide) w.heap.size _ _ _ hO2 #[.int .i64 (k : Int), .slice la ln lcap, .slice sa u.stk.length scap] rfl
          (fun v hv => by
            simp only [List.mem_cons, List.not_mem_nil, or_false] at hv
            rcases hv with rfl | rfl | rfl <;> rfl) w2.heap.size rfl (by unfold maxLen; omega) (by omega) (Nat.le_trans hsz hb2'.size)
        have hD1 : ∀ g ∈ [Value.slice la ln lcap, .slice sa u.stk.length scap].filterMap Value.ownBlock, wr.heap.size ≤ g := fun g hg => by
          obtain ⟨x, hx, hx'⟩ := List.mem_filterMap.1 hg
          simp only [List.mem_cons, List.not_mem_nil, or_false] at hx
          rcases hx with rfl | rfl
          · exact (o1.lt g hx').1
          · exact (o2.lt g hx').1
        have HF3 : Hid (FrsAt w3 w.heap.size v3 (frmL m s (k + 1))) := by
          show FrsAt _ _ _ _
          rw [unhide HE]
          have ul := hgi.ok.1
          refine FrsAt.snoc (f := ⟨(k : Int), u.loc.take ln, u.stk⟩) hF2 hD (own_base (by simpa [ul, show min ln 8 = ln by omega] using o1) hsz) (own_base o2 hsz) ?_ (fun g hg hg' => ?_) hO3 hM3 hv3
          · show (List.filterMap _ _).Nodup
            simp only [List.filterMap_cons, List.filterMap_nil]
            cases h1 : (Value.slice la ln lcap).ownBlock with
            | none => cases h2 : (Value.slice sa u.stk.length scap).ownBlock <;> simp
            | some x =>
              cases h2 : (Value.slice sa u.stk.length scap).ownBlock with
              | none => simp
              | some y =>
                have := od x h1
                rw [h2] at this
                simp only [ne_eq, Option.some.injEq] at this
                simp only [List.nodup_cons, List.mem_singleton, List.not_mem_nil, not_false_eq_true, List.nodup_nil, and_true]
                exact fun e => this e.symm
          · have h1 := hD1 g hg
            obtain ⟨x, hx, hx'⟩ := List.mem_filterMap.1 hg'
            rcases List.mem_cons.1 hx with rfl | hx
            · have := (hlt0 g hx').2; omega
            · have := (hlt1 g (List.mem_filterMap.2 ⟨x, hx, hx'⟩)).2; omega
        obtain ⟨a3, cap3, rfl⟩ := own_form hO3
        have hb3 : Below w.heap.size w w3 := hb.trans ((hb2'.mono hsz).trans (hM3.below (Nat.le_trans hsz hb2'.size) (fun g hg e => by have := (hlt0 g e).1; omega)))
        have hbs := hB.lt
        have hBV3 := hB.below hb3 hB.lt
        have c42 : w2.cell? ⟨bs, 4, none⟩ = some (.int .i64 (ln : Int)) := Keeps.of_below hb2' _ _ c4
        have c43 : w3.cell? ⟨bs, 4, none⟩ = some (.int .i64 (ln : Int)) := by rw [hBV3.cell, ← hln]; rfl
        have hBV2a := hBV2.alloc (.cells #[.int .i64 (k : Int), .slice la ln lcap, .slice sa u.stk.length scap] 42)
        have c42a : (w2.alloc (.cells #[.int .i64 (k : Int), .slice la ln lcap, .slice sa u.stk.length scap] 42)).cell? ⟨bs, 4, none⟩ = some (.int .i64 (ln : Int)) := by rw [hBV2a.cell, ← hln]; rfl
        clear hD hF hO hF2 hO2 hO3 hM3 hv3 o1 o2 od hlt0 hlt1 hD1 hm2
        go_wp2_with fail
        refine hK.out _ _ ⟨hBV2, c42⟩ (fun hHeld => ?_)
        clear hK K
        try simp only [Act.put, List.setIfInBounds_toArray, List.set_cons_zero, List.set_cons_succ]
        refine wpAnyH_ready (rs := [14]) (by kernel_rfl) (by simp) ?_
        refine AllReadyH.cons rfl (fun K hK => ?_) AllReadyH.nil
        go_simp
        refine hK.out _ _ ⟨hBV2a, c42a⟩ (fun hHeld => ?_)
        clear hK K
        try simp only [Act.put, List.setIfInBounds_toArray, List.set_cons_zero, List.set_cons_succ]
        refine wpAnyH_ready (rs := [15]) (by kernel_rfl) (by simp) ?_
        refine AllReadyH.cons rfl (fun K hK => ?_) AllReadyH.nil
        refine wp_append_run (.tmp 20) (.tmp 34) 36 rfl _ _ rfl rfl happ ?_
        go_simp
        refine hK.out _ _ ⟨hBV3, c43⟩ (fun hHeld => ?_)
        clear hK K
        try simp only [Act.put, List.setIfInBounds_toArray, List.set_cons_zero, List.set_cons_succ]
        refine take_x (some 3) 16 rfl rfl ?_
        try simp only [Act.put, List.setIfInBounds_toArray, List.set_cons_zero, List.set_cons_succ]
        refine wpAnyH_done (by kernel_rfl) ?_ _
        refine NoPanic.normal ?_
        clear happ
        go_wp2_with fail
        refine ⟨⟨k + 1, by omega, by go_num, unhide HF3, hb3⟩, by simp [intOf]; omega⟩
    · obtain rfl : k = m.code.length := by omega
      go_wp2_with fail
      go_ret
      exact ⟨_, rfl, unhide HI⟩
end Go.Proofs.YtiiokkllmchohaaGreat
/- The machine's values and frames in memory. -/
namespace Go.Proofs.YtiiokkllmchohaaGreat
open Go.RowKit Go.Shelf
attribute [local go_sem ↓] Go.wp_at_zero Go.wp_at_succ
attribute [local go_sem] frz_drew

structure LVal where
  kind : Int
  num : Int
  obj : Option Nat
def nothV : LVal := ⟨2, 0, none⟩
def numbV (n : Int) : LVal := ⟨0, n, none⟩
def nullV : LVal := ⟨1, 0, none⟩
def objP (A : List Nat) : Option Nat → Value
  | none => .pointer none
  | some k => .pointer (some ⟨A.getD k 0, 0, none⟩)
def encV (A : List Nat) (v : LVal) : List Value := [.int .i64 v.kind, .int .i64 v.num, objP A v.obj]
def encL (A : List Nat) (l : List LVal) : List Value := l.flatMap (encV A)
def okV (A : List Nat) (v : LVal) : Prop := ∀ k, v.obj = some k → k < A.length
theorem encL_len (A : List Nat) : ∀ l : List LVal, (encL A l).length = l.length * 3
  | [] => rfl
  | v :: r => by
    show (encV A v ++ encL A r).length = _
    rw [List.length_append, encL_len A r, List.length_cons]
    show 3 + _ = _
    omega
theorem encL_get (A : List Nat) : ∀ (l : List LVal) (i : Nat) (v : LVal), l[i]? = some v → ∀ j, j < 3 → (encL A l)[i * 3 + j]? = (encV A v)[j]?
  | [], i, v, h, j, hj => by simp at h
  | u :: r, 0, v, h, j, hj => by
    obtain rfl : u = v := by simpa using h
    show (encV A u ++ encL A r)[0 * 3 + j]? = _
    rw [Nat.zero_mul, Nat.zero_add, List.getElem?_append_left (show j < (encV A u).length from hj)]
  | u :: r, i + 1, v, h, j, hj => by
    show (encV A u ++ encL A r)[(i + 1) * 3 + j]? = _
    have l3 : (encV A u).length = 3 := rfl
    rw [List.getElem?_append_right (by rw [l3]; omega), l3, show (i + 1) * 3 + j - 3 = i * 3 + j by omega]
    exact encL_get A r i v (by simpa using h) j hj
theorem encL_app (A : List Nat) (l r : List LVal) : encL A (l ++ r) = encL A l ++ encL A r := by unfold encL; rw [List.flatMap_append]
theorem encL_take (A : List Nat) : ∀ (l : List LVal) (n : Nat), (encL A l).take (n * 3) = encL A (l.take n)
  | [], n => by simp [encL]
  | v :: r, 0 => by simp [encL]
  | v :: r, n + 1 => by
    show (encV A v ++ encL A r).take ((n + 1) * 3) = encV A v ++ encL A (r.take n)
    have l3 : (encV A v).length = 3 := rfl
    rw [List.take_append, l3, List.take_of_length_le (by rw [l3]; omega), show (n + 1) * 3 - 3 = n * 3 by omega, encL_take A r n]
theorem encL_drop (A : List Nat) : ∀ (l : List LVal) (n : Nat), (encL A l).drop (n * 3) = encL A (l.drop n)
  | [], n => by simp [encL]
  | v :: r, 0 => by simp [encL]
  | v :: r, n + 1 => by
    show (encV A v ++ encL A r).drop ((n + 1) * 3) = encL A (r.drop n)
    have l3 : (encV A v).length = 3 := rfl
    rw [List.drop_append, l3, List.drop_of_length_le (by rw [l3]; omega), List.nil_append, show (n + 1) * 3 - 3 = n * 3 by omega, encL_drop A r n]
theorem encV_one (A : List Nat) (v : LVal) : ∀ u ∈ encV A v, u.oneCell' = true := fun u hu => by
  simp only [encV, List.mem_cons, List.not_mem_nil, or_false] at hu
  rcases hu with rfl | rfl | rfl
  · rfl
  · rfl
  · cases v.obj <;> rfl
theorem encL_one (A : List Nat) (l : List LVal) : ∀ u ∈ encL A l, u.oneCell' = true := fun u hu => by
  obtain ⟨v, _, hv⟩ := List.mem_flatMap.1 hu
  exact encV_one A v u hv
theorem objP_more (A C : List Nat) {o : Option Nat} (h : ∀ k, o = some k → k < A.length) : objP (A ++ C) o = objP A o := by
  cases o with
  | none => rfl
  | some k =>
    show Value.pointer (some ⟨(A ++ C).getD k 0, 0, none⟩) = Value.pointer (some ⟨A.getD k 0, 0, none⟩)
    rw [List.getD_eq_getElem?_getD, List.getD_eq_getElem?_getD, List.getElem?_append_left (h k rfl)]
theorem encV_more (A C : List Nat) {v : LVal} (h : okV A v) : encV (A ++ C) v = encV A v := by
  unfold encV
  rw [objP_more A C h]
theorem encL_more (A C : List Nat) : ∀ {l : List LVal}, (∀ v ∈ l, okV A v) → encL (A ++ C) l = encL A l
  | [], _ => rfl
  | v :: r, h => by
    show encV (A ++ C) v ++ encL (A ++ C) r = encV A v ++ encL A r
    rw [encV_more A C (h v (by simp)), encL_more A C (fun u hu => h u (by simp [hu]))]
theorem aggVal : AggOk Tryz.prog 170 3 := ⟨by kernel_rfl, by kernel_rfl⟩
theorem infoVal : (Tryz.prog.info? 170).map (fun i => (i.zero, i.size, i.bytes)) = some (some (.agg #[.int .i64 0, .int .i64 0, .pointer none]), 3, 24) := by kernel_rfl
theorem own_less {w : World} {B : Nat} {e : TypeId} {sz : Nat} {a : Option Addr} {n cap : Nat} {xs : List Value} (h : w.ownsRow B e sz (.slice a n cap) n xs) {m : Nat} (hm : m ≤ n) : w.ownsRow B e sz (.slice a m cap) m (xs.take (m * sz)) := by
  have hms : m * sz ≤ n * sz := Nat.mul_le_mul_right sz hm
  rcases h.2 with ⟨e1, e2⟩ | ⟨g, c2, cur, e1, h2, h3, h4, h5, h6, h7⟩
  · cases e1
    obtain rfl : m = 0 := by omega
    exact ⟨by rw [List.length_take, h.1]; omega, .inl ⟨rfl, rfl⟩⟩
  · cases e1
    refine ⟨by rw [List.length_take, h.1]; omega, .inr ⟨g, cap, cur, rfl, h2, h3, by omega, h5, h6, ?_⟩⟩
    rw [← h7, List.take_take, Nat.min_eq_left hms]
theorem own_read {w : World} {B : Nat} {e : TypeId} {sz : Nat} {v : Value} {n : Nat} {xs : List Value} (h : w.ownsRow B e sz v n xs) (hn : 0 < n) : ∃ g cap, v = .slice (some ⟨g, 0, none⟩) n cap ∧ n ≤ cap ∧ v.ownBlock = some g ∧ ∀ j, j < n * sz → w.cell? ⟨g, j, none⟩ = xs[j]? := by
  rcases h.2 with ⟨_, e2⟩ | ⟨g, cap, cur, rfl, h2, h3, h4, h5, h6, h7⟩
  · omega
  · refine ⟨g, cap, rfl, h4, rfl, fun j hj => ?_⟩
    rw [← h7, List.getElem?_take, if_pos hj]
    unfold World.cell?
    simp only [h3]
    simp
end Go.Proofs.YtiiokkllmchohaaGreat
