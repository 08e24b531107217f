/- What a state tells as a frame: State.Frame. -/
import Derived.Test.YtiiokkllmchohaaGreatT14
/- StF -/
namespace Go.Proofs.YtiiokkllmchohaaGreat
open Go.RowKit Go.Shelf
attribute [local go_sem ↓] Go.wp_at_zero Go.wp_at_succ
attribute [local go_sem] frz_drew

theorem addr_plus (b off j : Nat) : (⟨b, off, none⟩ : Addr).add j = ⟨b, off + j, none⟩ := by unfold Addr.add; split <;> simp_all
theorem aggFr : AggOk Tryz.prog 42 3 := ⟨by kernel_rfl, by kernel_rfl⟩
def FrR (s : TSt) (pc : Int) (n : Nat) (w w' : World) (e : Ending) : Prop :=
  ∃ vl vs, e = .returned (.agg #[.int .i64 pc, vl, vs]) ∧ w'.ownsRow w.heap.size 43 1 vl n ((s.loc.take n).map (Value.int .i64)) ∧ w'.ownsRow w.heap.size 43 1 vs s.stk.length (s.stk.map (Value.int .i64)) ∧
    (∀ g, vl.ownBlock = some g → vs.ownBlock ≠ some g) ∧ Below w.heap.size w w'
set_option maxHeartbeats 1000000 in
set_option maxRecDepth 100000 in
theorem st_frame (s : TSt) (cs : List Value) (pc : Int) (n : Nat) (w : World) (hS : StC s cs) (hn : n ≤ 8) :
    Calls Tryz.prog 146 #[.agg cs.toArray, .int .i64 pc, .int .i64 (n : Int)] w fun e w' => FrR s pc n w w' e := by
  obtain ⟨i0, hi0, hz0, hz1, hz2⟩ := info_parts infoType
  have s8 := hS.ok.2
  have l8 := hS.ok.1
  have hcl := hS.len
  have n0 : (0 : Int) ≤ (n : Int) := by omega
  have n8 : (n : Int) ≤ 8 := by omega
  have k0 : (0 : Int) ≤ (s.stk.length : Int) := by omega
  have k8 : (s.stk.length : Int) ≤ 8 := by omega
  go_enter Tryz.func146, Tryz.ntmps146
  go_wp2_with fail
  have hbel : Below w.heap.size w ((w.alloc (.cells cs.toArray 130)).alloc (.cells #[.int .i64 0, .slice none 0 0, .slice none 0 0] 42)) := box2_below _ _ _
  have B0 := (Blk.new w cs.toArray 130).alloc (.cells #[.int .i64 0, .slice none 0 0, .slice none 0 0] 42)
  have B1 := Blk.new (w.alloc (.cells cs.toArray 130)) #[.int .i64 0, .slice none 0 0, .slice none 0 0] 42
  rw [World.size_alloc] at B1
  generalize (w.alloc _).alloc _ = W at *
  have c16 : W.cell? ⟨w.heap.size, 16, none⟩ = some (.int .i64 (s.stk.length : Int)) := by rw [B0.cell]; exact hS.ht
  refine wp_region_noPanic ?_
  refine wp_region_held_drew (S := (fun w' => w'.cell? ⟨w.heap.size, 16, none⟩ = some (.int .i64 (s.stk.length : Int)))) (by kernel_rfl) ?_ (fun hHeld => ?_)
  · exact c16
  refine take_x (some 7) 0 rfl rfl ?_
  refine take_x (some 8) 1 rfl rfl ?_
  refine take_x (some 9) 2 rfl rfl ?_
  refine take_x (some 10) 3 rfl rfl ?_
  refine take_x (some 12) 5 rfl rfl ?_
  refine take_x (some 13) 6 rfl rfl ?_
  refine take_x (some 14) 7 rfl rfl ?_
  refine take_x (some 15) 8 rfl rfl ?_
  refine wpAnyH_ready (rs := [4]) (by kernel_rfl) (by simp) ?_
  refine AllReadyH.cons rfl (fun K hK => ?_) AllReadyH.nil
  have hsrc1 : ∀ ad, some (⟨w.heap.size, 0, none⟩ : Addr) = some ad → ∀ j u, ((s.loc.take n).map (Value.int .i64))[j]? = some u → W.cell? (ad.add j) = some u := fun ad e j u h => by
    obtain rfl := Option.some.inj e
    rw [addr_plus, B0.cell]
    rw [List.getElem?_map] at h
    obtain ⟨x, hx, rfl⟩ := Option.map_eq_some_iff.1 h
    rw [Nat.zero_add]
    rw [List.getElem?_take] at hx
    split at hx
    · exact hS.loc j x hx
    · cases hx
  refine wp_append_sl (.const (.slice none 0 0)) (.tmp 10) 40 rfl w.heap.size 43 i0 (.int .i64 0) 1 8 Tryz.underlying40 hi0 hz0 hz1 hz2 rfl (by decide) (.slice none 0 0) 0 [] rfl (World.ownsRow_nil _ _ _ _) (some ⟨w.heap.size, 0, none⟩) n 8 ((s.loc.take n).map (Value.int .i64)) rfl (by simp; omega) (fun e => by cases e) hsrc1 (oneCell_ints _) (by unfold maxLen; omega) (by omega) hbel.size ?_
  intro v1 w1 hown1 hg1 hat1
  rw [Nat.zero_add, List.nil_append] at hown1
  obtain ⟨a1, cap1, rfl⟩ := own_form hown1
  have hm1 : Mods (fun _ => False) W w1 := ((Mods.refl _ W).drew).grown hg1 (fun k e _ => by cases e)
  have hbw1 : Below w.heap.size w w1 := hbel.trans (hm1.below hbel.size (fun _ _ f => f))
  have B01 := B0.mods hm1 (fun f => f)
  have B11 := B1.mods hm1 (fun f => f)
  have c161 : w1.cell? ⟨w.heap.size, 16, none⟩ = some (.int .i64 (s.stk.length : Int)) := by rw [B01.cell]; exact hS.ht
  go_simp
  refine hK.out _ _ c161 (fun hHeld => ?_)
  clear hK K
  try simp only [Act.put, List.setIfInBounds_toArray, List.set_cons_zero, List.set_cons_succ]
  have hsrc2 : ∀ ad, some (⟨w.heap.size, 8, none⟩ : Addr) = some ad → ∀ j u, (s.stk.map (Value.int .i64))[j]? = some u → w1.cell? (ad.add j) = some u := fun ad e j u h => by
    obtain rfl := Option.some.inj e
    rw [addr_plus, B01.cell]
    rw [List.getElem?_map] at h
    obtain ⟨x, hx, rfl⟩ := Option.map_eq_some_iff.1 h
    exact hS.stk j x hx
  refine wpAnyH_ready (rs := [9]) (by kernel_rfl) (by simp) ?_
  refine AllReadyH.cons rfl (fun K hK => ?_) AllReadyH.nil
  refine wp_append_sl (.const (.slice none 0 0)) (.tmp 15) 40 rfl w.heap.size 43 i0 (.int .i64 0) 1 8 Tryz.underlying40 hi0 hz0 hz1 hz2 rfl (by decide) (.slice none 0 0) 0 [] rfl (World.ownsRow_nil _ _ _ _) (some ⟨w.heap.size, 8, none⟩) s.stk.length 8 (s.stk.map (Value.int .i64)) rfl (by simp) (fun e => by cases e) hsrc2 (oneCell_ints _) (by unfold maxLen; omega) (by omega) hbw1.size ?_
  intro v2 w2 hown2 hg2 hat2
  rw [Nat.zero_add, List.nil_append] at hown2
  obtain ⟨a2, cap2, rfl⟩ := own_form hown2
  have hm2 : Mods (fun _ => False) w1 w2 := (Mods.refl _ w1).grown hg2 (fun k e _ => by cases e)
  have hbw2 : Below w.heap.size w w2 := hbw1.trans (hm2.below hbw1.size (fun _ _ f => f))
  have B12 := B11.mods hm2 (fun f => f)
  have c162 : w2.cell? ⟨w.heap.size, 16, none⟩ = some (.int .i64 (s.stk.length : Int)) := hm2.cell c161 (fun f => f)
  have hown1' := own_mods hown1 hm2 (fun _ _ f => f)
  go_simp
  refine hK.out _ _ c162 (fun hHeld => ?_)
  clear hK K
  try simp only [Act.put, List.setIfInBounds_toArray, List.set_cons_zero, List.set_cons_succ]
  refine take_x (some 17) 10 rfl rfl ?_
  refine wpAnyH_ready (rs := [11]) (by kernel_rfl) (by simp) ?_
  refine AllReadyH.cons rfl (fun K hK => ?_) AllReadyH.nil
  refine wp_store_blk aggFr B12 0 [.int .i64 pc, .slice a1 n cap1, .slice a2 s.stk.length cap2] rfl (by simp) (fun v hv => by
    simp only [List.mem_cons, List.not_mem_nil, or_false] at hv
    rcases hv with rfl | rfl | rfl <;> rfl) (.tmp 6) (.tmp 17) rfl rfl rfl ?_
  intro w3 hB3 hM3 hs3
  rw [putAt_all (by rfl)] at hB3
  have c163 : w3.cell? ⟨w.heap.size, 16, none⟩ = some (.int .i64 (s.stk.length : Int)) := hM3.cell c162 (by dsimp only; omega)
  refine hK.out _ _ c163 (fun hHeld => ?_)
  clear hK K
  try simp only [Act.put]
  refine wpAnyH_done (by kernel_rfl) ?_ _
  refine NoPanic.normal ?_
  have HF : Hid (FrR s pc n w w3 (.returned (.agg #[.int .i64 pc, .slice a1 n cap1, .slice a2 s.stk.length cap2]))) := by
    have b1 := B1.lt
    have z1 := hm1.size
    refine ⟨_, _, rfl, ?_, ?_, fun g h1 h2 => ?_, hbw2.trans (hM3.below hbw2.size (fun k hk e => by omega))⟩
    · have := own_mods hown1' hM3 (fun g hg e => by
        rcases hat1 with h | h
        · rw [h] at hg; cases hg
        · rw [h] at hg; cases hg; change W.heap.size = _ at e; omega)
      simpa using this
    · have := own_mods hown2 hM3 (fun g hg e => by
        rcases hat2 with h | h
        · rw [h] at hg; cases hg
        · rw [h] at hg; cases hg; omega)
      simpa using this
    · have l1 := (hown1'.lt g h1).2
      rcases hat1 with h | h
      · rw [h] at h1; cases h1
      · rcases hat2 with h' | h'
        · rw [h'] at h2; cases h2
        · rw [h'] at h2; cases h2
          have := (hown1.lt _ h1).2
          omega
  go_wp2_with fail
  refine bodyPost_ret (results_blk rfl aggFr hB3 rfl rfl) rfl ?_
  exact unhide HF
end Go.Proofs.YtiiokkllmchohaaGreat
