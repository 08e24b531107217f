/- The law's hands keep a list of frames. -/
import Derived.Test.YtiiokkllmchohaaT21
/- KeepD -/
namespace Go.Proofs.Ytiiokkllmchohaa
open Go.RowKit
attribute [local go_sem ↓] Go.wp_at_zero Go.wp_at_succ

/-- A list of one's own whose first k things have been kept: what the others own lies from mid on. -/
def Rem {α : Type} (t : TypeId) (sz : Nat) (R : OwnE α) (w : World) (lo hi : Nat) (v : Value) (l : List α) (k mid : Nat) : Prop :=
  (v = .slice none 0 0 ∧ l = [] ∧ lo ≤ mid ∧ mid ≤ hi) ∨ ∃ g cells, lo ≤ g ∧ g < mid ∧ v = .slice (some ⟨g, 0, none⟩) l.length l.length ∧ Blk w g t cells ∧ cells.length = l.length * sz ∧ OwnL sz R w mid hi (cells.drop (k * sz)) (l.drop k)
section
variable {α : Type} {t : TypeId} {sz : Nat} {R : OwnE α} {w w' : World} {lo hi : Nat} {v : Value} {l : List α} {k mid : Nat}
theorem Rem.start (h : OwnSl t sz R w lo hi v l) : ∃ mid, Rem t sz R w lo hi v l 0 mid ∧ lo ≤ mid := by
  rcases h with ⟨rfl, rfl, h⟩ | ⟨_, g, cells, h1, rfl, hb, ho⟩
  · exact ⟨lo, .inl ⟨rfl, rfl, Nat.le_refl _, h⟩, Nat.le_refl _⟩
  · exact ⟨g + 1, .inr ⟨g, cells, h1, by omega, rfl, hb, OwnL.len ho, by simpa using ho⟩, by omega⟩
theorem Rem.le (ok : OwnOk R) (h : Rem t sz R w lo hi v l k mid) : lo ≤ mid ∧ mid ≤ hi := by
  rcases h with ⟨_, _, h1, h2⟩ | ⟨g, cells, h1, h2, _, _, _, ho⟩
  · exact ⟨h1, h2⟩
  · exact ⟨by omega, OwnL.le ok ho⟩
theorem Rem.fill (ok : OwnOk R) (h : Rem t sz R w lo hi v l k mid) (p : List Value) : Fill w t sz lo hi v l.length p 0 := by
  rcases h with ⟨rfl, rfl, _⟩ | ⟨g, cells, h1, h2, rfl, hb, hl, ho⟩
  · exact .inl ⟨rfl, rfl⟩
  · have := OwnL.le ok ho
    exact .inr ⟨g, cells, h1, by omega, rfl, hb, hl, by simp [fillP]⟩
/-- The next thing: its cells, what it owns, what is left. -/
theorem Rem.next (h : Rem t sz R w lo hi v l k mid) (hk : k < l.length) : ∃ g cells c mid1, v = .slice (some ⟨g, 0, none⟩) l.length l.length ∧ lo ≤ g ∧ g < mid ∧ Blk w g t cells ∧ cells.length = l.length * sz ∧ c.length = sz ∧ (∀ r, r < sz → cells[k * sz + r]? = c[r]?) ∧ R w mid mid1 c l[k] ∧ OwnL sz R w mid1 hi (cells.drop ((k + 1) * sz)) (l.drop (k + 1)) := by
  rcases h with ⟨rfl, rfl, _⟩ | ⟨g, cells, h1, h2, rfl, hb, hl, ho⟩
  · simp at hk
  · rw [List.drop_eq_getElem_cons hk] at ho
    obtain ⟨c1, c2, mid1, e, hc, hR, hO⟩ := ho
    refine ⟨g, cells, c1, mid1, rfl, h1, h2, hb, hl, hc, fun r hr => ?_, hR, ?_⟩
    · rw [← List.getElem?_drop, e, List.getElem?_append_left (by omega)]
    · have : cells.drop ((k + 1) * sz) = c2 := by
        rw [Nat.succ_mul, ← List.drop_drop, e, ← hc, List.drop_left]
      rw [this]
      exact hO
end
/-- Blocks that a keeping leaves. -/
theorem KStep.same {w w' : World} {bh : Nat} {cs cs' : List Value} {es es' : Nat → List Ent} {lo hi lo1 hi1 c : Nat} (s : KStep w w' bh cs cs' es es' lo1 hi1 c) (f : KFree bh cs es lo hi) (hd : ∀ k, lo ≤ k → k < hi → ¬ (lo1 ≤ k ∧ k < hi1)) (hh : hi ≤ w.heap.size) : ∀ k, lo ≤ k → k < hi → w'.heap[k]? = w.heap[k]? :=
  fun k h1 h2 => s.mods.block k (by omega) (f.notS hd h1 h2)
theorem Blk.same {w w' : World} {g : Nat} {t : TypeId} {c : List Value} (h : Blk w g t c) (e : w'.heap[g]? = w.heap[g]?) : Blk w' g t c := e.trans h

theorem Fill.narrow {w : World} {ei : TypeId} {sz lo hi : Nat} {v : Value} {L : Nat} {p : List Value} {k bh : Nat} {cs : List Value} {es : Nat → List Ent} (h : Fill w ei sz lo hi v L p k) (hf : ∀ g, v.ownBlock = some g → KFree bh cs es g (g + 1)) (hle : lo ≤ hi) : ∃ lo' hi', lo ≤ lo' ∧ hi' ≤ hi ∧ lo' ≤ hi' ∧ Fill w ei sz lo' hi' v L p k ∧ KFree bh cs es lo' hi' := by
  rcases h with h | ⟨g, cur, h1, h2, rfl, h3⟩
  · exact ⟨lo, lo, Nat.le_refl _, hle, Nat.le_refl _, .inl h, ⟨fun x => by omega, fun _ _ _ x => by omega, fun _ _ _ _ _ _ x => by omega⟩⟩
  · exact ⟨g, g + 1, h1, h2, by omega, .inr ⟨g, cur, Nat.le_refl _, by omega, rfl, h3⟩, hf g rfl⟩

/-- Behind k frames. -/
structure FLp (w wr : World) (bh : Nat) (cs : List Value) (n : Nat) (es : Nat → List Ent) (lo hi : Nat) (v : Value) (l : List LFrame) (k mid : Nat) (cs' : List Value) (es' : Nat → List Ent) : Prop where
  inv : KInv wr bh cs' (n + 2 * k) es'
  rem : Rem 103 3 EFr wr lo hi v l k mid
  st : KStep w wr bh cs cs' es es' lo hi (2 * k)
  fr : KFree bh cs' es' mid hi
  fg : ∀ g, v.ownBlock = some g → KFree bh cs' es' g (g + 1)
theorem kty2 : KTy 2 38 (.agg #[.int .i64 0, .slice none 0 0, .slice none 0 0]) 56 :=
  ⟨by decide, Try.underlying38, Try.underlying56, info_parts infoFrames, info_parts infoFrame, rfl, by decide, by decide, fun _ => rfl, fun m u hu => by
    simp only [kdP, List.mem_cons, List.not_mem_nil, or_false] at hu
    rcases hu with rfl | rfl | rfl <;> rfl⟩

set_option maxHeartbeats 2000000 in
set_option maxRecDepth 100000 in
theorem keep_frames (l : List LFrame) (v : Value) (w : World) (bh : Nat) (cs : List Value) (n : Nat) (es : Nat → List Ent) (lo hi : Nat) (h : KInv w bh cs n es) (hv : OwnFs w lo hi v l) (hf : KFree bh cs es lo hi) (hhi : hi ≤ w.heap.size) (hl : l.length ≤ 1000) (hn : n ≤ 900000) (hc : ∀ j, j < 6 → (es j).length ≤ 16000000) (hz : ∀ f ∈ l, f.locals.length ≤ 1000 ∧ f.stack.length ≤ 1000) :
    Calls Try.prog 71 #[.pointer (some ⟨bh, 0, none⟩), v] w fun e w' => e = .returned (.tuple #[]) ∧ ∃ cs' es', KInv w' bh cs' (n + (2 * l.length + 1)) es' ∧ KStep w w' bh cs cs' es es' lo hi (2 * l.length + 1) := by
  obtain ⟨mid0, hR0, hlm⟩ := Rem.start hv
  have hlohi := hv.le okFr
  have L0 : FLp w w bh cs n es lo hi v l 0 mid0 cs es := ⟨h, hR0, KStep.refl w bh cs es lo hi, hf.sub hlm (Nat.le_refl _), fun g hg => hf.sub (hR0.fill okFr [] |>.block hg).1 (hR0.fill okFr [] |>.block hg).2⟩
  obtain ⟨a, rfl⟩ := hv.form
  have HL0 := hide L0
  clear hv hR0 hlm L0 h hf
  go_enter Try.func71, Try.ntmps71
  go_wp2_with fail
  go_loopw [4] (fun s4 wr => ∃ (k mid : Nat) (cs' : List Value) (es' : Nat → List Ent), k ≤ l.length ∧ s4 = .int .i64 k ∧ FLp w wr bh cs n es lo hi (.slice a l.length l.length) l k mid cs' es') (fun s4 _ => l.length - (intOf s4).toNat)
  case atStart => exact ⟨0, mid0, cs, es, Nat.zero_le _, rfl, unhide HL0⟩
  case round =>
    obtain ⟨k, mid, cs', es', hk, rfl, hP⟩ := hrel
    clear HL0
    by_cases hlt : k < l.length
    · have hlt' : (k : Int) < (l.length : Int) := by omega
      have hws := hP.st.mods.size
      obtain ⟨g, cells, c, mid1, ge, g1, g2, g3, g4, g5, g6, g7, g8⟩ := hP.rem.next hlt
      simp only [Value.slice.injEq, and_true] at ge
      obtain rfl := ge
      obtain ⟨vl, vs, mm, rfl, t1, t2⟩ := g7
      have hzk := hz l[k] (List.getElem_mem hlt)
      generalize l[k] = fr at *
      have le1 := t1.le okInt
      have le2 := t2.le okInt
      have le3 := OwnL.le okFr g8
      have c1 : wr.cell? ⟨g, k * 3 + 1, none⟩ = some vl := by rw [g3.cell]; exact g6 1 (by omega)
      obtain ⟨la, rfl⟩ := t1.form
      obtain ⟨sa, rfl⟩ := t2.form
      have HP := hide hP
      have G3 := hide g3
      have HC2 : Hid (cells[k * 3 + 2]? = some (.slice sa fr.stack.length fr.stack.length)) := g6 2 (by omega)
      have T1 := hide t1
      have T2 := hide t2
      have G8 := hide g8
      clear hP g3 g6 t1 t2 g8
      go_wp2_with fail
      refine Calls.mono (keep_types fr.locals _ wr bh cs' (n + 2 * k) es' mid mm (unhide HP).inv (unhide T1) ((unhide HP).fr.sub (Nat.le_refl _) (by omega)) (by omega) hzk.1 (by omega) (fun j hj => by have := (unhide HP).st.cnt j hj; have := hc j hj; omega)) ?_
      rintro e w1 ⟨rfl, cs1, es1, K1, S1⟩
      have fr1 := (unhide HP).fr.sub (lo' := mm) (hi' := hi) (by omega) (Nat.le_refl _)
      have same1 := S1.same fr1 (fun k _ _ x => by omega) (by omega)
      have fr1' := fr1.step S1 (fun k _ _ x => by omega) (by omega)
      have fg1 := (unhide HP).fg g rfl
      have bg1 : Blk w1 g 103 cells := (unhide G3).same (S1.same fg1 (fun k _ _ x => by omega) (by have := (unhide G3).lt; omega) g (by omega) (by omega))
      have fg1' := fg1.step S1 (fun k _ _ x => by omega) (by have := (unhide G3).lt; omega)
      have t2' := (unhide T2).stay okInt (fun k a b => same1 k (by omega) (by omega))
      have g8' := (unhide G8).stay okFr (fun k a b => same1 k (by omega) (by omega))
      have c2 : w1.cell? ⟨g, k * 3 + 2, none⟩ = some (.slice sa fr.stack.length fr.stack.length) := by rw [bg1.cell]; exact unhide HC2
      have hs1 := S1.mods.size
      have ST1 := hide ((unhide HP).st.trans S1 (lo := lo) (hi := hi) (Nat.le_refl _) (Nat.le_refl _) (by omega) (by omega))
      have HK1 := hide K1
      have BG1 := hide bg1
      have T2' := hide t2'
      have G8' := hide g8'
      have FR1 := hide fr1'
      have FG1 := hide fg1'
      clear K1 S1 fr1 same1 fr1' fg1 bg1 fg1' t2' g8' c1 T1 T2 G8 G3
      go_wp2_with fail
      refine Calls.mono (keep_types fr.stack _ w1 bh cs1 (n + 2 * k + 1) es1 mm mid1 (unhide HK1) (unhide T2') ((unhide FR1).sub (Nat.le_refl _) (by omega)) (by omega) hzk.2 (by omega) (fun j hj => by have := (unhide ST1).cnt j hj; have := hc j hj; omega)) ?_
      rintro e w2 ⟨rfl, cs2, es2, K2, S2⟩
      have fr2 := (unhide FR1).sub (lo' := mid1) (hi' := hi) (by omega) (Nat.le_refl _)
      have same2 := S2.same fr2 (fun k _ _ x => by omega) (by omega)
      have P2 : FLp w w2 bh cs n es lo hi (.slice (some ⟨g, 0, none⟩) l.length l.length) l (k + 1) mid1 cs2 es2 := by
        refine ⟨by rw [show n + 2 * (k + 1) = n + 2 * k + 1 + 1 by omega]; exact K2, .inr ⟨g, cells, g1, by omega, rfl, (unhide BG1).same (S2.same (unhide FG1) (fun k _ _ x => by omega) (by have := (unhide BG1).lt; omega) g (by omega) (by omega)), g4, (unhide G8').stay okFr (fun k a b => same2 k a b)⟩, ?_, fr2.step S2 (fun k _ _ x => by omega) (by omega), fun g' hg' => ?_⟩
        · have := (unhide ST1).trans S2 (lo := lo) (hi := hi) (Nat.le_refl _) (Nat.le_refl _) (by omega) (by omega)
          rw [show 2 * (k + 1) = 2 * k + 1 + 1 by omega]; exact this
        · cases hg'
          exact (unhide FG1).step S2 (fun k _ _ x => by omega) (by have := (unhide BG1).lt; omega)
      have HP2 := hide P2
      clear P2 K2 S2 fr2 same2 c2
      go_wp2_with fail
      refine ⟨⟨k + 1, mid1, cs2, es2, by omega, by go_num, unhide HP2⟩, by simp [intOf]; omega⟩
    · have hlt' : ¬ (k : Int) < (l.length : Int) := by omega
      obtain rfl : k = l.length := by omega
      obtain ⟨wo, rfl⟩ : ∃ wo : World, wo = wr := ⟨_, rfl⟩
      have hws := hP.st.mods.size
      have hlt2 := hP.rem.le okFr
      have hF0 := hP.rem.fill okFr (kdP 2 (-77000001 - ((n + 2 * l.length : Nat) : Int)))
      have hfg : ∀ g, (Value.slice a l.length l.length).ownBlock = some g → lo ≤ g ∧ g < hi := fun g hg => hF0.block hg
      have HP := hide hP
      have HF0 := hide hF0
      have HFG := hide hfg
      clear hP hF0 hfg
      go_wp2_with fail
      refine Calls.mono (law_mark (n + 2 * l.length) wo bh cs' (unhide HP).inv.hands (unhide HP).inv.c6 (by omega)) ?_
      rintro e w1 ⟨rfl, hh1, hm1⟩
      generalize -77000001 - ((n + 2 * l.length : Nat) : Int) = m at *
      obtain ⟨K1, ho1⟩ := (unhide HP).inv.mark (n + 2 * l.length + 1) hh1 hm1
      have S1 := hide ((unhide HP).st.trans (KStep.mark (es := es') hm1 ho1 lo hi) (lo := lo) (hi := hi) (Nat.le_refl _) (Nat.le_refl _) (Nat.le_refl _) (Nat.le_refl _))
      have F1 := hide ((unhide HF0).mods hm1 (fun g hg e => ((unhide HP).fg g hg).hb (by omega)))
      obtain ⟨lo', hi', lo1, hi1, lohi1, hF2, fr1⟩ := (unhide F1).narrow (bh := bh) (cs := cs'.set 6 (.int .i64 ((n + 2 * l.length + 1 : Nat) : Int))) (es := es') (fun g hg => ((unhide HP).fg g hg).step (KStep.mark (es := es') hm1 ho1 0 0) (fun k _ _ x => by omega) (by have := (unhide HFG) g hg; omega)) hlohi
      have hs1 := hm1.size
      have HK1 := hide K1
      have FR1 := hide fr1
      have HF2 := hide hF2
      have hc1 : ∀ j, j < 6 → (es' j).length ≤ 16777216 := fun j hj => by have := (unhide S1).cnt j hj; have := hc j hj; omega
      clear K1 HF0 HP fr1 hh1 hm1 ho1 F1 hF2 hc
      generalize cs'.set 6 _ = cs1 at *
      go_wp2_with fail
      go_loopw [6] (fun s6 wr => ∃ k : Nat, k ≤ l.length ∧ s6 = .int .i64 k ∧ KInv wr bh cs1 (n + 2 * l.length + 1) es' ∧ Fill wr 103 3 lo' hi' (.slice a l.length l.length) l.length (kdP 2 m) k ∧ Mods (fun k => lo' ≤ k ∧ k < hi') w1 wr) (fun s6 _ => l.length - (intOf s6).toNat)
      case atStart => exact ⟨0, Nat.zero_le _, rfl, unhide HK1, unhide HF2, Mods.refl _ _⟩
      case round =>
        obtain ⟨k, hk, rfl, hK, hFl, hMo⟩ := hrel
        clear HF2 HK1
        by_cases hlt : k < l.length
        · have hlt' : (k : Int) < (l.length : Int) := by omega
          have HK := hide hK
          have HM := hide hMo
          rcases hFl with ⟨_, h0⟩ | ⟨g, cur, g1, g2, ge, g3, g4, g5⟩
          · omega
          · simp only [Value.slice.injEq, and_true] at ge
            obtain rfl := ge
            obtain ⟨u0, c0⟩ : ∃ u, wr.cell? ⟨g, k * 3, none⟩ = some u := ⟨_, by rw [g3.cell]; exact List.getElem?_eq_getElem (by omega)⟩
            obtain ⟨u1, c1⟩ : ∃ u, wr.cell? ⟨g, k * 3 + 1, none⟩ = some u := ⟨_, by rw [g3.cell]; exact List.getElem?_eq_getElem (by omega)⟩
            obtain ⟨u2, c2⟩ : ∃ u, wr.cell? ⟨g, k * 3 + 2, none⟩ = some u := ⟨_, by rw [g3.cell]; exact List.getElem?_eq_getElem (by omega)⟩
            have f0 := g3.frozen (k * 3)
            have f1 := g3.frozen (k * 3 + 1)
            have f2 := g3.frozen (k * 3 + 2)
            have G3 := hide (setCells3_blk (k := k * 3) g3 (.int .i64 m) (.slice none 0 0) (.slice none 0 0))
            have G5 := hide (fill_next3 (a := .int .i64 m) (b := .slice none 0 0) (c := .slice none 0 0) g5 (by omega))
            have M2 := hide ((setCells3_mods wr g (k * 3) (.int .i64 m) (.slice none 0 0) (.slice none 0 0)).mono (T := fun k => lo' ≤ k ∧ k < hi') (fun i _ e => by omega))
            clear hK hMo g3 g5
            go_wp2_with fail
            refine ⟨⟨k + 1, by omega, by go_num, (unhide HK).in_mods (unhide FR1) (unhide M2), .inr ⟨g, _, g1, g2, rfl, unhide G3, by rw [set3_len]; exact g4, unhide G5⟩, (unhide HM).trans (unhide M2) (fun _ _ x => x)⟩, by simp [intOf]; omega⟩
        · have hlt' : ¬ (k : Int) < (l.length : Int) := by omega
          obtain rfl : k = l.length := by omega
          have P0 := hide (KLp.start (m := m) kty2 hK (unhide FR1) hFl hl (by have := hMo.size; omega))
          have ST := hide ((unhide S1).trans (KStep.fill (bh := bh) (cs := cs1) (es := es') hMo) (lo := lo) (hi := hi) (Nat.le_refl _) (Nat.le_refl _) lo1 hi1)
          clear hK hFl hMo S1
          obtain ⟨wo2, rfl⟩ : ∃ wo2 : World, wo2 = wr := ⟨_, rfl⟩
          go_wp2_with fail
          go_loopw [1, 7] (fun s1 s7 wr => ∃ (kk : Nat) (la : Option Addr) (lc : Nat), kk ≤ 4 ∧ s7 = .int .i64 kk ∧ s1 = .slice la (l.length + kk) lc ∧ ∃ cs2 es2, KLp wo2 wr bh cs1 (n + 2 * l.length + 1) es' lo' hi' 2 m l.length kk (.slice la (l.length + kk) lc) cs2 es2) (fun _ s7 _ => 4 - (intOf s7).toNat)
          case atStart => exact ⟨0, a, l.length, by omega, rfl, rfl, cs1, es', unhide P0⟩
          case round =>
            obtain ⟨kk, la, lc, hkk, rfl, rfl, cs2, es2, hP⟩ := hrel
            by_cases h4 : kk < 4
            · have h4' : (kk : Int) < 4 := by omega
              obtain ⟨rn, ra, ma, ra', ma', la', rc, mc, rc', mc', lc', x1, x3, x5, R⟩ := hP.round kty2 h4 hl hc1
              obtain ⟨r1, r2, r3, r4, r5, r6, r7, r8, r9, r10⟩ := R
              simp only [kdO, kdI, kdP, Nat.reduceMul, Nat.reduceAdd] at r1 r2 r3 r4 r5 r6 r7 r8 r9
              have R10 := hide r10
              clear hP r10 P0
              go_wp2_with (at_builtin; first
                | refine wpList_append_run rfl (.tmp 49) (.tmp 51) 38 rfl _ _ rfl rfl r2 ?_
                | refine wpList_append_run rfl (.tmp 59) (.tmp 61) 42 rfl _ _ rfl rfl r6 ?_
                | refine wpList_append_run rfl (.tmp 65) (.tmp 68) 56 rfl _ _ rfl rfl r9 ?_)
              obtain ⟨cs3, es3, h3⟩ := unhide R10
              refine ⟨⟨kk + 1, la', lc', by omega, by go_num, rfl, cs3, es3, h3⟩, by simp [intOf]; omega⟩
            · have h4' : ¬ (kk : Int) < 4 := by omega
              go_wp2_with fail
              go_end0
              have hst := (unhide ST).trans (hP.fin hkk) (lo := lo) (hi := hi) (Nat.le_refl _) (Nat.le_refl _) lo1 hi1
              exact ⟨rfl, cs2, es2, hP.inv, hst⟩
end Go.Proofs.Ytiiokkllmchohaa
/- The law's hands keep a list of methods. -/
namespace Go.Proofs.Ytiiokkllmchohaa
open Go.RowKit
attribute [local go_sem ↓] Go.wp_at_zero Go.wp_at_succ

def cMe (m : LMeth) : Nat := 2 * m.frames.length + 3
def cMs (l : List LMeth) : Nat := (l.map cMe).sum
theorem cMs_take {l : List LMeth} {k : Nat} (h : k < l.length) : cMs (l.take (k + 1)) = cMs (l.take k) + cMe l[k] := by
  unfold cMs
  rw [List.take_add_one, List.getElem?_eq_getElem h, Option.toList_some, List.map_append, List.sum_append]
  simp only [List.map_cons, List.map_nil, List.sum_cons, List.sum_nil, Nat.add_zero]
theorem cMs_le (l : List LMeth) (k : Nat) : cMs (l.take k) ≤ cMs l := by
  unfold cMs
  have := List.take_append_drop k l
  have e : (l.map cMe).sum = ((l.take k).map cMe).sum + ((l.drop k).map cMe).sum := by rw [← List.sum_append, ← List.map_append, this]
  omega
theorem kty1 : KTy 1 37 (.agg #[.int .i64 0, .int .i64 0, .int .i64 0]) 24 :=
  ⟨by decide, Try.underlying37, Try.underlying55, info_parts infoInss, info_parts infoIns, rfl, by decide, by decide, fun _ => rfl, fun m u hu => by
    simp only [kdP, List.mem_cons, List.not_mem_nil, or_false] at hu
    rcases hu with rfl | rfl | rfl <;> rfl⟩
theorem kty3 : KTy 3 39 (.agg #[.int .i64 0, .slice none 0 0, .int .i64 0, .int .i64 0, .int .i64 0, .slice none 0 0, .slice none 0 0]) 104 :=
  ⟨by decide, Try.underlying39, Try.underlying32, info_parts infoMeths, info_parts infoMeth, rfl, by decide, by decide, fun _ => rfl, fun m u hu => by
    simp only [kdP, List.mem_cons, List.not_mem_nil, or_false] at hu
    rcases hu with rfl | rfl | rfl | rfl | rfl | rfl | rfl <;> rfl⟩
/-- Behind k methods. -/
structure MLp (w wr : World) (bh : Nat) (cs : List Value) (n : Nat) (es : Nat → List Ent) (lo hi : Nat) (v : Value) (l : List LMeth) (k mid : Nat) (cs' : List Value) (es' : Nat → List Ent) : Prop where
  inv : KInv wr bh cs' (n + cMs (l.take k)) es'
  rem : Rem 58 7 EMe wr lo hi v l k mid
  st : KStep w wr bh cs cs' es es' lo hi (cMs (l.take k))
  fr : KFree bh cs' es' mid hi
  fg : ∀ g, v.ownBlock = some g → KFree bh cs' es' g (g + 1)
def okM (m : LMeth) : Prop := m.args.length ≤ 1000 ∧ m.code.length ≤ 1000 ∧ m.frames.length ≤ 1000 ∧ ∀ f ∈ m.frames, f.locals.length ≤ 1000 ∧ f.stack.length ≤ 1000
/-- Within the next method: its arguments and its frames have been kept, its code has not. -/
structure MIn (w wr : World) (bh : Nat) (cs : List Value) (n : Nat) (es : Nat → List Ent) (lo hi g : Nat) (cells : List Value) (l : List LMeth) (k m1 m2 mid1 c : Nat) (cs' : List Value) (es' : Nat → List Ent) : Prop where
  inv : KInv wr bh cs' (n + (cMs (l.take k) + c)) es'
  st : KStep w wr bh cs cs' es es' lo hi (cMs (l.take k) + c)
  fc : KFree bh cs' es' m1 m2
  fr : KFree bh cs' es' mid1 hi
  fg : KFree bh cs' es' g (g + 1)
  bg : Blk wr g 58 cells
  ol : OwnL 7 EMe wr mid1 hi (cells.drop ((k + 1) * 7)) (l.drop (k + 1))
  sz : hi ≤ wr.heap.size
  cl : cells.length = l.length * 7
  o1 : g < m1 ∧ m1 ≤ m2 ∧ m2 ≤ mid1 ∧ mid1 ≤ hi ∧ lo ≤ g
section
variable {w wr wr' : World} {bh : Nat} {cs : List Value} {n : Nat} {es : Nat → List Ent} {lo hi g : Nat} {cells : List Value} {l : List LMeth} {k m1 m2 mid1 c : Nat} {cs' cs2 : List Value} {es' es2 : Nat → List Ent}
/-- A step that leaves the code's blocks. -/
theorem MIn.mark (h : MIn w wr bh cs n es lo hi g cells l k m1 m2 mid1 c cs' es') (hm : Mods (fun k => k = bh) wr wr') (ho : ∀ f k, OwnAt cs2 f k → OwnAt cs' f k) : KFree bh cs2 es' m1 m2 ∧ KStep w wr' bh cs cs2 es es' lo hi (cMs (l.take k) + c) ∧ Mods (fun k => k = bh) wr wr' :=
  ⟨h.fc.step (KStep.mark (es := es') hm ho 0 0) (fun _ _ _ x => by omega) (by have := h.sz; have := h.o1; omega), by have := h.st.trans (KStep.mark (es := es') hm ho lo hi) (lo := lo) (hi := hi) (Nat.le_refl _) (Nat.le_refl _) (Nat.le_refl _) (Nat.le_refl _); simpa using this, hm⟩
/-- The code is kept, too. -/
theorem MIn.fin (h : MIn w wr bh cs n es lo hi g cells l k m1 m2 mid1 c cs' es') {d : Nat} (s : KStep wr wr' bh cs' cs2 es' es2 m1 m2 d) (K : KInv wr' bh cs2 (n + cMs (l.take (k + 1))) es2) (hc : cMs (l.take (k + 1)) = cMs (l.take k) + c + d) : MLp w wr' bh cs n es lo hi (.slice (some ⟨g, 0, none⟩) l.length l.length) l (k + 1) mid1 cs2 es2 := by
  obtain ⟨o1, o2, o3, o4, o5⟩ := h.o1
  have hsz := h.sz
  refine ⟨K, .inr ⟨g, cells, o5, by omega, rfl, h.bg.same (s.same h.fg (fun _ _ _ x => by omega) (by have := h.bg.lt; omega) g (Nat.le_refl _) (by omega)), h.cl, h.ol.stay okMe (fun i a b => s.same h.fr (fun _ _ _ x => by omega) hsz i a b)⟩, ?_, h.fr.step s (fun _ _ _ x => by omega) hsz, fun g' hg' => ?_⟩
  · rw [hc]
    exact h.st.trans s (Nat.le_refl _) (Nat.le_refl _) (by omega) (by omega)
  · cases hg'
    exact h.fg.step s (fun _ _ _ x => by omega) (by have := h.bg.lt; omega)
end

set_option maxHeartbeats 4000000 in
set_option maxRecDepth 100000 in
theorem keep_methods (l : List LMeth) (v : Value) (w : World) (bh : Nat) (cs : List Value) (n : Nat) (es : Nat → List Ent) (lo hi : Nat) (h : KInv w bh cs n es) (hv : OwnMs w lo hi v l) (hf : KFree bh cs es lo hi) (hhi : hi ≤ w.heap.size) (hl : l.length ≤ 1000) (hn : n ≤ 500000) (hc : ∀ j, j < 6 → (es j).length ≤ 8000000) (hz : ∀ m ∈ l, okM m) (hcm : cMs l ≤ 100000) :
    Calls Try.prog 50 #[.pointer (some ⟨bh, 0, none⟩), v] w fun e w' => e = .returned (.tuple #[]) ∧ ∃ cs' es', KInv w' bh cs' (n + (cMs l + 1)) es' ∧ KStep w w' bh cs cs' es es' lo hi (cMs l + 1) := by
  obtain ⟨mid0, hR0, hlm⟩ := Rem.start hv
  have hlohi := hv.le okMe
  have L0 : MLp w w bh cs n es lo hi v l 0 mid0 cs es := ⟨h, hR0, KStep.refl w bh cs es lo hi, hf.sub hlm (Nat.le_refl _), fun g hg => hf.sub (hR0.fill okMe [] |>.block hg).1 (hR0.fill okMe [] |>.block hg).2⟩
  obtain ⟨a, rfl⟩ := hv.form
  have HL0 := hide L0
  clear hv hR0 hlm L0 h hf
  go_enter Try.func50, Try.ntmps50
  go_wp2_with fail
  go_loopw [4] (fun s4 wr => ∃ (k mid : Nat) (cs' : List Value) (es' : Nat → List Ent), k ≤ l.length ∧ s4 = .int .i64 k ∧ MLp w wr bh cs n es lo hi (.slice a l.length l.length) l k mid cs' es') (fun s4 _ => l.length - (intOf s4).toNat)
  case atStart => exact ⟨0, mid0, cs, es, Nat.zero_le _, rfl, unhide HL0⟩
  case round =>
    obtain ⟨k, mid, cs', es', hk, rfl, hP⟩ := hrel
    clear HL0
    by_cases hlt : k < l.length
    · have hlt' : (k : Int) < (l.length : Int) := by omega
      have hws := hP.st.mods.size
      have hcle := cMs_le l (k + 1)
      have hct := cMs_take hlt
      obtain ⟨g, cells, c, mid1, ge, g1, g2, g3, g4, g5, g6, g7, g8⟩ := hP.rem.next hlt
      simp only [Value.slice.injEq, and_true] at ge
      obtain rfl := ge
      obtain ⟨va, vc, vf, m1, m2, rfl, t1, t2, t3⟩ := g7
      have hzk := hz l[k] (List.getElem_mem hlt)
      generalize l[k] = me at *
      unfold cMe at hct
      have le1 := t1.le okInt
      have le2 := t2.le okIns
      have le3 := t3.le okFr
      have le4 := OwnL.le okMe g8
      have c1 : wr.cell? ⟨g, k * 7 + 1, none⟩ = some va := by rw [g3.cell]; exact g6 1 (by omega)
      obtain ⟨aa, rfl⟩ := t1.form
      obtain ⟨ca, rfl⟩ := t2.form
      obtain ⟨fa, rfl⟩ := t3.form
      have HP := hide hP
      have G3 := hide g3
      have HC5 : Hid (cells[k * 7 + 5]? = some (.slice ca me.code.length me.code.length)) := g6 5 (by omega)
      have HC6 : Hid (cells[k * 7 + 6]? = some (.slice fa me.frames.length me.frames.length)) := g6 6 (by omega)
      have T1 := hide t1
      have T2 := hide t2
      have T3 := hide t3
      have G8 := hide g8
      have HCT := hide hct
      obtain ⟨hz1, hz2, hz3, hz4⟩ := hzk
      clear hP g3 g6 t1 t2 t3 g8 hct
      have hcl0 := cMs_le l k
      go_wp2_with fail
      refine Calls.mono (keep_types me.args _ wr bh cs' (n + cMs (l.take k)) es' mid m1 (unhide HP).inv (unhide T1) ((unhide HP).fr.sub (Nat.le_refl _) (by omega)) (by omega) hz1 (by omega) (fun j hj => by have := (unhide HP).st.cnt j hj; have := hc j hj; omega)) ?_
      rintro e w1 ⟨rfl, cs1, es1, K1, S1⟩
      have fr1 := (unhide HP).fr.sub (lo' := m1) (hi' := hi) (by omega) (Nat.le_refl _)
      have same1 := S1.same fr1 (fun k _ _ x => by omega) (by omega)
      have fr1' := fr1.step S1 (fun k _ _ x => by omega) (by omega)
      have fg1 := (unhide HP).fg g rfl
      have bg1 : Blk w1 g 58 cells := (unhide G3).same (S1.same fg1 (fun k _ _ x => by omega) (by have := (unhide G3).lt; omega) g (by omega) (by omega))
      have fg1' := fg1.step S1 (fun k _ _ x => by omega) (by have := (unhide G3).lt; omega)
      have t2' := (unhide T2).stay okIns (fun k a b => same1 k (by omega) (by omega))
      have t3' := (unhide T3).stay okFr (fun k a b => same1 k (by omega) (by omega))
      have g8' := (unhide G8).stay okMe (fun k a b => same1 k (by omega) (by omega))
      have c6 : w1.cell? ⟨g, k * 7 + 6, none⟩ = some (.slice fa me.frames.length me.frames.length) := by rw [bg1.cell]; exact unhide HC6
      have hs1 := S1.mods.size
      have ST1 := hide ((unhide HP).st.trans S1 (lo := lo) (hi := hi) (Nat.le_refl _) (Nat.le_refl _) (by omega) (by omega))
      have HK1 := hide K1
      have BG1 := hide bg1
      have T2' := hide t2'
      have T3' := hide t3'
      have G8' := hide g8'
      have FR1 := hide fr1'
      have FG1 := hide fg1'
      clear K1 S1 fr1 same1 fr1' fg1 bg1 fg1' t2' t3' g8' c1 T1 T2 T3 G8 G3 HC6
      go_wp2_with fail
      refine Calls.mono (keep_frames me.frames _ w1 bh cs1 (n + cMs (l.take k) + 1) es1 m2 mid1 (unhide HK1) (unhide T3') ((unhide FR1).sub (by omega) (by omega)) (by omega) hz3 (by omega) (fun j hj => by have := (unhide ST1).cnt j hj; have := hc j hj; omega) hz4) ?_
      rintro e w2 ⟨rfl, cs2, es2, K2, S2⟩
      have frc := (unhide FR1).sub (lo' := m1) (hi' := m2) (by omega) (by omega)
      have frr := (unhide FR1).sub (lo' := mid1) (hi' := hi) (by omega) (by omega)
      have bg2 : Blk w2 g 58 cells := (unhide BG1).same (S2.same (unhide FG1) (fun k _ _ x => by omega) (by have := (unhide BG1).lt; omega) g (by omega) (by omega))
      have t2'' := (unhide T2').stay okIns (fun k a b => S2.same frc (fun k _ _ x => by omega) (by omega) k a b)
      have c5 : w2.cell? ⟨g, k * 7 + 5, none⟩ = some (.slice ca me.code.length me.code.length) := by rw [bg2.cell]; exact unhide HC5
      have I2 : MIn w w2 bh cs n es lo hi g cells l k m1 m2 mid1 (2 * me.frames.length + 2) cs2 es2 := by
        refine ⟨?_, ?_, frc.step S2 (fun k _ _ x => by omega) (by omega), frr.step S2 (fun k _ _ x => by omega) (by omega), (unhide FG1).step S2 (fun k _ _ x => by omega) (by have := (unhide BG1).lt; omega), bg2, (unhide G8').stay okMe (fun k a b => S2.same frr (fun k _ _ x => by omega) (by omega) k a b), by have := S2.mods.size; omega, g4, by omega⟩
        · rw [show n + (cMs (l.take k) + (2 * me.frames.length + 2)) = n + cMs (l.take k) + 1 + (2 * me.frames.length + 1) by omega]; exact K2
        · have := (unhide ST1).trans S2 (lo := lo) (hi := hi) (Nat.le_refl _) (Nat.le_refl _) (by omega) (by omega)
          rw [show cMs (l.take k) + (2 * me.frames.length + 2) = cMs (l.take k) + 1 + (2 * me.frames.length + 1) by omega]; exact this
      have HI2 := hide I2
      have T2'' := hide t2''
      clear K2 S2 frc frr bg2 t2'' I2 c6 HK1 BG1 T2' T3' G8' FR1 FG1 ST1 HC5
      go_wp2_with fail
      refine Calls.mono (law_mark (n + (cMs (l.take k) + (2 * me.frames.length + 2))) w2 bh cs2 (unhide HI2).inv.hands (unhide HI2).inv.c6 (by omega)) ?_
      rintro e w3 ⟨rfl, hh3, hm3⟩
      generalize -77000001 - ((n + (cMs (l.take k) + (2 * me.frames.length + 2)) : Nat) : Int) = m at *
      obtain ⟨K3, ho3⟩ := (unhide HI2).inv.mark (n + (cMs (l.take k) + (2 * me.frames.length + 2)) + 1) hh3 hm3
      have hs3 := hm3.size
      have hn2 := (unhide HI2).sz
      have S3 := hide (KStep.mark (es := es2) hm3 ho3 m1 m2)
      have F3 := hide ((Fill.start okIns (unhide T2'') (kdP 1 m)).mods hm3 (fun g hg e => (unhide HI2).fc.hb (e ▸ (Fill.start okIns (unhide T2'') (kdP 1 m)).block hg)))
      have FR3 := hide ((unhide HI2).fc.step (KStep.mark (es := es2) hm3 ho3 0 0) (fun k _ _ x => by omega) (by omega))
      have d5 : w3.cell? ⟨g, k * 7 + 5, none⟩ = some (.slice ca me.code.length me.code.length) := hm3.cell c5 (fun e => (unhide HI2).fg.hb (by show _ ≤ _ ∧ _ < _; simp only at e; omega))
      have hc3 : ∀ j, j < 6 → (es2 j).length ≤ 16777216 := fun j hj => by have := (unhide HI2).st.cnt j hj; have := hc j hj; omega
      have HK3 := hide K3
      clear K3 hh3 hm3 ho3 c5 T2''
      generalize cs2.set 6 _ = cs3 at *
      go_wp2_with fail
      go_loopw [7] (fun s7 wr => ∃ q : Nat, q ≤ me.code.length ∧ s7 = .int .i64 q ∧ KInv wr bh cs3 (n + (cMs (l.take k) + (2 * me.frames.length + 2)) + 1) es2 ∧ Fill wr 54 3 m1 m2 (.slice ca me.code.length me.code.length) me.code.length (kdP 1 m) q ∧ Mods (fun k => m1 ≤ k ∧ k < m2) w3 wr) (fun s7 _ => me.code.length - (intOf s7).toNat)
      case atStart => exact ⟨0, Nat.zero_le _, rfl, unhide HK3, unhide F3, Mods.refl _ _⟩
      case round =>
        obtain ⟨q, hq, rfl, hK, hFl, hMo⟩ := hrel
        clear F3 HK3 d5
        by_cases hqt : q < me.code.length
        · have hqt' : (q : Int) < (me.code.length : Int) := by omega
          have HK := hide hK
          have HM := hide hMo
          rcases hFl with ⟨_, h0⟩ | ⟨gc, cur, q1, q2, qe, q3, q4, q5⟩
          · omega
          · simp only [Value.slice.injEq, and_true] at qe
            obtain rfl := qe
            obtain ⟨u0, c0⟩ : ∃ u, wr.cell? ⟨gc, q * 3, none⟩ = some u := ⟨_, by rw [q3.cell]; exact List.getElem?_eq_getElem (by omega)⟩
            obtain ⟨u1, c1⟩ : ∃ u, wr.cell? ⟨gc, q * 3 + 1, none⟩ = some u := ⟨_, by rw [q3.cell]; exact List.getElem?_eq_getElem (by omega)⟩
            obtain ⟨u2, c2⟩ : ∃ u, wr.cell? ⟨gc, q * 3 + 2, none⟩ = some u := ⟨_, by rw [q3.cell]; exact List.getElem?_eq_getElem (by omega)⟩
            have f0 := q3.frozen (q * 3)
            have f1 := q3.frozen (q * 3 + 1)
            have f2 := q3.frozen (q * 3 + 2)
            have G3 := hide (setCells3_blk (k := q * 3) q3 (.int .i64 m) (.int .i64 0) (.int .i64 0))
            have G5 := hide (fill_next3 (a := .int .i64 m) (b := .int .i64 0) (c := .int .i64 0) q5 (by omega))
            have M2 := hide ((setCells3_mods wr gc (q * 3) (.int .i64 m) (.int .i64 0) (.int .i64 0)).mono (T := fun k => m1 ≤ k ∧ k < m2) (fun i _ e => by omega))
            clear hK hMo q3 q5
            go_wp2_with fail
            refine ⟨⟨q + 1, by omega, by go_num, (unhide HK).in_mods (unhide FR3) (unhide M2), .inr ⟨gc, _, q1, q2, rfl, unhide G3, by rw [set3_len]; exact q4, unhide G5⟩, (unhide HM).trans (unhide M2) (fun _ _ x => x)⟩, by simp [intOf]; omega⟩
        · have hqt' : ¬ (q : Int) < (me.code.length : Int) := by omega
          obtain rfl : q = me.code.length := by omega
          have P0 := hide (KLp.start (m := m) kty1 hK (unhide FR3) hFl hz2 (by have := hMo.size; omega))
          have ST := hide ((unhide S3).trans (KStep.fill (bh := bh) (cs := cs3) (es := es2) hMo) (lo := m1) (hi := m2) (Nat.le_refl _) (Nat.le_refl _) (Nat.le_refl _) (Nat.le_refl _))
          clear hK hFl hMo S3
          obtain ⟨wo2, rfl⟩ : ∃ wo2 : World, wo2 = wr := ⟨_, rfl⟩
          go_wp2_with fail
          go_loopw [6, 8] (fun s6 s8 wr => ∃ (kk : Nat) (la : Option Addr) (lc : Nat), kk ≤ 4 ∧ s8 = .int .i64 kk ∧ s6 = .slice la (me.code.length + kk) lc ∧ ∃ cs4 es4, KLp wo2 wr bh cs3 (n + (cMs (l.take k) + (2 * me.frames.length + 2)) + 1) es2 m1 m2 1 m me.code.length kk (.slice la (me.code.length + kk) lc) cs4 es4) (fun _ s8 _ => 4 - (intOf s8).toNat)
          case atStart => exact ⟨0, ca, me.code.length, by omega, rfl, rfl, cs3, es2, unhide P0⟩
          case round =>
            obtain ⟨kk, la, lc, hkk, rfl, rfl, cs4, es4, hP⟩ := hrel
            by_cases h4 : kk < 4
            · have h4' : (kk : Int) < 4 := by omega
              obtain ⟨rn, ra, ma, ra', ma', la', rc, mc, rc', mc', lc', x1, x3, x5, R⟩ := hP.round kty1 h4 hz2 hc3
              obtain ⟨r1, r2, r3, r4, r5, r6, r7, r8, r9, r10⟩ := R
              simp only [kdO, kdI, kdP, Nat.reduceMul, Nat.reduceAdd] at r1 r2 r3 r4 r5 r6 r7 r8 r9
              have R10 := hide r10
              clear hP r10 P0
              go_wp2_with (at_builtin; first
                | refine wpList_append_run rfl (.tmp 58) (.tmp 60) 37 rfl _ _ rfl rfl r2 ?_
                | refine wpList_append_run rfl (.tmp 68) (.tmp 70) 42 rfl _ _ rfl rfl r6 ?_
                | refine wpList_append_run rfl (.tmp 74) (.tmp 77) 55 rfl _ _ rfl rfl r9 ?_)
              obtain ⟨cs5, es5, h5⟩ := unhide R10
              refine ⟨⟨kk + 1, la', lc', by omega, by go_num, rfl, cs5, es5, h5⟩, by simp [intOf]; omega⟩
            · have h4' : ¬ (kk : Int) < 4 := by omega
              have hst := (unhide ST).trans (hP.fin hkk) (lo := m1) (hi := m2) (Nat.le_refl _) (Nat.le_refl _) (Nat.le_refl _) (Nat.le_refl _)
              have hct := unhide HCT
              have HZ := hide ((unhide HI2).fin hst (by rw [hct, show n + (cMs (l.take k) + (2 * me.frames.length + 3)) = n + (cMs (l.take k) + (2 * me.frames.length + 2)) + 1 by omega]; exact hP.inv) (by omega))
              clear hst hct hP P0 ST
              go_wp2_with fail
              refine ⟨⟨k + 1, mid1, cs4, es4, by omega, by go_num, unhide HZ⟩, by simp [intOf]; omega⟩
    · have hlt' : ¬ (k : Int) < (l.length : Int) := by omega
      obtain rfl : k = l.length := by omega
      obtain ⟨wo, rfl⟩ : ∃ wo : World, wo = wr := ⟨_, rfl⟩
      have hws := hP.st.mods.size
      have hlt2 := hP.rem.le okMe
      have hinv := hP.inv
      have hst := hP.st
      rw [List.take_length] at hinv hst
      have hF0 := hP.rem.fill okMe (kdP 3 (-77000001 - ((n + cMs l : Nat) : Int)))
      have hfg : ∀ g, (Value.slice a l.length l.length).ownBlock = some g → lo ≤ g ∧ g < hi := fun g hg => hF0.block hg
      have HP := hide hP
      have HF0 := hide hF0
      have HFG := hide hfg
      have HINV := hide hinv
      have HST := hide hst
      clear hP hF0 hfg hinv hst
      go_wp2_with fail
      refine Calls.mono (law_mark (n + cMs l) wo bh cs' (unhide HINV).hands (unhide HINV).c6 (by omega)) ?_
      rintro e w1 ⟨rfl, hh1, hm1⟩
      generalize -77000001 - ((n + cMs l : Nat) : Int) = m at *
      obtain ⟨K1, ho1⟩ := (unhide HINV).mark (n + cMs l + 1) hh1 hm1
      have S1 := hide ((unhide HST).trans (KStep.mark (es := es') hm1 ho1 lo hi) (lo := lo) (hi := hi) (Nat.le_refl _) (Nat.le_refl _) (Nat.le_refl _) (Nat.le_refl _))
      have F1 := hide ((unhide HF0).mods hm1 (fun g hg e => ((unhide HP).fg g hg).hb (by omega)))
      obtain ⟨lo', hi', lo1, hi1, lohi1, hF2, fr1⟩ := (unhide F1).narrow (bh := bh) (cs := cs'.set 6 (.int .i64 ((n + cMs l + 1 : Nat) : Int))) (es := es') (fun g hg => ((unhide HP).fg g hg).step (KStep.mark (es := es') hm1 ho1 0 0) (fun k _ _ x => by omega) (by have := (unhide HFG) g hg; omega)) hlohi
      have hs1 := hm1.size
      have HK1 := hide K1
      have FR1 := hide fr1
      have HF2 := hide hF2
      have hc1 : ∀ j, j < 6 → (es' j).length ≤ 16777216 := fun j hj => by have := (unhide S1).cnt j hj; have := hc j hj; omega
      clear K1 HF0 HP fr1 hh1 hm1 ho1 F1 hF2 hc HINV HST
      generalize cs'.set 6 _ = cs1 at *
      go_wp2_with fail
      go_loopw [10] (fun s10 wr => ∃ k : Nat, k ≤ l.length ∧ s10 = .int .i64 k ∧ KInv wr bh cs1 (n + cMs l + 1) es' ∧ Fill wr 58 7 lo' hi' (.slice a l.length l.length) l.length (kdP 3 m) k ∧ Mods (fun k => lo' ≤ k ∧ k < hi') w1 wr) (fun s10 _ => l.length - (intOf s10).toNat)
      case atStart => exact ⟨0, Nat.zero_le _, rfl, unhide HK1, unhide HF2, Mods.refl _ _⟩
      case round =>
        obtain ⟨k, hk, rfl, hK, hFl, hMo⟩ := hrel
        clear HF2 HK1
        by_cases hlt : k < l.length
        · have hlt' : (k : Int) < (l.length : Int) := by omega
          have HK := hide hK
          have HM := hide hMo
          rcases hFl with ⟨_, h0⟩ | ⟨g, cur, g1, g2, ge, g3, g4, g5⟩
          · omega
          · simp only [Value.slice.injEq, and_true] at ge
            obtain rfl := ge
            obtain ⟨u0, c0⟩ : ∃ u, wr.cell? ⟨g, k * 7, none⟩ = some u := ⟨_, by rw [g3.cell]; exact List.getElem?_eq_getElem (by omega)⟩
            obtain ⟨u1, c1⟩ : ∃ u, wr.cell? ⟨g, k * 7 + 1, none⟩ = some u := ⟨_, by rw [g3.cell]; exact List.getElem?_eq_getElem (by omega)⟩
            obtain ⟨u2, c2⟩ : ∃ u, wr.cell? ⟨g, k * 7 + 2, none⟩ = some u := ⟨_, by rw [g3.cell]; exact List.getElem?_eq_getElem (by omega)⟩
            obtain ⟨u3, c3⟩ : ∃ u, wr.cell? ⟨g, k * 7 + 3, none⟩ = some u := ⟨_, by rw [g3.cell]; exact List.getElem?_eq_getElem (by omega)⟩
            obtain ⟨u4, c4⟩ : ∃ u, wr.cell? ⟨g, k * 7 + 4, none⟩ = some u := ⟨_, by rw [g3.cell]; exact List.getElem?_eq_getElem (by omega)⟩
            obtain ⟨u5, c5⟩ : ∃ u, wr.cell? ⟨g, k * 7 + 5, none⟩ = some u := ⟨_, by rw [g3.cell]; exact List.getElem?_eq_getElem (by omega)⟩
            obtain ⟨u6, c6⟩ : ∃ u, wr.cell? ⟨g, k * 7 + 6, none⟩ = some u := ⟨_, by rw [g3.cell]; exact List.getElem?_eq_getElem (by omega)⟩
            have ff := g3.frozen
            have G3 := hide (setCells7_blk (k := k * 7) g3 (.int .i64 m) (.slice none 0 0) (.int .i64 0) (.int .i64 0) (.int .i64 0) (.slice none 0 0) (.slice none 0 0))
            have G5 := hide (fill_next7 (a := .int .i64 m) (b := .slice none 0 0) (c := .int .i64 0) (d := .int .i64 0) (e := .int .i64 0) (f := .slice none 0 0) (g := .slice none 0 0) g5 (by omega))
            have M2 := hide ((setCells7_mods wr g (k * 7) (.int .i64 m) (.slice none 0 0) (.int .i64 0) (.int .i64 0) (.int .i64 0) (.slice none 0 0) (.slice none 0 0)).mono (T := fun k => lo' ≤ k ∧ k < hi') (fun i _ e => by omega))
            clear hK hMo g3 g5
            go_wp2_with fail
            refine ⟨⟨k + 1, by omega, by go_num, (unhide HK).in_mods (unhide FR1) (unhide M2), .inr ⟨g, _, g1, g2, rfl, unhide G3, by rw [set7_len]; exact g4, unhide G5⟩, (unhide HM).trans (unhide M2) (fun _ _ x => x)⟩, by simp [intOf]; omega⟩
        · have hlt' : ¬ (k : Int) < (l.length : Int) := by omega
          obtain rfl : k = l.length := by omega
          have P0 := hide (KLp.start (m := m) kty3 hK (unhide FR1) hFl hl (by have := hMo.size; omega))
          have ST := hide ((unhide S1).trans (KStep.fill (bh := bh) (cs := cs1) (es := es') hMo) (lo := lo) (hi := hi) (Nat.le_refl _) (Nat.le_refl _) lo1 hi1)
          clear hK hFl hMo S1
          obtain ⟨wo2, rfl⟩ : ∃ wo2 : World, wo2 = wr := ⟨_, rfl⟩
          go_wp2_with fail
          go_loopw [1, 11] (fun s1 s11 wr => ∃ (kk : Nat) (la : Option Addr) (lc : Nat), kk ≤ 4 ∧ s11 = .int .i64 kk ∧ s1 = .slice la (l.length + kk) lc ∧ ∃ cs2 es2, KLp wo2 wr bh cs1 (n + cMs l + 1) es' lo' hi' 3 m l.length kk (.slice la (l.length + kk) lc) cs2 es2) (fun _ s11 _ => 4 - (intOf s11).toNat)
          case atStart => exact ⟨0, a, l.length, by omega, rfl, rfl, cs1, es', unhide P0⟩
          case round =>
            obtain ⟨kk, la, lc, hkk, rfl, rfl, cs2, es2, hP⟩ := hrel
            by_cases h4 : kk < 4
            · have h4' : (kk : Int) < 4 := by omega
              obtain ⟨rn, ra, ma, ra', ma', la', rc, mc, rc', mc', lc', x1, x3, x5, R⟩ := hP.round kty3 h4 hl hc1
              obtain ⟨r1, r2, r3, r4, r5, r6, r7, r8, r9, r10⟩ := R
              simp only [kdO, kdI, kdP, Nat.reduceMul, Nat.reduceAdd] at r1 r2 r3 r4 r5 r6 r7 r8 r9
              have R10 := hide r10
              clear hP r10 P0
              go_wp2_with (at_builtin; first
                | refine wpList_append_run rfl (.tmp 100) (.tmp 102) 39 rfl _ _ rfl rfl r2 ?_
                | refine wpList_append_run rfl (.tmp 110) (.tmp 112) 42 rfl _ _ rfl rfl r6 ?_
                | refine wpList_append_run rfl (.tmp 116) (.tmp 119) 32 rfl _ _ rfl rfl r9 ?_)
              obtain ⟨cs3, es3, h3⟩ := unhide R10
              refine ⟨⟨kk + 1, la', lc', by omega, by go_num, rfl, cs3, es3, h3⟩, by simp [intOf]; omega⟩
            · have h4' : ¬ (kk : Int) < 4 := by omega
              go_wp2_with fail
              go_end0
              have hst := (unhide ST).trans (hP.fin hkk) (lo := lo) (hi := hi) (Nat.le_refl _) (Nat.le_refl _) lo1 hi1
              exact ⟨rfl, cs2, es2, hP.inv, hst⟩
end Go.Proofs.Ytiiokkllmchohaa
