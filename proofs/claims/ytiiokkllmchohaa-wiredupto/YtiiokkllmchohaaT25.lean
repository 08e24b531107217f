/- The law's hands keep a program. -/
import Derived.Test.YtiiokkllmchohaaT04
import Derived.Test.YtiiokkllmchohaaT12
import Derived.Test.YtiiokkllmchohaaT13
import Derived.Test.YtiiokkllmchohaaT24
/- KeepF -/
namespace Go.Proofs.Ytiiokkllmchohaa
open Go.RowKit
attribute [local go_sem ↓] Go.wp_at_zero Go.wp_at_succ

def cCl (x : LClass) : Nat := cMs x.meths + 2
def cCs (l : List LClass) : Nat := (l.map cCl).sum
theorem cCs_take {l : List LClass} {k : Nat} (h : k < l.length) : cCs (l.take (k + 1)) = cCs (l.take k) + cCl l[k] := by
  unfold cCs
  rw [List.take_add_one, List.getElem?_eq_getElem h, Option.toList_some, List.map_append, List.sum_append]
  simp only [List.map_cons, List.map_nil, List.sum_cons, List.sum_nil, Nat.add_zero]
theorem cCs_le (l : List LClass) (k : Nat) : cCs (l.take k) ≤ cCs l := sum_take_le cCl k l
theorem kty4 : KTy 4 40 (.agg #[.int .i64 0, .slice none 0 0, .slice none 0 0]) 56 :=
  ⟨by decide, Try.underlying40, Try.underlying22, info_parts infoClasses, info_parts infoClass, rfl, by decide, by decide, fun _ => rfl, fun m u hu => by
    simp only [kdP, List.mem_cons, List.not_mem_nil, or_false] at hu
    rcases hu with rfl | rfl | rfl <;> rfl⟩
/-- Behind k classes. -/
structure CLp (w wr : World) (bh : Nat) (cs : List Value) (n : Nat) (es : Nat → List Ent) (lo hi : Nat) (v : Value) (l : List LClass) (k mid : Nat) (cs' : List Value) (es' : Nat → List Ent) : Prop where
  inv : KInv wr bh cs' (n + cCs (l.take k)) es'
  rem : Rem 34 3 ECl wr lo hi v l k mid
  st : KStep w wr bh cs cs' es es' lo hi (cCs (l.take k))
  fr : KFree bh cs' es' mid hi
  fg : ∀ g, v.ownBlock = some g → KFree bh cs' es' g (g + 1)
  bx : Blk wr w.heap.size 24 [v]
  fb : KFree bh cs' es' w.heap.size (w.heap.size + 1)
theorem KFree.new {w : World} {bh : Nat} {cs : List Value} {n : Nat} {es : Nat → List Ent} {rs : Nat → List Value} (h : KGen w bh cs n es rs) {B : Nat} (hB : w.heap.size ≤ B) (B' : Nat) : KFree bh cs es B B' := by
  refine ⟨fun x => by have := h.hands.1.lt; omega, fun f k hf x => by have := h.own hf; omega, fun j hj e he g hg x => ?_⟩
  obtain ⟨c, hc, _⟩ := (h.ent j hj e he).2.2 g hg
  have := hc.lt
  omega
def okC (x : LClass) : Prop := x.fields.length ≤ 1000 ∧ x.meths.length ≤ 1000 ∧ cMs x.meths ≤ 100000 ∧ ∀ m ∈ x.meths, okM m

set_option maxHeartbeats 4000000 in
set_option maxRecDepth 100000 in
theorem keep_program (l : List LClass) (v : Value) (w : World) (bh : Nat) (cs : List Value) (n : Nat) (es : Nat → List Ent) (lo hi : Nat) (h : KInv w bh cs n es) (hv : OwnCs w lo hi v l) (hf : KFree bh cs es lo hi) (hhi : hi ≤ w.heap.size) (hl : l.length ≤ 1000) (hn : n ≤ 300000) (hc : ∀ j, j < 6 → (es j).length ≤ 4000000) (hz : ∀ x ∈ l, okC x) (hcm : cCs l ≤ 100000) :
    Calls Try.prog 22 #[.pointer (some ⟨bh, 0, none⟩), .agg #[v]] w fun e w' => e = .returned (.tuple #[]) ∧ ∃ cs' es', KInv w' bh cs' (n + (cCs l + 1)) es' ∧ KStep w w' bh cs cs' es es' lo hi (cCs l + 1) := by
  obtain ⟨mid0, hR0, hlm⟩ := Rem.start hv
  have hlohi := hv.le okCl
  have hW := (Mods.refl (fun _ => False) w).alloc (.cells #[v] 24)
  have L0 : CLp w (w.alloc (.cells #[v] 24)) bh cs n es lo hi v l 0 mid0 cs es := by
    refine ⟨h.mods hW (fun f => f) (fun _ _ _ f => f) (fun _ _ _ _ _ _ f => f), ?_, KStep.fill (hW.mono (fun _ _ f => f.elim)), hf.sub hlm (Nat.le_refl _), fun g hg => hf.sub (hR0.fill okCl [] |>.block hg).1 (hR0.fill okCl [] |>.block hg).2, Blk.new w #[v] 24, KFree.new h (Nat.le_refl _) _⟩
    rcases hR0 with x | ⟨g, cells, h1, h2, h3, h4, h5, h6⟩
    · exact .inl x
    · exact .inr ⟨g, cells, h1, h2, h3, h4.mods hW (fun f => f), h5, h6.stay okCl (fun k a b => hW.block k (by omega) (fun f => f))⟩
  obtain ⟨a, rfl⟩ := hv.form
  have HL0 := hide L0
  clear hv hR0 hlm L0 h hf hW
  go_enter Try.func22, Try.ntmps22
  go_wp2_with fail
  generalize w.alloc _ = W0 at *
  go_loopw [4] (fun s4 wr => ∃ (k mid : Nat) (cs' : List Value) (es' : Nat → List Ent), k ≤ l.length ∧ s4 = .int .i64 k ∧ CLp w wr bh cs n es lo hi (.slice a l.length l.length) l k mid cs' es') (fun s4 _ => l.length - (intOf s4).toNat)
  case atStart => exact ⟨0, mid0, cs, es, Nat.zero_le _, rfl, unhide HL0⟩
  case round =>
    obtain ⟨k, mid, cs', es', hk, rfl, hP⟩ := hrel
    clear HL0
    have b0 : wr.cell? ⟨w.heap.size, 0, none⟩ = some (.slice a l.length l.length) := hP.bx.cell 0
    by_cases hlt : k < l.length
    · have hlt' : (k : Int) < (l.length : Int) := by omega
      have hws := hP.st.mods.size
      have hws2 := hP.bx.lt
      have hcle := cCs_le l (k + 1)
      have hcl0 := cCs_le l k
      have hct := cCs_take hlt
      obtain ⟨g, cells, c, mid1, ge, g1, g2, g3, g4, g5, g6, g7, g8⟩ := hP.rem.next hlt
      simp only [Value.slice.injEq, and_true] at ge
      obtain rfl := ge
      obtain ⟨vf, vm, mm, rfl, t1, t2⟩ := g7
      have hzk := hz l[k] (List.getElem_mem hlt)
      generalize l[k] = x at *
      unfold cCl at hct
      obtain ⟨hz1, hz2, hz3, hz4⟩ := hzk
      have le1 := t1.le okInt
      have le2 := t2.le okMe
      have le3 := OwnL.le okCl g8
      have c1 : wr.cell? ⟨g, k * 3 + 1, none⟩ = some vf := by rw [g3.cell]; exact g6 1 (by omega)
      obtain ⟨fa, rfl⟩ := t1.form
      obtain ⟨ma, rfl⟩ := t2.form
      have HP := hide hP
      have G3 := hide g3
      have HC2 : Hid (cells[k * 3 + 2]? = some (.slice ma x.meths.length x.meths.length)) := g6 2 (by omega)
      have T1 := hide t1
      have T2 := hide t2
      have G8 := hide g8
      have HCT := hide hct
      clear hP g3 g6 t1 t2 g8 hct
      go_wp2_with fail
      refine Calls.mono (keep_types x.fields _ wr bh cs' (n + cCs (l.take k)) es' mid mm (unhide HP).inv (unhide T1) ((unhide HP).fr.sub (Nat.le_refl _) (by omega)) (by omega) hz1 (by omega) (fun j hj => by have := (unhide HP).st.cnt j hj; have := hc j hj; omega)) ?_
      rintro e w1 ⟨rfl, cs1, es1, K1, S1⟩
      have fr1 := (unhide HP).fr.sub (lo' := mm) (hi' := hi) (by omega) (Nat.le_refl _)
      have same1 := S1.same fr1 (fun k _ _ x => by omega) (by omega)
      have fr1' := fr1.step S1 (fun k _ _ x => by omega) (by omega)
      have fg1 := (unhide HP).fg g rfl
      have bg1 : Blk w1 g 34 cells := (unhide G3).same (S1.same fg1 (fun k _ _ x => by omega) (by have := (unhide G3).lt; omega) g (by omega) (by omega))
      have fg1' := fg1.step S1 (fun k _ _ x => by omega) (by have := (unhide G3).lt; omega)
      have bx1 : Blk w1 w.heap.size 24 [.slice (some ⟨g, 0, none⟩) l.length l.length] := (unhide HP).bx.same (S1.same (unhide HP).fb (fun k _ _ x => by omega) (by omega) w.heap.size (by omega) (by omega))
      have fb1 := (unhide HP).fb.step S1 (fun k _ _ x => by omega) (by omega)
      have t2' := (unhide T2).stay okMe (fun k a b => same1 k (by omega) (by omega))
      have g8' := (unhide G8).stay okCl (fun k a b => same1 k (by omega) (by omega))
      have c2 : w1.cell? ⟨g, k * 3 + 2, none⟩ = some (.slice ma x.meths.length x.meths.length) := by rw [bg1.cell]; exact unhide HC2
      have b1 : w1.cell? ⟨w.heap.size, 0, none⟩ = some (.slice (some ⟨g, 0, none⟩) l.length l.length) := bx1.cell 0
      have hs1 := S1.mods.size
      have ST1 := hide ((unhide HP).st.trans S1 (lo := lo) (hi := hi) (Nat.le_refl _) (Nat.le_refl _) (by omega) (by omega))
      have HK1 := hide K1
      have BG1 := hide bg1
      have BX1 := hide bx1
      have FB1 := hide fb1
      have T2' := hide t2'
      have G8' := hide g8'
      have FR1 := hide fr1'
      have FG1 := hide fg1'
      clear K1 S1 fr1 same1 fr1' fg1 bg1 fg1' t2' g8' c1 T1 T2 G8 G3 bx1 fb1 b0
      go_wp2_with fail
      refine Calls.mono (keep_methods x.meths _ w1 bh cs1 (n + cCs (l.take k) + 1) es1 mm mid1 (unhide HK1) (unhide T2') ((unhide FR1).sub (Nat.le_refl _) (by omega)) (by omega) hz2 (by omega) (fun j hj => by have := (unhide ST1).cnt j hj; have := hc j hj; omega) hz4 hz3) ?_
      rintro e w2 ⟨rfl, cs2, es2, K2, S2⟩
      have fr2 := (unhide FR1).sub (lo' := mid1) (hi' := hi) (by omega) (Nat.le_refl _)
      have same2 := S2.same fr2 (fun k _ _ x => by omega) (by omega)
      have P2 : CLp w w2 bh cs n es lo hi (.slice (some ⟨g, 0, none⟩) l.length l.length) l (k + 1) mid1 cs2 es2 := by
        have hct := unhide HCT
        refine ⟨by rw [hct, show n + (cCs (l.take k) + (cMs x.meths + 2)) = n + cCs (l.take k) + 1 + (cMs x.meths + 1) by omega]; exact K2, .inr ⟨g, cells, g1, by omega, rfl, (unhide BG1).same (S2.same (unhide FG1) (fun k _ _ x => by omega) (by have := (unhide BG1).lt; omega) g (by omega) (by omega)), g4, (unhide G8').stay okCl (fun k a b => same2 k a b)⟩, ?_, fr2.step S2 (fun k _ _ x => by omega) (by omega), fun g' hg' => ?_, (unhide BX1).same (S2.same (unhide FB1) (fun k _ _ x => by omega) (by omega) w.heap.size (by omega) (by omega)), (unhide FB1).step S2 (fun k _ _ x => by omega) (by omega)⟩
        · have := (unhide ST1).trans S2 (lo := lo) (hi := hi) (Nat.le_refl _) (Nat.le_refl _) (by omega) (by omega)
          rw [hct, show cCs (l.take k) + (cMs x.meths + 2) = cCs (l.take k) + 1 + (cMs x.meths + 1) by omega]; exact this
        · cases hg'
          exact (unhide FG1).step S2 (fun k _ _ x => by omega) (by have := (unhide BG1).lt; omega)
      have HP2 := hide P2
      clear P2 K2 S2 fr2 same2 c2 b1
      go_wp2_with fail
      refine ⟨⟨k + 1, mid1, cs2, es2, by omega, by go_num, unhide HP2⟩, by simp [intOf]; omega⟩
    · have hlt' : ¬ (k : Int) < (l.length : Int) := by omega
      obtain rfl : k = l.length := by omega
      obtain ⟨wo, rfl⟩ : ∃ wo : World, wo = wr := ⟨_, rfl⟩
      have hws := hP.st.mods.size
      have hlt2 := hP.rem.le okCl
      have hinv := hP.inv
      have hst := hP.st
      rw [List.take_length] at hinv hst
      have hF0 := hP.rem.fill okCl (kdP 4 (-77000001 - ((n + cCs l : Nat) : Int)))
      have hfg : ∀ g, (Value.slice a l.length l.length).ownBlock = some g → lo ≤ g ∧ g < hi := fun g hg => hF0.block hg
      have HP := hide hP
      have HF0 := hide hF0
      have HFG := hide hfg
      have HINV := hide hinv
      have HST := hide hst
      clear hP hF0 hfg hinv hst
      go_wp2_with fail
      refine Calls.mono (law_mark (n + cCs l) wo bh cs' (unhide HINV).hands (unhide HINV).c6 (by omega)) ?_
      rintro e w1 ⟨rfl, hh1, hm1⟩
      generalize -77000001 - ((n + cCs l : Nat) : Int) = m at *
      have b1 : w1.cell? ⟨w.heap.size, 0, none⟩ = some (.slice a l.length l.length) := hm1.cell b0 (fun e => (unhide HP).fb.hb (by simp only at e; omega))
      obtain ⟨K1, ho1⟩ := (unhide HINV).mark (n + cCs l + 1) hh1 hm1
      have S1 := hide ((unhide HST).trans (KStep.mark (es := es') hm1 ho1 lo hi) (lo := lo) (hi := hi) (Nat.le_refl _) (Nat.le_refl _) (Nat.le_refl _) (Nat.le_refl _))
      have F1 := hide ((unhide HF0).mods hm1 (fun g hg e => ((unhide HP).fg g hg).hb (by omega)))
      obtain ⟨lo', hi', lo1, hi1, lohi1, hF2, fr1⟩ := (unhide F1).narrow (bh := bh) (cs := cs'.set 6 (.int .i64 ((n + cCs l + 1 : Nat) : Int))) (es := es') (fun g hg => ((unhide HP).fg g hg).step (KStep.mark (es := es') hm1 ho1 0 0) (fun k _ _ x => by omega) (by have := (unhide HFG) g hg; omega)) hlohi
      have hs1 := hm1.size
      have HK1 := hide K1
      have FR1 := hide fr1
      have HF2 := hide hF2
      have hc1 : ∀ j, j < 6 → (es' j).length ≤ 16777216 := fun j hj => by have := (unhide S1).cnt j hj; have := hc j hj; omega
      clear K1 HF0 HP fr1 hh1 hm1 ho1 F1 hF2 hc HINV HST
      generalize cs'.set 6 _ = cs1 at *
      go_wp2_with fail
      go_loopw [7] (fun s7 wr => ∃ k : Nat, k ≤ l.length ∧ s7 = .int .i64 k ∧ KInv wr bh cs1 (n + cCs l + 1) es' ∧ Fill wr 34 3 lo' hi' (.slice a l.length l.length) l.length (kdP 4 m) k ∧ Mods (fun k => lo' ≤ k ∧ k < hi') w1 wr) (fun s7 _ => l.length - (intOf s7).toNat)
      case atStart => exact ⟨0, Nat.zero_le _, rfl, unhide HK1, unhide HF2, Mods.refl _ _⟩
      case round =>
        obtain ⟨k, hk, rfl, hK, hFl, hMo⟩ := hrel
        clear HF2 HK1
        by_cases hlt : k < l.length
        · have hlt' : (k : Int) < (l.length : Int) := by omega
          have HK := hide hK
          have HM := hide hMo
          rcases hFl with ⟨_, h0⟩ | ⟨g, cur, g1, g2, ge, g3, g4, g5⟩
          · omega
          · simp only [Value.slice.injEq, and_true] at ge
            obtain rfl := ge
            obtain ⟨u0, c0⟩ : ∃ u, wr.cell? ⟨g, k * 3, none⟩ = some u := ⟨_, by rw [g3.cell]; exact List.getElem?_eq_getElem (by omega)⟩
            obtain ⟨u1, c1⟩ : ∃ u, wr.cell? ⟨g, k * 3 + 1, none⟩ = some u := ⟨_, by rw [g3.cell]; exact List.getElem?_eq_getElem (by omega)⟩
            obtain ⟨u2, c2⟩ : ∃ u, wr.cell? ⟨g, k * 3 + 2, none⟩ = some u := ⟨_, by rw [g3.cell]; exact List.getElem?_eq_getElem (by omega)⟩
            have f0 := g3.frozen (k * 3)
            have f1 := g3.frozen (k * 3 + 1)
            have f2 := g3.frozen (k * 3 + 2)
            have G3 := hide (setCells3_blk (k := k * 3) g3 (.int .i64 m) (.slice none 0 0) (.slice none 0 0))
            have G5 := hide (fill_next3 (a := .int .i64 m) (b := .slice none 0 0) (c := .slice none 0 0) g5 (by omega))
            have M2 := hide ((setCells3_mods wr g (k * 3) (.int .i64 m) (.slice none 0 0) (.slice none 0 0)).mono (T := fun k => lo' ≤ k ∧ k < hi') (fun i _ e => by omega))
            clear hK hMo g3 g5
            go_wp2_with fail
            refine ⟨⟨k + 1, by omega, by go_num, (unhide HK).in_mods (unhide FR1) (unhide M2), .inr ⟨g, _, g1, g2, rfl, unhide G3, by rw [set3_len]; exact g4, unhide G5⟩, (unhide HM).trans (unhide M2) (fun _ _ x => x)⟩, by simp [intOf]; omega⟩
        · have hlt' : ¬ (k : Int) < (l.length : Int) := by omega
          obtain rfl : k = l.length := by omega
          have P0 := hide (KLp.start (m := m) kty4 hK (unhide FR1) hFl hl (by have := hMo.size; omega))
          have ST := hide ((unhide S1).trans (KStep.fill (bh := bh) (cs := cs1) (es := es') hMo) (lo := lo) (hi := hi) (Nat.le_refl _) (Nat.le_refl _) lo1 hi1)
          clear hK hFl hMo S1
          obtain ⟨wo2, rfl⟩ : ∃ wo2 : World, wo2 = wr := ⟨_, rfl⟩
          go_wp2_with fail
          go_loopw [6, 8] (fun s6 s8 wr => ∃ (kk : Nat) (la : Option Addr) (lc : Nat), kk ≤ 4 ∧ s8 = .int .i64 kk ∧ s6 = .slice la (l.length + kk) lc ∧ ∃ cs2 es2, KLp wo2 wr bh cs1 (n + cCs l + 1) es' lo' hi' 4 m l.length kk (.slice la (l.length + kk) lc) cs2 es2) (fun _ s8 _ => 4 - (intOf s8).toNat)
          case atStart => exact ⟨0, a, l.length, by omega, rfl, rfl, cs1, es', unhide P0⟩
          case round =>
            obtain ⟨kk, la, lc, hkk, rfl, rfl, cs2, es2, hP⟩ := hrel
            by_cases h4 : kk < 4
            · have h4' : (kk : Int) < 4 := by omega
              obtain ⟨rn, ra, ma, ra', ma', la', rc, mc, rc', mc', lc', x1, x3, x5, R⟩ := hP.round kty4 h4 hl hc1
              obtain ⟨r1, r2, r3, r4, r5, r6, r7, r8, r9, r10⟩ := R
              simp only [kdO, kdI, kdP, Nat.reduceMul, Nat.reduceAdd] at r1 r2 r3 r4 r5 r6 r7 r8 r9
              have R10 := hide r10
              clear hP r10 P0
              go_wp2_with (at_builtin; first
                | refine wpList_append_run rfl (.tmp 55) (.tmp 57) 40 rfl _ _ rfl rfl r2 ?_
                | refine wpList_append_run rfl (.tmp 65) (.tmp 67) 42 rfl _ _ rfl rfl r6 ?_
                | refine wpList_append_run rfl (.tmp 71) (.tmp 74) 22 rfl _ _ rfl rfl r9 ?_)
              obtain ⟨cs3, es3, h3⟩ := unhide R10
              refine ⟨⟨kk + 1, la', lc', by omega, by go_num, rfl, cs3, es3, h3⟩, by simp [intOf]; omega⟩
            · have h4' : ¬ (kk : Int) < 4 := by omega
              go_wp2_with fail
              go_end0
              have hst := (unhide ST).trans (hP.fin hkk) (lo := lo) (hi := hi) (Nat.le_refl _) (Nat.le_refl _) lo1 hi1
              exact ⟨rfl, cs2, es2, hP.inv, hst⟩
end Go.Proofs.Ytiiokkllmchohaa
/- What Decode answers, as a pure function, and what it means. -/
namespace Go.Proofs.Ytiiokkllmchohaa
open Go.RowKit

section
variable (s : List UInt8)
theorem rdM_i64 (i : Nat) (bad : Bool) : I64 (rdM s i bad).1 := by have := rdM_40 s i bad; unfold I64; omega
theorem rdI_wf (i : Nat) : wfIns (rdI s i).1 := ⟨rdN_i64 _ _ _, rdN_i64 _ _ _, rdN_i64 _ _ _⟩
theorem rdFr_wf (n i : Nat) : wfFrame (rdFr s n i).1 := ⟨rdN_i64 _ _ _, rdTs_i64 _ _ _, rdTs_i64 _ _ _⟩
theorem rdMt_wf (i : Nat) : wfMeth (rdMt s i).1 :=
  ⟨rdN_i64 _ _ _, rdTs_i64 _ _ _, rdN_i64 _ _ _, rdM_i64 _ _ _, rdN_i64 _ _ _, rdL_all (rdI_wf s) _ _ _, rdL_all (rdFr_wf s _) _ _ _⟩
theorem rdCl_wf (i : Nat) : wfClass (rdCl s i).1 := ⟨rdN_i64 _ _ _, rdTs_i64 _ _ _, rdL_all (rdMt_wf s) _ _ _⟩
theorem rdP_wf : wfProg (rdP s).1 := rdL_all (rdCl_wf s) _ _ _
theorem rdI_le {i : Nat} (h : i ≤ s.length) : (rdI s i).2.1 ≤ s.length := rdN_le _ (rdN_le _ (rdN_le _ h))
theorem rdFr_le (n : Nat) {i : Nat} (h : i ≤ s.length) : (rdFr s n i).2.1 ≤ s.length := rdTs_le _ _ _ (rdM_le _ (rdTs_le _ _ _ (rdN_le _ h)))
theorem rdMt_le {i : Nat} (h : i ≤ s.length) : (rdMt s i).2.1 ≤ s.length :=
  rdL_le (fun _ => rdFr_le s _) _ _ _ (rdM_le _ (rdL_le (fun _ => rdI_le s) _ _ _ (rdM_le _ (rdN_le _ (rdM_le _ (rdN_le _ (rdTs_le _ _ _ (rdM_le _ (rdN_le _ h)))))))))
theorem rdCl_le {i : Nat} (h : i ≤ s.length) : (rdCl s i).2.1 ≤ s.length := rdL_le (fun _ => rdMt_le s) _ _ _ (rdM_le _ (rdTs_le _ _ _ (rdM_le _ (rdN_le _ h))))
theorem rdP_le : (rdP s).2.1 ≤ s.length := rdL_le (fun _ => rdCl_le s) _ _ _ (rdM_le _ (Nat.zero_le _))
/-- What Decode answers: a program, or nothing. -/
def decI : Option (List LClass) := if (rdP s).2.2 = false ∧ formI (rdP s).1 = 0 ∧ encProg (rdP s).1 = s then some (rdP s).1 else none
end
/-- Bytes are a program's if and only if Encode writes just them of it. -/
theorem decI_iff {s : List UInt8} {p : List LClass} : decI s = some p ↔ wfProg p ∧ formI p = 0 ∧ encProg p = s := by
  unfold decI
  constructor
  · intro h
    split at h
    · rename_i hc
      cases h
      exact ⟨rdP_wf s, hc.2⟩
    · cases h
  · rintro ⟨hw, hf, rfl⟩
    have h := rdP_form hw hf
    rw [h, if_pos ⟨rfl, hf, rfl⟩]
theorem decI_none {s : List UInt8} : decI s = none ↔ ∀ p, wfProg p → formI p = 0 → encProg p ≠ s := by
  constructor
  · intro h p hw hf he
    rw [decI_iff.2 ⟨hw, hf, he⟩] at h
    cases h
  · intro h
    rcases hd : decI s with _ | p
    · rfl
    · obtain ⟨h1, h2, h3⟩ := decI_iff.1 hd
      exact absurd h3 (h p h1 h2)
end Go.Proofs.Ytiiokkllmchohaa
/- The document's answer reads a method: on the way. -/
namespace Go.Proofs.Ytiiokkllmchohaa
open Go.RowKit

abbrev zM : List Value := [.int .i64 0, .slice none 0 0, .int .i64 0, .int .i64 0, .int .i64 0, .slice none 0 0, .slice none 0 0]
/-- The result's box, the variable's box, the reader. -/
structure RSt (s : List UInt8) (w W : World) (b : Nat) (cs : List Value) (i : Nat) (bad : Bool) : Prop where
  mods : Mods (fun k => k = b) w W
  size : w.heap.size + 2 ≤ W.heap.size
  b0 : Blk W w.heap.size 58 zM
  b1 : Blk W (w.heap.size + 1) 58 cs
  rd : RdAt W b s i bad
  le : i ≤ s.length
  old : b < w.heap.size
section
variable {s : List UInt8} {w W W' : World} {b : Nat} {cs : List Value} {i i' : Nat} {bad bad' : Bool}
theorem RSt.call (h : RSt s w W b cs i bad) (hm : Mods (fun k => k = b) W W') (hr : RdAt W' b s i' bad') (hl : i' ≤ s.length) : RSt s w W' b cs i' bad' :=
  have ho := h.old
  ⟨h.mods.trans hm (fun _ _ e => e), Nat.le_trans h.size hm.size, h.b0.mods hm (by omega), h.b1.mods hm (by omega), hr, hl, ho⟩
theorem RSt.put (h : RSt s w W b cs i bad) (j : Nat) (v : Value) : RSt s w (W.setCell ⟨w.heap.size + 1, j, none⟩ v) b (cs.set j v) i bad :=
  have ho := h.old
  ⟨h.mods.setCell (p := ⟨w.heap.size + 1, j, none⟩) (fun e => absurd e (by simp only; omega)) v, by have := h.size; simpa [World.setCell] using this, h.b0.setCell_ne (p := ⟨w.heap.size + 1, j, none⟩) (by simp only; omega) v, h.b1.setCell j v, Blk.setCell_ne h.rd (p := ⟨w.heap.size + 1, j, none⟩) (by simp only; omega) v, h.le, ho⟩
theorem RSt.far (h : RSt s w W b cs i bad) {S : Nat → Prop} (hm : Mods S W W') (hS : ∀ k, S k → w.heap.size + 2 ≤ k) : RSt s w W' b cs i bad :=
  have ho := h.old
  ⟨h.mods.trans hm (fun k hk e => by have := hS k e; omega), Nat.le_trans h.size hm.size, h.b0.mods hm (fun e => by have := hS _ e; omega), h.b1.mods hm (fun e => by have := hS _ e; omega), Blk.mods h.rd hm (fun e => by have := hS _ e; omega), h.le, ho⟩
theorem keepS {T : List TypeId} {S : Nat → Prop} (hm : Mods S W W') (hS : ∀ k, S k → ∃ t c, Blk W k t c ∧ t ∉ T) : GLe (cellS T W) (cellS T W') :=
  cellS_mods hm (fun k t c hb ht hk => by
    obtain ⟨t', c', hb', ht'⟩ := hS k hk
    rw [hb.uniq hb'] at ht
    exact ht' ht)
/-- A row of one's own, read through the cells of its type. -/
theorem own_intsS {base : Nat} {v : Value} {l : List Int} {n : Nat} (hn : n = l.length) (h : W.ownsRow base 52 1 v n (l.map (Value.int .i64))) : SlAt 1 (GInt (cellS tT W)) v l := by
  subst hn
  rcases h.2 with ⟨rfl, h0⟩ | ⟨g, cap, cur, rfl, hb, hg, hnc, hcm, hcs, htk⟩
  · obtain rfl : l = [] := List.eq_nil_of_length_eq_zero h0
    exact ⟨none, 0, 0, 0, rfl, Nat.le_refl _, ⟨fun e => absurd rfl e, .inl ⟨rfl, rfl⟩⟩, fun j x hj => by simp at hj⟩
  · have hB : Blk W g 52 cur.toList := by unfold Blk; simpa using hg
    refine ⟨some ⟨g, 0, none⟩, g, 0, cap, rfl, hnc, ⟨fun _ => rfl, .inr (.inl rfl)⟩, fun j x hj => ?_⟩
    have h1 : (l.map (Value.int .i64))[j]? = some (.int .i64 x) := by rw [List.getElem?_map, hj]; rfl
    rw [← htk, List.getElem?_take] at h1
    unfold GInt
    rw [cellS_blk hB (by simp), Nat.mul_one, Nat.zero_add]
    split at h1
    · exact h1
    · cases h1
theorem own_codeS {T : List TypeId} (hT : 54 ∈ T) {base : Nat} {v : Value} {l : List LIns} {n : Nat} (hn : n = l.length) (h : W.ownsRow base 54 3 v n (codeCells l)) : SlAt 3 (GIns (cellS T W)) v l := by
  subst hn
  rcases h.2 with ⟨rfl, h0⟩ | ⟨g, cap, cur, rfl, hb, hg, hnc, hcm, hcs, htk⟩
  · obtain rfl : l = [] := List.eq_nil_of_length_eq_zero h0
    exact ⟨none, 0, 0, 0, rfl, Nat.le_refl _, ⟨fun e => absurd rfl e, .inl ⟨rfl, rfl⟩⟩, fun j x hj => by simp at hj⟩
  · have hB : Blk W g 54 (codeCells l ++ cur.toList.drop (l.length * 3)) := by
      have e : codeCells l ++ cur.toList.drop (l.length * 3) = cur.toList := by rw [← htk]; exact List.take_append_drop _ _
      rw [e]; unfold Blk; simpa using hg
    exact code_of_blk hB hT hnc
end
end Go.Proofs.Ytiiokkllmchohaa
/- The document's answer reads a method: its rows on the way. -/
namespace Go.Proofs.Ytiiokkllmchohaa
open Go.RowKit

/-- With the row of its code, and its arguments. -/
structure RC (s : List UInt8) (w W : World) (b : Nat) (cs : List Value) (i : Nat) (bad : Bool) (va : Value) (args : List Int) (vc : Value) (l : List LIns) : Prop where
  st : RSt s w W b cs i bad
  row : W.ownsRow (w.heap.size + 2) 54 3 vc l.length (codeCells l)
  arg : SlAt 1 (GInt (cellS tT W)) va args
/-- With the row of its frames, too. -/
structure RF (s : List UInt8) (w W : World) (b : Nat) (cs : List Value) (i : Nat) (bad : Bool) (va : Value) (args : List Int) (vc : Value) (l : List LIns) (vf : Value) (fs : List LFrame) (cells : List Value) : Prop where
  rc : RC s w W b cs i bad va args vc l
  row : W.ownsRow (w.heap.size + 2) 103 3 vf fs.length cells
  frs : ∀ (j : Nat) (f : LFrame), fs[j]? = some f → FrameAt (cellS tT W) cells f j
theorem setMods (W : World) (X j : Nat) (v : Value) : Mods (fun k => k = X) W (W.setCell ⟨X, j, none⟩ v) := (Mods.refl (fun k => k = X) W).setCell (p := ⟨X, j, none⟩) (fun _ => rfl) v
section
variable {s : List UInt8} {w W W' : World} {b : Nat} {cs : List Value} {i i' : Nat} {bad bad' : Bool} {va : Value} {args : List Int} {vc : Value} {l : List LIns} {vf : Value} {fs : List LFrame} {cells : List Value}
theorem RSt.keepT (h : RSt s w W b cs i bad) (hm : Mods (fun k => k = b) W W') : GLe (cellS tT W) (cellS tT W') :=
  keepS hm (fun k e => ⟨_, _, e ▸ h.rd, by decide⟩)
theorem RSt.keepPut (h : RSt s w W b cs i bad) (j : Nat) (v : Value) : GLe (cellS tT W) (cellS tT (W.setCell ⟨w.heap.size + 1, j, none⟩ v)) :=
  keepS (setMods W (w.heap.size + 1) j v) (fun k e => ⟨_, _, e ▸ h.b1, by decide⟩)
theorem keepNone (hm : Mods (fun _ => False) W W') : GLe (cellS tT W) (cellS tT W') := keepS hm (fun _ f => f.elim)
theorem keepSet {X j : Nat} {t : TypeId} {c : List Value} (hX : Blk W X t c) (ht : t ∉ tT) (v : Value) : GLe (cellS tT W) (cellS tT (W.setCell ⟨X, j, none⟩ v)) :=
  keepS (setMods W X j v) (fun _k e => ⟨_, _, e ▸ hX, ht⟩)
theorem keepRow {base sz n : Nat} {t : TypeId} {v : Value} {xs : List Value} (hrow : W.ownsRow base t sz v n xs) (ht : t ∉ tT) (hm : Mods (fun k => v.ownBlock = some k) W W') : GLe (cellS tT W) (cellS tT W') :=
  keepS hm (fun k e => by obtain ⟨c, hc⟩ := own_blk hrow e; exact ⟨_, _, hc, ht⟩)
theorem RC.call (h : RC s w W b cs i bad va args vc l) (hm : Mods (fun k => k = b) W W') (hr : RdAt W' b s i' bad') (hl : i' ≤ s.length) : RC s w W' b cs i' bad' va args vc l :=
  ⟨h.st.call hm hr hl, own_mods h.row hm (fun g e f => by have := (h.row.lt g e).1; have := h.st.old; omega), ints_keep (h.st.keepT hm) h.arg⟩
theorem RC.idle (h : RC s w W b cs i bad va args vc l) (hm : Mods (fun _ => False) W W') : RC s w W' b cs i bad va args vc l :=
  ⟨h.st.far hm (fun _ f => f.elim), own_mods h.row hm (fun _ _ f => f), ints_keep (keepNone hm) h.arg⟩
theorem RC.put (h : RC s w W b cs i bad va args vc l) (j : Nat) (v : Value) : RC s w (W.setCell ⟨w.heap.size + 1, j, none⟩ v) b (cs.set j v) i bad va args vc l :=
  ⟨h.st.put j v, own_mods (S := fun k => k = w.heap.size + 1) h.row (setMods W (w.heap.size + 1) j v) (fun g e f => by have := (h.row.lt g e).1; omega), ints_keep (h.st.keepPut j v) h.arg⟩
theorem RC.set (h : RC s w W b cs i bad va args vc l) {X j : Nat} {t : TypeId} {c : List Value} (hX : Blk W X t c) (ht : t ∉ tT) (hle : w.heap.size + 2 ≤ X) (hne : ¬ vc.ownBlock = some X) (v : Value) : RC s w (W.setCell ⟨X, j, none⟩ v) b cs i bad va args vc l :=
  ⟨h.st.far (setMods W X j v) (fun k e => by omega), own_mods (S := fun k => k = X) h.row (setMods W X j v) (fun g e f => hne (f ▸ e)), ints_keep (keepSet hX ht v) h.arg⟩
theorem RC.app (h : RC s w W b cs i bad va args vc l) {x : LIns} {v' : Value} (hown : W'.ownsRow (w.heap.size + 2) 54 3 v' (l.length + 1) (codeCells l ++ [.int .i64 x.op, .int .i64 x.a, .int .i64 x.b])) (hm : Mods (fun k => vc.ownBlock = some k) W W') : RC s w W' b cs i bad va args v' (l ++ [x]) := by
  refine ⟨h.st.far hm (fun k e => (h.row.lt k e).1), ?_, ints_keep (keepRow h.row (by decide) hm) h.arg⟩
  rw [List.length_append]
  have e : codeCells (l ++ [x]) = codeCells l ++ [.int .i64 x.op, .int .i64 x.a, .int .i64 x.b] := by unfold codeCells; rw [List.flatMap_append]; rfl
  rw [e]
  exact hown
theorem FrameAt.keepG {g g' : Addr → Option Value} {cf : List Value} {f : LFrame} {j : Nat} (h : FrameAt g cf f j) (hg : GLe g g') : FrameAt g' cf f j := h.keep hg (fun _ _ => rfl)
theorem RF.call (h : RF s w W b cs i bad va args vc l vf fs cells) (hm : Mods (fun k => k = b) W W') (hr : RdAt W' b s i' bad') (hl : i' ≤ s.length) : RF s w W' b cs i' bad' va args vc l vf fs cells :=
  ⟨h.rc.call hm hr hl, own_mods h.row hm (fun g e f => by have := (h.row.lt g e).1; have := h.rc.st.old; omega), fun j f hj => (h.frs j f hj).keepG (h.rc.st.keepT hm)⟩
theorem RF.idle (h : RF s w W b cs i bad va args vc l vf fs cells) (hm : Mods (fun _ => False) W W') : RF s w W' b cs i bad va args vc l vf fs cells :=
  ⟨h.rc.idle hm, own_mods h.row hm (fun _ _ f => f), fun j f hj => (h.frs j f hj).keepG (keepNone hm)⟩
theorem RF.put (h : RF s w W b cs i bad va args vc l vf fs cells) (j : Nat) (v : Value) : RF s w (W.setCell ⟨w.heap.size + 1, j, none⟩ v) b (cs.set j v) i bad va args vc l vf fs cells :=
  ⟨h.rc.put j v, own_mods (S := fun k => k = w.heap.size + 1) h.row (setMods W (w.heap.size + 1) j v) (fun g e f => by have := (h.row.lt g e).1; omega), fun k f hj => (h.frs k f hj).keepG (h.rc.st.keepPut j v)⟩
theorem RF.set (h : RF s w W b cs i bad va args vc l vf fs cells) {X j : Nat} {t : TypeId} {c : List Value} (hX : Blk W X t c) (ht : t ∉ tT) (hle : w.heap.size + 2 ≤ X) (hne : ¬ vc.ownBlock = some X) (hne2 : ¬ vf.ownBlock = some X) (v : Value) : RF s w (W.setCell ⟨X, j, none⟩ v) b cs i bad va args vc l vf fs cells :=
  ⟨h.rc.set hX ht hle hne v, own_mods (S := fun k => k = X) h.row (setMods W X j v) (fun _g e f => hne2 (f ▸ e)), fun k f hj => (h.frs k f hj).keepG (keepSet hX ht v)⟩
theorem RF.app (h : RF s w W b cs i bad va args vc l vf fs cells) {f : LFrame} {vl vs v' : Value} (hl : SlAt 1 (GInt (cellS tT W)) vl f.locals) (hs : SlAt 1 (GInt (cellS tT W)) vs f.stack) (hown : W'.ownsRow (w.heap.size + 2) 103 3 v' (fs.length + 1) (cells ++ [.int .i64 f.pc, vl, vs])) (hm : Mods (fun k => vf.ownBlock = some k) W W') :
    RF s w W' b cs i bad va args vc l v' (fs ++ [f]) (cells ++ [.int .i64 f.pc, vl, vs]) := by
  have hk := keepRow h.row (by decide) hm
  have hcl : cells.length = fs.length * 3 := h.row.1
  refine ⟨⟨h.rc.st.far hm (fun k e => (h.row.lt k e).1), own_mods h.rc.row hm (fun g e f => ?_), ints_keep hk h.rc.arg⟩, by rw [List.length_append]; exact hown, fun j x hj => ?_⟩
  · obtain ⟨c1, hc1⟩ := own_blk h.rc.row e
    obtain ⟨c2, hc2⟩ := own_blk h.row f
    exact absurd (hc1.uniq hc2) (by decide)
  · rcases Nat.lt_or_ge j fs.length with hlt | hge
    · rw [List.getElem?_append_left hlt] at hj
      refine (h.frs j x hj).keep hk (fun k hk => ?_)
      rw [List.getElem?_append_left (by omega)]
    · rw [List.getElem?_append_right hge] at hj
      have hj0 : j - fs.length = 0 := by
        rcases Nat.eq_zero_or_pos (j - fs.length) with e | e
        · exact e
        · rw [List.getElem?_eq_none (by simp; omega)] at hj; cases hj
      rw [hj0] at hj
      simp at hj
      subst hj
      have hjl : j = fs.length := by omega
      refine ⟨vl, vs, ?_, ?_, ?_, ints_keep hk hl, ints_keep hk hs⟩ <;> rw [List.getElem?_append_right (by omega), hcl, hjl]
      · simp
      · rw [show fs.length * 3 + 1 - fs.length * 3 = 1 by omega]; rfl
      · rw [show fs.length * 3 + 2 - fs.length * 3 = 2 by omega]; rfl
end
end Go.Proofs.Ytiiokkllmchohaa
