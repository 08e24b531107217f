/- Certify: the frames of places. -/
import Derived.Test.YtiiokkllmchohaaGreatT19
import Derived.Test.YtiiokkllmchohaaGreatT20
import Derived.Test.YtiiokkllmchohaaGreatT31
import Derived.Test.YtiiokkllmchohaaGreatT32
/- CerC -/
namespace Go.Proofs.YtiiokkllmchohaaGreat
open Go.RowKit Go.Shelf
attribute [local go_sem ↓] Go.wp_at_zero Go.wp_at_succ
attribute [local go_sem] frz_drew
attribute [local go_sem] Oper.semAt_some

theorem FrCs.rowG {w : World} {B : Nat} : ∀ (l : List LFrame) (cs : List Value), FrCs w B cs l → RowG 3 (FrmC (sel (fun k => B ≤ k) w)) cs l
 | [], _, h => by
  obtain rfl : _ = [] := h
  exact RowG.nil
 | f :: l, _, ⟨b, c, r, rfl, h2, h3, h4⟩ => (FrCs.rowG l r h4).cons (c := [.int .i64 f.pc, b, c]) ⟨b, c, rfl, own_intsC h2 (fun g hg => (h2.lt g hg).1), own_intsC h3 (fun g hg => (h3.lt g hg).1)⟩ rfl
def mrkV (f : Nat → Bool) : List Value := (mrk 40 f).map Value.bool
theorem mrkV_set {j : Nat} {f f' : Nat → Bool} (hf : ∀ k, f' k = (f k || (j == k))) : (mrkV f).set j (.bool true) = mrkV f' := by
 unfold mrkV
 rw [← mrk_set hf, List.map_set]
theorem mrkV_get {j : Nat} {f : Nat → Bool} (h : j < 40) : (mrkV f)[j]? = some (.bool (f j)) := by
 unfold mrkV
 rw [List.getElem?_map, mrk_get h]; rfl
structure FopI (w V : World) (bp : Nat) (ds : List Nat) (f : Nat → Bool) : Prop where
 bel : Below w.heap.size w V
 bm : Blk V bp 132 (mrkV f)
 mks : ∀ D ∈ ds, V.heap[D]? = some (.deferred (some []))
 lo : ∀ D ∈ ds, w.heap.size ≤ D
 nd : ds.Nodup
section
variable {w V V' : World} {bp : Nat} {ds : List Nat} {f f' : Nat → Bool}
theorem FopI.mods {S : Nat → Prop} (i : FopI w V bp ds f) (hm : Mods S V V') (h1 : ∀ k, k < w.heap.size → ¬ S k) (h2 : ¬ S bp) (h3 : ∀ D ∈ ds, ¬ S D) : FopI w V' bp ds f :=
 ⟨i.bel.trans (hm.below i.bel.size h1), i.bm.mods hm h2, fun D hD => (hm.block D (Array.getElem?_eq_some_iff.1 (i.mks D hD)).1 (h3 D hD)).trans (i.mks D hD), i.lo, i.nd⟩
theorem FopI.below (i : FopI w V bp ds f) (b : Below V.heap.size V V') : FopI w V' bp ds f :=
 i.mods (Mods.of_below b) (fun k hk e => by have := i.bel.size; omega) (fun e => by have := i.bm.lt; omega) (fun D hD e => by have := (Array.getElem?_eq_some_iff.1 (i.mks D hD)).1; omega)
theorem FopI.put (i : FopI w V bp ds f) (hb : w.heap.size ≤ bp) {j : Nat} (hf : ∀ k, f' k = (f k || (j == k))) : FopI w (V.setCell ⟨bp, j, none⟩ (.bool true)) bp ds f' := by
 refine ⟨i.bel.setCell (p := ⟨bp, j, none⟩) hb _, ?_, fun D hD => ?_, i.lo, i.nd⟩
 ·rw [← mrkV_set hf]
  exact i.bm.setCell j _
 ·have hk := i.mks D hD
  exact (Below.heap_setCell _ _ _ _ (mark_ne hk i.bm)).trans hk
theorem FopI.mark {w5 : World} {f5 : Nat → Bool} (i : FopI w V bp ds f) (j : FopI w w5 bp ds f5) {D : Nat} (hk : V.heap[D]? = some (.deferred (some []))) (hD : w5.heap.size ≤ D) : FopI w V bp (D :: ds) f := by
 refine ⟨i.bel, i.bm, fun E hE => ?_, fun E hE => ?_, List.nodup_cons.2 ⟨fun hE => ?_, i.nd⟩⟩
 ·rcases List.mem_cons.1 hE with rfl | h
  ·exact hk
  ·exact i.mks E h
 ·rcases List.mem_cons.1 hE with rfl | h
  ·have := j.bel.size; omega
  ·exact i.lo E h
 ·have := (Array.getElem?_eq_some_iff.1 (j.mks D hE)).1; omega
end
def FopR (B : Nat) (l : List LFrame) (w w' : World) (e : Ending) : Prop := ∃ v, e = .returned v ∧ SlAt 3 (GFrame (sel (fun k => B ≤ k) w')) v l ∧ Below w.heap.size w w'
def FopF (w V : World) (B : Nat) (v : Value) (l : List LFrame) : Prop := ∃ cs, V.ownsRow w.heap.size 42 3 v l.length cs ∧ RowG 3 (FrmC (sel (fun k => B ≤ k) w)) cs l
section
variable {w V V' : World} {B bp : Nat} {ds : List Nat} {f : Nat → Bool} {v : Value} {l : List LFrame}
theorem FopF.below (F : FopF w V B v l) (b : Below V.heap.size V V') : FopF w V' B v l := by
 obtain ⟨cs, hO, hR⟩ := F
 exact ⟨cs, own_mods hO (Mods.of_below b) (fun g hg e => by have := (hO.lt g hg).2; omega), hR⟩
theorem FopF.snoc (F : FopF w V B v l) (i : FopI w V bp ds f) (hl : l.length ≤ 40) {x : LFrame} {vl vs : Value} (h1 : SlAt 1 (GInt (sel (fun k => B ≤ k) w)) vl x.locals) (h2 : SlAt 1 (GInt (sel (fun k => B ≤ k) w)) vs x.stack) (H : Nat) (hH : V.heap.size = H) :
  ∃ a n cap w', (Builtin.append_ #[36, 36] 36 #[v, .slice (some ⟨H, 0, none⟩) 1 1]).run Tryz.prog (V.alloc (.cells #[.int .i64 x.pc, vl, vs] 42)) = .ok (.slice a n cap) w' ∧ FopF w w' B (.slice a n cap) (l ++ [x]) ∧ FopI w w' bp ds f := by
 obtain ⟨j0, gj0, gz0, gz1, gz2⟩ := info_parts infoFr3
 obtain ⟨cs, hO, hR⟩ := F
 obtain ⟨v3, w3, happ, hO3, hM3, _⟩ := app_ex (P := Tryz.prog) (W := V) 36 36 42 j0 _ 3 56 Tryz.underlying36 gj0 gz0 gz1 gz2 rfl (by decide) w.heap.size _ _ _ hO #[.int .i64 x.pc, vl, vs] rfl
  (fun u hu => by
   simp only [List.mem_cons, List.not_mem_nil, or_false] at hu
   rcases hu with rfl | rfl | rfl
   ·rfl
   ·exact slAt_one h1
   ·exact slAt_one h2) H hH (by unfold maxLen; omega) (by omega) i.bel.size
 obtain ⟨a, cap, rfl⟩ := own_form hO3
 refine ⟨a, _, cap, w3, happ, ⟨_, by simpa using hO3, hR.snoc ⟨vl, vs, rfl, h1, h2⟩ rfl⟩, i.mods hM3 (fun k hk e => by have := (hO.lt k e).1; omega) (fun e => ?_) (fun D hD e => ?_)⟩
 ·obtain ⟨cur, hb⟩ := own_blk hO e
  exact absurd (hb.uniq i.bm) (by decide)
 ·obtain ⟨cur, hb⟩ := own_blk hO e
  exact mark_ne (i.mks D hD) hb rfl
end
def FopL (w : World) (m : LMeth) (l : List LFrame) (ra ca : Option Addr) (rcap ccap bp N : Nat) (a : Act) (V : World) : Prop :=
 ∃ (k : Nat) (ds : List Nat) (u2 u3 u6 u7 u8 u9 u10 u11 u12 u16 u17 u18 u19 u20 u21 u22 u23 u24 u25 u26 u27 u28 u29 u30 u31 u32 u33 u34 u35 u36 u37 u38 u39 u40 u41 u42 u43 u44 : Value), N + k = l.length ∧ a = { tmps := #[.slice ca m.code.length ccap, .slice ra l.length rcap, u2, u3, .slice none 0 0, .pointer (some ⟨bp, 0, none⟩), u6, u7, u8, u9, u10, u11, u12, .slice ra l.length rcap, .int .i64 (l.length : Int), .int .i64 (k : Int), u16, u17, u18, u19, u20, u21, u22, u23, u24, u25, u26, u27, u28, u29, u30, u31, u32, u33, u34, u35, u36, u37, u38, u39, u40, u41, u42, u43, u44], defers := ds.map markOf } ∧ FopI w V bp ds (jumpTo m (l.take k))
def FopJ (w : World) (m : LMeth) (l : List LFrame) (ra ca : Option Addr) (rcap ccap bp k : Nat) (a : Act) (V : World) : Prop :=
 ∃ (ds : List Nat) (u2 u3 u6 u7 u8 u9 u10 u11 u12 u16 u17 u18 u19 u20 u21 u22 u23 u24 u25 u26 u27 u28 u29 u30 u31 u32 u33 u34 u35 u36 u37 u38 u39 u40 u41 u42 u43 u44 : Value), a = { tmps := #[.slice ca m.code.length ccap, .slice ra l.length rcap, u2, u3, .slice none 0 0, .pointer (some ⟨bp, 0, none⟩), u6, u7, u8, u9, u10, u11, u12, .slice ra l.length rcap, .int .i64 (l.length : Int), .int .i64 (k : Int), u16, u17, u18, u19, u20, u21, u22, u23, u24, u25, u26, u27, u28, u29, u30, u31, u32, u33, u34, u35, u36, u37, u38, u39, u40, u41, u42, u43, u44], defers := ds.map markOf } ∧ FopI w V bp ds (jumpTo m (l.take (k + 1)))
def FopM (w : World) (m : LMeth) (l : List LFrame) (ra ca : Option Addr) (rcap ccap bp : Nat) (a : Act) (V : World) : Prop :=
 ∃ (ds : List Nat) (u2 u3 u6 u7 u8 u9 u10 u11 u12 u13 u14 u15 u16 u17 u18 u19 u20 u21 u22 u23 u24 u25 u26 u27 u28 u29 u30 u31 u32 u33 u34 u35 u36 u37 u38 u39 u40 u41 u42 u43 u44 : Value), a = { tmps := #[.slice ca m.code.length ccap, .slice ra l.length rcap, u2, u3, .slice none 0 0, .pointer (some ⟨bp, 0, none⟩), u6, u7, u8, u9, u10, u11, u12, u13, u14, u15, u16, u17, u18, u19, u20, u21, u22, u23, u24, u25, u26, u27, u28, u29, u30, u31, u32, u33, u34, u35, u36, u37, u38, u39, u40, u41, u42, u43, u44], defers := ds.map markOf } ∧ FopI w V bp ds (jumpTo m l)
def FopK (w : World) (m : LMeth) (l : List LFrame) (ra : Option Addr) (B rcap bp N : Nat) (a : Act) (V : World) : Prop :=
 ∃ (k : Nat) (ds : List Nat) (vfr : Value) (u0 u2 u3 u4 u6 u7 u8 u9 u11 u12 u13 u14 u15 u16 u17 u18 u19 u20 u21 u22 u23 u24 u25 u26 u27 u28 u32 u33 u34 u35 u36 u37 u38 u39 u40 u41 u42 u43 u44 : Value), N + k = l.length ∧ a = { tmps := #[u0, .slice ra l.length rcap, u2, u3, u4, .pointer (some ⟨bp, 0, none⟩), u6, u7, u8, u9, vfr, u11, u12, u13, u14, u15, u16, u17, u18, u19, u20, u21, u22, u23, u24, u25, u26, u27, u28, .slice ra l.length rcap, .int .i64 (l.length : Int), .int .i64 (k : Int), u32, u33, u34, u35, u36, u37, u38, u39, u40, u41, u42, u43, u44], defers := ds.map markOf } ∧ FopI w V bp ds (jumpTo m l) ∧ FopF w V B vfr ((l.take k).filter fun f => jumpTo m l f.pc.toNat)
def FopE (w : World) (m : LMeth) (l : List LFrame) (ra : Option Addr) (B rcap bp : Nat) (a : Act) (V : World) : Prop :=
 ∃ (ds : List Nat) (vfr : Value) (u0 u2 u3 u4 u6 u7 u8 u9 u11 u12 u13 u14 u15 u16 u17 u18 u19 u20 u21 u22 u23 u24 u25 u26 u27 u28 u29 u30 u31 u32 u33 u34 u35 u36 u37 u38 u39 u40 u41 u42 u43 u44 : Value), a = { tmps := #[u0, .slice ra l.length rcap, u2, u3, u4, .pointer (some ⟨bp, 0, none⟩), u6, u7, u8, u9, vfr, u11, u12, u13, u14, u15, u16, u17, u18, u19, u20, u21, u22, u23, u24, u25, u26, u27, u28, u29, u30, u31, u32, u33, u34, u35, u36, u37, u38, u39, u40, u41, u42, u43, u44], defers := ds.map markOf } ∧ FopI w V bp ds (jumpTo m l) ∧ FopF w V B vfr (l.filter fun f => jumpTo m l f.pc.toNat)
theorem marks_leaveM {P : Program} {fn : Func} {tmps : Array Value} {R : Ending → World → Prop} {u : FrameMode} (hu : u ≠ .run) : ∀ (ds : List Nat) (V : World), ds.Nodup → (∀ D ∈ ds, V.heap[D]? = some (.deferred (some []))) →
  (∀ V', Mods (fun k => k ∈ ds) V V' → LeavesIn Fence.wide 0 P fn tmps R [] u V') → LeavesInM Fence.wide 0 P fn tmps R (ds.map markOf) u V
 | [], V, _, _, h => h V (Mods.refl _ _)
 | D :: ds, V, hn, hk, h => ⟨hu, .inl ⟨D, V.putObj D (.deferred none), rfl, run_takeDeferred (hk D (by simp)), marks_leaveM hu ds _ (List.nodup_cons.1 hn).2
   (fun E hE => (World.putObj_heap_other (fun e => (List.nodup_cons.1 hn).1 (by rw [← e]; exact hE))).trans (hk E (by simp [hE])))
   (fun V' hV => h V' ((Mods.putObj (S := fun k => k ∈ D :: ds) _ (by simp)).trans hV (fun k _ hk => List.mem_cons_of_mem _ hk)))⟩⟩
theorem fop_leave {P : Program} {fn : Func} {tmps : Array Value} {w V : World} {B bp : Nat} {ds : List Nat} {f : Nat → Bool} {v : Value} {l : List LFrame} (i : FopI w V bp ds f) (hB : B ≤ w.heap.size) (F : FopF w V B v l) (hr : ∀ V', (results fn tmps).run P V' = .ok v V') :
  marksPost P fn (fun e w' => FopR B l w w' e) .ret { tmps := tmps, defers := ds.map markOf } V := by
 obtain ⟨cs, hO, hR⟩ := F
 refine marks_leaveM (by simp) ds V i.nd i.mks (fun V' hV => ?_)
 have hb := i.bel.trans (hV.below i.bel.size (fun k hk e => by have := i.lo k e; omega))
 refine ⟨v, hr V', v, rfl, ?_, hb⟩
 have hO' := own_mods hO hV (fun g hg e => by
  obtain ⟨cur, hb⟩ := own_blk hO hg
  exact mark_ne (i.mks g e) hb rfl)
 have hle : GLe (sel (fun k => B ≤ k) w) (sel (fun k => B ≤ k) V') := sel_mods (Mods.of_below hb) fun k hk hS => ⟨fun e => by omega, hS⟩
 exact own_frmS hO' (hR.mono fun x c hc => FrmC.keep hle hc) (fun g hg => Nat.le_trans hB (hO.lt g hg).1)
set_option maxHeartbeats 1000000 in
set_option maxRecDepth 100000 in
theorem cer_frames (m : LMeth) (vco v : Value) (l : List LFrame) (B : Nat) (w : World) (hc : SlAt 3 (RIns w) vco m.code) (hv : FrsAt w B v l) (hB : B ≤ w.heap.size) (hl40 : l.length ≤ 40) (h40 : m.code.length ≤ 40) (hpc : ∀ f ∈ l, 0 ≤ f.pc ∧ f.pc < (m.code.length : Int))
  (hj : ∀ f ∈ l, jumpsB (insAt m f.pc.toNat) = true → 0 ≤ (insAt m f.pc.toNat).a ∧ (insAt m f.pc.toNat).a < (m.code.length : Int)) :
  Calls Tryz.prog 164 #[vco, v] w fun e w' => FopR B (l.filter fun f => jumpTo m l f.pc.toNat) w w' e := by
 obtain ⟨cs, hO, hF, _⟩ := hv
 have hG := FrCs.rowG l cs hF
 obtain ⟨ra, rcap, rfl⟩ := own_form hO
 obtain ⟨ca, cb, off, ccap, rfl, hccap, hca, hcr⟩ := sl_open hc
 have hfr : ∀ (k : Nat) (hk : k < l.length), ∃ g vl vs, ra = some ⟨g, 0, none⟩ ∧ w.cell? ⟨g, k * 3, none⟩ = some (.int .i64 l[k].pc) ∧ w.cell? ⟨g, k * 3 + 1, none⟩ = some vl ∧ w.cell? ⟨g, k * 3 + 2, none⟩ = some vs ∧ SlAt 1 (GInt (sel (fun k => B ≤ k) w)) vl l[k].locals ∧ SlAt 1 (GInt (sel (fun k => B ≤ k) w)) vs l[k].stack := fun k hk => by
  obtain ⟨g, cap, h1, _, _, h4⟩ := own_read hO (by omega)
  obtain ⟨vl, vs, h5, h6, h7⟩ := hG.2 k _ (List.getElem?_eq_getElem hk)
  have key : ∀ i, i < 3 → w.cell? ⟨g, k * 3 + i, none⟩ = [Value.int .i64 l[k].pc, vl, vs][i]? := fun i hi => by rw [h4 _ (by omega), row_cell hi, h5]
  injection h1 with e1
  exact ⟨g, vl, vs, e1, key 0 (by omega), key 1 (by omega), key 2 (by omega), h6, h7⟩
 have HCR := hide hcr
 have HFR := hide hfr
 clear hcr hc hO hG hF hfr
 obtain ⟨bp, hbp⟩ : ∃ bp, bp = w.heap.size := ⟨_, rfl⟩
 have hbp' : w.heap.size ≤ bp := by omega
 refine calls_of_wpF Tryz.func164 rfl ?_
 simp only [Tryz.ntmps164, List.size_toArray, List.length_cons, List.length_nil, Nat.reduceAdd, Nat.reduceSub, Array.replicate_succ, Array.replicate_zero, List.push_toArray, List.append_toArray, List.nil_append, List.cons_append]
 refine wpF_seq_wp ?_
 go_wp2_with fail
 refine wpF_seq_wp ?_
 go_wp2_with fail
 generalize hW : w.alloc _ = W
 have HI0 : Hid (FopI w W bp [] (jumpTo m (l.take 0))) := by
  refine ⟨by rw [← hW]; exact box_below _ _, ?_, fun _ h => (by cases h), fun _ h => (by cases h), List.nodup_nil⟩
  rw [← hW, hbp]
  exact Blk.new w _ _
 clear hW
 rw [← hbp]
 clear hbp
 refine wpF_mid (J := FopM w m l ra ca rcap ccap bp) ?rest ?first
 case first =>
  refine wpF_seq_wp ?_
  go_wp2_with fail
  refine wpF_block ?_
  refine wpF_loop (FopL w m l ra ca rcap ccap bp) l.length ?start ?round
  case start => unfold FopL; exact ⟨0, [], _, _, _, _, _, _, _, _, _, _, _, _, _, _, _, _, _, _, _, _, _, _, _, _, _, _, _, _, _, _, _, _, _, _, _, _, _, _, by omega, rfl, unhide HI0⟩
  case round =>
   clear HI0
   intro N a V hX
   obtain ⟨k, ds, u2, u3, u6, u7, u8, u9, u10, u11, u12, u16, u17, u18, u19, u20, u21, u22, u23, u24, u25, u26, u27, u28, u29, u30, u31, u32, u33, u34, u35, u36, u37, u38, u39, u40, u41, u42, u43, u44, hN, rfl, hI⟩ := hX
   have HI := hide hI
   by_cases hlt : k < l.length
   ·obtain ⟨g, vl, vs, rfl, f0, f1, f2, hvl, hvs⟩ := unhide HFR k hlt
    have hmem := List.getElem_mem hlt
    obtain ⟨p0, p1⟩ := hpc _ hmem
    have hjj := hj _ hmem
    have HJ := hide (fun k' => jumpTo_snoc (m := m) hlt k')
    generalize l[k] = f at *
    obtain ⟨pc, flo, fst⟩ := f
    dsimp only at *
    obtain ⟨i, rfl⟩ : ∃ i : Nat, pc = (i : Int) := ⟨pc.toNat, by omega⟩
    rw [Int.toNat_natCast] at hjj HJ
    have hi : i < m.code.length := by omega
    obtain rfl := hca (ne_nil_of_lt hi)
    obtain ⟨x0, x1, x2⟩ := unhide HCR i hi
    have hIA : insAt m i = m.code[i] := by unfold insAt; rw [List.getElem?_eq_getElem hi]; rfl
    rw [hIA] at hjj HJ
    generalize m.code[i] = x at *
    obtain ⟨la, _, _, lcap, rfl, _⟩ := hvl
    obtain ⟨sa, _, _, scap, rfl, _⟩ := hvs
    have k0 : (0 : Int) ≤ (k : Int) := by omega
    have k1 : (k : Int) < (l.length : Int) := by omega
    have g0 := Keeps.of_below hI.bel _ _ f0
    have g1 := Keeps.of_below hI.bel _ _ f1
    have g2 := Keeps.of_below hI.bel _ _ f2
    refine wpF_seq_wp ?_
    go_wp2_with fail
    refine wpF_seq_wp ?_
    go_wp2_with fail
    refine wpF_mid (J := FopJ w m l (some ⟨g, 0, none⟩) (some ⟨cb, off, none⟩) rcap ccap bp k) ?ptail ?pblk
    case ptail =>
     intro a V hX
     obtain ⟨ds', u2, u3, u6, u7, u8, u9, u10, u11, u12, u16, u17, u18, u19, u20, u21, u22, u23, u24, u25, u26, u27, u28, u29, u30, u31, u32, u33, u34, u35, u36, u37, u38, u39, u40, u41, u42, u43, u44, rfl, hI'⟩ := hX
     refine wpF_of_wp ?_
     go_wp2_with fail
     refine ⟨N - 1, by omega, ?_⟩
     unfold FopL
     exact ⟨k + 1, ds', _, _, _, _, _, _, _, _, _, _, _, _, _, _, _, _, _, _, _, _, _, _, _, _, _, _, _, _, _, _, _, _, _, _, _, _, _, _, by omega, rfl, hI'⟩
    case pblk =>
     refine wpF_block ?_
     refine wpF_seq_wp ?_
     go_wp2_with fail
     have hI1 := hI.below (box_below V (.cells #[.int .i64 (i : Int), .slice la flo.length lcap, .slice sa fst.length scap] 42))
     have A1 := Blk.new V #[.int .i64 (i : Int), .slice la flo.length lcap, .slice sa fst.length scap] 42
     have b7 := hI.bel.size
     generalize V.alloc _ = V1 at *
     have d0 : V1.cell? ⟨V.heap.size, 0, none⟩ = some (.int .i64 (i : Int)) := A1.cell 0
     clear g0 g1 g2 f0 f1 f2 HI hI A1
     refine wpF_seq_wp ?_
     go_wp2_with fail
     refine (flow_onward _ _ _ _ _).mono ?_
     rintro e w4 ⟨rfl, hw4⟩
     have hb4w : Below V1.heap.size V1 w4 := by rw [hw4]; exact box2_below _ _ _
     have o1 : w4.cell? ⟨V1.heap.size, 0, none⟩ = some (.slice (some ⟨cb, off, none⟩) m.code.length ccap) := by rw [hw4]; exact box2_fst _ _ _ _ 0
     have o2 : w4.cell? ⟨V1.heap.size + 1, 0, none⟩ = some (.int .i64 (i : Int)) := by rw [hw4]; exact box2_snd _ _ _ _ 0
     have hI4 := hI1.below hb4w
     have hbV1 := hI1.bm.lt
     have hb4 := hI4.bm.lt
     have z0 := Keeps.of_below hI4.bel _ _ x0
     have z1 := Keeps.of_below hI4.bel _ _ x1
     have z2 := Keeps.of_below hI4.bel _ _ x2
     have HSeq := hide (onward_seq x i m.code.length ccap cb off V1.heap.size (V1.heap.size + 1) (fun k => k = bp) w4 hi (by omega) o1 o2 ⟨z0, z1, z2⟩ (by omega) (fun k e => by omega))
     clear hw4 o1 o2 d0 z0 z1 z2 x0 x1 x2
     go_wp2_with fail
     refine wpF_block ?_
     refine wpF_range Tryz.func164 (gf := 158) (lb := #[.pointer (some ⟨V1.heap.size, 0, none⟩), .pointer (some ⟨V1.heap.size + 1, 0, none⟩)]) rfl (enters_of Tryz.func158 (by kernel_rfl) rfl) (unhide HSeq) rfl (fun k e => by omega)
      (fun xs U => ∃ dn, onwardL x i = dn ++ xs ∧ w4.heap.size ≤ U.heap.size ∧ FopI w U bp ds (fun j => jumpTo m (l.take k) j || dn.any fun y => y.2 && y.1.toNat == j)) (fun _ _ => False) ?rown ⟨[], rfl, Nat.le_refl _, by simpa using hI4⟩ ?ra1 ?rassign ?rbody ?rdone ?rpanic
     case rassign =>
      intro l y U K hK
      rw [fold_two]
      simp only [List.setIfInBounds_toArray, List.set_cons_zero, List.set_cons_succ]
      gi_wp2
      exact hK
     case rown =>
      rintro xs U U' ⟨dn, h1, h2, h3⟩ hm
      have := hb4w.size
      exact ⟨dn, h1, Nat.le_trans h2 hm.size, h3.mods hm (fun j hj e => by omega) (by omega) (fun D hD e => by have := (Array.getElem?_eq_some_iff.1 (hI4.mks D hD)).1; omega)⟩
     case rbody =>
      rintro lp ⟨y1, y2⟩ xs U ⟨dn, hdn, hUs, hU⟩
      cases y2 with
      | false =>
       have HU : Hid (∃ dn, onwardL x i = dn ++ xs ∧ w4.heap.size ≤ U.heap.size ∧ FopI w U bp ds (fun j => jumpTo m (l.take k) j || dn.any fun y => y.2 && y.1.toNat == j)) := ⟨dn ++ [(y1, false)], by rw [hdn]; simp, hUs, by simpa using hU⟩
       clear hU hdn
       gi_wp2_with fail
       exact ⟨Mods.refl _ _, unhide HU⟩
      | true =>
       have hy : jumpsB x = true ∧ y1 = x.a := by
        have hm : (y1, true) ∈ onwardL x i := by rw [hdn]; simp
        unfold onwardL at hm
        cases hq : jumpsB x with
        | false =>
         rw [hq] at hm
         simp at hm
        | true =>
         rw [hq] at hm
         refine ⟨rfl, ?_⟩
         simpa using hm
       obtain ⟨hy1, rfl⟩ := hy
       obtain ⟨q0, q1⟩ := hjj hy1
       obtain ⟨j, hja⟩ : ∃ j : Nat, x.a = (j : Int) := ⟨x.a.toNat, by omega⟩
       rw [hja] at hdn q0 q1 ⊢
       have HU : Hid (∃ dn, onwardL x i = dn ++ xs ∧ w4.heap.size ≤ (U.setCell ⟨bp, j, none⟩ (.bool true)).heap.size ∧ FopI w (U.setCell ⟨bp, j, none⟩ (.bool true)) bp ds (fun j => jumpTo m (l.take k) j || dn.any fun y => y.2 && y.1.toNat == j)) :=
        ⟨dn ++ [((j : Int), true)], by rw [hdn]; simp, by simpa using hUs, hU.put hbp' (fun j' => by simp [Bool.or_assoc])⟩
       have HMM := hide ((Mods.refl (fun j => j = bp) U).setCell (p := ⟨bp, j, none⟩) (fun _ => rfl) (.bool true))
       have c5 : U.cell? ⟨bp, j, none⟩ = some (.bool (jumpTo m (l.take k) j || dn.any fun y => y.2 && y.1.toNat == j)) := by rw [hU.bm.cell]; exact mrkV_get (by omega)
       have f5 := hU.bm.frozen j
       have j40 : (j : Int) < 40 := by omega
       clear hU hdn hja hjj hy1
       gi_wp2_with fail
       exact ⟨unhide HMM, unhide HU⟩
     case rdone =>
      rintro D U hD ⟨dn, hdn, hUs, hU⟩ hK
      rw [List.append_nil] at hdn
      have hfe : (fun j => jumpTo m (l.take k) j || dn.any fun y => y.2 && y.1.toNat == j) = jumpTo m (l.take (k + 1)) := by
       funext j
       rw [unhide HJ j, ← hdn, onward_jump]
      rw [hfe] at hU
      simp only [Exit.inBlock, Exit.then]
      unfold FopJ
      exact ⟨D :: ds, _, _, _, _, _, _, _, _, _, _, _, _, _, _, _, _, _, _, _, _, _, _, _, _, _, _, _, _, _, _, _, _, _, _, _, _, _, _, rfl, hU.mark hI4 hK hD⟩
     case rpanic =>
      rintro D cc U hD hF
      exact hF.elim
   ·obtain rfl : k = l.length := by omega
    have hk : ¬ (l.length : Int) < (l.length : Int) := by omega
    rw [List.take_length] at HI
    clear hI
    refine wpF_seq_wp ?_
    go_wp2_with fail
    refine wpF_seq_wp ?_
    go_wp2_with fail
    unfold FopM
    exact ⟨ds, _, _, _, _, _, _, _, _, _, _, _, _, _, _, _, _, _, _, _, _, _, _, _, _, _, _, _, _, _, _, _, _, _, _, _, _, _, _, _, _, _, rfl, unhide HI⟩
 case rest =>
  intro a V hX
  obtain ⟨ds, u2, u3, u6, u7, u8, u9, u10, u11, u12, u13, u14, u15, u16, u17, u18, u19, u20, u21, u22, u23, u24, u25, u26, u27, u28, u29, u30, u31, u32, u33, u34, u35, u36, u37, u38, u39, u40, u41, u42, u43, u44, rfl, hI⟩ := hX
  have HK0 : Hid (FopI w V bp ds (jumpTo m l) ∧ FopF w V B (.slice none 0 0) ((l.take 0).filter fun f => jumpTo m l f.pc.toNat)) := ⟨hI, [], World.ownsRow_nil _ _ _ _, RowG.nil⟩
  clear hI
  refine wpF_seq_wp ?_
  go_wp2_with fail
  refine wpF_mid (J := FopE w m l ra B rcap bp) ?last ?second
  case last =>
   intro a V hX
   obtain ⟨ds, vfr, u0, u2, u3, u4, u6, u7, u8, u9, u11, u12, u13, u14, u15, u16, u17, u18, u19, u20, u21, u22, u23, u24, u25, u26, u27, u28, u29, u30, u31, u32, u33, u34, u35, u36, u37, u38, u39, u40, u41, u42, u43, u44, rfl, hI, hF⟩ := hX
   obtain ⟨cs', hO', hR'⟩ := hF
   obtain ⟨fa, fcap, rfl⟩ := own_form hO'
   have HL := hide (And.intro hI (show FopF w V B (.slice fa (l.filter fun f => jumpTo m l f.pc.toNat).length fcap) (l.filter fun f => jumpTo m l f.pc.toNat) from ⟨cs', hO', hR'⟩))
   clear hI hO' hR' HK0
   refine wpF_seq_wp ?_
   go_wp2_with fail
   refine wpF_of_wp ?_
   go_wp2_with fail
   exact fop_leave (unhide HL).1 hB (unhide HL).2 (fun V' => results_tmp (t := 4) rfl _ _ _)
  case second =>
   refine wpF_seq_wp ?_
   go_wp2_with fail
   refine wpF_block ?_
   refine wpF_loop (FopK w m l ra B rcap bp) l.length ?start2 ?round2
   case start2 => unfold FopK; exact ⟨0, ds, _, _, _, _, _, _, _, _, _, _, _, _, _, _, _, _, _, _, _, _, _, _, _, _, _, _, _, _, _, _, _, _, _, _, _, _, _, _, _, _, by omega, rfl, (unhide HK0).1, (unhide HK0).2⟩
   case round2 =>
    clear HK0
    intro N a V hX
    obtain ⟨k, ds, vfr, u0, u2, u3, u4, u6, u7, u8, u9, u11, u12, u13, u14, u15, u16, u17, u18, u19, u20, u21, u22, u23, u24, u25, u26, u27, u28, u32, u33, u34, u35, u36, u37, u38, u39, u40, u41, u42, u43, u44, hN, rfl, hI, hF⟩ := hX
    by_cases hlt : k < l.length
    ·obtain ⟨g, vl, vs, rfl, f0, f1, f2, hvl, hvs⟩ := unhide HFR k hlt
     have hmem := List.getElem_mem hlt
     obtain ⟨p0, p1⟩ := hpc _ hmem
     have hfs := filter_snoc (q := fun f => jumpTo m l f.pc.toNat) hlt
     have hfl : ((l.take k).filter fun f => jumpTo m l f.pc.toNat).length ≤ 40 := Nat.le_trans (List.length_filter_le _ _) (by rw [List.length_take]; omega)
     generalize l[k] = f at *
     obtain ⟨pc, flo, fst⟩ := f
     dsimp only at *
     obtain ⟨i, rfl⟩ : ∃ i : Nat, pc = (i : Int) := ⟨pc.toNat, by omega⟩
     rw [Int.toNat_natCast] at hfs
     have hi : (i : Int) < 40 := by omega
     have HVL := hide (And.intro hvl hvs)
     obtain ⟨la, _, _, lcap, rfl, _⟩ := hvl
     obtain ⟨sa, _, _, scap, rfl, _⟩ := hvs
     have k0 : (0 : Int) ≤ (k : Int) := by omega
     have k1 : (k : Int) < (l.length : Int) := by omega
     have g0 := Keeps.of_below hI.bel _ _ f0
     have g1 := Keeps.of_below hI.bel _ _ f1
     have g2 := Keeps.of_below hI.bel _ _ f2
     have hbx := box_below V (.cells #[.int .i64 (i : Int), .slice la flo.length lcap, .slice sa fst.length scap] 42)
     have hI1 := hI.below hbx
     have hF1 := hF.below hbx
     have c5 : (V.alloc (.cells #[.int .i64 (i : Int), .slice la flo.length lcap, .slice sa fst.length scap] 42)).cell? ⟨bp, i, none⟩ = some (.bool (jumpTo m l i)) := by rw [hI1.bm.cell]; exact mrkV_get (by omega)
     have hbpl := hI.bm.lt
     have hbne : bp ≠ V.heap.size := by omega
     cases hq : jumpTo m l i with
     | false =>
      rw [hq] at c5
      rw [hq, if_neg (by simp), List.append_nil] at hfs
      rw [← hfs] at hF1
      have HE := hide (And.intro hI1 hF1)
      clear hI hF hI1 hF1 hfs hq f0 f1 f2
      refine wpF_of_wp ?_
      go_wp2_with fail
      refine ⟨N - 1, by omega, ?_⟩
      unfold FopK
      exact ⟨k + 1, ds, _, _, _, _, _, _, _, _, _, _, _, _, _, _, _, _, _, _, _, _, _, _, _, _, _, _, _, _, _, _, _, _, _, _, _, _, _, _, _, _, by omega, rfl, (unhide HE).1, (unhide HE).2⟩
     | true =>
      rw [hq] at c5
      rw [hq, if_pos rfl] at hfs
      obtain ⟨na, nn, ncap, w3, happ, hF3, hI3⟩ := hF1.snoc hI1 hfl (x := ⟨(i : Int), flo, fst⟩) (unhide HVL).1 (unhide HVL).2 (V.heap.size + 1) (by simp)
      rw [← hfs] at hF3
      obtain ⟨cs3, hO3, hR3⟩ := hF
      obtain ⟨va, vcap, rfl⟩ := own_form hO3
      have HE := hide (And.intro hI3 hF3)
      clear hI hI1 hF1 hfs hq f0 f1 f2 hF3 hI3 hO3 hR3
      refine wpF_of_wp ?_
      go_wp2_with (at_builtin; refine wpList_append_run rfl (.tmp 39) (.tmp 41) 36 rfl _ _ rfl rfl happ ?_)
      refine ⟨N - 1, by omega, ?_⟩
      unfold FopK
      exact ⟨k + 1, ds, _, _, _, _, _, _, _, _, _, _, _, _, _, _, _, _, _, _, _, _, _, _, _, _, _, _, _, _, _, _, _, _, _, _, _, _, _, _, _, _, by omega, rfl, (unhide HE).1, (unhide HE).2⟩
    ·obtain rfl : k = l.length := by omega
     have hk : ¬ (l.length : Int) < (l.length : Int) := by omega
     rw [List.take_length] at hF
     have HE := hide (And.intro hI hF)
     clear hI hF
     refine wpF_seq_wp ?_
     go_wp2_with fail
     refine wpF_seq_wp ?_
     go_wp2_with fail
     unfold FopE
     exact ⟨ds, _, _, _, _, _, _, _, _, _, _, _, _, _, _, _, _, _, _, _, _, _, _, _, _, _, _, _, _, _, _, _, _, _, _, _, _, _, _, _, _, _, _, _, rfl, (unhide HE).1, (unhide HE).2⟩
end Go.Proofs.YtiiokkllmchohaaGreat
/- Certify: the methods of a class. -/
namespace Go.Proofs.YtiiokkllmchohaaGreat
open Go.RowKit Go.Shelf
attribute [local go_sem ↓] Go.wp_at_zero Go.wp_at_succ
attribute [local go_sem] frz_drew

theorem cut_same {cs : List Value} {sz k i : Nat} (u : Value) : ((cs.set (k * sz + i) u).drop (k * sz)).take sz = ((cs.drop (k * sz)).take sz).set i u := by
 rw [List.drop_set, if_neg (by omega), List.take_set, Nat.add_sub_cancel_left]
theorem cut_other {cs : List Value} {sz k j i : Nat} (hi : i < sz) (hj : j ≠ k) (u : Value) : ((cs.set (k * sz + i) u).drop (j * sz)).take sz = (cs.drop (j * sz)).take sz := by
 rw [List.drop_set]
 split
 ·rfl
 ·rw [List.take_set_of_le]
  rcases Nat.lt_or_ge j k with hlt | hge
  ·have : (j + 1) * sz ≤ k * sz := Nat.mul_le_mul_right _ hlt
   rw [Nat.succ_mul] at this
   omega
  ·have : (k + 1) * sz ≤ j * sz := Nat.mul_le_mul_right _ (by omega)
   rw [Nat.succ_mul] at this
   omega
abbrev NewS (w : World) (v : Value) : Nat → Prop := fun g => w.heap.size ≤ g ∧ v.ownBlock ≠ some g
def MetC (w V : World) (v : Value) (R : Nat → SvSt) (k j : Nat) (m : LMeth) (c : List Value) : Prop := if j < k then MeC (sel (NewS w v) V) (certM m (R j)) c else MeC w.cell? m c
structure MetI (w V : World) (vp v : Value) (l : List LMeth) (R : Nat → SvSt) (k : Nat) : Prop where
 bel : Below w.heap.size w V
 bp : Blk V w.heap.size 24 [vp]
 row : ∃ cs, V.ownsRow (w.heap.size + 1) 63 7 v l.length cs ∧ ∀ (j : Nat) (m : LMeth), l[j]? = some m → MetC w V v R k j m ((cs.drop (j * 7)).take 7)
theorem MetI.next {w V V' : World} {vp v : Value} {l : List LMeth} {R : Nat → SvSt} {k g : Nat} {m : LMeth} (i : MetI w V vp v l R k) {cs : List Value} (hC : ∀ (j : Nat) (m : LMeth), l[j]? = some m → MetC w V v R k j m ((cs.drop (j * 7)).take 7)) (hg : v.ownBlock = some g) (hgw : w.heap.size < g) (hk : l[k]? = some m) (hM : Mods (fun j => j = g) V V')
  {slot ret loc stk va va0 vc vc0 vf vf0 : Value} (hcut : (cs.drop (k * 7)).take 7 = [slot, va0, ret, loc, stk, vc0, vf0]) (hO : V'.ownsRow (w.heap.size + 1) 63 7 v l.length (((cs.set (k * 7 + 1) va).set (k * 7 + 5) vc).set (k * 7 + 6) vf))
  (hm : MeC (sel (NewS w v) V') (certM m (R k)) [slot, va, ret, loc, stk, vc, vf]) : MetI w V' vp v l R (k + 1) := by
 refine ⟨i.bel.trans (hM.below i.bel.size (fun j hj e => by omega)), i.bp.mods hM (by omega), _, hO, fun j x hj => ?_⟩
 by_cases e : j = k
 ·subst e
  rw [hk] at hj
  cases hj
  rw [cut_same, cut_same, cut_same, hcut]
  unfold MetC
  rw [if_pos (by omega)]
  exact hm
 ·rw [cut_other (by omega) e, cut_other (by omega) e, cut_other (by omega) e]
  have h := hC j x hj
  unfold MetC at h ⊢
  by_cases hlt : j < k
  ·rw [if_pos hlt] at h
   rw [if_pos (by omega)]
   exact MeC.keep (sel_mods hM fun b _ hb => ⟨fun e => hb.2 (by rw [hg, e]), hb⟩) h
  ·rw [if_neg hlt] at h
   rw [if_neg (by omega)]
   exact h
def MetR (l : List LMeth) (Q : Nat → Option SvSt) (w w' : World) (e : Ending) : Prop :=
 ((∃ v, e = .returned v ∧ SlAt 7 (GMeth (sel (fun k => w.heap.size ≤ k) w')) v (l.mapIdx fun k m => certM m ((Q k).getD sv0)) ∧ ∀ (k : Nat) (m : LMeth), l[k]? = some m → Q k ≠ none) ∨ (e = .panicked (refC 5) ∧ ∃ (k : Nat) (m : LMeth), l[k]? = some m ∧ Q k = none)) ∧ Below w.heap.size w w'
theorem MetI.fin {w V : World} {vp v : Value} {l : List LMeth} {R : Nat → SvSt} (i : MetI w V vp v l R l.length) : SlAt 7 (GMeth (sel (fun k => w.heap.size ≤ k) V)) v (l.mapIdx fun k m => certM m (R k)) := by
 obtain ⟨cs, hO, hC⟩ := i.row
 have hO' : V.ownsRow (w.heap.size + 1) 63 7 v (l.mapIdx fun k m => certM m (R k)).length cs := by simpa using hO
 refine own_metS hO' ⟨hO'.1, fun j x hj => ?_⟩ (fun g hg => by have := (hO.lt g hg).1; omega)
 rw [List.getElem?_mapIdx] at hj
 obtain ⟨m, h1, rfl⟩ := Option.map_eq_some_iff.1 hj
 have h := hC j m h1
 unfold MetC at h
 rw [if_pos (List.getElem?_eq_some_iff.1 h1).1] at h
 exact MeC.keep (sel_mods (Mods.refl (fun _ => False) V) fun b _ hb => ⟨fun f => f, hb.1⟩) h
theorem own_frz {w : World} {B : Nat} {e : TypeId} {sz n : Nat} {v : Value} {cs : List Value} (h : w.ownsRow B e sz v n cs) {g : Nat} (hg : v.ownBlock = some g) (j : Nat) : w.frozen? ⟨g, j, none⟩ = false := by
 obtain ⟨cur, hb⟩ := own_blk h hg
 exact hb.frozen j
theorem own_cellC {w : World} {B : Nat} {e : TypeId} {sz n : Nat} {v : Value} {cs : List Value} (h : w.ownsRow B e sz v n cs) {g : Nat} (hg : v.ownBlock = some g) {j : Nat} (hj : j < n * sz) : w.cell? ⟨g, j, none⟩ = cs[j]? := by
 rcases h.2 with ⟨rfl, _⟩ | ⟨g', cap, cur, rfl, h2, h3, h4, h5, h6, h7⟩
 ·cases hg
 ·cases hg
  rw [← h7, List.getElem?_take, if_pos hj]
  unfold World.cell?
  simp only [h3]
  simp
theorem own_putC {w : World} {B : Nat} {e : TypeId} {sz n : Nat} {v : Value} {cs : List Value} (h : w.ownsRow B e sz v n cs) {g : Nat} (hg : v.ownBlock = some g) (j : Nat) (u : Value) : (w.setCell ⟨g, j, none⟩ u).ownsRow B e sz v n (cs.set j u) ∧ Mods (fun k => k = g) w (w.setCell ⟨g, j, none⟩ u) :=
 ⟨own_set h hg j u, (Mods.refl (fun k => k = g) w).setCell (p := ⟨g, j, none⟩) (fun _ => rfl) _⟩
theorem frames_ok {p : List LClass} {c k : Int} {m : LMeth} {r : SvSt} (hF : formI p = 0) (hm : ownM p c k = some m) : (frmL m r m.code.length).length ≤ 40 ∧ (∀ f ∈ frmL m r m.code.length, 0 ≤ f.pc ∧ f.pc < (m.code.length : Int)) ∧
  ∀ f ∈ frmL m r m.code.length, jumpsB (insAt m f.pc.toNat) = true → 0 ≤ (insAt m f.pc.toNat).a ∧ (insAt m f.pc.toNat).a < (m.code.length : Int) := by
 obtain ⟨_, _, O⟩ := form_own hF hm
 have hpc : ∀ f ∈ frmL m r m.code.length, 0 ≤ f.pc ∧ f.pc < (m.code.length : Int) := fun f hf => by
  obtain ⟨i, h1, _, rfl⟩ := frm_mem hf
  exact ⟨Int.natCast_nonneg _, by show (i : Int) < _; omega⟩
 refine ⟨Nat.le_trans (frmL_len _ _ _) O.c40, hpc, fun f hf hj => ?_⟩
 have hlt : f.pc.toNat < m.code.length := by have := hpc f hf; omega
 have hmem : insAt m f.pc.toNat ∈ m.code := by
  unfold insAt
  rw [List.getElem?_eq_getElem hlt]
  exact List.getElem_mem _
 have J := ins_ok (p := p) (m := m) (op := (insAt m f.pc.toNat).op) (a := (insAt m f.pc.toNat).a) (b := (insAt m f.pc.toNat).b) (O.ins _ hmem)
 refine J.jmp ?_
 unfold jumpsB at hj
 simp only [Bool.or_eq_true, beq_iff_eq] at hj
 omega
set_option maxHeartbeats 1000000 in
set_option maxRecDepth 100000 in
theorem cer_methods (p : List LClass) (vp : Value) (c : Nat) (w : World) (hp : RProg w vp p) (hF : formI p = 0) (hz : szProg p ≤ 4194304) (Q : Nat → Nat → Option SvSt) (hQ : Ends p Q) (hc : c < p.length) :
  Calls Tryz.prog 107 #[.agg #[vp], .int .i64 (c : Int)] w fun e w' => MetR p[c].meths (Q c) w w' e := by
 have HP := hide hp
 have HQ : Hid (∀ (k : Nat) (m : LMeth), p[c].meths[k]? = some m → ownM p (c : Int) (k : Int) = some m ∧ ∃ N, solveN p m N (putP sv0 0 (beginS c m)) = some (Q c k)) := fun k m hm => by
  have : ownM p (c : Int) (k : Int) = some m := by
   unfold ownM
   rw [if_pos ⟨by omega, by omega⟩, Int.toNat_natCast, Int.toNat_natCast, List.getElem?_eq_getElem hc]
   exact hm
  exact ⟨this, hQ c k m this⟩
 obtain ⟨pa, pb, poff, pcap, rfl, _, hpa, hpr⟩ := sl_open hp
 obtain rfl := hpa (ne_nil_of_lt hc)
 obtain ⟨vf, vm, c0, c1, c2, hf, hmt⟩ := hpr c hc
 have hml : p[c].meths.length ≤ 4194304 := Nat.le_trans (szMeths_le _) (Nat.le_trans (szClass_le (List.getElem_mem hc)) hz)
 have HF := hide hF
 clear hp hQ hpr hpa hf c0 c1 hF
 generalize p[c].meths = l at *
 generalize Q c = q at *
 obtain ⟨ma, mcap, news, rfl, hmnil, hnl, hRow, hsrc, hone⟩ := met_src hmt
 clear hmt
 have hk0 : (0 : Int) ≤ (c : Int) := by omega
 have hk1 : (c : Int) < (p.length : Int) := by omega
 have hbW := box_below w (.cells #[.slice (some ⟨pb, poff, none⟩) p.length pcap] 24)
 have A0 := Blk.new w #[.slice (some ⟨pb, poff, none⟩) p.length pcap] 24
 have hWs : (w.alloc (.cells #[.slice (some ⟨pb, poff, none⟩) p.length pcap] 24)).heap.size = w.heap.size + 1 := by simp
 have c2' := Keeps.of_below hbW _ _ c2
 have hpbl := cell_lt c2
 go_enter Tryz.func107, Tryz.ntmps107
 go_wp2_with fail
 generalize w.alloc _ = W at *
 refine (cer_copied_Method ma _ mcap news W hnl hmnil (fun ad e j u h => Keeps.of_below hbW _ _ (hsrc ad e j u h)) hone hml).mono ?_
 rintro e w1 ⟨v0, rfl, hO, hb1⟩
 rw [hWs] at hO
 have HI0 : Hid (MetI w w1 (.slice (some ⟨pb, poff, none⟩) p.length pcap) v0 l (fun k => (q k).getD sv0) 0) := by
  refine ⟨hbW.trans (hb1.mono hbW.size), A0.below hb1 A0.lt, news, hO, fun j m hj => ?_⟩
  unfold MetC
  rw [if_neg (by omega)]
  exact hRow.2 j m hj
 obtain ⟨ga, gcap, rfl⟩ := own_form hO
 clear hO hb1 A0 c2 c2' hbW hWs hRow hsrc hone hnl hmnil
 go_wp2_with fail
 go_loopw [17] (fun i wr => ∃ k : Nat, k ≤ l.length ∧ i = .int .i64 k ∧ (∀ (j : Nat) (m : LMeth), j < k → l[j]? = some m → q j ≠ none) ∧ MetI w wr (.slice (some ⟨pb, poff, none⟩) p.length pcap) (.slice ga l.length gcap) l (fun k => (q k).getD sv0) k) (fun i _ => l.length - (intOf i).toNat)
 case atStart => exact ⟨0, Nat.zero_le _, rfl, fun j m h => (by omega), unhide HI0⟩
 case round =>
  obtain ⟨k, hk, rfl, hall, hI⟩ := hrel
  have HI := hide hI
  have HA := hide hall
  clear hall
  by_cases hlt : k < l.length
  ·obtain ⟨cs, hO, hC⟩ := hI.row
   obtain ⟨g, gcap', hge, _, hgb, hcell⟩ := own_read hO (by omega)
   injection hge with e1 e2 e3
   subst e1 e3
   have hgw := (hO.lt g hgb).1
   have hgl := (hO.lt g hgb).2
   obtain ⟨m, hm⟩ : ∃ m, l[k]? = some m := ⟨_, List.getElem?_eq_getElem hlt⟩
   have hck := hC k m hm
   unfold MetC at hck
   rw [if_neg (by omega)] at hck
   obtain ⟨va, vco, vfr, hcut, hv⟩ := hck
   have key : ∀ i, i < 7 → wr.cell? ⟨g, k * 7 + i, none⟩ = [Value.int .i64 m.slot, va, .int .i64 m.ret, .int .i64 m.locals, .int .i64 m.stack, vco, vfr][i]? := fun i hi => by rw [hcell _ (by omega), row_cell hi, hcut]
   obtain ⟨hown, N, hN⟩ := unhide HQ k m hm
   obtain ⟨_, _, O⟩ := form_own (unhide HF) hown
   have hl0 := form_loc (unhide HF) hown
   have G := form_good (unhide HF) hz
   have HV := hide hv
   obtain ⟨aa, acap, rfl, hanil, hasrc⟩ := ints_src hv.1
   obtain ⟨ca, ccap, cnews, rfl, hcnil, hcl, hcrow, hcsrc, hcone⟩ := ins_src hv.2.1
   obtain ⟨fa, _, _, fcap, rfl, _⟩ := hv.2.2
   have m0 : wr.cell? ⟨g, k * 7, none⟩ = some (.int .i64 m.slot) := key 0 (by omega)
   have m1 : wr.cell? ⟨g, k * 7 + 1, none⟩ = some (.slice aa m.args.length acap) := key 1 (by omega)
   have m2 : wr.cell? ⟨g, k * 7 + 2, none⟩ = some (.int .i64 m.ret) := key 2 (by omega)
   have m3 : wr.cell? ⟨g, k * 7 + 3, none⟩ = some (.int .i64 m.locals) := key 3 (by omega)
   have m4 : wr.cell? ⟨g, k * 7 + 4, none⟩ = some (.int .i64 m.stack) := key 4 (by omega)
   have m5 : wr.cell? ⟨g, k * 7 + 5, none⟩ = some (.slice ca m.code.length ccap) := key 5 (by omega)
   have m6 : wr.cell? ⟨g, k * 7 + 6, none⟩ = some (.slice fa m.frames.length fcap) := key 6 (by omega)
   have q0 : (0 : Int) ≤ (k : Int) := by omega
   have q1 : (k : Int) < (l.length : Int) := by omega
   have HC := hide hC
   have HCUT := hide hcut
   have HO := hide hO
   have hbx := box_below wr (.cells #[.int .i64 m.slot, .slice aa m.args.length acap, .int .i64 m.ret, .int .i64 m.locals, .int .i64 m.stack, .slice ca m.code.length ccap, .slice fa m.frames.length fcap] 63)
   have BX := Blk.new wr #[.int .i64 m.slot, .slice aa m.args.length acap, .int .i64 m.ret, .int .i64 m.locals, .int .i64 m.stack, .slice ca m.code.length ccap, .slice fa m.frames.length fcap] 63
   have hbz := hI.bel.trans (hbx.mono hI.bel.size)
   have B0 := hI.bp.below hbx hI.bp.lt
   clear key hcell hC hcut hI hO hv
   go_wp2_with fail
   generalize wr.alloc _ = Z at *
   have hv7 := O.a7
   have hc40 := O.c40
   refine (cer_copied_Type aa _ acap (m.args.map (Value.int .i64)) Z (by simp) (fun e => ⟨by rw [(hanil e).1]; rfl, (hanil e).2⟩) (fun ad e j u h => Keeps.of_below hbz _ _ (hasrc ad e j u h)) (oneCell_ints _) (by omega)).mono ?_
   rintro e w2 ⟨va', rfl, hOa, hb2⟩
   have hGa : SlAt 1 (GInt (sel (fun j => Z.heap.size ≤ j) w2)) va' m.args := own_intsC hOa (fun g hg => (hOa.lt g hg).1)
   obtain ⟨aa', acap', rfl⟩ := own_form hOa
   have hbw2 := hbx.trans (hb2.mono hbx.size)
   have hO2 := own_mods (unhide HO) (Mods.of_below hbw2) (fun g' hg' e => by have := ((unhide HO).lt g' hg').2; omega)
   obtain ⟨hO3, hM3⟩ := own_putC hO2 hgb (k * 7 + 1) (.slice aa' m.args.length acap')
   have s1 : w2.cell? ⟨g, k * 7 + 1, none⟩ = some (.slice aa m.args.length acap) := Keeps.of_below hbw2 _ _ m1
   have fz1 := own_frz hO2 hgb (k * 7 + 1)
   have BX3 := (BX.below hb2 BX.lt).mods hM3 (by omega)
   have x5 : (w2.setCell ⟨g, k * 7 + 1, none⟩ (.slice aa' m.args.length acap')).cell? ⟨wr.heap.size, 5, none⟩ = some (.slice ca m.code.length ccap) := BX3.cell 5
   have hMr3 : Mods (fun j => j = g) wr (w2.setCell ⟨g, k * 7 + 1, none⟩ (.slice aa' m.args.length acap')) := (bnone hbw2).trans hM3 (fun _ _ e => e)
   have HGA := hide hGa
   clear m0 m1 m2 m3 m4 m5 m6 hOa hO2 hGa hanil hasrc
   go_wp2_with fail
   generalize w2.setCell _ _ = w3 at *
   clear s1 fz1 x5
   have hbw3 : Below w.heap.size w w3 := (unhide HI).bel.trans (hMr3.below (unhide HI).bel.size (fun j hj e => by omega))
   refine (cer_copied_Ins ca _ ccap cnews w3 hcl hcnil (fun ad e j u h => Keeps.of_below hbw3 _ _ (hcsrc ad e j u h)) hcone (by omega)).mono ?_
   rintro e w4 ⟨vc', rfl, hOc, hb4⟩
   have hGc : SlAt 3 (GIns (sel (fun j => w3.heap.size ≤ j) w4)) vc' m.code := own_insS hOc hcrow (fun g hg => (hOc.lt g hg).1)
   obtain ⟨ca', ccap', rfl⟩ := own_form hOc
   have hO4 := own_mods hO3 (Mods.of_below hb4) (fun g' hg' e => by have := (hO3.lt g' hg').2; omega)
   obtain ⟨hO5, hM5⟩ := own_putC hO4 hgb (k * 7 + 5) (.slice ca' m.code.length ccap')
   have s5 : w4.cell? ⟨g, k * 7 + 5, none⟩ = some (.slice ca m.code.length ccap) := by
    rw [own_cellC hO4 hgb (by omega), List.getElem?_set_ne (by omega), row_cell (by omega), unhide HCUT]; rfl
   have fz5 := own_frz hO4 hgb (k * 7 + 5)
   have BX5 := (BX3.below hb4 BX3.lt).mods hM5 (by omega)
   have hMr5 : Mods (fun j => j = g) wr (w4.setCell ⟨g, k * 7 + 5, none⟩ (.slice ca' m.code.length ccap')) := (hMr3.trans (bnone hb4) (fun _ _ e => e)).trans hM5 (fun _ _ e => e)
   have HGC := hide hGc
   clear hOc hO4 hGc hcl hcnil hcsrc hcone hcrow
   go_wp2_with fail
   generalize w4.setCell _ _ = w5 at *
   clear s5 fz5
   have hbw5 : Below w.heap.size w w5 := (unhide HI).bel.trans (hMr5.below (unhide HI).bel.size (fun j hj e => by omega))
   have B05 := (unhide HI).bp.mods hMr5 (by omega)
   have hold : ∀ w', Below w5.heap.size w5 w' → (w'.cell? ⟨w.heap.size, 0, none⟩ = some (.slice (some ⟨pb, poff, none⟩) p.length pcap) ∧ w'.cell? ⟨wr.heap.size, 0, none⟩ = some (.int .i64 m.slot) ∧ w'.cell? ⟨wr.heap.size, 1, none⟩ = some (.slice aa m.args.length acap) ∧ w'.cell? ⟨wr.heap.size, 2, none⟩ = some (.int .i64 m.ret) ∧ w'.cell? ⟨wr.heap.size, 3, none⟩ = some (.int .i64 m.locals) ∧ w'.cell? ⟨wr.heap.size, 4, none⟩ = some (.int .i64 m.stack) ∧ w'.cell? ⟨wr.heap.size, 5, none⟩ = some (.slice ca m.code.length ccap) ∧ w'.cell? ⟨wr.heap.size, 6, none⟩ = some (.slice fa m.frames.length fcap)) := fun U hU =>
    have kk := BX5.below hU BX5.lt
    ⟨(B05.below hU B05.lt).cell 0, kk.cell 0, kk.cell 1, kk.cell 2, kk.cell 3, kk.cell 4, kk.cell 5, kk.cell 6⟩
   have HO5 := hide hold
   clear hold
   refine wp_region_held_drew (S := (fun w' => w'.cell? ⟨w.heap.size, 0, none⟩ = some (.slice (some ⟨pb, poff, none⟩) p.length pcap) ∧ w'.cell? ⟨wr.heap.size, 0, none⟩ = some (.int .i64 m.slot) ∧ w'.cell? ⟨wr.heap.size, 1, none⟩ = some (.slice aa m.args.length acap) ∧ w'.cell? ⟨wr.heap.size, 2, none⟩ = some (.int .i64 m.ret) ∧ w'.cell? ⟨wr.heap.size, 3, none⟩ = some (.int .i64 m.locals) ∧ w'.cell? ⟨wr.heap.size, 4, none⟩ = some (.int .i64 m.stack) ∧ w'.cell? ⟨wr.heap.size, 5, none⟩ = some (.slice ca m.code.length ccap) ∧ w'.cell? ⟨wr.heap.size, 6, none⟩ = some (.slice fa m.frames.length fcap))) (by kernel_rfl) ?_ (fun hHeld => ?_)
   ·exact (unhide HO5) _ ((Below.refl _ _).drew)
   refine take_x (some 36) 0 rfl rfl ?_
   refine take_x (some 37) 1 rfl rfl ?_
   refine take_x (some 38) 2 rfl rfl ?_
   refine take_x (some 39) 3 rfl rfl ?_
   refine take_x (some 40) 4 rfl rfl ?_
   refine take_x (some 41) 5 rfl rfl ?_
   refine take_x (some 42) 6 rfl rfl ?_
   refine wpAnyH_ready (rs := [7]) (by kernel_rfl) (by simp) ?_
   refine AllReadyH.cons rfl (fun K hK => ?_) AllReadyH.nil
   go_simp
   refine (sv_solve p _ (c : Int) m _ _ _ _ (prog_keep (Keeps.of_below ((Below.refl _ _).drew)) (prog_keep (Keeps.of_below hbw5) (unhide HP))) (GVals.keep (Keeps.of_below ((Below.refl _ _).drew)) (GVals.keep (Keeps.of_below hbw5) (unhide HV))) G hk0 hk1 O hl0 N (q k) hN).mono ?_
   rintro e w7 ⟨h1, h2, hb7⟩
   have hb7' : Below w5.heap.size w5 w7 := ⟨hb7.os, hb7.tape, hb7.output, hb7.size, hb7.block⟩
   cases hq : q k with
   | none =>
    obtain rfl := h2 hq
    have HR : Hid (MetR l q w w7 (.panicked (refC 5))) := ⟨.inr ⟨rfl, k, m, hm, hq⟩, hbw5.trans (hb7'.mono hbw5.size)⟩
    clear h1 h2 hq hN hb7
    go_wp2_with fail
    exact ⟨rfl, unhide HR⟩
   | some r =>
    obtain ⟨v8, rfl, hFr⟩ := h1 r hq
    obtain ⟨ra, rcap, rfl⟩ := own_form hFr.choose_spec.1
    have HFr := hide (show FrsAt w7 w5.heap.size _ _ from hFr)
    have HQK := hide hq
    clear h1 h2 hq hN hb7 hFr
    go_wp2_with fail
    refine hK.out _ _ ((unhide HO5) _ hb7') (fun hHeld => ?_)
    clear hK K
    try simp only [Act.put, List.setIfInBounds_toArray, List.set_cons_zero, List.set_cons_succ]
    refine wpAnyH_ready (rs := [8]) (by kernel_rfl) (by simp) ?_
    refine AllReadyH.cons rfl (fun K hK => ?_) AllReadyH.nil
    go_simp
    have hbw7 := hbw5.trans (hb7'.mono hbw5.size)
    obtain ⟨fk1, fk2, fk3⟩ := frames_ok (r := r) (unhide HF) hown
    refine (cer_frames m _ _ _ w5.heap.size w7 (code_keep (Keeps.of_below hbw7) (unhide HV).2.1) (unhide HFr) hb7'.size fk1 hc40 fk2 fk3).mono ?_
    rintro e w8 ⟨v9, rfl, hFp, hb8⟩
    rw [← certL_eq] at hFp
    have HFP := hide hFp
    have hb8' : Below w5.heap.size w5 w8 := hb7'.trans (hb8.mono hb7'.size)
    have hO8 := own_mods hO5 (Mods.of_below hb8') (fun g' hg' e => by have := (hO5.lt g' hg').2; omega)
    obtain ⟨na, _, _, ncap, rfl, _⟩ := hFp
    obtain ⟨hO9, hM9⟩ := own_putC hO8 hgb (k * 7 + 6) (.slice na (certL m r).length ncap)
    have s6 : w8.cell? ⟨g, k * 7 + 6, none⟩ = some (.slice fa m.frames.length fcap) := by
     rw [own_cellC hO8 hgb (by omega), List.getElem?_set_ne (by omega), List.getElem?_set_ne (by omega), row_cell (by omega), unhide HCUT]; rfl
    have fz6 := own_frz hO8 hgb (k * 7 + 6)
    have hM69 : Mods (fun j => j = g) w5 (w8.setCell ⟨g, k * 7 + 6, none⟩ (.slice na (certL m r).length ncap)) := (bnone hb8').trans hM9 (fun _ _ e => e)
    have HI2 : Hid (MetI w (w8.setCell ⟨g, k * 7 + 6, none⟩ (.slice na (certL m r).length ncap)) (.slice (some ⟨pb, poff, none⟩) p.length pcap) (.slice (some ⟨g, 0, none⟩) l.length gcap) l (fun k => (q k).getD sv0) (k + 1)) := by
     have hz2 := hbx.size
     have hz3 := hM3.size
     have hz4 := hb2.size
     have hsw := (unhide HI).bel.size
     refine (unhide HI).next (unhide HC) hgb (by omega) hm (hMr5.trans hM69 (fun _ _ e => e)) (unhide HCUT) hO9 ⟨_, _, _, rfl, ?_, ?_, ?_⟩
     ·refine ints_keep (sel_mods ((hM3.trans (bnone hb4) (fun _ _ e => e)).trans (hM5.trans hM69 (fun _ _ e => e)) (fun _ _ e => e)) fun j hj hS => ⟨fun e => by omega, by omega, fun e => ?_⟩) (unhide HGA)
      have e' : g = j := Option.some.inj e
      omega
     ·refine code_keep (sel_mods (hM5.trans hM69 (fun _ _ e => e)) fun j hj hS => ⟨fun e => by omega, by omega, fun e => ?_⟩) (unhide HGC)
      have e' : g = j := Option.some.inj e
      omega
     ·rw [unhide HQK]
      have hz6 := hM5.size
      have hz7 := hb4.size
      refine frames_keep (sel_mods hM9 fun j hj hS => ⟨fun e => by omega, by omega, fun e => ?_⟩) (unhide HFP)
      have e' : g = j := Option.some.inj e
      omega
    have D0 := B05.mods hM69 (by omega)
    have DX := BX5.mods hM69 (by omega)
    go_wp2_with fail
    refine hK.out _ _ ((unhide HO5) _ hb8') (fun hHeld => ?_)
    clear hK K
    try simp only [Act.put, List.setIfInBounds_toArray, List.set_cons_zero, List.set_cons_succ]
    refine take_x (some 45) 9 rfl rfl ?_
    refine take_x (some 46) 10 rfl rfl ?_
    refine wpAnyH_ready (rs := [11]) (by kernel_rfl) (by simp) ?_
    refine AllReadyH.cons rfl (fun K hK => ?_) AllReadyH.nil
    go_simp
    refine hK.out _ _ ⟨D0.cell 0, DX.cell 0, DX.cell 1, DX.cell 2, DX.cell 3, DX.cell 4, DX.cell 5, DX.cell 6⟩ (fun hHeld => ?_)
    clear hK K
    try simp only [Act.put, List.setIfInBounds_toArray, List.set_cons_zero, List.set_cons_succ]
    refine wpAnyH_done (by kernel_rfl) ?_ _
    go_wp2_with fail
    refine ⟨⟨k + 1, by omega, by go_num, fun j m' hj' hm' => ?_, unhide HI2⟩, by simp [intOf]; omega⟩
    by_cases ej : j = k
    ·subst ej
     rw [unhide HQK]
     simp
    ·exact unhide HA j m' (by omega) hm'
  ·obtain rfl : k = l.length := by omega
   clear hI
   go_wp2_with fail
   go_ret
   exact ⟨.inl ⟨_, rfl, (unhide HI).fin, fun k m h => unhide HA k m (List.getElem?_eq_some_iff.1 h).1 h⟩, (unhide HI).bel⟩
end Go.Proofs.YtiiokkllmchohaaGreat
/- Certify: a program with its frames, in memory (what a class more does). -/
namespace Go.Proofs.YtiiokkllmchohaaGreat
open Go.RowKit Go.Shelf

def NewP (B : Nat) (w : World) (v : Value) (q : List LClass) : Prop := SlAt 3 (GClass (sel (fun k => B ≤ k) w)) v q
theorem NewP.read {B : Nat} {w : World} {v : Value} {q : List LClass} (h : NewP B w v q) : RProg w v q := prog_keep sel_world h
theorem NewP.mods {S : Nat → Prop} {B B' : Nat} {w w' : World} {v : Value} {q : List LClass} (h : NewP B w v q) (hm : Mods S w w') (hS : ∀ k, B ≤ k → ¬ S k) (hB : B' ≤ B) : NewP B' w' v q := prog_keep (sel_mods hm fun k _ hk => ⟨hS k hk, Nat.le_trans hB hk⟩) h
abbrev FromS (B : Nat) (v : Value) : Nat → Prop := fun g => B ≤ g ∧ v.ownBlock ≠ some g
structure ClsI (w V : World) (vp v : Value) (q : List LClass) : Prop where
 bel : Below w.heap.size w V
 b0 : Blk V w.heap.size 24 [vp]
 b1 : Blk V (w.heap.size + 1) 24 [.slice none 0 0]
 b2 : Blk V (w.heap.size + 2) 24 [v]
 row : ∃ cs, V.ownsRow (w.heap.size + 3) 66 3 v q.length cs ∧ RowG 3 (ClsC (sel (FromS (w.heap.size + 3) v) V)) cs q
section
variable {w V W : World} {vp v : Value} {q : List LClass}
theorem ClsI.below (i : ClsI w V vp v q) (h : Below V.heap.size V W) : ClsI w W vp v q := by
 obtain ⟨cs, hO, hR⟩ := i.row
 refine ⟨i.bel.trans (h.mono i.bel.size), i.b0.below h i.b0.lt, i.b1.below h i.b1.lt, i.b2.below h i.b2.lt, cs, own_mods hO (Mods.of_below h) (fun g hg e => by have := (hO.lt g hg).2; omega), hR.mono fun x c hc => ClsC.keep (sel_mods (Mods.of_below h) fun k hk hS => ⟨fun e => by omega, hS⟩) hc⟩
theorem infoCls : (Tryz.prog.info? 66).map (fun i => (i.zero, i.size, i.bytes)) = some (some (.agg #[.int .i64 0, .slice none 0 0, .slice none 0 0]), 3, 56) := by kernel_rfl
theorem ClsI.next (i : ClsI w V vp v q) (hq : q.length ≤ 4194304) {B : Nat} (hBv : ∀ g, v.ownBlock = some g → g < B) (hB : w.heap.size + 3 ≤ B) {x : LClass} {vf vm : Value} (h1 : SlAt 1 (GInt (sel (fun k => B ≤ k) V)) vf x.fields) (h2 : SlAt 7 (GMeth (sel (fun k => B ≤ k) V)) vm x.meths) :
  ∃ a n cap w', (Builtin.append_ #[22, 22] 22 #[v, .slice (some ⟨V.heap.size, 0, none⟩) 1 1]).run Tryz.prog (V.alloc (.cells #[.int .i64 x.sup, vf, vm] 66)) = .ok (.slice a n cap) w' ∧
   w'.cell? ⟨w.heap.size + 2, 0, none⟩ = some v ∧ w'.frozen? ⟨w.heap.size + 2, 0, none⟩ = false ∧ Mods (fun k => v.ownBlock = some k) V w' ∧ ClsI w (w'.setCell ⟨w.heap.size + 2, 0, none⟩ (.slice a n cap)) vp (.slice a n cap) (q ++ [x]) := by
 obtain ⟨iC, hC, hC0, hC1, hC2⟩ := info_parts infoCls
 obtain ⟨cs, hO, hR⟩ := i.row
 have hlt := hO.lt
 have hsz := i.bel.size
 have h3 := i.b2.lt
 obtain ⟨v', w', happ, hO', hM, hv⟩ := app_ex (P := Tryz.prog) (W := V) 22 22 66 iC _ 3 56 Tryz.underlying22 hC hC0 hC1 hC2 rfl (by decide) (w.heap.size + 3) v q.length cs hO #[.int .i64 x.sup, vf, vm] rfl
  (fun u hu => by
   simp only [List.mem_cons, List.not_mem_nil, or_false] at hu
   rcases hu with rfl | rfl | rfl
   ·rfl
   ·exact slAt_one h1
   ·exact slAt_one h2) V.heap.size rfl (by unfold maxLen; omega) (by omega) (by omega)
 obtain ⟨a, cap, rfl⟩ := own_form hO'
 have n2 : ¬ v.ownBlock = some (w.heap.size + 2) := fun e => by have := (hlt _ e).1; omega
 have n1 : ¬ v.ownBlock = some (w.heap.size + 1) := fun e => by have := (hlt _ e).1; omega
 have n0 : ¬ v.ownBlock = some w.heap.size := fun e => by have := (hlt _ e).1; omega
 have hb2 := i.b2.mods hM n2
 have hM2 : Mods (fun k => k = w.heap.size + 2) w' (w'.setCell ⟨w.heap.size + 2, 0, none⟩ (.slice a (q.length + 1) cap)) := (Mods.refl (fun k => k = w.heap.size + 2) w').setCell (p := ⟨w.heap.size + 2, 0, none⟩) (fun _ => rfl) _
 refine ⟨a, _, cap, w', happ, hb2.cell 0, hb2.frozen 0, hM, (i.bel.trans (hM.below hsz (fun k hk e => by have := (hlt k e).1; omega))).trans (hM2.below (Nat.le_trans hsz hM.size) (fun k hk e => by omega)), (i.b0.mods hM n0).mods hM2 (by omega), (i.b1.mods hM n1).mods hM2 (by omega), hb2.setCell 0 _,
  _, by simpa using own_mods hO' hM2 (fun g hg e => by have := (hO'.lt g hg).1; omega), ?_⟩
 have hold : GLe (sel (FromS (w.heap.size + 3) v) V) (sel (FromS (w.heap.size + 3) (.slice a (q.length + 1) cap)) (w'.setCell ⟨w.heap.size + 2, 0, none⟩ (.slice a (q.length + 1) cap))) :=
  (sel_mods (S' := FromS (w.heap.size + 3) (.slice a (q.length + 1) cap)) hM fun k hk hS => ⟨hS.2, hS.1, fun e => by
   rcases hv with hv | ⟨k', hk', hv⟩
   ·exact hS.2 (by rw [← hv]; exact e)
   ·rw [hv] at e
    cases e
    omega⟩).trans (sel_mods hM2 fun k hk hS => ⟨fun e => by have := hS.1; omega, hS⟩)
 have hnew : GLe (sel (fun k => B ≤ k) V) (sel (FromS (w.heap.size + 3) (.slice a (q.length + 1) cap)) (w'.setCell ⟨w.heap.size + 2, 0, none⟩ (.slice a (q.length + 1) cap))) :=
  (sel_mods (S' := FromS (w.heap.size + 3) (.slice a (q.length + 1) cap)) hM fun k hk hS => ⟨fun e => by have := hBv k e; omega, by omega, fun e => by
   rcases hv with hv | ⟨k', hk', hv⟩
   ·have := hBv k (by rw [← hv]; exact e)
    omega
   ·rw [hv] at e
    cases e
    omega⟩).trans (sel_mods hM2 fun k hk hS => ⟨fun e => by have := hS.1; omega, hS⟩)
 exact (hR.mono fun y c hc => ClsC.keep hold hc).snoc ⟨vf, vm, rfl, ints_keep hnew h1, meths_keep hnew h2⟩ rfl
theorem ClsI.fin (i : ClsI w V vp v q) : NewP w.heap.size (V.setCell ⟨w.heap.size + 1, 0, none⟩ v) v q := by
 obtain ⟨cs, hO, hR⟩ := i.row
 have hM : Mods (fun k => k = w.heap.size + 1) V (V.setCell ⟨w.heap.size + 1, 0, none⟩ v) := (Mods.refl (fun k => k = w.heap.size + 1) V).setCell (p := ⟨w.heap.size + 1, 0, none⟩) (fun _ => rfl) _
 have hO' := own_mods hO hM (fun g hg e => by have := (hO.lt g hg).1; omega)
 exact own_clsS hO' (hR.mono fun x c hc => ClsC.keep (sel_mods hM fun k _ hk => ⟨fun e => by have := hk.1; omega, by have := hk.1; omega⟩) hc) (fun g hg => by have := (hO.lt g hg).1; omega)
end
end Go.Proofs.YtiiokkllmchohaaGreat
