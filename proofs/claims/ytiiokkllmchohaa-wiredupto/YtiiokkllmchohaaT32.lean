/- The law Wired answers true. -/
import Derived.Test.YtiiokkllmchohaaRows
import Derived.ProofKit
import Derived.OpenShut
import Derived.JoinedCond
import Derived.ChangeArms
import Derived.Carry
import Derived.Test.YtiiokkllmchohaaT01
import Derived.Test.YtiiokkllmchohaaT03
import Derived.Test.YtiiokkllmchohaaT31
/- LawD -/
namespace Go.Proofs.Ytiiokkllmchohaa
open Go.RowKit
attribute [local go_sem ↓] Go.wp_at_zero Go.wp_at_succ

theorem encProg_len (p : List LClass) : (encProg p).length ≤ 10 + 10 * szProg p := by
  have h : ∀ l : List LClass, (l.flatMap encClass).length ≤ 10 * (l.map szClass).sum := fun l => by
    induction l with
    | nil => simp
    | cons x r ih =>
      rw [List.flatMap_cons, List.length_append, List.map_cons, List.sum_cons]
      have := encClass_len x
      omega
  unfold encProg szProg
  rw [List.length_append]
  have := encN_len (p.length : Int)
  have := h p
  omega
theorem encI_len (p : List LClass) (hz : szProg p ≤ 1048576) : (encodeI p).1.length ≤ 1073741824 := by
  unfold encodeI
  split
  · have := encProg_len p; simp only; omega
  · simp
theorem encI_rd (p : List LClass) (hw : wfProg p) (hz : szProg p ≤ 1048576) : (rdP (encodeI p).1).2.2 = false → szProg (rdP (encodeI p).1).1 ≤ 4194304 := by
  unfold encodeI
  split
  · rename_i hf
    intro _
    rw [rdP_form hw hf]
    show szProg p ≤ _
    omega
  · intro h
    have := rdP_sz h
    simp at this
    simp only
    omega
theorem exP_wf : wfProg exP := by
  unfold wfProg exP
  intro x hx
  obtain rfl := List.mem_singleton.1 hx
  refine ⟨by unfold I64; decide, fun y hy => ?_, fun m hm => ?_⟩
  · obtain rfl := List.mem_singleton.1 hy
    unfold I64; decide
  · simp only [List.mem_cons, List.not_mem_nil, or_false] at hm
    rcases hm with rfl | rfl
    · refine ⟨by unfold I64; decide, fun y hy => (by cases hy), by unfold I64; decide, by unfold I64; decide, by unfold I64; decide, fun i hi => ?_, fun f hf => (by cases hf)⟩
      simp only [List.mem_cons, List.not_mem_nil, or_false] at hi
      rcases hi with rfl | rfl | rfl <;> (unfold wfIns I64; decide)
    · refine ⟨by unfold I64; decide, fun y hy => ?_, by unfold I64; decide, by unfold I64; decide, by unfold I64; decide, fun i hi => ?_, fun f hf => (by cases hf)⟩
      · obtain rfl := List.mem_singleton.1 hy
        unfold I64; decide
      · simp only [List.mem_cons, List.not_mem_nil, or_false] at hi
        rcases hi with rfl | rfl | rfl | rfl | rfl | rfl <;> (unfold wfIns I64; decide)
theorem exP_dec : decP (encodeI exP).1 = exP ∧ decE (encodeI exP).1 = 0 ∧ (encodeI exP).2 = 0 := by
  have h : encodeI exP = (encProg exP, 0) := by unfold encodeI; rw [if_pos exP_form]
  have hd : decI (encProg exP) = some exP := decI_iff.2 ⟨exP_wf, exP_form, rfl⟩
  rw [h]
  unfold decP decE
  rw [hd]
  exact ⟨rfl, rfl, rfl⟩

/-- The hands as they are made. -/
abbrev hands0 : List Value := [.slice none 0 0, .slice none 0 0, .slice none 0 0, .slice none 0 0, .slice none 0 0, .slice none 0 0, .int .i64 0, .slice none 0 0, .slice none 0 0, .slice none 0 0, .slice none 0 0, .slice none 0 0, .slice none 0 0, .slice none 0 0, .slice none 0 0, .slice none 0 0, .slice none 0 0, .slice none 0 0, .slice none 0 0]
theorem hands0_nil (f : Nat) (h7 : 7 ≤ f) (h19 : f < 19) : hands0[f]? = some (.slice none 0 0) := by
  match f, h7, h19 with
  | 7, _, _ | 8, _, _ | 9, _, _ | 10, _, _ | 11, _, _ | 12, _, _ | 13, _, _ | 14, _, _ | 15, _, _ | 16, _, _ | 17, _, _ | 18, _, _ => rfl
  | n + 19, _, h => omega
theorem hands0_low (f : Nat) (h6 : f < 6) : hands0[f]? = some (.slice none 0 0) := by
  match f, h6 with
  | 0, _ | 1, _ | 2, _ | 3, _ | 4, _ | 5, _ => rfl
theorem hands0_own (f k : Nat) : ¬ OwnAt hands0 f k := by
  rintro ⟨v, hv, hk⟩
  have hf : f < 19 := (List.getElem?_eq_some_iff.1 hv).1
  rcases Nat.lt_or_ge f 6 with h | h
  · rw [hands0_low f h] at hv; cases hv; cases hk
  · rcases Nat.eq_or_lt_of_le h with h | h
    · subst h; cases hv; cases hk
    · rw [hands0_nil f h hf] at hv; cases hv; cases hk
theorem hands0_inv (w : World) : KInv (w.alloc (.cells hands0.toArray 44)) w.heap.size hands0 0 (fun _ => []) :=
  ⟨⟨Blk.new w hands0.toArray 44, rfl⟩, hands0_low, rfl, fun f h7 h19 => ⟨.slice none 0 0, hands0_nil f h7 h19, by
      have : rsOf (fun _ => []) f = [] := by unfold rsOf; split <;> rfl
      rw [this]
      exact World.ownsRow_nil _ _ _ _⟩, fun f f' k h => absurd h (hands0_own f k), fun i _ e he => (by cases he), fun i _ e he => (by cases he)⟩
end Go.Proofs.Ytiiokkllmchohaa
/- The law Wired answers true: its walk. -/
namespace Go.Proofs.Ytiiokkllmchohaa
open Go.RowKit
attribute [local go_sem ↓] Go.wp_at_zero Go.wp_at_succ

theorem cellLt_all (w : World) {n : Nat} (hn : w.heap.size ≤ n) : GLe w.cell? (cellLt n w) := fun p v h => by
  unfold cellLt
  rw [if_pos (Nat.lt_of_lt_of_le (cell_lt h) hn)]; exact h
/-- What stands between the calls of a law: the two programs as they were, the hands. -/
structure WdSt (w W : World) (bh : Nat) (vp vq : Value) (p q : List LClass) (cs : List Value) (n : Nat) (es : Nat → List Ent) : Prop where
  mods : Mods (fun _ => False) w W
  bp : Blk W w.heap.size 24 [vp]
  bq : Blk W (w.heap.size + 1) 24 [vq]
  rp : SlAt 3 (GClass (cellLt w.heap.size W)) vp p
  rq : SlAt 3 (GClass (cellLt w.heap.size W)) vq q
  new : w.heap.size + 2 ≤ bh
  inv : KInv W bh cs n es
theorem cellLt_mono {a b : Nat} (h : a ≤ b) (w : World) : GLe (cellLt a w) (cellLt b w) := fun p v e => by
  unfold cellLt at e ⊢
  split at e
  · rw [if_pos (by omega)]; exact e
  · cases e
section
variable {w W W' : World} {bh : Nat} {vp vq : Value} {p q : List LClass} {cs cs' : List Value} {n n' : Nat} {es es' : Nat → List Ent}
theorem WdSt.formed (h : WdSt w W bh vp vq p q cs n es) (hh : HBlk W' bh cs) (m : Mods (fun k => k = bh) W W') : WdSt w W' bh vp vq p q cs n es := by
  have hn := h.new
  refine ⟨h.mods.trans m (fun k hk e => by omega), h.bp.mods m (by omega), h.bq.mods m (by omega), prog_keep (cellLt_mods m (fun k hk e => by omega)) h.rp, prog_keep (cellLt_mods m (fun k hk e => by omega)) h.rq, hn, ?_⟩
  refine ⟨hh, h.inv.nil, h.inv.c6, fun f h7 h19 => ?_, h.inv.apart, fun i hi e he => (h.inv.ent i hi e he).mods m (fun g hg => (h.inv.off i hi e he g hg).1), h.inv.off⟩
  obtain ⟨v, h1, h2⟩ := h.inv.row f h7 h19
  exact ⟨v, h1, own_mods h2 m (fun g hg => by have := h2.lt g hg; omega)⟩
theorem WdSt.did (h : WdSt w W bh vp vq p q cs n es) (d : KDid W W' bh cs cs' n n' es es') : WdSt w W' bh vp vq p q cs' n' es' := by
  have hn := h.new
  have hS : ∀ k, k < bh → ¬ (k = bh ∨ ∃ f, OwnAt cs f k) := fun k hk x => by
    rcases x with x | ⟨f, x⟩
    · omega
    · have := (h.inv.own x).2.1; omega
  exact ⟨h.mods.trans d.mods (fun k hk e => hS k (by omega) e), h.bp.mods d.mods (hS _ (by omega)), h.bq.mods d.mods (hS _ (by omega)), prog_keep (cellLt_mods d.mods (fun k hk => hS k (by omega))) h.rp, prog_keep (cellLt_mods d.mods (fun k hk => hS k (by omega))) h.rq, hn, d.inv⟩
theorem WdSt.below (h : WdSt w W bh vp vq p q cs n es) (hb : Below W.heap.size W W') : WdSt w W' bh vp vq p q cs n es :=
  have m := below_none hb
  ⟨h.mods.trans m (fun _ _ f => f), h.bp.mods m (fun f => f), h.bq.mods m (fun f => f), prog_keep (cellLt_mods m (fun _ _ f => f)) h.rp, prog_keep (cellLt_mods m (fun _ _ f => f)) h.rq, h.new, h.inv.below hb⟩
end

set_option maxHeartbeats 2000000 in
set_option maxRecDepth 100000 in
theorem law_wired (p q : List LClass) (s : List UInt8) (vp vq : Value) (w : World) (hp : RProg w vp p) (hq : RProg w vq q) (hwp : wfProg p) (hwq : wfProg q) (hzp : szProg p ≤ 1048576) (hzq : szProg q ≤ 1048576) (hs : s.length ≤ 1048576) :
    Calls Try.prog 3 #[.agg #[vp], .string ⟨s.toArray⟩, .agg #[vq]] w fun e w' => e = .returned (.bool true) ∧ Below w.heap.size w w' := by
  have HP := hide (prog_keep (cellLt_all w (Nat.le_refl _)) hp)
  have HQ := hide (prog_keep (cellLt_all w (Nat.le_refl _)) hq)
  obtain ⟨pa, _, _, pcap, rfl, _⟩ := hp
  obtain ⟨qa, _, _, qcap, rfl, _⟩ := hq
  have m0 := ((Mods.refl (fun _ => False) w).alloc (.cells #[.slice pa p.length pcap] 24)).alloc (.cells #[.slice qa q.length qcap] 24)
  have b0 := (Blk.new w #[.slice pa p.length pcap] 24).alloc (.cells #[.slice qa q.length qcap] 24)
  have b1 := Blk.new (w.alloc (.cells #[.slice pa p.length pcap] 24)) #[.slice qa q.length qcap] 24
  rw [show (w.alloc (.cells #[.slice pa p.length pcap] 24)).heap.size = w.heap.size + 1 by simp] at b1
  have hsz0 : ((w.alloc (.cells #[.slice pa p.length pcap] 24)).alloc (.cells #[.slice qa q.length qcap] 24)).heap.size = w.heap.size + 2 := by simp
  have HS0 := hide hsz0
  have M0 := hide m0
  have B0 := hide b0
  have B1 := hide b1
  clear m0 b0 b1 hsz0
  obtain ⟨x1, x2, x3⟩ := exP_dec
  go_enter Try.func3, Try.ntmps3
  go_wp2_with fail
  generalize (w.alloc _).alloc _ = W0 at *
  refine Calls.mono (law_cell W0) ?_
  rintro e w1 ⟨ve, rfl, hE, hb1⟩
  have HB1 := hide hb1
  clear hb1
  go_wp2_with fail
  refine Calls.mono (code_encode exP ve w1 hE exP_wf (by decide)) ?_
  rintro e w2 ⟨rfl, hb2⟩
  rw [x3]
  have HB2 := hide ((unhide HB1).trans (hb2.mono (unhide HB1).size))
  clear hb2 hE HB1
  go_wp2_with fail
  refine Calls.mono (code_decode' _ w2) ?_
  rintro e w3 ⟨a, rfl, hO, hb3⟩
  rw [x1, x2]
  rw [x1] at hO
  have HB3 := hide ((unhide HB2).trans (hb3.mono (unhide HB2).size))
  have hR := own_cs hO
  obtain ⟨eb, eoff, rfl, ma, mcap, ee⟩ : ∃ eb eoff, a = some ⟨eb, eoff, none⟩ ∧ ∃ (ma : Option Addr) (mcap : Nat), w3.cell? ⟨eb, eoff + 2, none⟩ = some (.slice ma 2 mcap) := by
    obtain ⟨ea, eb, eoff, ecap, ee, _, eha, ehr⟩ := sl_open hR
    cases ee
    obtain ⟨_, evm, _, _, e2, _, em⟩ := ehr 0 (by decide)
    obtain ⟨ma, _, _, mcap, rfl, _⟩ := em
    exact ⟨eb, eoff, eha (by simp [exP]), ma, mcap, by simpa [exP] using e2⟩
  rw [show exP.length = 1 from rfl]
  have hlb := cell_lt ee
  have hws := unhide HS0
  have hw3 := (unhide HB3).size
  have mw3 := (unhide M0).trans (below_none (unhide HB3)) (fun _ _ f => f)
  have bp3 := (unhide B0).below (unhide HB3) (unhide B0).lt
  have bq3 := (unhide B1).below (unhide HB3) (unhide B1).lt
  have c0 : w3.cell? ⟨w.heap.size, 0, none⟩ = some (.slice pa p.length pcap) := bp3.cell 0
  have hl0 := bp3.lt
  have I0 := hands0_inv (w3.alloc (.cells #[.slice (some ⟨eb, eoff, none⟩) 1 1] 24))
  rw [show (w3.alloc (.cells #[.slice (some ⟨eb, eoff, none⟩) 1 1] 24)).heap.size = w3.heap.size + 1 by simp] at I0
  have m4 := ((Mods.refl (fun _ => False) w3).alloc (.cells #[.slice (some ⟨eb, eoff, none⟩) 1 1] 24)).alloc (.cells hands0.toArray 44)
  have mw4 := mw3.trans m4 (fun _ _ f => f)
  have S0 : Hid (WdSt w ((w3.alloc (.cells #[.slice (some ⟨eb, eoff, none⟩) 1 1] 24)).alloc (.cells hands0.toArray 44)) (w3.heap.size + 1) (.slice pa p.length pcap) (.slice qa q.length qcap) p q hands0 0 (fun _ => [])) :=
    ⟨mw4, bp3.mods m4 (fun f => f), bq3.mods m4 (fun f => f), prog_keep (cellLt_mods mw4 (fun _ _ f => f)) (unhide HP), prog_keep (cellLt_mods mw4 (fun _ _ f => f)) (unhide HQ), by omega, I0⟩
  clear hb3 hR hO HB2 hws mw3 bp3 bq3 I0 m4 mw4 HB3 HS0 M0 B0 B1 HP HQ
  go_wp2_with fail
  generalize (w3.alloc _).alloc _ = V0 at *
  generalize w3.heap.size + 1 = bh at *
  clear c0 ee hlb hl0
  have hrd : (rdP s).2.2 = false → szProg (rdP s).1 ≤ 4194304 := fun h => by have := rdP_sz h; omega
  have hen := encI_len p hzp
  have herd := encI_rd p hwp hzp
  have F := fun (W : World) (cs : List Value) (n : Nat) (es : Nat → List Ent) (h : WdSt w W bh (.slice pa p.length pcap) (.slice qa q.length qcap) p q cs n es) => law_formed p (.slice pa p.length pcap) W bh cs (prog_keep (cellLt_mono (by have := h.new; omega) W) h.rp) h.inv.hands (h.inv.nil 0 (by omega)) (h.inv.nil 1 (by omega)) (h.inv.nil 2 (by omega)) (h.inv.nil 3 (by omega)) (h.inv.nil 4 (by omega)) (h.inv.nil 5 (by omega)) hwp hzp
  have G := fun (W : World) (cs : List Value) (n : Nat) (es : Nat → List Ent) (h : WdSt w W bh (.slice pa p.length pcap) (.slice qa q.length qcap) p q cs n es) => law_formed q (.slice qa q.length qcap) W bh cs (prog_keep (cellLt_mono (by have := h.new; omega) W) h.rq) h.inv.hands (h.inv.nil 0 (by omega)) (h.inv.nil 1 (by omega)) (h.inv.nil 2 (by omega)) (h.inv.nil 3 (by omega)) (h.inv.nil 4 (by omega)) (h.inv.nil 5 (by omega)) hwq hzq
  have HF := hide F
  have HG := hide G
  clear F G
  refine Calls.mono ((unhide HF) V0 _ _ _ (unhide S0)) ?_
  rintro e V1 ⟨rfl, hh, hm⟩
  have S1 := hide ((unhide S0).formed hh hm)
  clear hh hm S0
  go_wp2_with fail
  refine Calls.mono (law_decoded s V1 bh _ _ _ (unhide S1).inv (by omega) hrd (by omega) (fun j hj => by simp)) ?_
  rintro e V2 ⟨rfl, cs2, n2, es2, d2⟩
  have S2 := hide ((unhide S1).did d2)
  have hn2 := d2.nle
  have hc2 : ∀ j, j < 6 → (es2 j).length ≤ 80004 := fun j hj => by have := d2.cnt j hj; simpa using this
  have q2 : V2.cell? ⟨w.heap.size + 1, 0, none⟩ = some (.slice qa q.length qcap) := (unhide S2).bq.cell 0
  clear d2 S1
  go_wp2_with fail
  refine Calls.mono ((unhide HG) V2 _ _ _ (unhide S2)) ?_
  rintro e V3 ⟨rfl, hh, hm⟩
  have S3 := hide ((unhide S2).formed hh hm)
  have p3 : V3.cell? ⟨w.heap.size, 0, none⟩ = some (.slice pa p.length pcap) := (unhide S3).bp.cell 0
  clear hh hm S2 q2
  go_wp2_with fail
  refine Calls.mono (ref_encode p _ V3 (prog_keep (cellLt_le _ V3) (unhide S3).rp) hwp (by omega)) ?_
  rintro e V4 ⟨rfl, hb4⟩
  have S4 := hide ((unhide S3).below hb4)
  clear hb4 S3 p3
  generalize encodeI p = en at *
  go_wp2_with fail
  refine Calls.mono (law_decoded en.1 V4 bh _ _ _ (unhide S4).inv hen herd (by omega) (fun j hj => by have := hc2 j hj; omega)) ?_
  rintro e V5 ⟨rfl, cs5, n5, es5, d5⟩
  have S5 := hide ((unhide S4).did d5)
  have hn5 := d5.nle
  have hc5 : ∀ j, j < 6 → (es5 j).length ≤ 160008 := fun j hj => by have := d5.cnt j hj; have := hc2 j hj; omega
  have p5 : V5.cell? ⟨w.heap.size, 0, none⟩ = some (.slice pa p.length pcap) := (unhide S5).bp.cell 0
  clear d5 S4
  go_wp2_with fail
  refine Calls.mono ((unhide HF) V5 _ _ _ (unhide S5)) ?_
  rintro e V6 ⟨rfl, hh, hm⟩
  have S6 := hide ((unhide S5).formed hh hm)
  clear hh hm S5 p5
  go_wp2_with fail
  refine Calls.mono (law_decoded en.1 V6 bh _ _ _ (unhide S6).inv hen herd (by omega) (fun j hj => by have := hc5 j hj; omega)) ?_
  rintro e V7 ⟨rfl, cs7, n7, es7, d7⟩
  have S7 := hide ((unhide S6).did d7)
  clear d7 S6
  go_wp2_with fail
  go_ret
  exact ⟨ret_bool (by simp), (unhide S7).mods.below (Nat.le_refl _) (fun _ _ f => f)⟩
end Go.Proofs.Ytiiokkllmchohaa
/- The arguments of a law, read as data, as plain programs. -/
namespace Go.Proofs.Ytiiokkllmchohaa
open Go.RowKit

theorem cell_spot {w : World} {a : Addr} {v : Value} (h : w.cell? a = some v) : a = ⟨a.block, a.off, none⟩ := by
  obtain ⟨b, off, sp⟩ := a
  unfold World.cell? at h
  cases sp with
  | none => rfl
  | some k =>
    simp only at h
    split at h
    · simp at h
    · cases h
theorem bulk_one {H : Type} (d : DataW H) : 1 ≤ Rows.uptoBulk d := by
  cases d with
  | lit l => cases l <;> simp [Rows.uptoBulk]
  | nil => simp [Rows.uptoBulk]
  | ptr d => simp [Rows.uptoBulk]
  | slice elems spare => simp [Rows.uptoBulk]
  | agg parts => simp [Rows.uptoBulk]
  | iface t d => simp [Rows.uptoBulk]
  | map entries => simp [Rows.uptoBulk]
  | held h => simp [Rows.uptoBulk]
theorem cells_get {w : World} {b off n : Nat} {cs : List Value} (h : w.cells? 0 ⟨b, off, none⟩ n = some cs) : cs.length = n ∧ ∀ i, i < n → w.cell? ⟨b, off + i, none⟩ = cs[i]? := by
  obtain ⟨_, h1, h2⟩ := World.cells?_some h
  refine ⟨h1, fun i hi => ?_⟩
  rw [← addr_add]
  exact h2 i hi

theorem list1 {α : Type} {l : List α} (h : l.length = 1) : ∃ a, l = [a] := by
  match l, h with
  | [a], _ => exact ⟨a, rfl⟩
theorem list3 {α : Type} {l : List α} (h : l.length = 3) : ∃ a b c, l = [a, b, c] := by
  match l, h with
  | [a, b, c], _ => exact ⟨a, b, c, rfl⟩
theorem list7 {α : Type} {l : List α} (h : l.length = 7) : ∃ a b c d e f g, l = [a, b, c, d, e, f, g] := by
  match l, h with
  | [a, b, c, d, e, f, g], _ => exact ⟨a, b, c, d, e, f, g, rfl⟩
theorem sum_const {α : Type} (k : Nat) : ∀ l : List α, (l.map fun _ => k).sum = k * l.length
  | [] => by simp
  | _ :: r => by rw [List.map_cons, List.sum_cons, sum_const k r, List.length_cons, Nat.mul_succ]; omega

section
variable {H : Type} {enc : TypeId × Value → H} {w : World}
abbrev TR (enc : TypeId × Value → H) (w : World) (fuel : Nat) (t : TypeId) (cs : List Value) (y : DataW H × List MemPlace) : Prop := DataW.trod enc Try.prog w 0 (fun _ => true) true fuel t cs = some y
theorem build_list {α : Type} {sz b : Nat} (R : α → Nat → Nat → Prop) (Wf : α → Prop) (S : α → Nat) : ∀ (es : List (DataW H × List MemPlace)) (off : Nat),
    (∀ i y, es[i]? = some y → ∃ x, R x b (off + i * sz) ∧ Wf x ∧ S x ≤ Rows.uptoBulk y.1) → ∃ l : List α, l.length = es.length ∧ (∀ j x, l[j]? = some x → R x b (off + j * sz)) ∧ (∀ x ∈ l, Wf x) ∧ (l.map S).sum ≤ Rows.uptoBulkAll (es.map (·.1))
  | [], off, _ => ⟨[], rfl, fun j x h => (by simp at h), fun x h => (by cases h), by simp [Rows.uptoBulkAll]⟩
  | y :: r, off, h => by
    obtain ⟨x, h1, h2, h3⟩ := h 0 y rfl
    obtain ⟨l, l1, l2, l3, l4⟩ := build_list R Wf S r (off + sz) (fun i z hz => by
      have := h (i + 1) z (by simpa using hz)
      rwa [Nat.succ_mul, show off + (i * sz + sz) = off + sz + i * sz by omega] at this)
    refine ⟨x :: l, by simp [l1], fun j z hz => ?_, fun z hz => ?_, ?_⟩
    · cases j with
      | zero => simp at hz; subst hz; exact h1
      | succ j =>
        have := l2 j z (by simpa using hz)
        rwa [Nat.succ_mul, show off + (j * sz + sz) = off + sz + j * sz by omega]
    · rcases List.mem_cons.1 hz with rfl | hz
      · exact h2
      · exact l3 z hz
    · simp only [List.map_cons, List.sum_cons, Rows.uptoBulkAll]
      omega
theorem open_list {α : Type} {t e : TypeId} {sz : Nat} (R : α → Nat → Nat → Prop) (Wf : α → Prop) (S : α → Nat) (ht : Try.prog.underlying t = some (.slice e)) (hc : Try.prog.cellsOf e = sz) (hpos : 0 < sz)
    (hel : ∀ n b off cs y, w.cells? 0 ⟨b, off, none⟩ sz = some cs → TR enc w n e cs y → ∃ x, R x b off ∧ Wf x ∧ S x ≤ Rows.uptoBulk y.1) {fuel : Nat} {v : Value} {y : DataW H × List MemPlace} (h : TR enc w fuel t [v] y) :
    ∃ l : List α, SlAt sz R v l ∧ (∀ x ∈ l, Wf x) ∧ (l.map S).sum + 1 ≤ Rows.uptoBulk y.1 := by
  rcases DataW.trod_slice ht h with ⟨h1, rfl⟩ | ⟨a, len, cap, elems, rest, n, _, h1, rfl, _, hlc, _, hlen, hget, _⟩
  · obtain rfl : v = .slice none 0 0 := by simpa using h1
    exact ⟨[], ⟨none, 0, 0, 0, rfl, Nat.le_refl _, ⟨fun e => absurd rfl e, .inl ⟨rfl, rfl⟩⟩, fun j x hj => by simp at hj⟩, fun x hx => (by cases hx), by simp [Rows.uptoBulk]⟩
  · obtain rfl : v = .slice (some a) len cap := by simpa using h1
    rw [hc] at hget
    rcases Nat.eq_zero_or_pos len with h0 | h0
    · subst h0
      refine ⟨[], ⟨some a, 0, 0, cap, rfl, Nat.zero_le _, ⟨fun e => absurd rfl e, .inr (.inr ⟨rfl, fun e => by cases e⟩)⟩, fun j x hj => by simp at hj⟩, fun x hx => (by cases hx), by simp only [List.map_nil, List.sum_nil]; exact bulk_one _⟩
    · have ha : a = ⟨a.block, a.off, none⟩ := by
        have := hget 0 h0
        rw [Nat.zero_mul] at this
        cases hcs : w.cells? 0 (a.add 0) sz with
        | none =>
          rw [hcs, List.getElem?_eq_getElem (by omega)] at this
          cases this
        | some cs =>
          obtain ⟨_, e1, e2⟩ := World.cells?_some hcs
          have e3 := e2 0 hpos
          rw [show (a.add 0).add 0 = a by simp [Addr.add]] at e3
          exact cell_spot (e3.trans (List.getElem?_eq_getElem (by omega)))
      obtain ⟨b, off, sp⟩ := a
      simp only [Addr.mk.injEq, true_and] at ha
      subst ha
      obtain ⟨l, l1, l2, l3, l4⟩ := build_list (b := b) (sz := sz) R Wf S elems off (fun i z hz => by
        have hi : i < len := by have := (List.getElem?_eq_some_iff.1 hz).1; omega
        have hg := hget i hi
        rw [hz, addr_add] at hg
        cases hcs : w.cells? 0 ⟨b, off + i * sz, none⟩ sz with
        | none => rw [hcs] at hg; cases hg
        | some cs =>
          rw [hcs] at hg
          exact hel n b (off + i * sz) cs z hcs hg)
      have hll : l.length = len := by omega
      refine ⟨l, ⟨some ⟨b, off, none⟩, b, off, cap, by rw [hll], by omega, ⟨fun _ => rfl, .inr (.inl rfl)⟩, l2⟩, l3, ?_⟩
      simp only [Rows.uptoBulk]
      omega
theorem cells_t : Try.prog.cellsOf 3 = 1 ∧ Try.prog.cellsOf 52 = 1 ∧ Try.prog.cellsOf 31 = 1 ∧ Try.prog.cellsOf 55 = 1 ∧ Try.prog.cellsOf 56 = 1 ∧ Try.prog.cellsOf 32 = 1 ∧ Try.prog.cellsOf 22 = 1 :=
  ⟨by kernel_rfl, by kernel_rfl, by kernel_rfl, by kernel_rfl, by kernel_rfl, by kernel_rfl, by kernel_rfl⟩
theorem cells_s : Try.prog.cellsOf 54 = 3 ∧ Try.prog.cellsOf 103 = 3 ∧ Try.prog.cellsOf 58 = 7 ∧ Try.prog.cellsOf 34 = 3 ∧ Try.prog.cellsOf 24 = 1 :=
  ⟨by kernel_rfl, by kernel_rfl, by kernel_rfl, by kernel_rfl, by kernel_rfl⟩
theorem wf_i64 {n : Int} (h : (Lit.int .i64 n).wf = true) : I64 n := by
  have : -9223372036854775808 ≤ n ∧ n ≤ 9223372036854775807 := by simpa [Lit.wf, IntKind.min, IntKind.max, IntKind.signed, IntKind.bits] using h
  exact this
theorem open_num {t : TypeId} (ht : Try.prog.underlying t = some (.int .i64)) {fuel : Nat} {c : Value} {y : DataW H × List MemPlace} (h : TR enc w fuel t [c] y) : ∃ n, c = .int .i64 n ∧ I64 n ∧ Rows.uptoBulk y.1 = 1 := by
  obtain ⟨n, h1, rfl, h3⟩ := DataW.trod_int ht h
  exact ⟨n, by simpa using h1, wf_i64 h3, by simp [Rows.uptoBulk]⟩
theorem open_nums {fuel : Nat} {v : Value} {y : DataW H × List MemPlace} (h : TR enc w fuel 31 [v] y) : ∃ l, SlAt 1 (RInt w) v l ∧ (∀ x ∈ l, I64 x) ∧ l.length + 1 ≤ Rows.uptoBulk y.1 := by
  obtain ⟨l, h1, h2, h3⟩ := open_list (enc := enc) (w := w) (RInt w) I64 (fun _ => 1) Try.underlying31 cells_t.2.1 (by decide) (fun n b off cs y hc hy => by
    obtain ⟨c1, c2⟩ := cells_get hc
    obtain ⟨x, e1, e2, e3⟩ := DataW.trod_int Try.underlying52 hy
    subst e1
    refine ⟨x, ?_, wf_i64 e3, by rw [e2]; simp [Rows.uptoBulk]⟩
    have := c2 0 (by omega)
    simpa [GInt] using this) h
  exact ⟨l, h1, h2, by rw [sum_const] at h3; omega⟩
set_option maxRecDepth 100000 in
theorem open_ins {n b off : Nat} {cs : List Value} {y : DataW H × List MemPlace} (hc : w.cells? 0 ⟨b, off, none⟩ 3 = some cs) (h : TR enc w n 54 cs y) : ∃ x, RIns w x b off ∧ wfIns x ∧ 4 ≤ Rows.uptoBulk y.1 := by
  obtain ⟨c1, c2⟩ := cells_get hc
  obtain ⟨xs, m, _, rfl, _, hl, hx⟩ := DataW.trod_struct Try.underlying54 h
  obtain ⟨a0, a1, a2, rfl⟩ := list3 c1
  obtain ⟨y0, y1, y2, rfl⟩ := list3 hl
  have f0 := hx 0 _ rfl
  have f1 := hx 1 _ rfl
  have f2 := hx 2 _ rfl
  simp only [List.getElem?_cons_zero, List.getElem?_cons_succ] at f0 f1 f2
  obtain ⟨n0, rfl, w0, b0⟩ := open_num Try.underlying3 f0
  obtain ⟨n1, rfl, w1, b1⟩ := open_num Try.underlying3 f1
  obtain ⟨n2, rfl, w2, b2⟩ := open_num Try.underlying3 f2
  exact ⟨⟨n0, n1, n2⟩, ⟨c2 0 (by omega), c2 1 (by omega), c2 2 (by omega)⟩, ⟨w0, w1, w2⟩, by simp only [List.map_cons, List.map_nil, Rows.uptoBulk, Rows.uptoBulkAll]; omega⟩
theorem open_code {fuel : Nat} {v : Value} {y : DataW H × List MemPlace} (h : TR enc w fuel 55 [v] y) : ∃ l, SlAt 3 (RIns w) v l ∧ (∀ x ∈ l, wfIns x) ∧ 4 * l.length + 1 ≤ Rows.uptoBulk y.1 := by
  obtain ⟨l, h1, h2, h3⟩ := open_list (enc := enc) (w := w) (RIns w) wfIns (fun _ => 4) Try.underlying55 cells_s.1 (by decide) (fun n b off cs y hc hy => open_ins hc hy) h
  refine ⟨l, h1, h2, ?_⟩
  rw [sum_const] at h3
  omega
set_option maxRecDepth 100000 in
theorem open_frame {n b off : Nat} {cs : List Value} {y : DataW H × List MemPlace} (hc : w.cells? 0 ⟨b, off, none⟩ 3 = some cs) (h : TR enc w n 103 cs y) : ∃ x, RFrame w x b off ∧ wfFrame x ∧ szFrame x ≤ Rows.uptoBulk y.1 := by
  obtain ⟨c1, c2⟩ := cells_get hc
  obtain ⟨xs, m, _, rfl, _, hl, hx⟩ := DataW.trod_struct Try.underlying103 h
  obtain ⟨a0, a1, a2, rfl⟩ := list3 c1
  obtain ⟨y0, y1, y2, rfl⟩ := list3 hl
  have f0 := hx 0 _ rfl
  have f1 := hx 1 _ rfl
  have f2 := hx 2 _ rfl
  simp only [List.getElem?_cons_zero, List.getElem?_cons_succ] at f0 f1 f2
  obtain ⟨n0, rfl, w0, b0⟩ := open_num Try.underlying3 f0
  obtain ⟨l1, s1, w1, b1⟩ := open_nums f1
  obtain ⟨l2, s2, w2, b2⟩ := open_nums f2
  refine ⟨⟨n0, l1, l2⟩, ⟨a1, a2, c2 0 (by omega), c2 1 (by omega), c2 2 (by omega), s1, s2⟩, ⟨w0, w1, w2⟩, ?_⟩
  unfold szFrame
  simp only [List.map_cons, List.map_nil, Rows.uptoBulk, Rows.uptoBulkAll]
  omega
theorem open_frames {fuel : Nat} {v : Value} {y : DataW H × List MemPlace} (h : TR enc w fuel 56 [v] y) : ∃ l, SlAt 3 (RFrame w) v l ∧ (∀ x ∈ l, wfFrame x) ∧ (l.map szFrame).sum + 1 ≤ Rows.uptoBulk y.1 :=
  open_list (enc := enc) (w := w) (RFrame w) wfFrame szFrame Try.underlying56 cells_s.2.1 (by decide) (fun n b off cs y hc hy => open_frame hc hy) h
set_option maxRecDepth 100000 in
theorem open_meth {n b off : Nat} {cs : List Value} {y : DataW H × List MemPlace} (hc : w.cells? 0 ⟨b, off, none⟩ 7 = some cs) (h : TR enc w n 58 cs y) : ∃ x, RMeth w x b off ∧ wfMeth x ∧ szMeth x ≤ Rows.uptoBulk y.1 := by
  obtain ⟨c1, c2⟩ := cells_get hc
  obtain ⟨xs, m, _, rfl, _, hl, hx⟩ := DataW.trod_struct Try.underlying58 h
  obtain ⟨a0, a1, a2, a3, a4, a5, a6, rfl⟩ := list7 c1
  obtain ⟨y0, y1, y2, y3, y4, y5, y6, rfl⟩ := list7 hl
  have f0 := hx 0 _ rfl
  have f1 := hx 1 _ rfl
  have f2 := hx 2 _ rfl
  have f3 := hx 3 _ rfl
  have f4 := hx 4 _ rfl
  have f5 := hx 5 _ rfl
  have f6 := hx 6 _ rfl
  simp only [List.getElem?_cons_zero, List.getElem?_cons_succ] at f0 f1 f2 f3 f4 f5 f6
  obtain ⟨n0, rfl, w0, b0⟩ := open_num Try.underlying3 f0
  obtain ⟨l1, s1, w1, b1⟩ := open_nums f1
  obtain ⟨n2, rfl, w2, b2⟩ := open_num Try.underlying52 f2
  obtain ⟨n3, rfl, w3, b3⟩ := open_num Try.underlying3 f3
  obtain ⟨n4, rfl, w4, b4⟩ := open_num Try.underlying3 f4
  obtain ⟨l5, s5, w5, b5⟩ := open_code f5
  obtain ⟨l6, s6, w6, b6⟩ := open_frames f6
  refine ⟨⟨n0, l1, n2, n3, n4, l5, l6⟩, ⟨a1, a5, a6, ⟨s1, s5, s6⟩, c2 0 (by omega), c2 1 (by omega), c2 2 (by omega), c2 3 (by omega), c2 4 (by omega), c2 5 (by omega), c2 6 (by omega)⟩, ⟨w0, w1, w2, w3, w4, w5, w6⟩, ?_⟩
  unfold szMeth
  simp only [List.map_cons, List.map_nil, Rows.uptoBulk, Rows.uptoBulkAll]
  omega
theorem open_meths {fuel : Nat} {v : Value} {y : DataW H × List MemPlace} (h : TR enc w fuel 32 [v] y) : ∃ l, SlAt 7 (RMeth w) v l ∧ (∀ x ∈ l, wfMeth x) ∧ (l.map szMeth).sum + 1 ≤ Rows.uptoBulk y.1 :=
  open_list (enc := enc) (w := w) (RMeth w) wfMeth szMeth Try.underlying32 cells_s.2.2.1 (by decide) (fun n b off cs y hc hy => open_meth hc hy) h
set_option maxRecDepth 100000 in
theorem open_class {n b off : Nat} {cs : List Value} {y : DataW H × List MemPlace} (hc : w.cells? 0 ⟨b, off, none⟩ 3 = some cs) (h : TR enc w n 34 cs y) : ∃ x, RClass w x b off ∧ wfClass x ∧ szClass x ≤ Rows.uptoBulk y.1 := by
  obtain ⟨c1, c2⟩ := cells_get hc
  obtain ⟨xs, m, _, rfl, _, hl, hx⟩ := DataW.trod_struct Try.underlying34 h
  obtain ⟨a0, a1, a2, rfl⟩ := list3 c1
  obtain ⟨y0, y1, y2, rfl⟩ := list3 hl
  have f0 := hx 0 _ rfl
  have f1 := hx 1 _ rfl
  have f2 := hx 2 _ rfl
  simp only [List.getElem?_cons_zero, List.getElem?_cons_succ] at f0 f1 f2
  obtain ⟨n0, rfl, w0, b0⟩ := open_num Try.underlying3 f0
  obtain ⟨l1, s1, w1, b1⟩ := open_nums f1
  obtain ⟨l2, s2, w2, b2⟩ := open_meths f2
  refine ⟨⟨n0, l1, l2⟩, ⟨a1, a2, c2 0 (by omega), c2 1 (by omega), c2 2 (by omega), s1, s2⟩, ⟨w0, w1, w2⟩, ?_⟩
  unfold szClass
  simp only [List.map_cons, List.map_nil, Rows.uptoBulk, Rows.uptoBulkAll]
  omega
set_option maxRecDepth 100000 in
/-- A program that came in. -/
theorem open_prog {v : Value} {d : DataW H} {ps : List MemPlace} {base : Nat} (hv : Value.okWide Try.prog w .any base 24 v) (h : DataW.Trod enc Try.prog w 0 (fun _ => true) true 24 v d ps) :
    ∃ vp p, v = .agg #[vp] ∧ RProg w vp p ∧ wfProg p ∧ szProg p + 2 ≤ Rows.uptoBulk d := by
  unfold Value.okWide at hv
  rw [Try.underlying24] at hv
  obtain ⟨cs, rfl, hsz, _⟩ := hv
  rw [cells_s.2.2.2.2] at hsz
  obtain ⟨fuel, h⟩ := h
  obtain ⟨xs, m, _, hy, _, hl, hx⟩ := DataW.trod_struct Try.underlying24 h
  obtain ⟨vp, rfl⟩ : ∃ vp, cs = #[vp] := by
    match cs, hsz with
    | ⟨[a]⟩, _ => exact ⟨a, rfl⟩
  obtain ⟨y0, rfl⟩ := list1 hl
  have f0 := hx 0 _ rfl
  simp only [List.getElem?_cons_zero] at f0
  obtain ⟨l, s1, w1, b1⟩ := open_list (enc := enc) (w := w) (RClass w) wfClass szClass Try.underlying22 cells_s.2.2.2.1 (by decide) (fun n b off cs y hc hy => open_class hc hy) f0
  refine ⟨vp, l, rfl, s1, w1, ?_⟩
  have e := congrArg Prod.fst hy
  simp only at e
  rw [e]
  unfold szProg
  simp only [List.map_cons, List.map_nil, Rows.uptoBulk, Rows.uptoBulkAll]
  omega
end
end Go.Proofs.Ytiiokkllmchohaa
