/- What lies in memory of its own: lists that the reader makes; counts, types. -/
import Derived.Test.YtiiokkllmchohaaGreatT10
/- ParseC -/
namespace Go.Proofs.YtiiokkllmchohaaGreat
open Go.RowKit
attribute [local go_sem ↓] Go.wp_at_zero Go.wp_at_succ

abbrev OwnE (α : Type) := World → Nat → Nat → List Value → α → Prop
def OwnL {α : Type} (sz : Nat) (R : OwnE α) (w : World) : Nat → Nat → List Value → List α → Prop
  | lo, hi, cells, [] => cells = [] ∧ lo ≤ hi
  | lo, hi, cells, x :: r => ∃ c1 c2 mid, cells = c1 ++ c2 ∧ c1.length = sz ∧ R w lo mid c1 x ∧ OwnL sz R w mid hi c2 r
def OwnSl {α : Type} (t : TypeId) (sz : Nat) (R : OwnE α) (w : World) (lo hi : Nat) (v : Value) (l : List α) : Prop :=
  (l = [] ∧ v = .slice none 0 0 ∧ lo ≤ hi) ∨ (l ≠ [] ∧ ∃ g cells, lo ≤ g ∧ v = .slice (some ⟨g, 0, none⟩) l.length l.length ∧ Blk w g t cells ∧ OwnL sz R w (g + 1) hi cells l)
structure OwnOk {α : Type} (R : OwnE α) : Prop where
  le : ∀ {w lo hi c x}, R w lo hi c x → lo ≤ hi
  stay : ∀ {w w' lo hi c x}, (∀ k, lo ≤ k → k < hi → w'.heap[k]? = w.heap[k]?) → R w lo hi c x → R w' lo hi c x
  wide : ∀ {w lo hi lo' hi' c x}, lo' ≤ lo → hi ≤ hi' → R w lo hi c x → R w lo' hi' c x
section
variable {α : Type} {sz : Nat} {R : OwnE α} {t : TypeId}
theorem OwnL.le (ok : OwnOk R) {w : World} : ∀ {l : List α} {lo hi : Nat} {cells : List Value}, OwnL sz R w lo hi cells l → lo ≤ hi
  | [], _, _, _, h => h.2
  | _ :: _, _, _, _, ⟨_, _, _, _, _, h1, h2⟩ => Nat.le_trans (ok.le h1) (OwnL.le ok h2)
theorem OwnL.stay (ok : OwnOk R) {w w' : World} : ∀ {l : List α} {lo hi : Nat} {cells : List Value}, (∀ k, lo ≤ k → k < hi → w'.heap[k]? = w.heap[k]?) → OwnL sz R w lo hi cells l → OwnL sz R w' lo hi cells l
  | [], _, _, _, _, h => h
  | _ :: _, _, _, _, hk, ⟨c1, c2, mid, e, hl, h1, h2⟩ => ⟨c1, c2, mid, e, hl, ok.stay (fun k h h' => hk k h (Nat.lt_of_lt_of_le h' (OwnL.le ok h2))) h1, OwnL.stay ok (fun k h h' => hk k (Nat.le_trans (ok.le h1) h) h') h2⟩
theorem OwnL.wide (ok : OwnOk R) {w : World} : ∀ {l : List α} {lo hi lo' hi' : Nat} {cells : List Value}, lo' ≤ lo → hi ≤ hi' → OwnL sz R w lo hi cells l → OwnL sz R w lo' hi' cells l
  | [], _, _, _, _, _, h1, h2, h => ⟨h.1, by have := h.2; omega⟩
  | _ :: _, _, _, _, _, _, h1, h2, ⟨c1, c2, mid, e, hl, g1, g2⟩ => ⟨c1, c2, mid, e, hl, ok.wide h1 (Nat.le_refl _) g1, OwnL.wide ok (Nat.le_refl _) h2 g2⟩
theorem OwnL.snoc (ok : OwnOk R) {w : World} {x : α} {c : List Value} {mid hi : Nat} (hc : c.length = sz) (hx : R w mid hi c x) : ∀ {l : List α} {lo : Nat} {cells : List Value}, OwnL sz R w lo mid cells l → OwnL sz R w lo hi (cells ++ c) (l ++ [x])
  | [], _, _, h => ⟨c, [], hi, by rw [h.1]; simp, hc, ok.wide h.2 (Nat.le_refl _) hx, rfl, Nat.le_refl _⟩
  | _ :: _, _, _, ⟨c1, c2, m, e, hl, h1, h2⟩ => ⟨c1, c2 ++ c, m, by rw [e, List.append_assoc], hl, h1, OwnL.snoc ok hc hx h2⟩
theorem OwnSl.le (ok : OwnOk R) {w : World} {lo hi : Nat} {v : Value} {l : List α} (h : OwnSl t sz R w lo hi v l) : lo ≤ hi := by
  rcases h with ⟨_, _, h⟩ | ⟨_, g, cells, h1, _, _, h2⟩
  · exact h
  · have := OwnL.le ok h2; omega
theorem OwnSl.stay (ok : OwnOk R) {w w' : World} {lo hi : Nat} {v : Value} {l : List α} (hk : ∀ k, lo ≤ k → k < hi → w'.heap[k]? = w.heap[k]?) (h : OwnSl t sz R w lo hi v l) : OwnSl t sz R w' lo hi v l := by
  rcases h with h | ⟨hn, g, cells, h1, e, hb, h2⟩
  · exact .inl h
  · have := OwnL.le ok h2
    exact .inr ⟨hn, g, cells, h1, e, (hk g h1 (by omega)).trans hb, OwnL.stay ok (fun k h h' => hk k (by omega) h') h2⟩
theorem OwnSl.wide (ok : OwnOk R) {w : World} {lo hi lo' hi' : Nat} {v : Value} {l : List α} (h1 : lo' ≤ lo) (h2 : hi ≤ hi') (h : OwnSl t sz R w lo hi v l) : OwnSl t sz R w lo' hi' v l := by
  rcases h with ⟨a, b, c⟩ | ⟨hn, g, cells, g1, e, hb, g2⟩
  · exact .inl ⟨a, b, by omega⟩
  · exact .inr ⟨hn, g, cells, by omega, e, hb, OwnL.wide ok (Nat.le_refl _) h2 g2⟩
theorem OwnSl.form {w : World} {lo hi : Nat} {v : Value} {l : List α} (h : OwnSl t sz R w lo hi v l) : ∃ a, v = .slice a l.length l.length := by
  rcases h with ⟨rfl, rfl, _⟩ | ⟨_, g, _, _, rfl, _⟩
  · exact ⟨none, rfl⟩
  · exact ⟨_, rfl⟩
end
def EInt : OwnE Int := fun _ lo hi c x => c = [.int .i64 x] ∧ lo ≤ hi
def EIns : OwnE LIns := fun _ lo hi c i => c = [.int .i64 i.op, .int .i64 i.a, .int .i64 i.b] ∧ lo ≤ hi
abbrev OwnTs := OwnSl 43 1 EInt
abbrev OwnIs := OwnSl 60 3 EIns
def EFr : OwnE LFrame := fun w lo hi c f => ∃ vl vs mid, c = [.int .i64 f.pc, vl, vs] ∧ OwnTs w lo mid vl f.locals ∧ OwnTs w mid hi vs f.stack
abbrev OwnFs := OwnSl 42 3 EFr
def EMe : OwnE LMeth := fun w lo hi c m => ∃ va vc vf m1 m2, c = [.int .i64 m.slot, va, .int .i64 m.ret, .int .i64 m.locals, .int .i64 m.stack, vc, vf] ∧ OwnTs w lo m1 va m.args ∧ OwnIs w m1 m2 vc m.code ∧ OwnFs w m2 hi vf m.frames
abbrev OwnMs := OwnSl 63 7 EMe
def ECl : OwnE LClass := fun w lo hi c x => ∃ vf vm mid, c = [.int .i64 x.sup, vf, vm] ∧ OwnTs w lo mid vf x.fields ∧ OwnMs w mid hi vm x.meths
abbrev OwnCs := OwnSl 66 3 ECl
theorem okInt : OwnOk EInt := ⟨fun h => h.2, fun _ h => h, fun h1 h2 h => ⟨h.1, by have := h.2; omega⟩⟩
theorem okIns : OwnOk EIns := ⟨fun h => h.2, fun _ h => h, fun h1 h2 h => ⟨h.1, by have := h.2; omega⟩⟩
theorem okFr : OwnOk EFr := by
  refine ⟨?_, ?_, ?_⟩
  · rintro w lo hi c x ⟨vl, vs, mid, e, h1, h2⟩
    exact Nat.le_trans (h1.le okInt) (h2.le okInt)
  · rintro w w' lo hi c x hk ⟨vl, vs, mid, e, h1, h2⟩
    have a := h1.le okInt
    have b := h2.le okInt
    exact ⟨vl, vs, mid, e, h1.stay okInt (fun k p q => hk k p (by omega)), h2.stay okInt (fun k p q => hk k (by omega) q)⟩
  · rintro w lo hi lo' hi' c x a b ⟨vl, vs, mid, e, h1, h2⟩
    exact ⟨vl, vs, mid, e, h1.wide okInt a (Nat.le_refl _), h2.wide okInt (Nat.le_refl _) b⟩
theorem okMe : OwnOk EMe := by
  refine ⟨?_, ?_, ?_⟩
  · rintro w lo hi c x ⟨va, vc, vf, m1, m2, e, h1, h2, h3⟩
    exact Nat.le_trans (h1.le okInt) (Nat.le_trans (h2.le okIns) (h3.le okFr))
  · rintro w w' lo hi c x hk ⟨va, vc, vf, m1, m2, e, h1, h2, h3⟩
    have a := h1.le okInt
    have b := h2.le okIns
    have d := h3.le okFr
    exact ⟨va, vc, vf, m1, m2, e, h1.stay okInt (fun k p q => hk k p (by omega)), h2.stay okIns (fun k p q => hk k (by omega) (by omega)), h3.stay okFr (fun k p q => hk k (by omega) q)⟩
  · rintro w lo hi lo' hi' c x a b ⟨va, vc, vf, m1, m2, e, h1, h2, h3⟩
    exact ⟨va, vc, vf, m1, m2, e, h1.wide okInt a (Nat.le_refl _), h2, h3.wide okFr (Nat.le_refl _) b⟩
theorem okCl : OwnOk ECl := by
  refine ⟨?_, ?_, ?_⟩
  · rintro w lo hi c x ⟨vl, vs, mid, e, h1, h2⟩
    exact Nat.le_trans (h1.le okInt) (h2.le okMe)
  · rintro w w' lo hi c x hk ⟨vl, vs, mid, e, h1, h2⟩
    have a := h1.le okInt
    have b := h2.le okMe
    exact ⟨vl, vs, mid, e, h1.stay okInt (fun k p q => hk k p (by omega)), h2.stay okMe (fun k p q => hk k (by omega) q)⟩
  · rintro w lo hi lo' hi' c x a b ⟨vl, vs, mid, e, h1, h2⟩
    exact ⟨vl, vs, mid, e, h1.wide okInt a (Nat.le_refl _), h2.wide okMe (Nat.le_refl _) b⟩
theorem take_set1 {cs : List Value} {i : Nat} (h : i < cs.length) (a : Value) : (cs.set i a).take (i + 1) = cs.take i ++ [a] := by
  rw [List.take_add_one, List.take_set_of_le (Nat.le_refl _), List.getElem?_set_self h]; rfl

set_option maxHeartbeats 400000 in
theorem rd_count (most : Nat) (s : List UInt8) (w : World) (br : Nat) (h : CRd w br s) : Calls Tryz.prog 74 #[.pointer (some ⟨br, 0, none⟩), .int .i64 (most : Int)] w fun e w' =>
    (∀ n r, pC most s = some (n, r) → e = .returned (.int .i64 (n : Int)) ∧ CRd w' br r) ∧ (pC most s = none → e = .panicked (refC 1)) ∧ Mods (fun k => k = br) w w' := by
  go_enter Tryz.func74, Tryz.ntmps74
  go_wp2_with fail
  refine Calls.mono (rd_number s _ br h) ?_
  rintro e w1 ⟨h1, h2, hm⟩
  cases hp : pN s with
  | none =>
    obtain rfl := h2 hp
    have HN : Hid (pC most s = none) := by show _ = _; unfold pC; rw [hp]; rfl
    go_wp2_with fail
    refine ⟨rfl, ?_, fun _ => rfl, hm⟩
    intro n r e
    rw [unhide HN] at e; cases e
  | some x =>
    obtain ⟨n, r⟩ := x
    obtain ⟨rfl, hR⟩ := h1 n r hp
    have HP := hide hp
    have HR := hide hR
    clear h1 h2 hp hR
    by_cases hc : n < 0 ∨ (most : Int) < n
    · have HN : Hid (pC most s = none) := by show _ = _; unfold pC; rw [unhide HP, Option.bind_some, if_pos hc]
      by_cases h0 : n < 0
      · go_wp2_with (go_at_call 76; refine (wire_giveUp _).mono ?_; rintro e w' ⟨rfl, rfl⟩)
        refine ⟨rfl, ?_, fun _ => rfl, hm⟩
        intro n r e
        rw [unhide HN] at e; cases e
      · have h3 : (most : Int) < n := by omega
        clear hc
        go_wp2_with (go_at_call 76; refine (wire_giveUp _).mono ?_; rintro e w' ⟨rfl, rfl⟩)
        refine ⟨rfl, ?_, fun _ => rfl, hm⟩
        intro n r e
        rw [unhide HN] at e; cases e
    · have HN : Hid (pC most s = some (n.toNat, r)) := by show _ = _; unfold pC; rw [unhide HP, Option.bind_some, if_neg hc]
      have h0 : ¬ n < 0 := by omega
      have h3 : ¬ (most : Int) < n := by omega
      have HZ := hide (Int.toNat_of_nonneg (Int.not_lt.1 h0))
      clear hc
      go_wp2_with fail
      go_ret
      refine ⟨?_, ?_, hm⟩
      · intro n' r' e
        rw [unhide HN] at e
        simp only [Option.some.injEq, Prod.mk.injEq] at e
        obtain ⟨rfl, rfl⟩ := e
        exact ⟨ret_int (unhide HZ).symm, unhide HR⟩
      · intro e
        rw [unhide HN] at e; cases e

set_option maxHeartbeats 400000 in
theorem rd_kind (s : List UInt8) (w : World) (br : Nat) (h : CRd w br s) : Calls Tryz.prog 137 #[.pointer (some ⟨br, 0, none⟩)] w fun e w' =>
    (∀ n r, pN s = some (n, r) → e = .returned (.int .i64 n) ∧ CRd w' br r) ∧ (pN s = none → e = .panicked (refC 1)) ∧ Mods (fun k => k = br) w w' := by
  go_enter Tryz.func137, Tryz.ntmps137
  go_wp2_with fail
  refine Calls.mono (rd_number s _ br h) ?_
  rintro e w1 ⟨h1, h2, hm⟩
  cases hp : pN s with
  | none =>
    obtain rfl := h2 hp
    have HP := hide hp
    clear hp
    go_wp2_with fail
    refine ⟨rfl, ?_, fun _ => rfl, hm⟩
    intro n r e
    rw [unhide HP] at e; cases e
  | some x =>
    obtain ⟨n, r⟩ := x
    obtain ⟨rfl, hR⟩ := h1 n r hp
    have HR := hide hR
    have HP := hide hp
    clear h1 h2 hp hR
    go_wp2_with fail
    go_ret
    refine ⟨?_, ?_, hm⟩
    · intro n' r' e
      rw [unhide HP] at e
      simp only [Option.some.injEq, Prod.mk.injEq] at e
      obtain ⟨rfl, rfl⟩ := e
      exact ⟨rfl, unhide HR⟩
    · intro e
      rw [unhide HP] at e; cases e
end Go.Proofs.YtiiokkllmchohaaGreat
/- The code's reader: lists, on the way; lists of types. -/
namespace Go.Proofs.YtiiokkllmchohaaGreat
open Go.RowKit
attribute [local go_sem ↓] Go.wp_at_zero Go.wp_at_succ

theorem pL_succ {α : Type} (p : List UInt8 → Option (α × List UInt8)) (n : Nat) (s : List UInt8) : pL p (n + 1) s = (p s).bind fun x => (pL p n x.2).map fun y => (x.1 :: y.1, y.2) := rfl
structure RdL {α : Type} (sz : Nat) (R : OwnE α) (p : List UInt8 → Option (α × List UInt8)) (ty : TypeId) (n : Nat) (s : List UInt8) (br g : Nat) (w wr : World) (k : Nat) (t : List UInt8) (cs : List Value) (done : List α) : Prop where
  blk : Blk wr g ty cs
  len : cs.length = n * sz
  own : ∃ hi, hi ≤ wr.heap.size ∧ OwnL sz R wr (g + 1) hi (cs.take (k * sz)) done
  dlen : done.length = k
  rd : CRd wr br t
  mods : Mods (fun i => i = br) w wr
  eq : pL p n s = (pL p (n - k) t).map (fun y => (done ++ y.1, y.2))
  new : w.heap.size ≤ g
  old : br < w.heap.size
section
variable {α : Type} {sz : Nat} {R : OwnE α} {p : List UInt8 → Option (α × List UInt8)} {ty : TypeId} {n : Nat} {s : List UInt8} {br g : Nat} {w wr : World} {k : Nat} {t : List UInt8} {cs : List Value} {done : List α}
theorem RdL.none (h : RdL sz R p ty n s br g w wr k t cs done) (hk : k < n) (hp : p t = none) : pL p n s = Option.none := by
  rw [h.eq, (by omega : n - k = (n - k - 1) + 1), pL_succ, hp]; rfl
theorem RdL.step (ok : OwnOk R) (h : RdL sz R p ty n s br g w wr k t cs done) (hk : k < n) {x : α} {t2 : List UInt8} (hp : p t = some (x, t2)) {w1 : World} (hr : CRd w1 br t2) {c : List Value} (hc : c.length = sz) (hx : R w1 wr.heap.size w1.heap.size c x) (hm : Mods (fun i => i = br) wr w1)
    {X : World} {cs' : List Value} (hX : Blk X g ty cs') (hl : cs'.length = cs.length) (ht : cs'.take ((k + 1) * sz) = cs.take (k * sz) ++ c) (hmX : Mods (fun i => i = g) w1 X) (hs : X.heap.size = w1.heap.size) : RdL sz R p ty n s br g w X (k + 1) t2 cs' (done ++ [x]) := by
  have hg := h.blk.lt
  have hnew := h.new
  have hold := h.old
  have hsz := hm.size
  obtain ⟨hi, hhi, ho⟩ := h.own
  have same1 : ∀ i, g + 1 ≤ i → i < hi → X.heap[i]? = wr.heap[i]? := fun i h1 h2 => (hmX.block i (by omega) (by omega)).trans (hm.block i (by omega) (by omega))
  have same2 : ∀ i, wr.heap.size ≤ i → i < w1.heap.size → X.heap[i]? = w1.heap[i]? := fun i h1 h2 => hmX.block i h2 (by omega)
  have o1 := OwnL.wide ok (Nat.le_refl _) hhi (OwnL.stay ok same1 ho)
  have o2 := ok.stay same2 hx
  refine ⟨hX, hl.trans h.len, ⟨w1.heap.size, by omega, ?_⟩, by simp [h.dlen], ?_, ?_, ?_, hnew, hold⟩
  · rw [ht]; exact OwnL.snoc ok hc o2 o1
  · exact Blk.mods hr hmX (by omega)
  · exact (h.mods.trans hm (fun _ _ e => e)).trans hmX (fun i hi e => by omega)
  · rw [h.eq, (by omega : n - k = (n - (k + 1)) + 1), pL_succ, hp, Option.bind_some, Option.map_map]
    congr 1
    funext y
    simp
theorem RdL.full (ok : OwnOk R) (h : RdL sz R p ty n s br g w wr n t cs done) (hn : n ≠ 0) : pL p n s = some (done, t) ∧ OwnSl ty sz R wr w.heap.size wr.heap.size (.slice (some ⟨g, 0, Option.none⟩) n n) done := by
  obtain ⟨hi, hhi, ho⟩ := h.own
  have hd := h.dlen
  have hne : done ≠ [] := fun e => by rw [e] at hd; exact hn hd.symm
  rw [List.take_of_length_le (by rw [h.len]; exact Nat.le_refl _)] at ho
  refine ⟨by rw [h.eq, Nat.sub_self]; simp [pL], .inr ⟨hne, g, cs, h.new, by rw [hd], h.blk, OwnL.wide ok (Nat.le_refl _) hhi ho⟩⟩
end

set_option maxHeartbeats 1000000 in
set_option maxRecDepth 100000 in
theorem rd_list_type (n : Nat) (s : List UInt8) (w : World) (br : Nat) (h : CRd w br s) (hn : n ≤ 40) : Calls Tryz.prog 136 #[.int .i64 (n : Int), .func (.func 137) #[.pointer (some ⟨br, 0, none⟩)] #[]] w fun e w' =>
    (∀ l r, pL pN n s = some (l, r) → ∃ v, e = .returned v ∧ CRd w' br r ∧ OwnTs w' w.heap.size w'.heap.size v l) ∧ (pL pN n s = none → e = .panicked (refC 1)) ∧ Mods (fun k => k = br) w w' := by
  obtain ⟨i0, hi0, hz0, hz1, hz2⟩ := info_parts infoType
  have hbr := h.lt
  by_cases h0 : n = 0
  · subst h0
    go_enter Tryz.func136, Tryz.ntmps136
    go_wp2_with fail
    go_ret
    refine ⟨?_, ?_, Mods.refl _ _⟩
    · intro l r e
      cases e
      exact ⟨_, rfl, h, .inl ⟨rfl, rfl, Nat.le_refl _⟩⟩
    · intro e; cases e
  · have k0 : ((n : Int) == 0) = false := by simpa using h0
    have HR := hide h
    have H0 := hide h0
    clear h h0
    go_enter Tryz.func136, Tryz.ntmps136
    go_wp2_with (at_make; refine wpList_make_blk rfl (.tmp 9) (.tmp 9) 40 rfl 43 i0 (.int .i64 0) 1 8 Tryz.underlying40 hi0 hz0 hz1 hz2 _ _ _ n rfl rfl rfl (by omega) (by omega) ?_; intro w1 hb1 hm1 hs1)
    have hst : RdL 1 EInt pN 43 n s br w.heap.size w w1 0 s (madeCells (Value.int .i64 0).cells (n * 1)).toList [] := ⟨hb1, by simp [madeCells], ⟨w1.heap.size, Nat.le_refl _, by simp [OwnL]; omega⟩, rfl, Blk.mods (unhide HR) hm1 (fun f => f), hm1.mono (fun _ _ f => f.elim), by simp, Nat.le_refl _, hbr⟩
    have HST := hide hst
    generalize (madeCells (Value.int .i64 0).cells (n * 1)).toList = cs0 at *
    have HS1 := hide hs1
    clear hst hb1 hm1 hs1
    generalize hg : w.heap.size = g at *
    have HG := hide hg
    clear hg
    go_loopw [13] (fun i wr => ∃ (k : Nat) (t : List UInt8) (cs : List Value) (done : List Int), k ≤ n ∧ i = .int .i64 k ∧ RdL 1 EInt pN 43 n s br g w wr k t cs done) (fun i _ => n - (intOf i).toNat)
    case atStart => exact ⟨0, s, cs0, [], Nat.zero_le _, rfl, unhide HST⟩
    case round =>
      obtain ⟨k, t, cs, done, hk, rfl, hL⟩ := hrel
      have HL := hide hL
      clear hL
      by_cases hlt : k < n
      · have hgb : ¬ (g = br) := by have := (unhide HL).new; have := (unhide HL).old; omega
        cases hp : pN t with
        | none =>
          have HN := hide ((unhide HL).none hlt hp)
          go_wp2_with fail
          refine Calls.mono (rd_kind t _ br (unhide HL).rd) ?_
          rintro e w2 ⟨h1, h2, hm⟩
          obtain rfl := h2 hp
          go_wp2_with fail
          refine ⟨rfl, ?_, fun _ => rfl, (unhide HL).mods.trans hm (fun _ _ e => e)⟩
          intro l r e
          rw [unhide HN] at e; cases e
        | some x =>
          obtain ⟨x, t2⟩ := x
          have HP := hide hp
          clear hp
          go_wp2_with fail
          refine Calls.mono (rd_kind t _ br (unhide HL).rd) ?_
          rintro e w2 ⟨h1, h2, hm⟩
          obtain ⟨rfl, hR2⟩ := h1 x t2 (unhide HP)
          have hB2 := (unhide HL).blk.mods hm hgb
          have hkl : k < cs.length := by rw [(unhide HL).len]; omega
          have c0 : w2.cell? ⟨g, k, none⟩ = some cs[k] := by rw [hB2.cell]; exact List.getElem?_eq_getElem hkl
          have f0 := hB2.frozen k
          have HB2 := hide hB2
          have HM := hide hm
          have HR2 := hide hR2
          have HG2 := hide hgb
          clear h1 h2 hB2 hm hR2 hgb
          generalize cs[k] = u at *
          go_wp2_with fail
          refine ⟨⟨k + 1, t2, cs.set k (.int .i64 x), done ++ [x], by omega, by go_num, ?_⟩, by simp [intOf]; omega⟩
          exact (unhide HL).step okInt hlt (unhide HP) (unhide HR2) (c := [.int .i64 x]) rfl ⟨rfl, (unhide HM).size⟩ (unhide HM) ((unhide HB2).setCell k _) (by simp) (by simp only [Nat.mul_one]; exact take_set1 hkl _) ((Mods.refl (fun i => i = g) w2).setCell (p := ⟨g, k, none⟩) (fun _ => rfl) _) (by simp [World.setCell])
      · obtain rfl : k = n := by omega
        obtain ⟨e1, e2⟩ := (unhide HL).full okInt (unhide H0)
        have E1 := hide e1
        have E2 := hide e2
        clear e1 e2
        go_wp2_with fail
        go_ret
        refine ⟨?_, ?_, (unhide HL).mods⟩
        · intro l r e
          rw [unhide E1] at e
          simp only [Option.some.injEq, Prod.mk.injEq] at e
          obtain ⟨rfl, rfl⟩ := e
          refine ⟨_, rfl, (unhide HL).rd, ?_⟩
          have := unhide E2
          rwa [unhide HG] at this
        · intro e
          rw [unhide E1] at e; cases e
end Go.Proofs.YtiiokkllmchohaaGreat
/- The code's reader: instructions. -/
namespace Go.Proofs.YtiiokkllmchohaaGreat
open Go.RowKit
attribute [local go_sem ↓] Go.wp_at_zero Go.wp_at_succ

theorem blk3f {w : World} {b : Nat} {t : TypeId} {a0 a1 a2 : Value} (h : Blk w b t [a0, a1, a2]) : (w.cell? ⟨b, 0, none⟩ = some a0 ∧ w.cell? ⟨b, 1, none⟩ = some a1 ∧ w.cell? ⟨b, 2, none⟩ = some a2) ∧ w.frozen? ⟨b, 0, none⟩ = false ∧ w.frozen? ⟨b, 1, none⟩ = false ∧ w.frozen? ⟨b, 2, none⟩ = false :=
  ⟨⟨h.cell 0, h.cell 1, h.cell 2⟩, h.frozen 0, h.frozen 1, h.frozen 2⟩
theorem put3_blk {w : World} {b : Nat} {t : TypeId} {a0 a1 a2 : Value} (h : Blk w b t [a0, a1, a2]) (v0 v1 v2 : Value) : Blk (((w.setCell ⟨b, 0, none⟩ v0).setCell ⟨b, 1, none⟩ v1).setCell ⟨b, 2, none⟩ v2) b t [v0, v1, v2] :=
  ((h.setCell 0 v0).setCell 1 v1).setCell 2 v2
theorem put3_mods {S : Nat → Prop} {a w : World} (h : Mods S a w) {b : Nat} (hb : a.heap.size ≤ b) (v0 v1 v2 : Value) : Mods S a (((w.setCell ⟨b, 0, none⟩ v0).setCell ⟨b, 1, none⟩ v1).setCell ⟨b, 2, none⟩ v2) :=
  ((h.setCell (p := ⟨b, 0, none⟩) (fun e => absurd e (Nat.not_lt.2 hb)) v0).setCell (p := ⟨b, 1, none⟩) (fun e => absurd e (Nat.not_lt.2 hb)) v1).setCell (p := ⟨b, 2, none⟩) (fun e => absurd e (Nat.not_lt.2 hb)) v2
theorem Mods.set {S : Nat → Prop} {a w : World} (h : Mods S a w) {b i : Nat} (hb : a.heap.size ≤ b) (v : Value) : Mods S a (w.setCell ⟨b, i, none⟩ v) := h.setCell (p := ⟨b, i, none⟩) (fun e => absurd e (Nat.not_lt.2 hb)) v
theorem two_new (w : World) (c1 c2 : Array Value) (t1 t2 : TypeId) (S : Nat → Prop) : Mods S w ((w.alloc (.cells c1 t1)).alloc (.cells c2 t2)) ∧ Blk ((w.alloc (.cells c1 t1)).alloc (.cells c2 t2)) w.heap.size t1 c1.toList ∧ Blk ((w.alloc (.cells c1 t1)).alloc (.cells c2 t2)) (w.heap.size + 1) t2 c2.toList :=
  ⟨((Mods.refl S w).alloc _).alloc _, (Blk.new w c1 t1).alloc _, by simpa using Blk.new (w.alloc (.cells c1 t1)) c2 t2⟩

theorem fin3 {w w3 : World} {br h b : Nat} {t : TypeId} {a0 a1 a2 : Value} {s : List UInt8} (hB : Blk w3 h t [a0, a1, a2]) (hM : Mods (fun k => k = br) w w3) (hR : CRd w3 br s) (hh : w.heap.size ≤ h) (hb : w.heap.size ≤ b) (hne : h ≠ b) (hbr : br < w.heap.size) (i : Nat) (u v0 v1 v2 : Value) :
    let Z := (((w3.setCell ⟨b, i, none⟩ u).setCell ⟨h, 0, none⟩ v0).setCell ⟨h, 1, none⟩ v1).setCell ⟨h, 2, none⟩ v2
    Blk Z h t [v0, v1, v2] ∧ Mods (fun k => k = br) w Z ∧ CRd Z br s ∧ Z.heap.size = w3.heap.size ∧ ∀ k, k ≠ h → k ≠ b → Z.heap[k]? = w3.heap[k]? := by
  have h1 := hB.setCell_ne (p := ⟨b, i, none⟩) hne u
  refine ⟨put3_blk h1 v0 v1 v2, put3_mods (hM.set hb u) hh v0 v1 v2, ?_, by simp [World.setCell], fun k k1 k2 => ?_⟩
  · have r1 : CRd (w3.setCell ⟨b, i, none⟩ u) br s := Blk.setCell_ne hR (p := ⟨b, i, none⟩) (by simp only; omega) u
    have r2 := Blk.setCell_ne r1 (p := ⟨h, 0, none⟩) (by simp only; omega) v0
    have r3 := Blk.setCell_ne r2 (p := ⟨h, 1, none⟩) (by simp only; omega) v1
    exact Blk.setCell_ne r3 (p := ⟨h, 2, none⟩) (by simp only; omega) v2
  · rw [Below.heap_setCell _ _ _ _ k1, Below.heap_setCell _ _ _ _ k1, Below.heap_setCell _ _ _ _ k1, Below.heap_setCell _ _ _ _ k2]

set_option maxHeartbeats 1000000 in
set_option maxRecDepth 100000 in
theorem rd_ins (s : List UInt8) (w : World) (br : Nat) (h : CRd w br s) : Calls Tryz.prog 194 #[.pointer (some ⟨br, 0, none⟩)] w fun e w' =>
    (∀ i r, pIns s = some (i, r) → e = .returned (.agg #[.int .i64 i.op, .int .i64 i.a, .int .i64 i.b]) ∧ CRd w' br r) ∧ (pIns s = none → e = .panicked (refC 1)) ∧ Mods (fun k => k = br) w w' := by
  have hbr := h.lt
  obtain ⟨hm0, b0, b1⟩ := two_new w #[.int .i64 0, .int .i64 0, .int .i64 0] #[.int .i64 0, .int .i64 0, .int .i64 0] 60 60 (fun k => k = br)
  have hR0 : CRd ((w.alloc (.cells #[.int .i64 0, .int .i64 0, .int .i64 0] 60)).alloc (.cells #[.int .i64 0, .int .i64 0, .int .i64 0] 60)) br s := (Blk.alloc h _).alloc _
  go_enter Tryz.func194, Tryz.ntmps194
  go_wp2_with fail
  have n0 : ¬ (w.heap.size = br) := by omega
  have n1 : ¬ (w.heap.size + 1 = br) := by omega
  generalize (w.alloc _).alloc _ = W at *
  have M0 := hide hm0
  have B0 := hide b0
  have B1 := hide b1
  clear hm0 b0 b1 h
  have hnone1 : pN s = none → pIns s = none := fun e => by unfold pIns; rw [e]; rfl
  refine Calls.mono (rd_number s _ br hR0) ?_
  rintro e w1 ⟨h1, h2, hm⟩
  have M1 := hide ((unhide M0).trans hm (fun _ _ e => e))
  cases hp1 : pN s with
  | none =>
    obtain rfl := h2 hp1
    have HN := hide (hnone1 hp1)
    clear hp1 hnone1
    go_wp2_with fail
    refine ⟨rfl, fun i r e => ?_, fun _ => rfl, unhide M1⟩
    rw [unhide HN] at e; cases e
  | some x =>
    obtain ⟨x, s1⟩ := x
    obtain ⟨rfl, hR1⟩ := h1 x s1 hp1
    have P1 := hide hp1
    have C0 := hide ((unhide B0).mods hm n0)
    have C1 := (unhide B1).mods hm n1
    obtain ⟨⟨c0, c1, c2⟩, f0, f1, f2⟩ := blk3f C1
    have HR1 := hide hR1
    have HC1 := hide C1
    clear hp1 h1 h2 hm hnone1 M0 B0 B1 C1 hR0 hR1
    go_wp2_with fail
    have D1 := hide ((unhide HC1).setCell 0 (.int .i64 x))
    have D0 := hide ((unhide C0).setCell_ne (p := ⟨w.heap.size + 1, 0, none⟩) (by simp) (.int .i64 x))
    have M2 := hide ((unhide M1).set (b := w.heap.size + 1) (i := 0) (by omega) (.int .i64 x))
    have hR2 : CRd (w1.setCell ⟨w.heap.size + 1, 0, none⟩ (.int .i64 x)) br s1 := Blk.setCell_ne (unhide HR1) (p := ⟨w.heap.size + 1, 0, none⟩) (by simp; omega) _
    generalize w1.setCell _ _ = W2 at *
    clear c0 c1 c2 f0 f1 f2 HC1 C0 M1 HR1
    refine Calls.mono (rd_number s1 _ br hR2) ?_
    rintro e w2 ⟨h1, h2, hm⟩
    have M3 := hide ((unhide M2).trans hm (fun _ _ e => e))
    cases hp2 : pN s1 with
    | none =>
      obtain rfl := h2 hp2
      have HN : Hid (pIns s = none) := by show _ = _; unfold pIns; rw [unhide P1]; simp only [Option.bind_some]; rw [hp2]; rfl
      clear hp2
      go_wp2_with fail
      refine ⟨rfl, fun i r e => ?_, fun _ => rfl, unhide M3⟩
      rw [unhide HN] at e; cases e
    | some y =>
      obtain ⟨y, s2⟩ := y
      obtain ⟨rfl, hR3⟩ := h1 y s2 hp2
      have P2 := hide hp2
      have E0 := hide ((unhide D0).mods hm n0)
      have E1 := (unhide D1).mods hm n1
      obtain ⟨⟨c0, c1, c2⟩, f0, f1, f2⟩ := blk3f E1
      have HR3 := hide hR3
      have HE1 := hide E1
      clear hp2 h1 h2 hm M2 D0 D1 E1 hR2 hR3
      go_wp2_with fail
      have F1 := hide ((unhide HE1).setCell 1 (.int .i64 y))
      have F0 := hide ((unhide E0).setCell_ne (p := ⟨w.heap.size + 1, 1, none⟩) (by simp) (.int .i64 y))
      have M4 := hide ((unhide M3).set (b := w.heap.size + 1) (i := 1) (by omega) (.int .i64 y))
      have hR4 : CRd (w2.setCell ⟨w.heap.size + 1, 1, none⟩ (.int .i64 y)) br s2 := Blk.setCell_ne (unhide HR3) (p := ⟨w.heap.size + 1, 1, none⟩) (by simp; omega) _
      generalize w2.setCell _ _ = W4 at *
      clear c0 c1 c2 f0 f1 f2 HE1 E0 M3 HR3
      refine Calls.mono (rd_number s2 _ br hR4) ?_
      rintro e w3 ⟨h1, h2, hm⟩
      have M5 := hide ((unhide M4).trans hm (fun _ _ e => e))
      cases hp3 : pN s2 with
      | none =>
        obtain rfl := h2 hp3
        have HN : Hid (pIns s = none) := by show _ = _; unfold pIns; rw [unhide P1]; simp only [Option.bind_some]; rw [unhide P2]; simp only [Option.bind_some]; rw [hp3]; rfl
        clear hp3
        go_wp2_with fail
        refine ⟨rfl, fun i r e => ?_, fun _ => rfl, unhide M5⟩
        rw [unhide HN] at e; cases e
      | some z =>
        obtain ⟨z, s3⟩ := z
        obtain ⟨rfl, hR5⟩ := h1 z s3 hp3
        have HS : Hid (pIns s = some (⟨x, y, z⟩, s3)) := by show _ = _; unfold pIns; rw [unhide P1]; simp only [Option.bind_some]; rw [unhide P2]; simp only [Option.bind_some]; rw [hp3]; rfl
        have G0 := (unhide F0).mods hm n0
        have G1 := (unhide F1).mods hm n1
        obtain ⟨⟨c0, c1, c2⟩, f0, f1, f2⟩ := blk3f G1
        obtain ⟨⟨d0, d1, d2⟩, g0, g1, g2⟩ := blk3f G0
        have HR5 := hide hR5
        have HG0 := hide G0
        clear hp3 h1 h2 hm M4 F0 F1 G0 G1 hR4 hR5
        go_wp2_with fail
        obtain ⟨Z0, Z1, Z2, _, _⟩ := fin3 (unhide HG0) (unhide M5) (unhide HR5) (Nat.le_refl _) (Nat.le_succ _) (by omega) hbr 2 (.int .i64 z) (.int .i64 x) (.int .i64 y) (.int .i64 z)
        generalize World.setCell _ _ _ = Z at Z0 Z1 Z2 ⊢
        obtain ⟨z0, z1, z2⟩ := blk3 Z0
        refine bodyPost_ret (v := .agg #[.int .i64 x, .int .i64 y, .int .i64 z]) (by simp [results, Tryz.results194, go_sem, z0, z1, z2]) rfl ⟨fun i r e => ?_, fun e => ?_, Z1⟩
        · rw [unhide HS] at e
          simp only [Option.some.injEq, Prod.mk.injEq] at e
          obtain ⟨rfl, rfl⟩ := e
          exact ⟨rfl, Z2⟩
        · rw [unhide HS] at e; cases e

theorem pInfoIns : (Tryz.prog.info? 60).map (fun i => (i.zero, i.size, i.bytes)) = some (some (.agg #[.int .i64 0, .int .i64 0, .int .i64 0]), 3, 24) := by kernel_rfl
theorem pMade_len (cells : Array Value) (n : Nat) : (madeCells cells n).toList.length = n := by simp [madeCells]
theorem take_set3 {cs : List Value} {i : Nat} (h : i + 3 ≤ cs.length) (a b c : Value) : (((cs.set i a).set (i + 1) b).set (i + 2) c).take (i + 3) = cs.take i ++ [a, b, c] := by
  rw [take_set1 (by simp; omega), take_set1 (by simp; omega), take_set1 (by omega)]; simp
theorem row3_blk {w : World} {b : Nat} {t : TypeId} {cs : List Value} (h : Blk w b t cs) (i : Nat) (v0 v1 v2 : Value) : Blk (((w.setCell ⟨b, i, none⟩ v0).setCell ⟨b, i + 1, none⟩ v1).setCell ⟨b, i + 2, none⟩ v2) b t (((cs.set i v0).set (i + 1) v1).set (i + 2) v2) ∧ Mods (fun k => k = b) w (((w.setCell ⟨b, i, none⟩ v0).setCell ⟨b, i + 1, none⟩ v1).setCell ⟨b, i + 2, none⟩ v2) ∧ (((w.setCell ⟨b, i, none⟩ v0).setCell ⟨b, i + 1, none⟩ v1).setCell ⟨b, i + 2, none⟩ v2).heap.size = w.heap.size :=
  ⟨((h.setCell i v0).setCell (i + 1) v1).setCell (i + 2) v2, (((Mods.refl (fun k => k = b) w).setCell (p := ⟨b, i, none⟩) (fun _ => rfl) v0).setCell (p := ⟨b, i + 1, none⟩) (fun _ => rfl) v1).setCell (p := ⟨b, i + 2, none⟩) (fun _ => rfl) v2, by simp [World.setCell]⟩

set_option maxHeartbeats 1000000 in
set_option maxRecDepth 100000 in
theorem rd_list_ins (n : Nat) (s : List UInt8) (w : World) (br : Nat) (h : CRd w br s) (hn : n ≤ 40) : Calls Tryz.prog 193 #[.int .i64 (n : Int), .func (.func 194) #[.pointer (some ⟨br, 0, none⟩)] #[]] w fun e w' =>
    (∀ l r, pL pIns n s = some (l, r) → ∃ v, e = .returned v ∧ CRd w' br r ∧ OwnIs w' w.heap.size w'.heap.size v l) ∧ (pL pIns n s = none → e = .panicked (refC 1)) ∧ Mods (fun k => k = br) w w' := by
  obtain ⟨i0, hi0, hz0, hz1, hz2⟩ := info_parts pInfoIns
  have hbr := h.lt
  by_cases h0 : n = 0
  · subst h0
    go_enter Tryz.func193, Tryz.ntmps193
    go_wp2_with fail
    go_ret
    refine ⟨?_, ?_, Mods.refl _ _⟩
    · intro l r e
      cases e
      exact ⟨_, rfl, h, .inl ⟨rfl, rfl, Nat.le_refl _⟩⟩
    · intro e; cases e
  · have k0 : ((n : Int) == 0) = false := by simpa using h0
    have HR := hide h
    have H0 := hide h0
    clear h h0
    go_enter Tryz.func193, Tryz.ntmps193
    go_wp2_with (at_make; refine wpList_make_blk rfl (.tmp 9) (.tmp 9) 61 rfl 60 i0 (.agg #[.int .i64 0, .int .i64 0, .int .i64 0]) 3 24 Tryz.underlying61 hi0 hz0 hz1 hz2 _ _ _ n rfl rfl rfl (by omega) (by omega) ?_; intro w1 hb1 hm1 hs1)
    have hst : RdL 3 EIns pIns 60 n s br w.heap.size w w1 0 s (madeCells (Value.agg #[.int .i64 0, .int .i64 0, .int .i64 0]).cells (n * 3)).toList [] := ⟨hb1, pMade_len _ _, ⟨w1.heap.size, Nat.le_refl _, by simp [OwnL]; omega⟩, rfl, Blk.mods (unhide HR) hm1 (fun f => f), hm1.mono (fun _ _ f => f.elim), by simp, Nat.le_refl _, hbr⟩
    have HST := hide hst
    generalize (madeCells (Value.agg #[.int .i64 0, .int .i64 0, .int .i64 0]).cells (n * 3)).toList = cs0 at *
    clear hst hb1 hm1 hs1
    generalize hg : w.heap.size = g at *
    have HG := hide hg
    clear hg
    go_loopw [13] (fun i wr => ∃ (k : Nat) (t : List UInt8) (cs : List Value) (done : List LIns), k ≤ n ∧ i = .int .i64 k ∧ RdL 3 EIns pIns 60 n s br g w wr k t cs done) (fun i _ => n - (intOf i).toNat)
    case atStart => exact ⟨0, s, cs0, [], Nat.zero_le _, rfl, unhide HST⟩
    case round =>
      obtain ⟨k, t, cs, done, hk, rfl, hL⟩ := hrel
      have HL := hide hL
      clear hL
      by_cases hlt : k < n
      · have hgb : ¬ (g = br) := by have := (unhide HL).new; have := (unhide HL).old; omega
        cases hp : pIns t with
        | none =>
          have HN := hide ((unhide HL).none hlt hp)
          go_wp2_with fail
          refine Calls.mono (rd_ins t _ br (unhide HL).rd) ?_
          rintro e w2 ⟨h1, h2, hm⟩
          obtain rfl := h2 hp
          go_wp2_with fail
          refine ⟨rfl, ?_, fun _ => rfl, (unhide HL).mods.trans hm (fun _ _ e => e)⟩
          intro l r e
          rw [unhide HN] at e; cases e
        | some x =>
          obtain ⟨x, t2⟩ := x
          have HP := hide hp
          clear hp
          go_wp2_with fail
          refine Calls.mono (rd_ins t _ br (unhide HL).rd) ?_
          rintro e w2 ⟨h1, h2, hm⟩
          obtain ⟨rfl, hR2⟩ := h1 x t2 (unhide HP)
          have hB2 := (unhide HL).blk.mods hm hgb
          have hkl : k * 3 + 3 ≤ cs.length := by rw [(unhide HL).len]; omega
          have c0 : w2.cell? ⟨g, k * 3, none⟩ = some (cs[k * 3]'(by omega)) := by rw [hB2.cell]; exact List.getElem?_eq_getElem _
          have c1 : w2.cell? ⟨g, k * 3 + 1, none⟩ = some (cs[k * 3 + 1]'(by omega)) := by rw [hB2.cell]; exact List.getElem?_eq_getElem _
          have c2 : w2.cell? ⟨g, k * 3 + 2, none⟩ = some (cs[k * 3 + 2]'(by omega)) := by rw [hB2.cell]; exact List.getElem?_eq_getElem _
          have f0 := hB2.frozen (k * 3)
          have f1 := hB2.frozen (k * 3 + 1)
          have f2 := hB2.frozen (k * 3 + 2)
          generalize cs[k * 3]'(by omega) = u0 at *
          generalize cs[k * 3 + 1]'(by omega) = u1 at *
          generalize cs[k * 3 + 2]'(by omega) = u2 at *
          have HB2 := hide hB2
          have HM := hide hm
          have HR2 := hide hR2
          clear h1 h2 hB2 hm hR2 hgb
          go_wp2_with fail
          obtain ⟨r1, r2, r3⟩ := row3_blk (unhide HB2) (k * 3) (.int .i64 x.op) (.int .i64 x.a) (.int .i64 x.b)
          refine ⟨⟨k + 1, t2, _, done ++ [x], by omega, by go_num, (unhide HL).step okIns hlt (unhide HP) (unhide HR2) (c := [.int .i64 x.op, .int .i64 x.a, .int .i64 x.b]) rfl ⟨rfl, (unhide HM).size⟩ (unhide HM) r1 (by simp) (by rw [Nat.succ_mul]; exact take_set3 hkl _ _ _) r2 r3⟩, by simp [intOf]; omega⟩
      · obtain rfl : k = n := by omega
        obtain ⟨e1, e2⟩ := (unhide HL).full okIns (unhide H0)
        have E1 := hide e1
        have E2 := hide e2
        clear e1 e2
        go_wp2_with fail
        go_ret
        refine ⟨?_, ?_, (unhide HL).mods⟩
        · intro l r e
          rw [unhide E1] at e
          simp only [Option.some.injEq, Prod.mk.injEq] at e
          obtain ⟨rfl, rfl⟩ := e
          refine ⟨_, rfl, (unhide HL).rd, ?_⟩
          have := unhide E2
          rwa [unhide HG] at this
        · intro e
          rw [unhide E1] at e; cases e
end Go.Proofs.YtiiokkllmchohaaGreat
/- The code's reader: frames. -/
namespace Go.Proofs.YtiiokkllmchohaaGreat
open Go.RowKit
attribute [local go_sem ↓] Go.wp_at_zero Go.wp_at_succ

theorem OwnSl.set {α : Type} {sz : Nat} {R : OwnE α} {t : TypeId} (ok : OwnOk R) {w : World} {lo hi b i : Nat} {v u : Value} {l : List α} (h : OwnSl t sz R w lo hi v l) (hb : b < lo) : OwnSl t sz R (w.setCell ⟨b, i, none⟩ u) lo hi v l :=
  h.stay ok (fun k p q => Below.heap_setCell _ _ _ _ (by simp only; omega))
theorem OwnSl.mods {α : Type} {sz : Nat} {R : OwnE α} {t : TypeId} (ok : OwnOk R) {w w' : World} {lo hi br : Nat} {v : Value} {l : List α} (h : OwnSl t sz R w lo hi v l) (hm : Mods (fun k => k = br) w w') (hb : br < lo) (hh : hi ≤ w.heap.size) : OwnSl t sz R w' lo hi v l :=
  h.stay ok (fun k p q => hm.block k (by omega) (by omega))

set_option maxHeartbeats 2000000 in
set_option maxRecDepth 100000 in
theorem rd_frame (locals : Nat) (s : List UInt8) (w : World) (br : Nat) (h : CRd w br s) (hn : locals ≤ 40) : Calls Tryz.prog 197 #[.pointer (some ⟨br, 0, none⟩), .int .i64 (locals : Int)] w fun e w' =>
    (∀ f r, pFrame locals s = some (f, r) → ∃ a b, e = .returned (.agg #[.int .i64 f.pc, .slice a f.locals.length f.locals.length, .slice b f.stack.length f.stack.length]) ∧ CRd w' br r ∧ EFr w' w.heap.size w'.heap.size [.int .i64 f.pc, .slice a f.locals.length f.locals.length, .slice b f.stack.length f.stack.length] f) ∧
    (pFrame locals s = none → e = .panicked (refC 1)) ∧ Mods (fun k => k = br) w w' := by
  have hbr := h.lt
  obtain ⟨hm0, b0, b1⟩ := two_new w #[.int .i64 0, .slice none 0 0, .slice none 0 0] #[.int .i64 0, .slice none 0 0, .slice none 0 0] 42 42 (fun k => k = br)
  have hR0 : CRd ((w.alloc (.cells #[.int .i64 0, .slice none 0 0, .slice none 0 0] 42)).alloc (.cells #[.int .i64 0, .slice none 0 0, .slice none 0 0] 42)) br s := (Blk.alloc h _).alloc _
  have hs0 : w.heap.size + 2 ≤ ((w.alloc (.cells #[.int .i64 0, .slice none 0 0, .slice none 0 0] 42)).alloc (.cells #[.int .i64 0, .slice none 0 0, .slice none 0 0] 42)).heap.size := by simp
  go_enter Tryz.func197, Tryz.ntmps197
  go_wp2_with fail
  have n0 : ¬ (w.heap.size = br) := by omega
  have n1 : ¬ (w.heap.size + 1 = br) := by omega
  generalize (w.alloc _).alloc _ = W at *
  have M0 := hide hm0
  have B0 := hide b0
  have B1 := hide b1
  clear hm0 b0 b1 h
  refine Calls.mono (rd_number s _ br hR0) ?_
  rintro e w1 ⟨h1, h2, hm⟩
  have M1 := hide ((unhide M0).trans hm (fun _ _ e => e))
  have hs1 := Nat.le_trans hs0 hm.size
  cases hp1 : pN s with
  | none =>
    obtain rfl := h2 hp1
    have HN : Hid (pFrame locals s = none) := by show _ = _; unfold pFrame; rw [hp1]; rfl
    clear hp1
    go_wp2_with fail
    refine ⟨rfl, fun i r e => ?_, fun _ => rfl, unhide M1⟩
    rw [unhide HN] at e; cases e
  | some x =>
    obtain ⟨x, s1⟩ := x
    obtain ⟨rfl, hR1⟩ := h1 x s1 hp1
    have P1 := hide hp1
    have C0 := hide ((unhide B0).mods hm n0)
    have C1 := (unhide B1).mods hm n1
    obtain ⟨⟨c0, c1, c2⟩, f0, f1, f2⟩ := blk3f C1
    have HR1 := hide hR1
    have HC1 := hide C1
    clear hp1 h1 h2 hm M0 B0 B1 C1 hR0 hR1 hs0
    go_wp2_with fail
    have D1 := hide ((unhide HC1).setCell 0 (.int .i64 x))
    have D0 := hide ((unhide C0).setCell_ne (p := ⟨w.heap.size + 1, 0, none⟩) (by simp) (.int .i64 x))
    have M2 := hide ((unhide M1).set (b := w.heap.size + 1) (i := 0) (by omega) (.int .i64 x))
    have hR2 : CRd (w1.setCell ⟨w.heap.size + 1, 0, none⟩ (.int .i64 x)) br s1 := Blk.setCell_ne (unhide HR1) (p := ⟨w.heap.size + 1, 0, none⟩) (by simp; omega) _
    have hs2 : w.heap.size + 2 ≤ (w1.setCell ⟨w.heap.size + 1, 0, none⟩ (.int .i64 x)).heap.size := by simpa [World.setCell] using hs1
    generalize w1.setCell _ _ = W2 at *
    clear c0 c1 c2 f0 f1 f2 HC1 C0 M1 HR1 hs1
    refine Calls.mono (rd_list_type locals s1 _ br hR2 hn) ?_
    rintro e w2 ⟨h1, h2, hm⟩
    have M3 := hide ((unhide M2).trans hm (fun _ _ e => e))
    have hs3 := Nat.le_trans hs2 hm.size
    cases hp2 : pL pN locals s1 with
    | none =>
      obtain rfl := h2 hp2
      have HN : Hid (pFrame locals s = none) := by show _ = _; unfold pFrame; rw [unhide P1]; simp only [Option.bind_some]; rw [hp2]; rfl
      clear hp2
      go_wp2_with fail
      refine ⟨rfl, fun i r e => ?_, fun _ => rfl, unhide M3⟩
      rw [unhide HN] at e; cases e
    | some y =>
      obtain ⟨y, s2⟩ := y
      obtain ⟨vl, rfl, hR3, hO⟩ := h1 y s2 hp2
      obtain ⟨la, rfl⟩ := hO.form
      have P2 := hide hp2
      have E0 := hide ((unhide D0).mods hm n0)
      have E1 := (unhide D1).mods hm n1
      obtain ⟨⟨c0, c1, c2⟩, f0, f1, f2⟩ := blk3f E1
      have HR3 := hide hR3
      have HE1 := hide E1
      have O1 := hide (hO.wide okInt hs2 (Nat.le_refl _))
      clear hp2 h1 h2 hm M2 D0 D1 E1 hR2 hR3 hs2 hO
      go_wp2_with fail
      have F1 := hide ((unhide HE1).setCell 1 (.slice la y.length y.length))
      have F0 := hide ((unhide E0).setCell_ne (p := ⟨w.heap.size + 1, 1, none⟩) (by simp) (.slice la y.length y.length))
      have M4 := hide ((unhide M3).set (b := w.heap.size + 1) (i := 1) (by omega) (.slice la y.length y.length))
      have hR4 : CRd (w2.setCell ⟨w.heap.size + 1, 1, none⟩ (.slice la y.length y.length)) br s2 := Blk.setCell_ne (unhide HR3) (p := ⟨w.heap.size + 1, 1, none⟩) (by simp; omega) _
      have O2 := hide ((unhide O1).set okInt (b := w.heap.size + 1) (i := 1) (u := .slice la y.length y.length) (by omega))
      have hs4 : (w2.setCell ⟨w.heap.size + 1, 1, none⟩ (.slice la y.length y.length)).heap.size = w2.heap.size := by simp [World.setCell]
      rw [← hs4] at O2 hs3
      clear hs4
      generalize w2.setCell _ _ = W4 at *
      clear c0 c1 c2 f0 f1 f2 HE1 E0 M3 HR3 O1
      refine Calls.mono (rd_count 8 s2 _ br hR4) ?_
      rintro e w3 ⟨h1, h2, hm⟩
      have M5 := hide ((unhide M4).trans hm (fun _ _ e => e))
      have hs5 := Nat.le_trans hs3 hm.size
      cases hp3 : pC 8 s2 with
      | none =>
        obtain rfl := h2 hp3
        have HN : Hid (pFrame locals s = none) := by show _ = _; unfold pFrame; rw [unhide P1]; simp only [Option.bind_some]; rw [unhide P2]; simp only [Option.bind_some]; rw [hp3]; rfl
        clear hp3
        go_wp2_with fail
        refine ⟨rfl, fun i r e => ?_, fun _ => rfl, unhide M5⟩
        rw [unhide HN] at e; cases e
      | some c =>
        obtain ⟨c, s3⟩ := c
        obtain ⟨rfl, hR5⟩ := h1 c s3 hp3
        have P3 := hide hp3
        have hc8 := (pC_sound hp3).1
        have G0 := hide ((unhide F0).mods hm n0)
        have G1 := hide ((unhide F1).mods hm n1)
        have O3 := hide (((unhide O2).mods okInt hm (by omega) (Nat.le_refl _)).wide okInt (Nat.le_refl _) hm.size)
        clear hp3 h1 h2 hm M4 F0 F1 hR4 hs3 O2
        go_wp2_with fail
        refine Calls.mono (rd_list_type c s3 _ br hR5 (by omega)) ?_
        rintro e w4 ⟨h1, h2, hm⟩
        have M6 := hide ((unhide M5).trans hm (fun _ _ e => e))
        cases hp4 : pL pN c s3 with
        | none =>
          obtain rfl := h2 hp4
          have HN : Hid (pFrame locals s = none) := by show _ = _; unfold pFrame; rw [unhide P1]; simp only [Option.bind_some]; rw [unhide P2]; simp only [Option.bind_some]; rw [unhide P3]; simp only [Option.bind_some]; rw [hp4]; rfl
          clear hp4
          go_wp2_with fail
          refine ⟨rfl, fun i r e => ?_, fun _ => rfl, unhide M6⟩
          rw [unhide HN] at e; cases e
        | some z =>
          obtain ⟨z, s4⟩ := z
          obtain ⟨vs, rfl, hR6, hO⟩ := h1 z s4 hp4
          obtain ⟨sa, rfl⟩ := hO.form
          have HS : Hid (pFrame locals s = some (⟨x, y, z⟩, s4)) := by show _ = _; unfold pFrame; rw [unhide P1]; simp only [Option.bind_some]; rw [unhide P2]; simp only [Option.bind_some]; rw [unhide P3]; simp only [Option.bind_some]; rw [hp4]; rfl
          have H0 := (unhide G0).mods hm n0
          have H1 := (unhide G1).mods hm n1
          obtain ⟨⟨c0, c1, c2⟩, f0, f1, f2⟩ := blk3f H1
          obtain ⟨⟨d0, d1, d2⟩, g0, g1, g2⟩ := blk3f H0
          have O4 := hide ((unhide O3).mods okInt hm (by omega) (Nat.le_refl _))
          have O5 := hide hO
          have HR6 := hide hR6
          have HH0 := hide H0
          have hs6 := hm.size
          clear hp4 h1 h2 hm M5 G0 G1 H0 H1 hR5 hR6 hO O3
          go_wp2_with fail
          obtain ⟨Z0, Z1, Z2, Z3, Z4⟩ := fin3 (unhide HH0) (unhide M6) (unhide HR6) (Nat.le_refl _) (Nat.le_succ _) (by omega) hbr 2 (.slice sa z.length z.length) (.int .i64 x) (.slice la y.length y.length) (.slice sa z.length z.length)
          generalize World.setCell _ _ _ = Z at Z0 Z1 Z2 Z3 Z4 ⊢
          obtain ⟨z0, z1, z2⟩ := blk3 Z0
          refine bodyPost_ret (v := .agg #[.int .i64 x, .slice la y.length y.length, .slice sa z.length z.length]) (by simp [results, Tryz.results197, go_sem, z0, z1, z2]) rfl ⟨fun f r e => ?_, fun e => ?_, Z1⟩
          · rw [unhide HS] at e
            simp only [Option.some.injEq, Prod.mk.injEq] at e
            obtain ⟨rfl, rfl⟩ := e
            refine ⟨la, sa, rfl, Z2, _, _, w3.heap.size, rfl, ?_, ?_⟩
            · exact ((unhide O4).stay okInt (fun k p q => Z4 k (by omega) (by omega))).wide okInt (by omega) (Nat.le_refl _)
            · have := ((unhide O5).stay okInt (fun k p q => Z4 k (by omega) (by omega)))
              rwa [← Z3] at this
          · rw [unhide HS] at e; cases e
end Go.Proofs.YtiiokkllmchohaaGreat
/- The code's reader: lists of frames. -/
namespace Go.Proofs.YtiiokkllmchohaaGreat
open Go.RowKit
attribute [local go_sem ↓] Go.wp_at_zero Go.wp_at_succ

set_option maxHeartbeats 1000000 in
set_option maxRecDepth 100000 in
theorem rd_m1 (locals : Nat) (s : List UInt8) (w : World) (br bb bm : Nat) (h : CRd w br s) (hn : locals ≤ 40) (cb : w.cell? ⟨bb, 0, none⟩ = some (.pointer (some ⟨br, 0, none⟩))) (cm : w.cell? ⟨bm, 3, none⟩ = some (.int .i64 (locals : Int))) :
    Calls Tryz.prog 196 #[.pointer (some ⟨bb, 0, none⟩), .pointer (some ⟨bm, 0, none⟩)] w fun e w' =>
    (∀ f r, pFrame locals s = some (f, r) → ∃ a b, e = .returned (.agg #[.int .i64 f.pc, .slice a f.locals.length f.locals.length, .slice b f.stack.length f.stack.length]) ∧ CRd w' br r ∧ EFr w' w.heap.size w'.heap.size [.int .i64 f.pc, .slice a f.locals.length f.locals.length, .slice b f.stack.length f.stack.length] f) ∧
    (pFrame locals s = none → e = .panicked (refC 1)) ∧ Mods (fun k => k = br) w w' := by
  have hbr := h.lt
  have hlb := cell_lt cb
  have hlm := cell_lt cm
  have hm0 := (Mods.refl (fun k => k = br) w).alloc (.cells #[.int .i64 0, .slice none 0 0, .slice none 0 0] 42)
  have b0 := Blk.new w #[.int .i64 0, .slice none 0 0, .slice none 0 0] 42
  have hR0 : CRd (w.alloc (.cells #[.int .i64 0, .slice none 0 0, .slice none 0 0] 42)) br s := Blk.alloc h _
  have hs0 : (w.alloc (.cells #[.int .i64 0, .slice none 0 0, .slice none 0 0] 42)).heap.size = w.heap.size + 1 := by simp
  have n0 : ¬ (w.heap.size = br) := by omega
  have HS0 := hide hs0
  clear hs0
  go_enter Tryz.func196, Tryz.ntmps196
  go_wp2_with fail
  generalize w.alloc _ = W at *
  have M0 := hide hm0
  have B0 := hide b0
  clear hm0 b0 h
  refine Calls.mono (rd_frame locals s _ br hR0 hn) ?_
  rintro e w1 ⟨h1, h2, hm⟩
  have M1 := hide ((unhide M0).trans hm (fun _ _ e => e))
  cases hp : pFrame locals s with
  | none =>
    obtain rfl := h2 hp
    have HP := hide hp
    clear hp
    go_wp2_with fail
    refine ⟨rfl, fun f r e => ?_, fun _ => rfl, unhide M1⟩
    rw [unhide HP] at e; cases e
  | some x =>
    obtain ⟨f, r⟩ := x
    obtain ⟨la, sa, rfl, hR1, hE⟩ := h1 f r hp
    have HP := hide hp
    have hB1 := (unhide B0).mods hm n0
    obtain ⟨⟨d0, d1, d2⟩, g0, g1, g2⟩ := blk3f hB1
    have HB1 := hide hB1
    have HR1 := hide hR1
    have HE := hide hE
    clear hp h1 h2 hm hB1 hR1 hE M0 B0 hR0
    go_wp2_with fail
    have Z0 := put3_blk (unhide HB1) (.int .i64 f.pc) (.slice la f.locals.length f.locals.length) (.slice sa f.stack.length f.stack.length)
    have Z1 := put3_mods (unhide M1) (Nat.le_refl _) (.int .i64 f.pc) (.slice la f.locals.length f.locals.length) (.slice sa f.stack.length f.stack.length)
    have Z2 : CRd (((w1.setCell ⟨w.heap.size, 0, none⟩ (.int .i64 f.pc)).setCell ⟨w.heap.size, 1, none⟩ (.slice la f.locals.length f.locals.length)).setCell ⟨w.heap.size, 2, none⟩ (.slice sa f.stack.length f.stack.length)) br r :=
      Blk.setCell_ne (Blk.setCell_ne (Blk.setCell_ne (unhide HR1) (p := ⟨w.heap.size, 0, none⟩) (by simp only; omega) _) (p := ⟨w.heap.size, 1, none⟩) (by simp only; omega) _) (p := ⟨w.heap.size, 2, none⟩) (by simp only; omega) _
    have Z3 : (((w1.setCell ⟨w.heap.size, 0, none⟩ (.int .i64 f.pc)).setCell ⟨w.heap.size, 1, none⟩ (.slice la f.locals.length f.locals.length)).setCell ⟨w.heap.size, 2, none⟩ (.slice sa f.stack.length f.stack.length)).heap.size = w1.heap.size := by simp [World.setCell]
    have Z4 : ∀ k, k ≠ w.heap.size → (((w1.setCell ⟨w.heap.size, 0, none⟩ (.int .i64 f.pc)).setCell ⟨w.heap.size, 1, none⟩ (.slice la f.locals.length f.locals.length)).setCell ⟨w.heap.size, 2, none⟩ (.slice sa f.stack.length f.stack.length)).heap[k]? = w1.heap[k]? := fun k hk => by
      rw [Below.heap_setCell _ _ _ _ hk, Below.heap_setCell _ _ _ _ hk, Below.heap_setCell _ _ _ _ hk]
    generalize World.setCell _ _ _ = Z at Z0 Z1 Z2 Z3 Z4 ⊢
    obtain ⟨z0, z1, z2⟩ := blk3 Z0
    refine bodyPost_ret (v := .agg #[.int .i64 f.pc, .slice la f.locals.length f.locals.length, .slice sa f.stack.length f.stack.length]) (by simp [results, Tryz.results196, go_sem, z0, z1, z2]) rfl ⟨fun f' r' e => ?_, fun e => ?_, Z1⟩
    · rw [unhide HP] at e
      simp only [Option.some.injEq, Prod.mk.injEq] at e
      obtain ⟨rfl, rfl⟩ := e
      refine ⟨la, sa, rfl, Z2, ?_⟩
      have hW := unhide HS0
      have := okFr.wide (lo' := w.heap.size) (hi' := w1.heap.size) (by omega) (Nat.le_refl _) (okFr.stay (fun k p q => Z4 k (by omega)) (unhide HE))
      rwa [← Z3] at this
    · rw [unhide HP] at e; cases e

theorem pInfoFrame : (Tryz.prog.info? 42).map (fun i => (i.zero, i.size, i.bytes)) = some (some (.agg #[.int .i64 0, .slice none 0 0, .slice none 0 0]), 3, 56) := by kernel_rfl

set_option maxHeartbeats 1000000 in
set_option maxRecDepth 100000 in
theorem rd_list_frame (n : Nat) (s : List UInt8) (w : World) (br : Nat) (locals bb bm : Nat) (h : CRd w br s) (hn : n ≤ 40) (hl : locals ≤ 40) (cb : w.cell? ⟨bb, 0, none⟩ = some (.pointer (some ⟨br, 0, none⟩))) (cm : w.cell? ⟨bm, 3, none⟩ = some (.int .i64 (locals : Int))) (hbb : bb ≠ br) (hbm : bm ≠ br) : Calls Tryz.prog 195 #[.int .i64 (n : Int), .func (.func 196) #[] #[.pointer (some ⟨bb, 0, none⟩), .pointer (some ⟨bm, 0, none⟩)]] w fun e w' =>
    (∀ l r, pL (pFrame locals) n s = some (l, r) → ∃ v, e = .returned v ∧ CRd w' br r ∧ OwnFs w' w.heap.size w'.heap.size v l) ∧ (pL (pFrame locals) n s = none → e = .panicked (refC 1)) ∧ Mods (fun k => k = br) w w' := by
  obtain ⟨i0, hi0, hz0, hz1, hz2⟩ := info_parts pInfoFrame
  have hbr := h.lt
  by_cases h0 : n = 0
  · subst h0
    go_enter Tryz.func195, Tryz.ntmps195
    go_wp2_with fail
    go_ret
    refine ⟨?_, ?_, Mods.refl _ _⟩
    · intro l r e
      cases e
      exact ⟨_, rfl, h, .inl ⟨rfl, rfl, Nat.le_refl _⟩⟩
    · intro e; cases e
  · have k0 : ((n : Int) == 0) = false := by simpa using h0
    have HR := hide h
    have H0 := hide h0
    clear h h0
    go_enter Tryz.func195, Tryz.ntmps195
    go_wp2_with (at_make; refine wpList_make_blk rfl (.tmp 9) (.tmp 9) 36 rfl 42 i0 (.agg #[.int .i64 0, .slice none 0 0, .slice none 0 0]) 3 56 Tryz.underlying36 hi0 hz0 hz1 hz2 _ _ _ n rfl rfl rfl (by omega) (by omega) ?_; intro w1 hb1 hm1 hs1)
    have hst : RdL 3 EFr (pFrame locals) 42 n s br w.heap.size w w1 0 s (madeCells (Value.agg #[.int .i64 0, .slice none 0 0, .slice none 0 0]).cells (n * 3)).toList [] := ⟨hb1, pMade_len _ _, ⟨w1.heap.size, Nat.le_refl _, by simp [OwnL]; omega⟩, rfl, Blk.mods (unhide HR) hm1 (fun f => f), hm1.mono (fun _ _ f => f.elim), by simp, Nat.le_refl _, hbr⟩
    have HST := hide hst
    generalize (madeCells (Value.agg #[.int .i64 0, .slice none 0 0, .slice none 0 0]).cells (n * 3)).toList = cs0 at *
    clear hst hb1 hm1 hs1
    generalize hg : w.heap.size = g at *
    have HG := hide hg
    clear hg
    go_loopw [13] (fun i wr => ∃ (k : Nat) (t : List UInt8) (cs : List Value) (done : List LFrame), k ≤ n ∧ i = .int .i64 k ∧ RdL 3 EFr (pFrame locals) 42 n s br g w wr k t cs done) (fun i _ => n - (intOf i).toNat)
    case atStart => exact ⟨0, s, cs0, [], Nat.zero_le _, rfl, unhide HST⟩
    case round =>
      obtain ⟨k, t, cs, done, hk, rfl, hL⟩ := hrel
      have HL := hide hL
      clear hL
      by_cases hlt : k < n
      · have hgb : ¬ (g = br) := by have := (unhide HL).new; have := (unhide HL).old; omega
        cases hp : pFrame locals t with
        | none =>
          have HN := hide ((unhide HL).none hlt hp)
          go_wp2_with fail
          refine Calls.mono (rd_m1 locals t _ br bb bm (unhide HL).rd hl ((unhide HL).mods.cell cb hbb) ((unhide HL).mods.cell cm hbm)) ?_
          rintro e w2 ⟨h1, h2, hm⟩
          obtain rfl := h2 hp
          go_wp2_with fail
          refine ⟨rfl, ?_, fun _ => rfl, (unhide HL).mods.trans hm (fun _ _ e => e)⟩
          intro l r e
          rw [unhide HN] at e; cases e
        | some x =>
          obtain ⟨x, t2⟩ := x
          have HP := hide hp
          clear hp
          go_wp2_with fail
          refine Calls.mono (rd_m1 locals t _ br bb bm (unhide HL).rd hl ((unhide HL).mods.cell cb hbb) ((unhide HL).mods.cell cm hbm)) ?_
          rintro e w2 ⟨h1, h2, hm⟩
          obtain ⟨la, sa, rfl, hR2, hE⟩ := h1 x t2 (unhide HP)
          have HE := hide hE
          clear hE
          have hB2 := (unhide HL).blk.mods hm hgb
          have hkl : k * 3 + 3 ≤ cs.length := by rw [(unhide HL).len]; omega
          have c0 : w2.cell? ⟨g, k * 3, none⟩ = some (cs[k * 3]'(by omega)) := by rw [hB2.cell]; exact List.getElem?_eq_getElem _
          have c1 : w2.cell? ⟨g, k * 3 + 1, none⟩ = some (cs[k * 3 + 1]'(by omega)) := by rw [hB2.cell]; exact List.getElem?_eq_getElem _
          have c2 : w2.cell? ⟨g, k * 3 + 2, none⟩ = some (cs[k * 3 + 2]'(by omega)) := by rw [hB2.cell]; exact List.getElem?_eq_getElem _
          have f0 := hB2.frozen (k * 3)
          have f1 := hB2.frozen (k * 3 + 1)
          have f2 := hB2.frozen (k * 3 + 2)
          generalize cs[k * 3]'(by omega) = u0 at *
          generalize cs[k * 3 + 1]'(by omega) = u1 at *
          generalize cs[k * 3 + 2]'(by omega) = u2 at *
          have HB2 := hide hB2
          have HM := hide hm
          have HR2 := hide hR2
          clear h1 h2 hB2 hm hR2 hgb
          go_wp2_with fail
          obtain ⟨r1, r2, r3⟩ := row3_blk (unhide HB2) (k * 3) (.int .i64 x.pc) (.slice la x.locals.length x.locals.length) (.slice sa x.stack.length x.stack.length)
          refine ⟨⟨k + 1, t2, _, done ++ [x], by omega, by go_num, (unhide HL).step okFr hlt (unhide HP) (unhide HR2) (c := [.int .i64 x.pc, .slice la x.locals.length x.locals.length, .slice sa x.stack.length x.stack.length]) rfl (unhide HE) (unhide HM) r1 (by simp) (by rw [Nat.succ_mul]; exact take_set3 hkl _ _ _) r2 r3⟩, by simp [intOf]; omega⟩
      · obtain rfl : k = n := by omega
        obtain ⟨e1, e2⟩ := (unhide HL).full okFr (unhide H0)
        have E1 := hide e1
        have E2 := hide e2
        clear e1 e2
        go_wp2_with fail
        go_ret
        refine ⟨?_, ?_, (unhide HL).mods⟩
        · intro l r e
          rw [unhide E1] at e
          simp only [Option.some.injEq, Prod.mk.injEq] at e
          obtain ⟨rfl, rfl⟩ := e
          refine ⟨_, rfl, (unhide HL).rd, ?_⟩
          have := unhide E2
          rwa [unhide HG] at this
        · intro e
          rw [unhide E1] at e; cases e
end Go.Proofs.YtiiokkllmchohaaGreat
