/- What lies in memory of its own: lists that the reader makes; counts, types. -/
import Derived.Test.YtiiokkllmchohaaT09
import Derived.Test.YtiiokkllmchohaaT19
/- ParseC -/
namespace Go.Proofs.Ytiiokkllmchohaa
open Go.RowKit
attribute [local go_sem ↓] Go.wp_at_zero Go.wp_at_succ

abbrev OwnE (α : Type) := World → Nat → Nat → List Value → α → Prop
/-- Things, one behind the other, each of sz cells; what they own lies in blocks from lo to below hi. -/
def OwnL {α : Type} (sz : Nat) (R : OwnE α) (w : World) : Nat → Nat → List Value → List α → Prop
  | lo, hi, cells, [] => cells = [] ∧ lo ≤ hi
  | lo, hi, cells, x :: r => ∃ c1 c2 mid, cells = c1 ++ c2 ∧ c1.length = sz ∧ R w lo mid c1 x ∧ OwnL sz R w mid hi c2 r
/-- A slice in a block of its own, just as long as it is; an empty one is nil. -/
def OwnSl {α : Type} (t : TypeId) (sz : Nat) (R : OwnE α) (w : World) (lo hi : Nat) (v : Value) (l : List α) : Prop :=
  (l = [] ∧ v = .slice none 0 0 ∧ lo ≤ hi) ∨ (l ≠ [] ∧ ∃ g cells, lo ≤ g ∧ v = .slice (some ⟨g, 0, none⟩) l.length l.length ∧ Blk w g t cells ∧ OwnL sz R w (g + 1) hi cells l)
/-- What elements must keep to. -/
structure OwnOk {α : Type} (R : OwnE α) : Prop where
  le : ∀ {w lo hi c x}, R w lo hi c x → lo ≤ hi
  stay : ∀ {w w' lo hi c x}, (∀ k, lo ≤ k → k < hi → w'.heap[k]? = w.heap[k]?) → R w lo hi c x → R w' lo hi c x
  wide : ∀ {w lo hi lo' hi' c x}, lo' ≤ lo → hi ≤ hi' → R w lo hi c x → R w lo' hi' c x
section
variable {α : Type} {sz : Nat} {R : OwnE α} {t : TypeId}
theorem OwnL.le (ok : OwnOk R) {w : World} : ∀ {l : List α} {lo hi : Nat} {cells : List Value}, OwnL sz R w lo hi cells l → lo ≤ hi
  | [], _, _, _, h => h.2
  | _ :: _, _, _, _, ⟨_, _, _, _, _, h1, h2⟩ => Nat.le_trans (ok.le h1) (OwnL.le ok h2)
theorem OwnL.stay (ok : OwnOk R) {w w' : World} : ∀ {l : List α} {lo hi : Nat} {cells : List Value}, (∀ k, lo ≤ k → k < hi → w'.heap[k]? = w.heap[k]?) → OwnL sz R w lo hi cells l → OwnL sz R w' lo hi cells l
  | [], _, _, _, _, h => h
  | _ :: _, _, _, _, hk, ⟨c1, c2, mid, e, hl, h1, h2⟩ => ⟨c1, c2, mid, e, hl, ok.stay (fun k h h' => hk k h (Nat.lt_of_lt_of_le h' (OwnL.le ok h2))) h1, OwnL.stay ok (fun k h h' => hk k (Nat.le_trans (ok.le h1) h) h') h2⟩
theorem OwnL.wide (ok : OwnOk R) {w : World} : ∀ {l : List α} {lo hi lo' hi' : Nat} {cells : List Value}, lo' ≤ lo → hi ≤ hi' → OwnL sz R w lo hi cells l → OwnL sz R w lo' hi' cells l
  | [], _, _, _, _, _, h1, h2, h => ⟨h.1, by have := h.2; omega⟩
  | _ :: _, _, _, _, _, _, h1, h2, ⟨c1, c2, mid, e, hl, g1, g2⟩ => ⟨c1, c2, mid, e, hl, ok.wide h1 (Nat.le_refl _) g1, OwnL.wide ok (Nat.le_refl _) h2 g2⟩
theorem OwnL.snoc (ok : OwnOk R) {w : World} {x : α} {c : List Value} {mid hi : Nat} (hc : c.length = sz) (hx : R w mid hi c x) : ∀ {l : List α} {lo : Nat} {cells : List Value}, OwnL sz R w lo mid cells l → OwnL sz R w lo hi (cells ++ c) (l ++ [x])
  | [], _, _, h => ⟨c, [], hi, by rw [h.1]; simp, hc, ok.wide h.2 (Nat.le_refl _) hx, rfl, Nat.le_refl _⟩
  | _ :: _, _, _, ⟨c1, c2, m, e, hl, h1, h2⟩ => ⟨c1, c2 ++ c, m, by rw [e, List.append_assoc], hl, h1, OwnL.snoc ok hc hx h2⟩
theorem OwnL.len {w : World} : ∀ {l : List α} {lo hi : Nat} {cells : List Value}, OwnL sz R w lo hi cells l → cells.length = l.length * sz
  | [], _, _, _, h => by rw [h.1]; simp
  | _ :: r, _, _, _, ⟨c1, c2, _, e, hl, _, h2⟩ => by rw [e, List.length_append, hl, OwnL.len h2, List.length_cons, Nat.succ_mul]; omega
theorem OwnSl.le (ok : OwnOk R) {w : World} {lo hi : Nat} {v : Value} {l : List α} (h : OwnSl t sz R w lo hi v l) : lo ≤ hi := by
  rcases h with ⟨_, _, h⟩ | ⟨_, g, cells, h1, _, _, h2⟩
  · exact h
  · have := OwnL.le ok h2; omega
theorem OwnSl.stay (ok : OwnOk R) {w w' : World} {lo hi : Nat} {v : Value} {l : List α} (hk : ∀ k, lo ≤ k → k < hi → w'.heap[k]? = w.heap[k]?) (h : OwnSl t sz R w lo hi v l) : OwnSl t sz R w' lo hi v l := by
  rcases h with h | ⟨hn, g, cells, h1, e, hb, h2⟩
  · exact .inl h
  · have := OwnL.le ok h2
    exact .inr ⟨hn, g, cells, h1, e, (hk g h1 (by omega)).trans hb, OwnL.stay ok (fun k h h' => hk k (by omega) h') h2⟩
theorem OwnSl.wide (ok : OwnOk R) {w : World} {lo hi lo' hi' : Nat} {v : Value} {l : List α} (h1 : lo' ≤ lo) (h2 : hi ≤ hi') (h : OwnSl t sz R w lo hi v l) : OwnSl t sz R w lo' hi' v l := by
  rcases h with ⟨a, b, c⟩ | ⟨hn, g, cells, g1, e, hb, g2⟩
  · exact .inl ⟨a, b, by omega⟩
  · exact .inr ⟨hn, g, cells, by omega, e, hb, OwnL.wide ok (Nat.le_refl _) h2 g2⟩
theorem OwnSl.form {w : World} {lo hi : Nat} {v : Value} {l : List α} (h : OwnSl t sz R w lo hi v l) : ∃ a, v = .slice a l.length l.length := by
  rcases h with ⟨rfl, rfl, _⟩ | ⟨_, g, _, _, rfl, _⟩
  · exact ⟨none, rfl⟩
  · exact ⟨_, rfl⟩
end
def EInt : OwnE Int := fun _ lo hi c x => c = [.int .i64 x] ∧ lo ≤ hi
def EIns : OwnE LIns := fun _ lo hi c i => c = [.int .i64 i.op, .int .i64 i.a, .int .i64 i.b] ∧ lo ≤ hi
abbrev OwnTs := OwnSl 52 1 EInt
abbrev OwnIs := OwnSl 54 3 EIns
def EFr : OwnE LFrame := fun w lo hi c f => ∃ vl vs mid, c = [.int .i64 f.pc, vl, vs] ∧ OwnTs w lo mid vl f.locals ∧ OwnTs w mid hi vs f.stack
abbrev OwnFs := OwnSl 103 3 EFr
def EMe : OwnE LMeth := fun w lo hi c m => ∃ va vc vf m1 m2, c = [.int .i64 m.slot, va, .int .i64 m.ret, .int .i64 m.locals, .int .i64 m.stack, vc, vf] ∧ OwnTs w lo m1 va m.args ∧ OwnIs w m1 m2 vc m.code ∧ OwnFs w m2 hi vf m.frames
abbrev OwnMs := OwnSl 58 7 EMe
def ECl : OwnE LClass := fun w lo hi c x => ∃ vf vm mid, c = [.int .i64 x.sup, vf, vm] ∧ OwnTs w lo mid vf x.fields ∧ OwnMs w mid hi vm x.meths
abbrev OwnCs := OwnSl 34 3 ECl
theorem okInt : OwnOk EInt := ⟨fun h => h.2, fun _ h => h, fun h1 h2 h => ⟨h.1, by have := h.2; omega⟩⟩
theorem okIns : OwnOk EIns := ⟨fun h => h.2, fun _ h => h, fun h1 h2 h => ⟨h.1, by have := h.2; omega⟩⟩
theorem okFr : OwnOk EFr := by
  refine ⟨?_, ?_, ?_⟩
  · rintro w lo hi c x ⟨vl, vs, mid, e, h1, h2⟩
    exact Nat.le_trans (h1.le okInt) (h2.le okInt)
  · rintro w w' lo hi c x hk ⟨vl, vs, mid, e, h1, h2⟩
    have a := h1.le okInt
    have b := h2.le okInt
    exact ⟨vl, vs, mid, e, h1.stay okInt (fun k p q => hk k p (by omega)), h2.stay okInt (fun k p q => hk k (by omega) q)⟩
  · rintro w lo hi lo' hi' c x a b ⟨vl, vs, mid, e, h1, h2⟩
    exact ⟨vl, vs, mid, e, h1.wide okInt a (Nat.le_refl _), h2.wide okInt (Nat.le_refl _) b⟩
theorem okMe : OwnOk EMe := by
  refine ⟨?_, ?_, ?_⟩
  · rintro w lo hi c x ⟨va, vc, vf, m1, m2, e, h1, h2, h3⟩
    exact Nat.le_trans (h1.le okInt) (Nat.le_trans (h2.le okIns) (h3.le okFr))
  · rintro w w' lo hi c x hk ⟨va, vc, vf, m1, m2, e, h1, h2, h3⟩
    have a := h1.le okInt
    have b := h2.le okIns
    have d := h3.le okFr
    exact ⟨va, vc, vf, m1, m2, e, h1.stay okInt (fun k p q => hk k p (by omega)), h2.stay okIns (fun k p q => hk k (by omega) (by omega)), h3.stay okFr (fun k p q => hk k (by omega) q)⟩
  · rintro w lo hi lo' hi' c x a b ⟨va, vc, vf, m1, m2, e, h1, h2, h3⟩
    exact ⟨va, vc, vf, m1, m2, e, h1.wide okInt a (Nat.le_refl _), h2, h3.wide okFr (Nat.le_refl _) b⟩
theorem okCl : OwnOk ECl := by
  refine ⟨?_, ?_, ?_⟩
  · rintro w lo hi c x ⟨vl, vs, mid, e, h1, h2⟩
    exact Nat.le_trans (h1.le okInt) (h2.le okMe)
  · rintro w w' lo hi c x hk ⟨vl, vs, mid, e, h1, h2⟩
    have a := h1.le okInt
    have b := h2.le okMe
    exact ⟨vl, vs, mid, e, h1.stay okInt (fun k p q => hk k p (by omega)), h2.stay okMe (fun k p q => hk k (by omega) q)⟩
  · rintro w lo hi lo' hi' c x a b ⟨vl, vs, mid, e, h1, h2⟩
    exact ⟨vl, vs, mid, e, h1.wide okInt a (Nat.le_refl _), h2.wide okMe (Nat.le_refl _) b⟩
/-- Only the reader's own block, of those that were there, may have changed. -/
theorem Mods.same {br : Nat} {w w' : World} (h : Mods (fun k => k = br) w w') {lo : Nat} (hb : br < lo) {hi : Nat} (hh : hi ≤ w.heap.size) : ∀ k, lo ≤ k → k < hi → w'.heap[k]? = w.heap[k]? :=
  fun k h1 h2 => h.block k (by omega) (by omega)
theorem take_set1 {cs : List Value} {i : Nat} (h : i < cs.length) (a : Value) : (cs.set i a).take (i + 1) = cs.take i ++ [a] := by
  rw [List.take_add_one, List.take_set_of_le (Nat.le_refl _), List.getElem?_set_self h]; rfl

set_option maxHeartbeats 400000 in
theorem rd_count (most : Nat) (s : List UInt8) (w : World) (br : Nat) (h : CRd w br s) : Calls Try.prog 33 #[.pointer (some ⟨br, 0, none⟩), .int .i64 (most : Int)] w fun e w' =>
    (∀ n r, pC most s = some (n, r) → e = .returned (.int .i64 (n : Int)) ∧ CRd w' br r) ∧ (pC most s = none → e = .panicked (refC 1)) ∧ Mods (fun k => k = br) w w' := by
  go_enter Try.func33, Try.ntmps33
  go_wp2_with fail
  refine Calls.mono (rd_number s _ br h) ?_
  rintro e w1 ⟨h1, h2, hm⟩
  cases hp : pN s with
  | none =>
    obtain rfl := h2 hp
    have HN : Hid (pC most s = none) := by show _ = _; unfold pC; rw [hp]; rfl
    go_wp2_with fail
    refine ⟨rfl, ?_, fun _ => rfl, hm⟩
    intro n r e
    rw [unhide HN] at e; cases e
  | some x =>
    obtain ⟨n, r⟩ := x
    obtain ⟨rfl, hR⟩ := h1 n r hp
    have HP := hide hp
    have HR := hide hR
    clear h1 h2 hp hR
    by_cases hc : n < 0 ∨ (most : Int) < n
    · have HN : Hid (pC most s = none) := by show _ = _; unfold pC; rw [unhide HP, Option.bind_some, if_pos hc]
      by_cases h0 : n < 0
      · go_wp2_with (go_at_call 35; refine (wire_giveUp _).mono ?_; rintro e w' ⟨rfl, rfl⟩)
        refine ⟨rfl, ?_, fun _ => rfl, hm⟩
        intro n r e
        rw [unhide HN] at e; cases e
      · have h3 : (most : Int) < n := by omega
        clear hc
        go_wp2_with (go_at_call 35; refine (wire_giveUp _).mono ?_; rintro e w' ⟨rfl, rfl⟩)
        refine ⟨rfl, ?_, fun _ => rfl, hm⟩
        intro n r e
        rw [unhide HN] at e; cases e
    · have HN : Hid (pC most s = some (n.toNat, r)) := by show _ = _; unfold pC; rw [unhide HP, Option.bind_some, if_neg hc]
      have h0 : ¬ n < 0 := by omega
      have h3 : ¬ (most : Int) < n := by omega
      have HZ := hide (Int.toNat_of_nonneg (Int.not_lt.1 h0))
      clear hc
      go_wp2_with fail
      go_ret
      refine ⟨?_, ?_, hm⟩
      · intro n' r' e
        rw [unhide HN] at e
        simp only [Option.some.injEq, Prod.mk.injEq] at e
        obtain ⟨rfl, rfl⟩ := e
        exact ⟨ret_int (unhide HZ).symm, unhide HR⟩
      · intro e
        rw [unhide HN] at e; cases e

set_option maxHeartbeats 400000 in
theorem rd_kind (s : List UInt8) (w : World) (br : Nat) (h : CRd w br s) : Calls Try.prog 61 #[.pointer (some ⟨br, 0, none⟩)] w fun e w' =>
    (∀ n r, pN s = some (n, r) → e = .returned (.int .i64 n) ∧ CRd w' br r) ∧ (pN s = none → e = .panicked (refC 1)) ∧ Mods (fun k => k = br) w w' := by
  go_enter Try.func61, Try.ntmps61
  go_wp2_with fail
  refine Calls.mono (rd_number s _ br h) ?_
  rintro e w1 ⟨h1, h2, hm⟩
  cases hp : pN s with
  | none =>
    obtain rfl := h2 hp
    have HP := hide hp
    clear hp
    go_wp2_with fail
    refine ⟨rfl, ?_, fun _ => rfl, hm⟩
    intro n r e
    rw [unhide HP] at e; cases e
  | some x =>
    obtain ⟨n, r⟩ := x
    obtain ⟨rfl, hR⟩ := h1 n r hp
    have HR := hide hR
    have HP := hide hp
    clear h1 h2 hp hR
    go_wp2_with fail
    go_ret
    refine ⟨?_, ?_, hm⟩
    · intro n' r' e
      rw [unhide HP] at e
      simp only [Option.some.injEq, Prod.mk.injEq] at e
      obtain ⟨rfl, rfl⟩ := e
      exact ⟨rfl, unhide HR⟩
    · intro e
      rw [unhide HP] at e; cases e
end Go.Proofs.Ytiiokkllmchohaa
/- What the law's hands keep of what came out: entries, their rows, an append that keeps what was there. -/
namespace Go.Proofs.Ytiiokkllmchohaa
open Go.RowKit

/-- append(v, x), v a slice of the call's own: x lies in the newest block; what v showed stays. -/
theorem app_keep {P : Program} {W : World} (t ty e : TypeId) (i : TypeInfo) (z : Value) (size bytes : Nat) (ht : P.underlying t = some (.slice e)) (hi : P.info? e = some i) (hz : i.zero = some z)
    (hsize : i.size = size) (hby : i.bytes = bytes) (hzs : z.cells.size = size) (hsz : 0 < size) (base : Nat) (v : Value) (n : Nat) (xs : List Value) (hown : W.ownsRow base e size v n xs)
    (news : Array Value) (hl : news.size = size) (h1 : ∀ u ∈ news.toList, u.oneCell' = true) (H : Nat) (hH : W.heap.size = H) (h63 : n + 1 ≤ maxLen) (hbytes : (n + 1) * bytes ≤ 140737488355328) (hbase : base ≤ W.heap.size) :
    ∃ v' W', (Builtin.append_ #[t, t] ty #[v, .slice (some ⟨H, 0, none⟩) 1 1]).run P (W.alloc (.cells news e)) = .ok v' W' ∧ W'.ownsRow base e size v' (n + 1) (xs ++ news.toList) ∧
      Mods (fun k => v.ownBlock = some k) W W' ∧ (v'.ownBlock = v.ownBlock ∨ ∃ k, H ≤ k ∧ v'.ownBlock = some k) ∧
      ∀ g cur, v.ownBlock = some g → Blk W g e cur → ∃ cur', Blk W' g e cur' ∧ cur'.take (n * size) = xs := by
  have hown' := own_mods hown ((Mods.refl (fun _ => False) W).alloc (.cells news e)) (fun _ _ f => f)
  have hnews : ∀ j u, news.toList[j]? = some u → (W.alloc (.cells news e)).cell? ((⟨H, 0, none⟩ : Addr).add j) = some u := fun j u h => by
    subst hH
    have := (Blk.new W news e).cell j
    rw [show (⟨W.heap.size, 0, none⟩ : Addr).add j = ⟨W.heap.size, j, none⟩ by unfold Addr.add; split <;> simp_all, this]
    exact h
  have hl' : news.toList.length = 1 * size := by simpa using hl
  obtain ⟨v', W', hr, h2, h3, _, h5⟩ := run_append_own_at (P := P) (W.alloc (.cells news e)) base t ty e i z size bytes ht hi hz hsize hby hzs hsz v n xs hown' ⟨H, 0, none⟩ 1 1 news.toList hl' hnews h1 h63 hbytes (by simp; omega)
  refine ⟨v', W', hr, h2, ((Mods.refl _ W).alloc _).grown h3 (fun k e _ => e), ?_, fun g cur hg hb => ?_⟩
  · rcases h5 with h5 | h5
    · exact .inl h5
    · exact .inr ⟨_, by simp [hH], h5⟩
  · rcases h5 with h5 | h5
    · rw [hg] at h5
      rcases h2.2 with ⟨rfl, _⟩ | ⟨g', cap, cur', rfl, _, hg', _, _, _, htk⟩
      · cases h5
      · obtain rfl : g' = g := by simpa [Value.ownBlock] using h5
        refine ⟨cur'.toList, by unfold Blk; simpa using hg', ?_⟩
        have e1 : cur'.toList.take (n * size) = (cur'.toList.take ((n + 1) * size)).take (n * size) := by rw [List.take_take, Nat.min_eq_left (Nat.mul_le_mul_right _ (by omega))]
        rw [e1, htk, ← hown.1]
        exact List.take_left
    · have hgs : g ≠ (W.alloc (.cells news e)).heap.size := by have := hb.lt; simp; omega
      rcases hown'.2 with ⟨rfl, _⟩ | ⟨g', cap, cur0, rfl, _, hg0, hnc, _, hcs, htk⟩
      · cases hg
      · obtain rfl : g' = g := by simpa [Value.ownBlock] using hg
        by_cases hroom : n + 1 ≤ cap
        · have hfit : n * i.size + news.toList.length ≤ cur0.size := by rw [hl', hcs, hsize, ← Nat.add_mul]; exact Nat.mul_le_mul_right _ hroom
          have hr2 := run_append_room (P := P) (W.alloc (.cells news e)) t ty e i ht hi g' n cap cur0 hg0 ⟨H, 0, none⟩ 1 1 news.toList (by rw [hsize]; exact hl') hnews h1 hroom hfit
          rw [hr] at hr2
          simp only [Result.ok.injEq] at hr2
          rw [hr2.1] at h5
          simp [Value.ownBlock] at h5
          exact absurd h5 (by simpa using hgs)
        · have hr2 := run_append_grow (P := P) (W.alloc (.cells news e)) t ty e i z ht hi hz ⟨g', 0, none⟩ n cap xs (by rw [hsize]; exact hown.1) (hown'.cells (g := g') rfl) ⟨H, 0, none⟩ 1 1 news.toList (by rw [hsize]; exact hl') hnews (by omega) (by simp only [maxLen] at h63; omega) (growslice_fits (by omega) (by rw [hby]; exact hbytes))
          rw [hr] at hr2
          simp only [Result.ok.injEq] at hr2
          refine ⟨cur0.toList, ?_, htk⟩
          rw [hr2.2]
          unfold Blk
          rw [Below.heap_alloc _ _ _ (by show g' < (W.alloc (.cells news e)).heap.size; exact (Array.getElem?_eq_some_iff.1 hg0).1)]
          show (W.alloc (.cells news e)).heap[g']? = _
          simpa using hg0

/-- So many times the same cells. -/
def fillP (p : List Value) (n : Nat) : List Value := (List.replicate n ()).flatMap fun _ => p
theorem fillP_succ (p : List Value) (n : Nat) : fillP p (n + 1) = fillP p n ++ p := by
  unfold fillP
  rw [List.replicate_succ', List.flatMap_append]
  simp
theorem fillP_len {p : List Value} {sz : Nat} (h : p.length = sz) (n : Nat) : (fillP p n).length = n * sz := by
  induction n with
  | zero => simp [fillP]
  | succ n ih => rw [fillP_succ, List.length_append, ih, h, Nat.succ_mul]
theorem fillP_get {p : List Value} {sz : Nat} (h : p.length = sz) {n i r : Nat} (hi : i < n) (hr : r < sz) : (fillP p n)[i * sz + r]? = p[r]? := by
  unfold fillP
  rw [flat_get (f := fun (_ : Unit) => p) (s := sz) (fun _ => h) _ i r hr]
  simp [hi]

/-- A list that came out: its block, its length, its capacity, its mark. -/
structure Ent where
  a : Option Nat
  len : Nat
  cap : Nat
  m : Int
def Ent.sl (e : Ent) : Value := .slice (e.a.map fun g => ⟨g, 0, none⟩) e.len e.cap
def Ent.mv (e : Ent) : Value := .int .i64 e.m
/-- It still reads as its owner wrote it. -/
def EntOk (w : World) (ei : TypeId) (sz : Nat) (pat : Int → List Value) (e : Ent) : Prop := (e.a = none → e.len = 0) ∧ e.len ≤ 1048576 ∧ ∀ g, e.a = some g → ∃ cs, Blk w g ei cs ∧ cs.take (e.len * sz) = fillP (pat e.m) e.len
theorem EntOk.mods {w w' : World} {ei : TypeId} {sz : Nat} {pat : Int → List Value} {e : Ent} {S : Nat → Prop} (h : EntOk w ei sz pat e) (m : Mods S w w') (hs : ∀ g, e.a = some g → ¬ S g) : EntOk w' ei sz pat e :=
  ⟨h.1, h.2.1, fun g hg => by obtain ⟨cs, h1, h2⟩ := h.2.2 g hg; exact ⟨cs, h1.mods m (hs g hg), h2⟩⟩

/-- The kinds of lists: types, instructions, frames, methods, classes, numbers. -/
def kdO : Nat → TypeId
  | 0 => 31
  | 1 => 55
  | 2 => 56
  | 3 => 32
  | 4 => 22
  | _ => 42
def kdI : Nat → TypeId
  | 0 => 52
  | 1 => 54
  | 2 => 103
  | 3 => 58
  | 4 => 34
  | _ => 3
def kdZ : Nat → Nat
  | 0 => 1
  | 1 => 3
  | 2 => 3
  | 3 => 7
  | 4 => 3
  | _ => 1
def kdP : Nat → Int → List Value
  | 0, m => [.int .i64 m]
  | 1, m => [.int .i64 m, .int .i64 0, .int .i64 0]
  | 2, m => [.int .i64 m, .slice none 0 0, .slice none 0 0]
  | 3, m => [.int .i64 m, .slice none 0 0, .int .i64 0, .int .i64 0, .int .i64 0, .slice none 0 0, .slice none 0 0]
  | 4, m => [.int .i64 m, .slice none 0 0, .slice none 0 0]
  | _, m => [.int .i64 m]
/-- Field f of the hands lies in block k. -/
def OwnAt (cs : List Value) (f k : Nat) : Prop := ∃ v, cs[f]? = some v ∧ v.ownBlock = some k
/-- The element type of the hands' row f. -/
def fty (f : Nat) : TypeId := if f % 2 = 1 then kdO ((f - 7) / 2) else 3
/-- The hands: their rows hold rs, the lists that came out are es. -/
structure KGen (w : World) (bh : Nat) (cs : List Value) (n : Nat) (es : Nat → List Ent) (rs : Nat → List Value) : Prop where
  hands : HBlk w bh cs
  nil : ∀ j, j < 6 → cs[j]? = some (.slice none 0 0)
  c6 : cs[6]? = some (.int .i64 (n : Int))
  row : ∀ f, 7 ≤ f → f < 19 → ∃ v, cs[f]? = some v ∧ w.ownsRow (bh + 1) (fty f) 1 v (rs f).length (rs f)
  apart : ∀ f f' k, OwnAt cs f k → OwnAt cs f' k → f = f'
  ent : ∀ i, i < 6 → ∀ e ∈ es i, EntOk w (kdI i) (kdZ i) (kdP i) e
  off : ∀ i, i < 6 → ∀ e ∈ es i, ∀ g, e.a = some g → g ≠ bh ∧ ∀ f, ¬ OwnAt cs f g
def rsOf (es : Nat → List Ent) (f : Nat) : List Value := if f % 2 = 1 then (es ((f - 7) / 2)).map Ent.sl else (es ((f - 8) / 2)).map Ent.mv
/-- The hands, between two calls. -/
abbrev KInv (w : World) (bh : Nat) (cs : List Value) (n : Nat) (es : Nat → List Ent) : Prop := KGen w bh cs n es (rsOf es)
def upd {α : Type} (g : Nat → α) (i : Nat) (x : α) : Nat → α := fun j => if j = i then x else g j
theorem upd_self {α : Type} (g : Nat → α) (i : Nat) (x : α) : upd g i x i = x := by unfold upd; rw [if_pos rfl]
theorem upd_ne {α : Type} (g : Nat → α) {i j : Nat} (x : α) (h : j ≠ i) : upd g i x j = g j := by unfold upd; rw [if_neg h]
section
variable {w w' : World} {bh : Nat} {cs : List Value} {n : Nat} {es : Nat → List Ent} {rs : Nat → List Value}
theorem KGen.own (h : KGen w bh cs n es rs) {f k : Nat} (hf : OwnAt cs f k) : (7 ≤ f ∧ f < 19) ∧ bh < k ∧ k < w.heap.size := by
  obtain ⟨v, hv, hk⟩ := hf
  have hl := h.hands.2
  have hf19 : f < cs.length := (List.getElem?_eq_some_iff.1 hv).1
  rcases Nat.lt_or_ge f 6 with h6 | h6
  · rw [h.nil f h6] at hv; cases hv; cases hk
  rcases Nat.eq_or_lt_of_le h6 with h6 | h6
  · subst h6; rw [h.c6] at hv; cases hv; cases hk
  · obtain ⟨v', hv', hr⟩ := h.row f h6 (by omega)
    rw [hv] at hv'
    cases hv'
    have := hr.lt k hk
    omega
theorem KGen.ty (h : KGen w bh cs n es rs) {f k : Nat} (hf : OwnAt cs f k) : ∃ c, Blk w k (fty f) c := by
  obtain ⟨⟨h7, h19⟩, _⟩ := h.own hf
  obtain ⟨v, hv, hr⟩ := h.row f h7 h19
  obtain ⟨v', hv', hk⟩ := hf
  rw [hv] at hv'
  cases hv'
  exact own_blk hr hk
theorem KGen.mods {S : Nat → Prop} (h : KGen w bh cs n es rs) (m : Mods S w w') (hb : ¬ S bh) (hr : ∀ f k, OwnAt cs f k → ¬ S k) (he : ∀ i, i < 6 → ∀ e ∈ es i, ∀ g, e.a = some g → ¬ S g) : KGen w' bh cs n es rs :=
  ⟨⟨h.hands.1.mods m hb, h.hands.2⟩, h.nil, h.c6, fun i h7 h19 => by obtain ⟨v, h1, h2⟩ := h.row i h7 h19; exact ⟨v, h1, own_mods h2 m (fun g hg => hr _ g ⟨v, h1, hg⟩)⟩, h.apart, fun i hi e hm => (h.ent i hi e hm).mods m (he i hi e hm), h.off⟩
theorem KGen.congr {rs' : Nat → List Value} (h : KGen w bh cs n es rs) (e : ∀ f, 7 ≤ f → f < 19 → rs f = rs' f) : KGen w bh cs n es rs' :=
  ⟨h.hands, h.nil, h.c6, fun f h7 h19 => by rw [← e f h7 h19]; exact h.row f h7 h19, h.apart, h.ent, h.off⟩
/-- The next mark. -/
theorem KGen.mark (h : KGen w bh cs n es rs) (n' : Nat) (hh : HBlk w' bh (cs.set 6 (.int .i64 (n' : Int)))) (m : Mods (fun k => k = bh) w w') : KGen w' bh (cs.set 6 (.int .i64 (n' : Int))) n' es rs ∧ ∀ f k, OwnAt (cs.set 6 (.int .i64 (n' : Int))) f k → OwnAt cs f k := by
  have hl := h.hands.2
  have ho : ∀ f k, OwnAt (cs.set 6 (.int .i64 (n' : Int))) f k → OwnAt cs f k := fun f k hf => by
    obtain ⟨v, hv, hk⟩ := hf
    by_cases e : f = 6
    · subst e
      rw [List.getElem?_set_self (by omega)] at hv
      cases hv; cases hk
    · rw [List.getElem?_set_ne (fun x => e x.symm)] at hv
      exact ⟨v, hv, hk⟩
  refine ⟨⟨hh, fun j hj => by rw [List.getElem?_set_ne (by omega)]; exact h.nil j hj, List.getElem?_set_self (by omega), fun f h7 h19 => ?_, fun f f' k a b => h.apart f f' k (ho _ _ a) (ho _ _ b), fun i hi e he => (h.ent i hi e he).mods m (fun g hg => (h.off i hi e he g hg).1), fun i hi e he g hg => ⟨(h.off i hi e he g hg).1, fun f hf => (h.off i hi e he g hg).2 f (ho _ _ hf)⟩⟩, ho⟩
  obtain ⟨v, hv, hr⟩ := h.row f h7 h19
  exact ⟨v, by rw [List.getElem?_set_ne (by omega)]; exact hv, own_mods hr m (fun g hg => by have := hr.lt g hg; omega)⟩
/-- One thing more in row f. -/
theorem KGen.push (h : KGen w bh cs n es rs) {f : Nat} (h7 : 7 ≤ f) (h19 : f < 19) {tt : TypeId} {i0 : TypeInfo} {z : Value} {bytes : Nat} (ht : Try.prog.underlying tt = some (.slice (fty f))) (hi : Try.prog.info? (fty f) = some i0) (hz : i0.zero = some z) (hs : i0.size = 1) (hb : i0.bytes = bytes) (hzc : z.cells.size = 1)
    (hby : bytes ≤ 24) (x : Value) (hx : x.oneCell' = true) (hlen : (rs f).length + 1 ≤ 268435456) {H : Nat} (hH : w.heap.size = H) {v : Value} (hv : cs[f]? = some v) :
    ∃ a cap w1, (Builtin.append_ #[tt, tt] tt #[v, .slice (some ⟨H, 0, none⟩) 1 1]).run Try.prog (w.alloc (.cells #[x] (fty f))) = .ok (.slice a ((rs f).length + 1) cap) w1 ∧ Blk w1 bh 44 cs ∧
      KGen (w1.setCell ⟨bh, f, none⟩ (.slice a ((rs f).length + 1) cap)) bh (cs.set f (.slice a ((rs f).length + 1) cap)) n es (upd rs f (rs f ++ [x])) ∧
      Mods (fun k => k = bh ∨ v.ownBlock = some k) w (w1.setCell ⟨bh, f, none⟩ (.slice a ((rs f).length + 1) cap)) ∧ w.heap.size ≤ w1.heap.size ∧
      ∀ f' k, OwnAt (cs.set f (.slice a ((rs f).length + 1) cap)) f' k → OwnAt cs f' k ∨ w.heap.size ≤ k := by
  have hl := h.hands.2
  have hbl := h.hands.1.lt
  obtain ⟨v', hv', hr⟩ := h.row f h7 h19
  rw [hv] at hv'
  cases hv'
  have hbb : ((rs f).length + 1) * bytes ≤ ((rs f).length + 1) * 24 := Nat.mul_le_mul_left _ hby
  obtain ⟨v1, w1, happ, hown, hm, hat⟩ := app_ex (P := Try.prog) (W := w) tt tt (fty f) i0 z 1 bytes ht hi hz hs hb hzc (by decide) (bh + 1) v (rs f).length (rs f) hr #[x] rfl (by simpa using hx) H hH (by unfold maxLen; omega) (by omega) (by omega)
  obtain ⟨a, cap, rfl⟩ := own_form hown
  have hfar : ∀ k, v.ownBlock = some k → k ≠ bh := fun k hk => by have := hr.lt k hk; omega
  have hb1 : Blk w1 bh 44 cs := h.hands.1.mods hm (fun e => hfar bh e rfl)
  have hM : Mods (fun k => k = bh ∨ v.ownBlock = some k) w (w1.setCell ⟨bh, f, none⟩ (.slice a ((rs f).length + 1) cap)) := (hm.mono (fun _ _ e => .inr e)).setCell (p := ⟨bh, f, none⟩) (fun _ => .inl rfl) _
  have hM1 : Mods (fun k => k = bh) w1 (w1.setCell ⟨bh, f, none⟩ (.slice a ((rs f).length + 1) cap)) := (Mods.refl (fun k => k = bh) w1).setCell (p := ⟨bh, f, none⟩) (fun _ => rfl) _
  have ho : ∀ f' k, OwnAt (cs.set f (.slice a ((rs f).length + 1) cap)) f' k → (f' ≠ f ∧ OwnAt cs f' k) ∨ (f' = f ∧ (OwnAt cs f k ∨ w.heap.size ≤ k)) := fun f' k hf => by
    obtain ⟨u, hu, hk⟩ := hf
    by_cases e : f' = f
    · subst e
      rw [List.getElem?_set_self (by omega)] at hu
      simp only [Option.some.injEq] at hu
      subst hu
      refine .inr ⟨rfl, ?_⟩
      rcases hat with hat | ⟨k', h1, h2⟩
      · exact .inl ⟨v, hv, hat ▸ hk⟩
      · rw [h2] at hk
        cases hk
        exact .inr (by omega)
    · rw [List.getElem?_set_ne (fun x => e x.symm)] at hu
      exact .inl ⟨e, u, hu, hk⟩
  have hS : ∀ i, i < 6 → ∀ e ∈ es i, ∀ g, e.a = some g → ¬ (g = bh ∨ v.ownBlock = some g) := fun i hi e he g hg hk => by
    rcases hk with hk | hk
    · exact (h.off i hi e he g hg).1 hk
    · exact (h.off i hi e he g hg).2 f ⟨v, hv, hk⟩
  refine ⟨a, cap, w1, happ, hb1, ⟨⟨hb1.setCell f _, by rw [List.length_set]; exact hl⟩, fun j hj => by rw [List.getElem?_set_ne (by omega)]; exact h.nil j hj, by rw [List.getElem?_set_ne (by omega)]; exact h.c6, fun f' h7' h19' => ?_, fun f1 f2 k h1 h2 => ?_, fun i hi e he => (h.ent i hi e he).mods hM (hS i hi e he), fun i hi e he g hg => ⟨(h.off i hi e he g hg).1, fun f' hf => ?_⟩⟩, hM, hm.size, fun f' k hf => ?_⟩
  · by_cases e : f' = f
    · subst e
      refine ⟨_, List.getElem?_set_self (by omega), ?_⟩
      rw [upd_self, List.length_append]
      exact own_mods (S := fun k => k = bh) hown hM1 (fun g e => by have := hown.lt g e; omega)
    · obtain ⟨u, hu, hru⟩ := h.row f' h7' h19'
      rw [upd_ne _ _ e]
      refine ⟨u, by rw [List.getElem?_set_ne (fun x => e x.symm)]; exact hu, own_mods hru hM (fun g hg hk => ?_)⟩
      rcases hk with hk | hk
      · have := hru.lt g hg; omega
      · exact e (h.apart f' f g ⟨u, hu, hg⟩ ⟨v, hv, hk⟩)
  · rcases ho f1 k h1 with ⟨e1, g1⟩ | ⟨rfl, g1⟩ <;> rcases ho f2 k h2 with ⟨e2, g2⟩ | ⟨e2, g2⟩
    · exact h.apart f1 f2 k g1 g2
    · subst e2
      rcases g2 with g2 | g2
      · exact h.apart f1 f2 k g1 g2
      · have := h.own g1; omega
    · rcases g1 with g1 | g1
      · exact h.apart f1 f2 k g1 g2
      · have := h.own g2; omega
    · exact e2.symm
  · rcases ho f' g hf with ⟨_, g1⟩ | ⟨_, g1 | g1⟩
    · exact (h.off i hi e he g hg).2 f' g1
    · exact (h.off i hi e he g hg).2 f g1
    · obtain ⟨c, hc, _⟩ := (h.ent i hi e he).2.2 g hg
      have := hc.lt
      omega
  · rcases ho f' k hf with ⟨_, g1⟩ | ⟨rfl, g1 | g1⟩
    · exact .inl g1
    · exact .inl g1
    · exact .inr g1
end
end Go.Proofs.Ytiiokkllmchohaa
