/- Walks of the document's answer: small tests on types. -/
import Derived.Test.YtiiokkllmchohaaRows
import Derived.Deep.QuietTactic
import Derived.BigQuiet
import Derived.Deep.LoopGhost
import Derived.Deep.RegionHeld3
import Derived.Maps.AppendAt
import Derived.Deep.DrawnRows
import Derived.Laws.CopyRow
import Derived.Test.YtiiokkllmchohaaT01
/- RefA -/
namespace Go.Proofs.Ytiiokkllmchohaa
open Go.RowKit

set_option maxHeartbeats 400000 in
theorem ref_place (v n : Int) (w : World) :
    Calls Try.prog 88 #[.int .i64 v, .int .i64 n] w fun e w' => e = .returned (.bool (placeB v n)) ∧ w' = w := by
  go_enter Try.func88, Try.ntmps88
  go_wp2
  all_goals go_ret
  all_goals exact ⟨ret_bool (by simp [placeB, *] <;> omega), rfl⟩

set_option maxHeartbeats 400000 in
theorem ref_declared (t n : Int) (w : World) (ht : I64 t) :
    Calls Try.prog 65 #[.int .i64 t, .int .i64 n] w fun e w' => e = .returned (.bool (declB n t)) ∧ w' = w := by
  obtain ⟨h1, h2⟩ := ht
  go_enter Try.func65, Try.ntmps65
  go_wp2
  all_goals go_ret
  all_goals exact ⟨ret_bool (by simp [declB, *] <;> omega), rfl⟩

set_option maxHeartbeats 400000 in
theorem ref_alldeclared (l : List Int) (v : Value) (n : Int) (w : World) (hl : SlAt 1 (RInt w) v l) (hw : ∀ x ∈ l, I64 x) (hs : l.length ≤ 4194304) :
    Calls Try.prog 39 #[v, .int .i64 n] w fun e w' => e = .returned (.bool (l.all (declB n))) ∧ w' = w := by
  obtain ⟨a, b, off, cap, rfl, hcap, ha, hr⟩ := ints_open hl
  go_enter Try.func39, Try.ntmps39
  go_wp2
  go_loop [5] (fun i => ∃ k : Nat, k ≤ l.length ∧ i = .int .i64 k ∧ (l.take k).all (declB n) = true) (fun i => l.length - (intOf i).toNat)
  case atStart => exact ⟨0, Nat.zero_le _, rfl, rfl⟩
  case round =>
    obtain ⟨k, hk, rfl, hall⟩ := hrel
    have HA : Hid ((l.take k).all (declB n) = true) := hall
    clear hall
    by_cases hlt : k < l.length
    · obtain rfl := ha (ne_nil_of_lt hlt)
      have hx := hw _ (List.getElem_mem hlt)
      have hS := all_snoc (f := declB n) hlt
      rw [HA.out] at hS
      have HS := hide hS
      clear hS hw
      cases hb : declB n l[k]
      · go_wp2_with (go_at_call 65; refine (ref_declared _ _ _ hx).mono ?_; rintro e w' ⟨rfl, rfl⟩)
        go_ret
        exact ⟨ret_bool (by rw [← List.take_append_drop (k + 1) l, List.all_append, unhide HS, hb]; rfl), rfl⟩
      · go_wp2_with (go_at_call 65; refine (ref_declared _ _ _ hx).mono ?_; rintro e w' ⟨rfl, rfl⟩)
        go_round
        case rel => exact ⟨k + 1, by omega, by go_num, by rw [unhide HS, hb]; rfl⟩
        case measure => simp [intOf]; omega
    · go_wp2
      go_ret
      exact ⟨ret_bool (by rw [← HA.out, List.take_of_length_le (by omega)]), rfl⟩
end Go.Proofs.Ytiiokkllmchohaa
/- Walks of the document's answer: types in frames, lists of types that are the same. -/
namespace Go.Proofs.Ytiiokkllmchohaa
open Go.RowKit

set_option maxHeartbeats 400000 in
theorem ref_framed (l : List Int) (v : Value) (n : Int) (w : World) (hl : SlAt 1 (RInt w) v l) (hw : ∀ x ∈ l, I64 x) (hs : l.length ≤ 4194304) :
    Calls Try.prog 69 #[v, .int .i64 n] w fun e w' => e = .returned (.bool (l.all (framedB n))) ∧ w' = w := by
  obtain ⟨a, b, off, cap, rfl, hcap, ha, hr⟩ := ints_open hl
  go_enter Try.func69, Try.ntmps69
  go_wp2
  go_loop [5] (fun i => ∃ k : Nat, k ≤ l.length ∧ i = .int .i64 k ∧ (l.take k).all (framedB n) = true) (fun i => l.length - (intOf i).toNat)
  case atStart => exact ⟨0, Nat.zero_le _, rfl, rfl⟩
  case round =>
    obtain ⟨k, hk, rfl, hall⟩ := hrel
    have HA : Hid ((l.take k).all (framedB n) = true) := hall
    clear hall
    by_cases hlt : k < l.length
    · obtain rfl := ha (ne_nil_of_lt hlt)
      have hx := hw _ (List.getElem_mem hlt)
      have hS := all_snoc (f := framedB n) hlt
      rw [HA.out] at hS
      have HS := hide hS
      clear hS hw
      cases hb : declB n l[k]
      · go_wp2_with (go_at_call 65; refine (ref_declared _ _ _ hx).mono ?_; rintro e w' ⟨rfl, rfl⟩)
        · exact ⟨⟨k + 1, by omega, by go_num, by rw [unhide HS]; simp_all [framedB]⟩, by simp [intOf]; omega⟩
        · go_ret
          exact ⟨ret_bool (by rw [← List.take_append_drop (k + 1) l, List.all_append, unhide HS]; simp_all [framedB]), rfl⟩
        · exact ⟨⟨k + 1, by omega, by go_num, by rw [unhide HS]; simp_all [framedB]⟩, by simp [intOf]; omega⟩
      · go_wp2_with (go_at_call 65; refine (ref_declared _ _ _ hx).mono ?_; rintro e w' ⟨rfl, rfl⟩)
        go_round
        case rel => exact ⟨k + 1, by omega, by go_num, by rw [unhide HS]; simp [framedB, hb]⟩
        case measure => simp [intOf]; omega
    · go_wp2
      go_ret
      exact ⟨ret_bool (by rw [← HA.out, List.take_of_length_le (by omega)]), rfl⟩

theorem take_snoc_eq {l r : List Int} {k : Nat} (h1 : k < l.length) (h2 : k < r.length) : (l.take (k + 1) = r.take (k + 1)) ↔ (l.take k = r.take k ∧ l[k] = r[k]) := by
  rw [List.take_add_one, List.take_add_one, List.getElem?_eq_getElem h1, List.getElem?_eq_getElem h2]
  simp only [Option.toList_some]
  constructor
  · intro h
    have := List.append_inj' h rfl
    simpa using this
  · rintro ⟨h, k⟩; rw [h, k]

set_option maxHeartbeats 400000 in
theorem ref_sametypes (l r : List Int) (v u : Value) (w : World) (hl : SlAt 1 (RInt w) v l) (hr : SlAt 1 (RInt w) u r) (hs : l.length ≤ 4194304) (hs' : r.length ≤ 4194304) :
    Calls Try.prog 67 #[v, u] w fun e w' => e = .returned (.bool (l == r)) ∧ ∃ n, w' = w.drewN n := by
  obtain ⟨a, b, off, cap, rfl, hcap, ha, hc⟩ := ints_open hl
  obtain ⟨a', b', off', cap', rfl, hcap', ha', hc'⟩ := ints_open hr
  by_cases hn : l.length = r.length
  · have hne : ((l.length : Int) == (r.length : Int)) = true := by rw [hn]; simp
    go_enter Try.func67, Try.ntmps67
    go_wp2
    go_loopw [5] (fun i wr => ∃ k : Nat, k ≤ l.length ∧ i = .int .i64 k ∧ l.take k = r.take k ∧ ∃ n, wr = w.drewN n) (fun i _ => l.length - (intOf i).toNat)
    case atStart => exact ⟨0, Nat.zero_le _, rfl, rfl, 0, rfl⟩
    case round =>
      obtain ⟨k, hk, rfl, htk, nn, rfl⟩ := hrel
      have HT := hide htk
      have HN := hide hn
      clear htk hn
      by_cases hlt : k < l.length
      · have hlt' : k < r.length := by rw [← unhide HN]; exact hlt
        obtain rfl := ha (ne_nil_of_lt hlt)
        obtain rfl := ha' (ne_nil_of_lt hlt')
        have HE := hide (take_snoc_eq hlt hlt')
        go_wp2
        go_quiet (fail)
        go_wp2
        · go_ret
          have hx : l[k] ≠ r[k] := by simp_all
          exact ⟨ret_bool (by rw [eq_comm, beq_eq_false_iff_ne]; intro e; subst e; exact hx rfl), nn + nq, by rw [World.drewN_drewN]⟩
        · have hx : l[k] = r[k] := by simp_all
          exact ⟨⟨k + 1, by omega, by go_num, (unhide HE).2 ⟨unhide HT, hx⟩, _, rfl⟩, by simp [intOf]; omega⟩
      · go_wp2
        go_ret
        refine ⟨ret_bool ?_, _, rfl⟩
        have := unhide HT
        rw [List.take_of_length_le (by omega), List.take_of_length_le (by have := unhide HN; omega)] at this
        simp [this]
  · have hne : ((l.length : Int) == (r.length : Int)) = false := by simp; omega
    go_enter Try.func67, Try.ntmps67
    go_wp2
    go_ret
    exact ⟨ret_bool (by rw [eq_comm, beq_eq_false_iff_ne]; intro e; subst e; exact hn rfl), 0, rfl⟩
end Go.Proofs.Ytiiokkllmchohaa
/- Walks of the document's answer: the method of a class and a slot. -/
namespace Go.Proofs.Ytiiokkllmchohaa
open Go.RowKit

/-- What the search answers. -/
def methC (p : List LClass) (c slot : Int) : Int × Int := match methOf p c slot with
  | none => (-1, -1)
  | some (x, y) => (x, y)

set_option maxHeartbeats 400000 in
theorem ref_method (p : List LClass) (vc : Value) (n : Nat) (c slot : Int) (w : World) (hp : RProg w vc p) (hs : SupOk p n) (hn : n ≤ p.length) (hc : -1 ≤ c) (hcn : c < n) (hz : szProg p ≤ 4194304) :
    Calls Try.prog 66 #[.agg #[vc], .int .i64 c, .int .i64 slot] w fun e w' =>
      e = .returned (.tuple #[.int .i64 (methC p c slot).1, .int .i64 (methC p c slot).2]) ∧ Below w.heap.size w w' := by
  obtain ⟨a, b, off, cap, rfl, hcap, ha, hr⟩ := sl_open hp
  go_enter Try.func66, Try.ntmps66
  go_wp2
  generalize hW : w.alloc _ = W
  have hbel : Below w.heap.size w W := hW ▸ box_below _ _
  have hbox : W.cell? ⟨w.heap.size, 0, none⟩ = some (.slice a p.length cap) := hW ▸ box_cell w #[.slice a p.length cap] 24 0
  clear hW
  go_loop [1] (fun s1 => ∃ c' : Int, -1 ≤ c' ∧ c' < n ∧ s1 = .int .i64 c' ∧ methOf p c slot = methOf p c' slot) (fun s1 => (intOf s1 + 1).toNat)
  case atStart => exact ⟨c, hc, hcn, rfl, rfl⟩
  case round =>
    obtain ⟨c', h1, h2, rfl, hm⟩ := hrel
    have HM := hide hm
    clear hm
    rcases Int.lt_or_le c' 0 with hneg | hpos
    · go_wp2
      go_ret2
      exact ⟨by simp [methC, unhide HM, methOf_neg p slot hneg], hbel⟩
    · obtain ⟨i, rfl⟩ := Int.eq_ofNat_of_zero_le hpos
      have hi : i < p.length := by omega
      obtain rfl := ha (ne_nil_of_lt hi)
      obtain ⟨vf, vm, c0, c1, c2, hf, hmm⟩ := (hr i hi).keep (Keeps.of_below hbel)
      obtain ⟨ma, mb, moff, mcap, rfl, hmcap, hma, hmr⟩ := sl_open hmm
      have hslot : ∀ (j : Nat) (hj : j < p[i].meths.length), W.cell? ⟨mb, moff + j * 7, none⟩ = some (.int .i64 p[i].meths[j].slot) := fun j hj => by
        obtain ⟨_, _, _, _, h, _⟩ := hmr j hj; exact h
      have hlen : p[i].meths.length ≤ 4194304 := by
        have := szMeths_le p[i]; have := szClass_le (List.getElem_mem hi); omega
      have HX := hide (List.getElem?_eq_getElem hi)
      clear hmr hr hmm hf
      generalize p[i] = x at *
      go_wp2
      go_loop [8] (fun s8 => ∃ k : Nat, k ≤ x.meths.length ∧ s8 = .int .i64 k ∧ ∀ (j : Nat) (hj : j < x.meths.length), j < k → x.meths[j].slot ≠ slot) (fun s8 => x.meths.length - (intOf s8).toNat)
      case atStart => exact ⟨0, Nat.zero_le _, rfl, fun j _ h => absurd h (Nat.not_lt_zero j)⟩
      case round =>
        obtain ⟨k, hk, rfl, hno⟩ := hrel
        have HNO := hide hno
        clear hno
        by_cases hlt : k < x.meths.length
        · obtain rfl := hma (ne_nil_of_lt hlt)
          by_cases hq : x.meths[k].slot = slot
          · have hqb : (x.meths[k].slot == slot) = true := by simpa using hq
            have HQ := hide hq
            clear hq
            go_wp2
            go_ret2
            exact ⟨by simp [methC, unhide HM, methOf_step p hs slot (by omega) (unhide HX), slotIn_some hlt (unhide HQ) (unhide HNO)], hbel⟩
          · have hqb : (x.meths[k].slot == slot) = false := by simpa using hq
            go_wp2
            go_round
            case rel => exact ⟨k + 1, by omega, by go_num, fun j hj h => by
              rcases Nat.lt_or_ge j k with g | g
              · exact unhide HNO j hj g
              · obtain rfl : j = k := by omega
                exact hq⟩
            case measure => simp [intOf]; omega
        · go_wp2
          have hsup := supB_le (hs i x (by omega) (unhide HX))
          exact ⟨⟨x.sup, hsup.1, by omega, rfl, by rw [unhide HM, methOf_step p hs slot (by omega) (unhide HX), slotIn_none fun j hj => unhide HNO j hj (by omega)]⟩, by simp [intOf]; omega⟩
end Go.Proofs.Ytiiokkllmchohaa
/- Laws for slices that the call itself owns: append of whatever slice, with where the new slice lies. -/
namespace Go.Proofs.Ytiiokkllmchohaa
open Go.RowKit

section
variable {P : Program} {w : World}

/-- append(v, x...), v a slice of the call's own, x any slice (nil, too). -/
theorem wp_append_sl {o : Oper} {a : Act} {K : Act → World → Prop} {Q : Exit → Act → World → Prop} (s x : Operand) (t : TypeId)
    (ho : o.op = .call { callee := .builtin .append, args := #[s, x], argTypes := #[t, t] })
    (base : Nat) (e : TypeId) (i : TypeInfo) (z : Value) (size bytes : Nat) (ht : P.underlying t = some (.slice e)) (hi : P.info? e = some i) (hz : i.zero = some z)
    (hsize : i.size = size) (hby : i.bytes = bytes) (hzs : z.cells.size = size) (hsz : 0 < size)
    (v : Value) (n : Nat) (xs : List Value) (hs : a.eval s = v) (hown : w.ownsRow base e size v n xs)
    (sa : Option Addr) (m c : Nat) (news : List Value) (hx : a.eval x = .slice sa m c) (hl : news.length = m * size) (hnil : sa = none → m = 0 ∧ c = 0)
    (hnews : ∀ ad, sa = some ad → ∀ j u, news[j]? = some u → w.cell? (ad.add j) = some u) (h1 : ∀ u ∈ news, u.oneCell' = true)
    (h63 : n + m ≤ maxLen) (hbytes : (n + m) * bytes ≤ 140737488355328) (hbase : base ≤ w.heap.size)
    (h : ∀ v' w', w'.ownsRow base e size v' (n + m) (xs ++ news) → w.grownBy w' v.ownBlock → (v'.ownBlock = v.ownBlock ∨ v'.ownBlock = some w.heap.size) → K (a.put o.dst v') w') : o.wp P a w K Q := by
  cases sa with
  | none =>
    obtain ⟨rfl, rfl⟩ := hnil rfl
    obtain rfl : news = [] := List.eq_nil_of_length_eq_zero (by simpa using hl)
    have hr := run_append_owned_none (P := P) (w := w) base t o.type e i size ht hi v n xs hown
    unfold Oper.wp execOp
    simp only [ho, resolve, invoke, builtin, Sem.run_bind, Sem.run_pure, Result.andThen_ok, List.map_toArray, List.map_cons, List.map_nil, hs, hx, hr]
    exact h v w (by simpa using hown) ⟨rfl, rfl, rfl, Nat.le_refl _, fun _ _ _ => rfl⟩ (.inl rfl)
  | some ad =>
    obtain ⟨v', w', hr, h2, h3, _, h5⟩ := run_append_own_at (P := P) w base t o.type e i z size bytes ht hi hz hsize hby hzs hsz v n xs hown ad m c news hl (hnews ad rfl) h1 h63 hbytes hbase
    unfold Oper.wp execOp
    simp only [ho, resolve, invoke, builtin, Sem.run_bind, Sem.run_pure, Result.andThen_ok, List.map_toArray, List.map_cons, List.map_nil, hs, hx, hr]
    exact h v' w' h2 h3 h5

theorem wpList_append_sl {ops : Array Oper} {rest : List Oper} {o : Oper} {a : Act} {Q : Exit → Act → World → Prop} (hgd : o.guard = none) (s x : Operand) (t : TypeId)
    (ho : o.op = .call { callee := .builtin .append, args := #[s, x], argTypes := #[t, t] })
    (base : Nat) (e : TypeId) (i : TypeInfo) (z : Value) (size bytes : Nat) (ht : P.underlying t = some (.slice e)) (hi : P.info? e = some i) (hz : i.zero = some z)
    (hsize : i.size = size) (hby : i.bytes = bytes) (hzs : z.cells.size = size) (hsz : 0 < size)
    (v : Value) (n : Nat) (xs : List Value) (hs : a.eval s = v) (hown : w.ownsRow base e size v n xs)
    (sa : Option Addr) (m c : Nat) (news : List Value) (hx : a.eval x = .slice sa m c) (hl : news.length = m * size) (hnil : sa = none → m = 0 ∧ c = 0)
    (hnews : ∀ ad, sa = some ad → ∀ j u, news[j]? = some u → w.cell? (ad.add j) = some u) (h1 : ∀ u ∈ news, u.oneCell' = true)
    (h63 : n + m ≤ maxLen) (hbytes : (n + m) * bytes ≤ 140737488355328) (hbase : base ≤ w.heap.size)
    (h : ∀ v' w', w'.ownsRow base e size v' (n + m) (xs ++ news) → w.grownBy w' v.ownBlock → (v'.ownBlock = v.ownBlock ∨ v'.ownBlock = some w.heap.size) → wpList P ops Q rest (a.put o.dst v') w') : wpList P ops Q (o :: rest) a w :=
  wpList_plain hgd fun _ hK => wp_append_sl s x t ho base e i z size bytes ht hi hz hsize hby hzs hsz v n xs hs hown sa m c news hx hl hnil hnews h1 h63 hbytes hbase fun v' w' h2 h3 h4 => hK _ _ (h v' w' h2 h3 h4)
end

theorem own_base {w : World} {base base' : Nat} {e : TypeId} {size : Nat} {v : Value} {n : Nat} {xs : List Value} (h : w.ownsRow base e size v n xs) (hb : base' ≤ base) : w.ownsRow base' e size v n xs := by
  refine ⟨h.1, ?_⟩
  rcases h.2 with g | ⟨g, cap, cur, h1, h2, h3⟩
  · exact .inl g
  · exact .inr ⟨g, cap, cur, h1, Nat.le_trans hb h2, h3⟩
theorem own_form {w : World} {base : Nat} {e : TypeId} {size : Nat} {v : Value} {n : Nat} {xs : List Value} (h : w.ownsRow base e size v n xs) : ∃ a cap, v = .slice a n cap := by
  rcases h.2 with ⟨rfl, rfl⟩ | ⟨g, cap, cur, rfl, _⟩
  · exact ⟨_, _, rfl⟩
  · exact ⟨_, _, rfl⟩
theorem oneCell_ints (l : List Int) : ∀ u ∈ l.map (Value.int .i64), u.oneCell' = true := by
  intro u hu
  obtain ⟨x, _, rfl⟩ := List.mem_map.1 hu
  rfl
/-- What the call owns, read as a slice of numbers. -/
theorem own_ints {w : World} {base : Nat} {e : TypeId} {v : Value} {l : List Int} {n : Nat} (hn : n = l.length) (h : w.ownsRow base e 1 v n (l.map (Value.int .i64))) : SlAt 1 (RInt w) v l := by
  subst hn
  rcases h.2 with ⟨rfl, h0⟩ | ⟨g, cap, cur, rfl, hb, hg, hnc, hcm, hcs, htk⟩
  · obtain rfl : l = [] := List.eq_nil_of_length_eq_zero h0
    exact ⟨none, 0, 0, 0, rfl, Nat.le_refl _, ⟨fun e => absurd rfl e, .inl ⟨rfl, rfl⟩⟩, fun j x hj => by simp at hj⟩
  · refine ⟨some ⟨g, 0, none⟩, g, 0, cap, rfl, hnc, ⟨fun _ => rfl, .inr (.inl rfl)⟩, fun j x hj => ?_⟩
    have h1 : (l.map (Value.int .i64))[j]? = some (.int .i64 x) := by rw [List.getElem?_map, hj]; rfl
    rw [← htk, List.getElem?_take] at h1
    unfold RInt GInt World.cell?
    simp only [hg, Nat.mul_one, Nat.zero_add]
    split at h1
    · simpa using h1
    · cases h1
end Go.Proofs.Ytiiokkllmchohaa
/- Walk of the document's answer: the fields of a class, inherited ones first. -/
namespace Go.Proofs.Ytiiokkllmchohaa
open Go.RowKit
attribute [local go_sem ↓] Go.wp_at_zero Go.wp_at_succ

theorem infoType : (Try.prog.info? 52).map (fun i => (i.zero, i.size, i.bytes)) = some (some (.int .i64 0), 1, 8) := by kernel_rfl

set_option maxHeartbeats 800000 in
set_option maxRecDepth 100000 in
theorem ref_fields (p : List LClass) (n : Nat) (hs : SupOk p n) (hn : n ≤ p.length) (hz : szProg p ≤ 4194304) : ∀ (c : Nat) (vc : Value) (w : World), RProg w vc p → c < n →
    Calls Try.prog 40 #[.agg #[vc], .int .i64 c] w fun e w' => ∃ v', e = .returned v' ∧
      w'.ownsRow w.heap.size 52 1 v' (fieldsOf p c).length ((fieldsOf p c).map (Value.int .i64)) ∧ Below w.heap.size w w' := by
  intro c
  induction c using Nat.strongRecOn with
  | ind c ih =>
    intro vc w hp hcn
    have IH := hide ih
    clear ih
    obtain ⟨i0, hi0, hz0, hz1, hz2⟩ := info_parts infoType
    obtain ⟨a, b, off, cap, rfl, hcap, ha, hr⟩ := sl_open hp
    have hi : c < p.length := by omega
    obtain rfl := ha (ne_nil_of_lt hi)
    have hX := List.getElem?_eq_getElem hi
    have hsup := supB_le (hs c _ hcn hX)
    have hfz := fieldsOf_sz p hs hcn
    have HF := hide (fieldsOf_step p hs hcn hX)
    have HX := hide hX
    clear hX
    obtain ⟨vf, vm, c0, c1, c2, hf, hmm⟩ := hr c hi
    have hlen : p[c].fields.length ≤ 4194304 := by
      have := szFields_le p[c]; have := szClass_le (List.getElem_mem hi); omega
    obtain ⟨fa, fcap, rfl, hnil, hsrc⟩ := ints_src hf
    have hlt := cell_lt c0
    clear hr hmm
    generalize p[c] = x at *
    have HR := hide hsrc
    have HN : Hid (fa = none → x.fields.length = 0 ∧ fcap = 0) := fun e => ⟨by rw [(hnil e).1]; rfl, (hnil e).2⟩
    have h63 : x.fields.length ≤ maxLen := by unfold maxLen; omega
    have HFI := hide hf
    clear hsrc hnil hf
    rcases Nat.eq_zero_or_pos c with h0 | hpos
    · have hpos' : ¬ (0 : Int) < (c : Int) := by omega
      have hnegs : x.sup < 0 := by omega
      have H0 := hide h0
      clear h0
      go_enter Try.func40, Try.ntmps40
      go_wp2_with (at_builtin; refine wpList_append_sl rfl (.tmp 16) (.tmp 22) 31 rfl w.heap.size 52 i0 (.int .i64 0) 1 8 Try.underlying31 hi0 hz0 hz1 hz2 rfl (by decide) (.slice none 0 0) 0 [] rfl (World.ownsRow_nil _ _ _ _) fa x.fields.length fcap (x.fields.map (Value.int .i64)) rfl (by rw [List.length_map, Nat.mul_one]) (unhide HN) (fun ad e j u h => box_keeps w _ _ _ (unhide HR ad e j u h)) (oneCell_ints _) (by rw [Nat.zero_add]; exact h63) (by omega) (box_below w _).size ?_; intro v' w' hown hgr hat)
      go_ret
      refine ⟨_, rfl, ?_, (box_below w _).grown hgr (box_below w _).size (fun k e => by cases e)⟩
      rw [unhide HF, fieldsOf_neg p hnegs]
      simpa using hown
    · have hpos' : (0 : Int) < (c : Int) := by omega
      obtain ⟨k, hk⟩ := Int.eq_ofNat_of_zero_le (supB_pos hpos (hs c x hcn (unhide HX))).1
      have hkc : k < c := by omega
      rw [hk] at c0 HF
      clear hk hsup
      go_enter Try.func40, Try.ntmps40
      go_wp2_with fail
      generalize hW : w.alloc _ = W
      have hbel : Below w.heap.size w W := hW ▸ box_below _ _
      have hbox : W.cell? ⟨w.heap.size, 0, none⟩ = some (.slice (some ⟨b, off, none⟩) p.length cap) := hW ▸ box_cell w #[.slice (some ⟨b, off, none⟩) p.length cap] 24 0
      clear hW
      have hsz := hbel.size
      have d0 := Keeps.of_below hbel _ _ c0
      have d1 := Keeps.of_below hbel _ _ c1
      have hpW := prog_keep (Keeps.of_below hbel) hp
      have HPW := hide hpW
      clear hpW
      have hci : (c : Int) < (p.length : Int) := by omega
      have hc0 : (0 : Int) ≤ (c : Int) := by omega
      go_region_held3 (fun w' => w'.cell? ⟨w.heap.size, 0, none⟩ = some (.slice (some ⟨b, off, none⟩) p.length cap) ∧ w'.cell? ⟨b, off + c * 3, none⟩ = some (.int .i64 (k : Int)))
        (first | go_keep | (exact ⟨Keeps.of_below hb1 _ _ (by simpa using hbox), Keeps.of_below hb1 _ _ (by simpa using d0)⟩))
        (first | ((go_at_call 40; refine (unhide IH k hkc _ _ ?_ ?_).mono ?_); (exact prog_keep (Keeps.of_below ((Below.refl _ _).drew)) (unhide HPW)); omega; rintro e w1 ⟨v1, rfl, hown1, hb1⟩))
      have hW1 : Below w.heap.size w w1 := hbel.drew.trans (hb1.mono hsz)
      have e0 : w1.cell? ⟨w.heap.size, 0, none⟩ = some (.slice (some ⟨b, off, none⟩) p.length cap) := Keeps.of_below hb1 _ _ hbox
      have e1 : w1.cell? ⟨b, off + c * 3 + 1, none⟩ = some (.slice fa x.fields.length fcap) := Keeps.of_below hb1 _ _ d1
      have hfl : (fieldsOf p k).length + x.fields.length ≤ 4194304 := by
        have := unhide HF; rw [this, List.length_append] at hfz; omega
      have hown2 : w1.ownsRow w.heap.size 52 1 v1 (fieldsOf p k).length ((fieldsOf p k).map (Value.int .i64)) := own_base hown1 (by simpa using hsz)
      have HB1 := hide hb1
      clear hown1 hb1 d0 d1 c0 c1 hbox hfz
      go_wp2_with (at_builtin; refine wpList_append_sl rfl (.tmp 16) (.tmp 22) 31 rfl w.heap.size 52 i0 (.int .i64 0) 1 8 Try.underlying31 hi0 hz0 hz1 hz2 rfl (by decide) v1 _ _ rfl hown2 fa x.fields.length fcap (x.fields.map (Value.int .i64)) rfl (by rw [List.length_map, Nat.mul_one]) (unhide HN) (fun ad e j u h => Keeps.of_below hW1 _ _ (unhide HR ad e j u h)) (oneCell_ints _) (by unfold maxLen; omega) (by omega) hW1.size ?_; intro v' w' hown hgr hat)
      go_ret
      refine ⟨_, rfl, ?_, hW1.grown hgr hW1.size (fun j e => (hown2.lt j e).1)⟩
      rw [unhide HF, List.map_append, List.length_append]
      exact hown
end Go.Proofs.Ytiiokkllmchohaa
/- What a step may have changed, block by block; blocks that are known whole; make and copy over them. -/
namespace Go.Proofs.Ytiiokkllmchohaa
open Go.RowKit

/-- Of the blocks that were there only those in S may have changed. -/
structure Mods (S : Nat → Prop) (w w' : World) : Prop where
  os : w'.os = w.os
  tape : w'.tape = w.tape
  output : w'.output = w.output
  size : w.heap.size ≤ w'.heap.size
  block : ∀ k, k < w.heap.size → ¬ S k → w'.heap[k]? = w.heap[k]?

theorem Mods.refl (S : Nat → Prop) (w : World) : Mods S w w := ⟨rfl, rfl, rfl, Nat.le_refl _, fun _ _ _ => rfl⟩
theorem Mods.trans {S T : Nat → Prop} {a b c : World} (h : Mods S a b) (k : Mods T b c) (hT : ∀ i, i < a.heap.size → T i → S i) : Mods S a c :=
  ⟨k.os.trans h.os, k.tape.trans h.tape, k.output.trans h.output, Nat.le_trans h.size k.size, fun i hi hs => (k.block i (Nat.lt_of_lt_of_le hi h.size) (fun t => hs (hT i hi t))).trans (h.block i hi hs)⟩
theorem Mods.mono {S T : Nat → Prop} {a b : World} (h : Mods S a b) (hT : ∀ i, i < a.heap.size → S i → T i) : Mods T a b :=
  ⟨h.os, h.tape, h.output, h.size, fun i hi hs => h.block i hi (fun t => hs (hT i hi t))⟩
theorem Mods.alloc {S : Nat → Prop} {a w : World} (h : Mods S a w) (o : Obj) : Mods S a (w.alloc o) :=
  h.trans (T := fun _ => False) ⟨rfl, rfl, rfl, by simp, fun i hi _ => Below.heap_alloc _ _ _ hi⟩ (fun _ _ f => f.elim)
theorem Mods.drew {S : Nat → Prop} {a w : World} (h : Mods S a w) : Mods S a w.drew := ⟨h.os, h.tape, h.output, h.size, h.block⟩
theorem Mods.setCell {S : Nat → Prop} {a w : World} (h : Mods S a w) {p : Addr} (hp : p.block < a.heap.size → S p.block) (u : Value) : Mods S a (w.setCell p u) :=
  h.trans (T := fun k => k = p.block) ⟨rfl, rfl, rfl, by simp [World.setCell], fun i _ hs => Below.heap_setCell _ _ _ _ hs⟩ (fun i hi e => by subst e; exact hp hi)
theorem Mods.grown {S : Nat → Prop} {a w w' : World} {row : Option Nat} (h : Mods S a w) (hg : w.grownBy w' row) (hr : ∀ k, row = some k → k < a.heap.size → S k) : Mods S a w' :=
  h.trans (T := fun k => row = some k) ⟨hg.os, hg.tape, hg.output, hg.size, fun i hi hs => hg.block i hi (fun e => hs e.symm)⟩ (fun i hi e => hr i e hi)
theorem Mods.of_below {B : Nat} {w w' : World} (h : Below B w w') : Mods (fun k => B ≤ k) w w' := ⟨h.os, h.tape, h.output, h.size, fun i _ hs => h.block i (by omega)⟩
theorem Mods.below {S : Nat → Prop} {w w' : World} {B : Nat} (h : Mods S w w') (hB : B ≤ w.heap.size) (hS : ∀ k, k < B → ¬ S k) : Below B w w' := ⟨h.os, h.tape, h.output, h.size, fun i hi => h.block i (by omega) (hS i hi)⟩
theorem Mods.cell {S : Nat → Prop} {w w' : World} (h : Mods S w w') {p : Addr} {v : Value} (e : w.cell? p = some v) (hp : ¬ S p.block) : w'.cell? p = some v := by
  rw [World.cell?_of_block (w := w) (h.block p.block (cell_lt e) hp)]; exact e

/-- Block b is a row of these cells, of the type t. -/
def Blk (w : World) (b : Nat) (t : TypeId) (cs : List Value) : Prop := w.heap[b]? = some (.cells cs.toArray t (0, 0))
section
variable {w w' : World} {b : Nat} {t : TypeId} {cs : List Value}
theorem Blk.lt (h : Blk w b t cs) : b < w.heap.size := (Array.getElem?_eq_some_iff.1 h).1
theorem Blk.cell (h : Blk w b t cs) (i : Nat) : w.cell? ⟨b, i, none⟩ = cs[i]? := by
  unfold Blk at h
  simp [World.cell?, h]
theorem Blk.frozen (h : Blk w b t cs) (i : Nat) : w.frozen? ⟨b, i, none⟩ = false := by
  unfold Blk at h
  simp [World.frozen?, h]
theorem Blk.mods {S : Nat → Prop} (h : Blk w b t cs) (m : Mods S w w') (hb : ¬ S b) : Blk w' b t cs := (m.block b h.lt hb).trans h
theorem Blk.alloc (h : Blk w b t cs) (o : Obj) : Blk (w.alloc o) b t cs := (Below.heap_alloc w o b h.lt).trans h
theorem Blk.drew (h : Blk w b t cs) : Blk w.drew b t cs := h
theorem Blk.setCell (h : Blk w b t cs) (i : Nat) (v : Value) : Blk (w.setCell ⟨b, i, none⟩ v) b t (cs.set i v) := by
  have := setCell_eq_setRow w b i cs.toArray t (0, 0) v h
  unfold Blk
  rw [this, setRow_heap w b cs.toArray _ t (0, 0) h]
  simp
theorem Blk.setCell_ne (h : Blk w b t cs) {p : Addr} (hp : b ≠ p.block) (v : Value) : Blk (w.setCell p v) b t cs := (Below.heap_setCell w p v b hp).trans h
theorem Blk.uniq {t' : TypeId} {cs' : List Value} (h : Blk w b t cs) (h' : Blk w b t' cs') : t = t' := by
  unfold Blk at h h'
  rw [h] at h'
  injection h' with e
  injection e
theorem Blk.new (w : World) (cs : Array Value) (t : TypeId) : Blk (w.alloc (.cells cs t)) w.heap.size t cs.toList := by
  unfold Blk
  show (w.heap.push (Obj.cells cs t))[w.heap.size]? = _
  rw [Array.getElem?_push_size]
/-- The row that a slice of the call's own lies in. -/
theorem own_blk {base : Nat} {e : TypeId} {size : Nat} {v : Value} {n : Nat} {xs : List Value} (h : w.ownsRow base e size v n xs) {g : Nat} (hg : v.ownBlock = some g) : ∃ cur, Blk w g e cur := by
  rcases h.2 with ⟨rfl, _⟩ | ⟨g', cap, cur, rfl, _, h3, _⟩
  · cases hg
  · cases hg
    exact ⟨cur.toList, by unfold Blk; simpa using h3⟩
theorem own_mods {base : Nat} {e : TypeId} {size : Nat} {v : Value} {n : Nat} {xs : List Value} {S : Nat → Prop} (h : w.ownsRow base e size v n xs) (m : Mods S w w') (hv : ∀ g, v.ownBlock = some g → ¬ S g) : w'.ownsRow base e size v n xs := by
  refine ⟨h.1, ?_⟩
  rcases h.2 with g | ⟨g, cap, cur, h1, h2, h3, h4⟩
  · exact .inl g
  · subst h1
    exact .inr ⟨g, cap, cur, rfl, h2, (m.block g (Array.getElem?_eq_some_iff.1 h3).1 (hv g rfl)).trans h3, h4⟩
end

/-- make([]T, n): a new row, known whole. -/
theorem wpList_make_blk {P : Program} {w : World} {ops : Array Oper} {rest : List Oper} {o : Oper} {a : Act} {Q : Exit → Act → World → Prop}
    (hg : o.guard = none) (l c : Operand) (t : TypeId) (hop : o.op = Op.makeSlice t l c)
    (e : TypeId) (i : TypeInfo) (z : Value) (size bytes : Nat) (h1 : P.underlying t = some (.slice e)) (h2 : P.info? e = some i) (h3 : i.zero = some z) (h4 : i.size = size) (h5 : i.bytes = bytes)
    (kl kc : IntKind) (L : Int) (n : Nat) (hl : a.eval l = .int kl L) (hc : a.eval c = .int kc L) (hL : L = (n : Int)) (b2 : bytes * n ≤ 281474976710656) (b3 : n ≤ 4611686018427387904)
    (hK : ∀ w', Blk w' w.heap.size e (madeCells z.cells (n * size)).toList → Mods (fun _ => False) w w' → w'.heap.size = w.heap.size + 1 → wpList P ops Q rest (a.put o.dst (.slice (some ⟨w.heap.size, 0, none⟩) n n)) w') :
    wpList P ops Q (o :: rest) a w := by
  refine wpList_plain hg fun K hK' => ?_
  subst hL h4 h5
  have hb' : (i.bytes : Int) * (n : Int) ≤ 281474976710656 := by
    have h : ((i.bytes * n : Nat) : Int) ≤ 281474976710656 := by omega
    rwa [Int.natCast_mul] at h
  have hr := run_make (P := P) w t e i z h1 h2 h3 kl kc n n (by omega) (Int.le_refl _) hb' (by omega)
  simp only [Int.toNat_natCast] at hr
  unfold Oper.wp
  simp [execOp, hop, hl, hc, hr, Result.andThen]
  exact hK' _ _ (hK _ (Blk.new _ _ _) ((Mods.refl _ _).alloc _) (by simp))

/-- append(v, x), v a slice of the call's own: x lies in the newest block. -/
theorem app_ex {P : Program} {W : World} (t ty e : TypeId) (i : TypeInfo) (z : Value) (size bytes : Nat) (ht : P.underlying t = some (.slice e)) (hi : P.info? e = some i) (hz : i.zero = some z)
    (hsize : i.size = size) (hby : i.bytes = bytes) (hzs : z.cells.size = size) (hsz : 0 < size) (base : Nat) (v : Value) (n : Nat) (xs : List Value) (hown : W.ownsRow base e size v n xs)
    (news : Array Value) (hl : news.size = size) (h1 : ∀ u ∈ news.toList, u.oneCell' = true) (H : Nat) (hH : W.heap.size = H) (h63 : n + 1 ≤ maxLen) (hbytes : (n + 1) * bytes ≤ 140737488355328) (hbase : base ≤ W.heap.size) :
    ∃ v' W', (Builtin.append_ #[t, t] ty #[v, .slice (some ⟨H, 0, none⟩) 1 1]).run P (W.alloc (.cells news e)) = .ok v' W' ∧ W'.ownsRow base e size v' (n + 1) (xs ++ news.toList) ∧
      Mods (fun k => v.ownBlock = some k) W W' ∧ (v'.ownBlock = v.ownBlock ∨ ∃ k, H ≤ k ∧ v'.ownBlock = some k) := by
  subst hH
  obtain ⟨v', w', hr, h2, h3, _, h5⟩ := run_append_own_at (P := P) (W.alloc (.cells news e)) base t ty e i z size bytes ht hi hz hsize hby hzs hsz v n xs (own_mods hown ((Mods.refl (fun _ => False) W).alloc _) (fun _ _ f => f)) ⟨W.heap.size, 0, none⟩ 1 1 news.toList (by simpa using hl)
    (fun j u h => by
      have := (Blk.new W news e).cell j
      rw [show (⟨W.heap.size, 0, none⟩ : Addr).add j = ⟨W.heap.size, j, none⟩ by unfold Addr.add; split <;> simp_all, this]
      exact h) h1 h63 hbytes (by simp; omega)
  refine ⟨v', w', hr, h2, ((Mods.refl _ W).alloc _).grown h3 (fun k e _ => e), ?_⟩
  rcases h5 with h5 | h5
  · exact .inl h5
  · exact .inr ⟨_, by simp, h5⟩

/-- An append whose run is known. -/
theorem wpList_append_run {P : Program} {w : World} {ops : Array Oper} {rest : List Oper} {o : Oper} {a : Act} {Q : Exit → Act → World → Prop} (hgd : o.guard = none) (s x : Operand) (t : TypeId)
    (ho : o.op = .call { callee := .builtin .append, args := #[s, x], argTypes := #[t, t] }) (v u : Value) (hs : a.eval s = v) (hx : a.eval x = u) {v' : Value} {w' : World}
    (hr : (Builtin.append_ #[t, t] o.type #[v, u]).run P w = .ok v' w') (h : wpList P ops Q rest (a.put o.dst v') w') : wpList P ops Q (o :: rest) a w := by
  refine wpList_plain hgd fun K hK => ?_
  unfold Oper.wp execOp
  simp only [ho, resolve, invoke, builtin, Sem.run_bind, Sem.run_pure, Result.andThen_ok, List.map_toArray, List.map_cons, List.map_nil, hs, hx, hr]
  exact hK _ _ h

/-- copy(x, s), x a row of one's own that is known whole, s any slice that fits (nil, too). -/
theorem copy_ex {P : Program} {w : World} (t ty e : TypeId) (i : TypeInfo) (size : Nat) (ht : P.underlying t = some (.slice e)) (hi : P.info? e = some i) (hsize : i.size = size)
    (g dLen dCap : Nat) (sa : Option Addr) (m c : Nat) (hm : m ≤ dLen) (hnil : sa = none → m = 0 ∧ c = 0) (cs : List Value) (hl : cs.length = m * size)
    (hsrc : ∀ ad, sa = some ad → ∀ j v, cs[j]? = some v → w.cell? (ad.add j) = some v) (et : TypeId) (cur : List Value) (hg : Blk w g et cur) (hfit : cs.length ≤ cur.length) (h1 : ∀ v ∈ cs, v.oneCell' = true) :
    ∃ w', (Builtin.copy_ #[t, t] ty #[.slice (some ⟨g, 0, none⟩) dLen dCap, .slice sa m c]).run P w = .ok (goInt m) w' ∧ Blk w' g et (cs ++ cur.drop cs.length) ∧ Mods (fun k => k = g) w w' ∧ w'.heap.size = w.heap.size := by
  subst hsize
  have hmin : Nat.min m dLen = m := Nat.min_eq_left hm
  cases sa with
  | none =>
    obtain ⟨rfl, rfl⟩ := hnil rfl
    obtain rfl : cs = [] := List.eq_nil_of_length_eq_zero (by simpa using hl)
    refine ⟨w, ?_, by simpa using hg, Mods.refl _ _, rfl⟩
    simp [Builtin.copy_, run_underlying ht, Builtin.lenOf, Builtin.firstCells, sizeOf, typeInfo, hi, storeCells]
  | some ad =>
    have hld := run_loadCells_list (P := P) w ad cs (hsrc ad rfl)
    have hst := run_storeCells_at P g 0 et cs 0 cur.toArray w hg (by simpa using hfit) h1
    simp only [Nat.zero_add, List.take_zero, List.nil_append] at hst
    refine ⟨w.setRow g (cs ++ cur.drop cs.length).toArray, ?_, setRow_heap w g cur.toArray _ et (0, 0) hg, ⟨rfl, rfl, rfl, by simp [World.setRow], fun k _ hk => setRow_other w g k _ hk⟩, by simp [World.setRow]⟩
    · simp [Builtin.copy_, run_underlying ht, Builtin.lenOf, Builtin.firstCells, sizeOf, typeInfo, hi, hmin, ← hl, hld, hst]
end Go.Proofs.Ytiiokkllmchohaa
