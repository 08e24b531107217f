/- Walk of the law's lendTypes. -/
import Derived.Test.YtiiokkllmchohaaGreatT01
namespace Go.Proofs.YtiiokkllmchohaaGreat
open Go.RowKit
theorem infoTypes : (Tryz.prog.info? 40).map (fun i => (i.zero, i.size, i.bytes)) = some (some (.slice none 0 0), 1, 24) := by kernel_rfl

def HBlk (w : World) (bh : Nat) (cs : List Value) : Prop := Blk w bh 53 cs ∧ cs.length = 19
structure LentT (w w' : World) (bh : Nat) (cs : List Value) (vt : Value) (B : Nat) (ts : List (Nat × Nat)) (l : List Int) (g : Nat) (vt' : Value) : Prop where
 new : w.heap.size ≤ g
 blk : Blk w' g 43 (l.map (Value.int .i64) ++ [.int .i64 (-77000000)])
 hands : HBlk w' bh (cs.set 0 vt')
 row : w'.ownsRow B 40 1 vt' (ts.length + 1) ((ts ++ [(g, l.length + 1)]).map fun e => .slice (some ⟨e.1, 0, none⟩) e.2 e.2)
 mods : Mods (fun k => k = bh ∨ vt.ownBlock = some k) w w'
 lies : vt'.ownBlock = vt.ownBlock ∨ ∃ k, w.heap.size ≤ k ∧ vt'.ownBlock = some k
def slOf (e : Nat × Nat) : Value := .slice (some ⟨e.1, 0, none⟩) e.2 e.2

theorem set_last {α : Type} (A : List α) (x y : α) (n : Nat) (h : A.length = n) : (A ++ [x]).set n y = A ++ [y] := by subst h; simp
theorem lend_copy {w w1 : World} {i0 : TypeInfo} (hi0 : Tryz.prog.info? 43 = some i0) (hz1 : i0.size = 1) (l : List Int) (la : Option Addr) (lcap : Nat) (hnil : la = none → l.length = 0 ∧ lcap = 0)
  (hsrc : ∀ ad, la = some ad → ∀ (j : Nat) (u : Value), (l.map (Value.int .i64))[j]? = some u → w.cell? (ad.add j) = some u)
  (hb1 : Blk w1 w.heap.size 43 (madeCells (Value.int .i64 0).cells ((l.length + 1) * 1)).toList) (hm1 : Mods (fun _ => False) w w1) (hs1 : w1.heap.size = w.heap.size + 1) :
  ∃ w2, (Builtin.copy_ #[40, 40] 3 #[.slice (some ⟨w.heap.size, 0, none⟩) (l.length + 1) (l.length + 1), .slice la l.length lcap]).run Tryz.prog w1 = .ok (goInt l.length) w2 ∧
   Mods (fun _ => False) w w2 ∧ Blk w2 w.heap.size 43 (l.map (Value.int .i64) ++ [.int .i64 0]) ∧ w2.heap.size = w.heap.size + 1 := by
 have hcur : (madeCells (Value.int .i64 0).cells ((l.length + 1) * 1)).toList = List.replicate (l.length + 1) (Value.int .i64 0) := by
  rw [Nat.mul_one]; exact toList_madeCells_one _ _
 rw [hcur] at hb1
 obtain ⟨w2, hcopy, hb2, hm2, hs2⟩ := copy_ex (P := Tryz.prog) 40 3 43 i0 1 Tryz.underlying40 hi0 hz1 w.heap.size (l.length + 1) (l.length + 1) la l.length lcap (by omega) hnil (l.map (Value.int .i64)) (by simp) (fun ad e j u h => hm1.cell (hsrc ad e j u h) (fun f => f)) 43 _ hb1 (by simp) (oneCell_ints _)
 refine ⟨w2, hcopy, hm1.trans hm2 (fun i hi e => by omega), ?_, by omega⟩
 simpa using hb2

set_option maxHeartbeats 1000000 in
set_option maxRecDepth 100000 in
theorem lend_types (l : List Int) (va : Value) (w : World) (bh : Nat) (cs : List Value) (vt : Value) (B : Nat) (ts : List (Nat × Nat)) (hl : SlAt 1 (RInt w) va l) (hh : HBlk w bh cs) (h0 : cs[0]? = some vt)
  (hrow : w.ownsRow B 40 1 vt ts.length (ts.map slOf)) (hB : B ≤ w.heap.size) (hbB : bh < B) (hlen : l.length ≤ 1048576) (hts : ts.length + 1 ≤ 16777216) :
  Calls Tryz.prog 83 #[.pointer (some ⟨bh, 0, none⟩), va] w fun e w' => ∃ g, e = .returned (.slice (some ⟨g, 0, none⟩) l.length (l.length + 1)) ∧ ∃ vt', LentT w w' bh cs vt B ts l g vt' := by
 obtain ⟨i0, hi0, hz0, hz1, hz2⟩ := info_parts infoType
 obtain ⟨i1, hi1, hy0, hy1, hy2⟩ := info_parts infoTypes
 obtain ⟨la, lcap, rfl, hnil, hsrc⟩ := ints_src hl
 have HNIL : Hid (la = none → l.length = 0 ∧ lcap = 0) := fun e => ⟨by rw [(hnil e).1]; rfl, (hnil e).2⟩
 have HSRC := hide hsrc
 have hform := own_form hrow
 obtain ⟨ta, tcap, rfl⟩ := hform
 clear hsrc hnil hl
 go_enter Tryz.func83, Tryz.ntmps83
 go_wp2_with (first
  | (at_make; refine wpList_make_blk rfl (.tmp 8) (.tmp 8) 40 rfl 43 i0 (.int .i64 0) 1 8 Tryz.underlying40 hi0 hz0 hz1 hz2 _ _ _ (l.length + 1) rfl rfl (by omega) (by omega) (by omega) ?_; intro w1 hb1 hm1 hs1
     obtain ⟨w2, hcopy, hM2, hb3, hsz2⟩ := lend_copy hi0 hz1 l la lcap (unhide HNIL) (unhide HSRC) hb1 hm1 hs1
     have c2 : w2.cell? ⟨w.heap.size, l.length, none⟩ = some (.int .i64 0) := by rw [hb3.cell]; simp
     have f2 := hb3.frozen l.length
     have hh2 := hh.1.mods hM2 (fun f => f)
     have k0 : w2.cell? ⟨bh, 0, none⟩ = some (.slice ta ts.length tcap) := by rw [hh2.cell]; exact h0
     have k1 := hh2.frozen 0
     have hne : bh ≠ w.heap.size := by omega
     have HB3 := hide hb3
     have HH2 := hide hh2
     have HM2 := hide hM2
     obtain ⟨vt', w4, happ, hown4, hm4, hat4⟩ := app_ex (P := Tryz.prog) (W := w2.setCell ⟨w.heap.size, l.length, none⟩ (.int .i64 (-77000000))) 45 45 40 i1 (.slice none 0 0) 1 24 Tryz.underlying45 hi1 hy0 hy1 hy2 rfl (by decide) B (.slice ta ts.length tcap) ts.length (ts.map slOf) (own_mods hrow (hM2.setCell (fun h => Nat.lt_irrefl _ h) _) (fun _ _ f => f)) #[.slice (some ⟨w.heap.size, 0, none⟩) (l.length + 1) (l.length + 1)] rfl (by simp [Value.oneCell']) (w.heap.size + 1) (by simp [hsz2]) (by unfold maxLen; omega) (by omega) (by simp [hsz2]; omega)
     obtain ⟨ta', tcap', rfl⟩ := own_form hown4
     have hrowne : ∀ k, (Value.slice ta ts.length tcap).ownBlock = some k → B ≤ k ∧ k < w.heap.size := hrow.lt
     have hbh4 := (hh2.setCell_ne (p := ⟨w.heap.size, l.length, none⟩) hne (.int .i64 (-77000000))).mods hm4 (fun e => by have := hrowne _ e; omega)
     have j0 : w4.cell? ⟨bh, 0, none⟩ = some (.slice ta ts.length tcap) := by rw [hbh4.cell]; exact h0
     have j1 := hbh4.frozen 0
     have HX4 := hide ((hb3.setCell l.length (.int .i64 (-77000000))).mods hm4 (fun e => by have := hrowne _ e; omega))
     have HM4 := hide hm4
     have HO4 := hide hown4
     have HA4 := hide hat4
     have HBH4 := hide hbh4
     have HRN := hide hrowne
     clear hb1 hm1 hs1 hb3 hh2 hM2 hm4 hown4 hat4 hbh4 hrowne)
  | (at_builtin; refine wpList_append_run rfl (.tmp 21) (.tmp 23) 45 rfl _ _ rfl rfl happ ?_))
 go_ret
 refine ⟨w.heap.size, rfl, .slice ta' (ts.length + 1) tcap', ?_⟩
 have hne2 : w.heap.size ≠ bh := fun e => hne e.symm
 have hm : Mods (fun k => k = bh ∨ (Value.slice ta ts.length tcap).ownBlock = some k) w (w4.setCell ⟨bh, 0, none⟩ (.slice ta' (ts.length + 1) tcap')) :=
  ((((unhide HM2).setCell (p := ⟨w.heap.size, l.length, none⟩) (fun h => Nat.lt_irrefl _ h) _).mono (fun _ _ f => f.elim)).trans (unhide HM4) (fun i hi e => .inr e)).setCell (fun _ => .inl rfl) _
 have hh4 := (unhide HBH4).setCell 0 (.slice ta' (ts.length + 1) tcap')
 have hrow4 := own_mods (S := fun k => k = bh) (unhide HO4) ((Mods.refl (fun k => k = bh) w4).setCell (p := ⟨bh, 0, none⟩) (fun _ => rfl) (.slice ta' (ts.length + 1) tcap')) (fun g e => by have := (unhide HO4).lt g e; omega)
 refine ⟨Nat.le_refl _, ?_, ⟨hh4, by rw [List.length_set]; exact hh.2⟩, ?_, hm, ?_⟩
 ·have := (unhide HX4).setCell_ne (p := ⟨bh, 0, none⟩) hne2 (.slice ta' (ts.length + 1) tcap')
  rwa [set_last (l.map (Value.int .i64)) _ _ _ (by simp)] at this
 ·rw [List.map_append]; exact hrow4
 ·rcases unhide HA4 with h | ⟨k, h1, h2⟩
  ·exact .inl h
  ·exact .inr ⟨k, by omega, h2⟩
structure InL (w : World) (B : Nat) (eo ei : TypeId) (sz : Nat) (lastv : List Value) (v : Value) (es : List (Nat × Nat)) : Prop where
 row : w.ownsRow B eo 1 v es.length (es.map slOf)
 ent : ∀ e ∈ es, B ≤ e.1 ∧ 1 ≤ e.2 ∧ e.2 ≤ 1048577 ∧ ∃ cs : List Value, Blk w e.1 ei cs ∧ cs.length = e.2 * sz ∧ cs.drop ((e.2 - 1) * sz) = lastv
 nodup : (es.map Prod.fst).Nodup

theorem InL.nil (w : World) (B : Nat) (eo ei : TypeId) (sz : Nat) (lastv : List Value) : InL w B eo ei sz lastv (.slice none 0 0) [] :=
 ⟨World.ownsRow_nil w B eo 1, fun _ h => absurd h List.not_mem_nil, List.nodup_nil⟩
theorem InL.mods {w w' : World} {B : Nat} {eo ei : TypeId} {sz : Nat} {lastv : List Value} {v : Value} {es : List (Nat × Nat)} {S : Nat → Prop} (h : InL w B eo ei sz lastv v es) (m : Mods S w w')
  (hr : ∀ k cs, Blk w k eo cs → ¬ S k) (he : ∀ k cs, Blk w k ei cs → ¬ S k) : InL w' B eo ei sz lastv v es := by
 refine ⟨own_mods h.row m (fun g hg => ?_), fun e hm => ?_, h.nodup⟩
 ·obtain ⟨cur, hb⟩ := own_blk h.row hg
  exact hr g cur hb
 ·obtain ⟨h1, h2, h3, cs, h4, h5⟩ := h.ent e hm
  exact ⟨h1, h2, h3, cs, h4.mods m (he _ _ h4), h5⟩
theorem InL.mods' {w w' : World} {B : Nat} {eo ei : TypeId} {sz : Nat} {lastv : List Value} {v : Value} {es : List (Nat × Nat)} {S : Nat → Prop} (h : InL w B eo ei sz lastv v es) (m : Mods S w w')
  (hr : ∀ k cs, Blk w k eo cs → ¬ S k) (he : ∀ e ∈ es, ¬ S e.1) : InL w' B eo ei sz lastv v es := by
 refine ⟨own_mods h.row m (fun g hg => ?_), fun e hm => ?_, h.nodup⟩
 ·obtain ⟨cur, hb⟩ := own_blk h.row hg
  exact hr g cur hb
 ·obtain ⟨h1, h2, h3, cs, h4, h5⟩ := h.ent e hm
  exact ⟨h1, h2, h3, cs, h4.mods m (he e hm), h5⟩
theorem InL.push {w w' : World} {B : Nat} {eo ei : TypeId} {sz : Nat} {lastv : List Value} {v v' : Value} {es : List (Nat × Nat)} {S : Nat → Prop} (h : InL w B eo ei sz lastv v es) (m : Mods S w w')
  (he : ∀ k cs, Blk w k ei cs → ¬ S k) {g n : Nat} (hB : B ≤ w.heap.size) (hg : w.heap.size ≤ g) (hn : 1 ≤ n) (hn' : n ≤ 1048577) {cs : List Value} (hb : Blk w' g ei cs) (hl : cs.length = n * sz) (hd : cs.drop ((n - 1) * sz) = lastv)
  (hrow : w'.ownsRow B eo 1 v' (es.length + 1) ((es ++ [(g, n)]).map slOf)) : InL w' B eo ei sz lastv v' (es ++ [(g, n)]) := by
 refine ⟨by rw [List.length_append]; exact hrow, fun e hm => ?_, ?_⟩
 ·rcases List.mem_append.1 hm with hm | hm
  ·obtain ⟨h1, h2, h3, cs', h4, h5⟩ := h.ent e hm
   exact ⟨h1, h2, h3, cs', h4.mods m (he _ _ h4), h5⟩
  ·rw [List.mem_singleton] at hm
   subst hm
   exact ⟨by show B ≤ g; omega, hn, hn', cs, hb, hl, hd⟩
 ·rw [List.map_append, List.nodup_append]
  refine ⟨h.nodup, by simp, fun a ha b hb' => ?_⟩
  obtain ⟨e, hm, rfl⟩ := List.mem_map.1 ha
  have : b = g := by simpa using hb'
  subst this
  obtain ⟨_, _, _, cs', h4, _⟩ := h.ent e hm
  have := h4.lt
  omega

abbrev lastT : List Value := [.int .i64 (-77000000)]
abbrev lastI : List Value := [.int .i64 (-77000000), .int .i64 0, .int .i64 0]
abbrev lastF : List Value := [.int .i64 (-77000000), .slice none 0 0, .slice none 0 0]
abbrev lastM : List Value := [.int .i64 (-77000000), .slice none 0 0, .int .i64 0, .int .i64 0, .int .i64 0, .slice none 0 0, .slice none 0 0]
abbrev lastC : List Value := [.int .i64 (-77000000), .slice none 0 0, .slice none 0 0]
abbrev InT (w : World) (B : Nat) (v : Value) (es : List (Nat × Nat)) : Prop := InL w B 40 43 1 lastT v es
abbrev InI (w : World) (B : Nat) (v : Value) (es : List (Nat × Nat)) : Prop := InL w B 61 60 3 lastI v es
abbrev InF (w : World) (B : Nat) (v : Value) (es : List (Nat × Nat)) : Prop := InL w B 36 42 3 lastF v es
abbrev InM (w : World) (B : Nat) (v : Value) (es : List (Nat × Nat)) : Prop := InL w B 64 63 7 lastM v es
abbrev InC (w : World) (B : Nat) (v : Value) (es : List (Nat × Nat)) : Prop := InL w B 22 66 3 lastC v es

def cellNo (b n : Nat) (w : World) (a : Addr) : Option Value := if a.block ≠ b ∧ a.block < n then w.cell? a else none
theorem cellNo_le (b n : Nat) (w : World) : GLe (cellNo b n w) w.cell? := fun p v h => by
 unfold cellNo at h
 split at h
 ·exact h
 ·cases h
theorem cellNo_mods {b n : Nat} {w w' : World} {S : Nat → Prop} (m : Mods S w w') (hS : ∀ k, k ≠ b ∧ k < n → ¬ S k) : GLe (cellNo b n w) (cellNo b n w') := fun p v h => by
 unfold cellNo at h ⊢
 split at h
 ·rename_i hp
  rw [if_pos hp]
  exact m.cell h (hS _ hp)
 ·cases h
theorem cellNo_lt {b n : Nat} {w : World} {a : Addr} {v : Value} (h : cellNo b n w a = some v) : a.block ≠ b ∧ a.block < n := by
 unfold cellNo at h
 split at h
 ·assumption
 ·cases h
def TyBlk (T : List TypeId) (w : World) (k : Nat) : Prop := ∃ t cs, Blk w k t cs ∧ t ∈ T
def tyB (T : List TypeId) (w : World) (k : Nat) : Bool := match w.heap[k]? with
 | some (.cells _ t fr) => decide (t ∈ T) && decide (fr = (0, 0))
 | _ => false
theorem tyB_of {T : List TypeId} {w : World} {k : Nat} (h : TyBlk T w k) : tyB T w k = true := by
 obtain ⟨t, cs, hb, ht⟩ := h
 unfold Blk at hb
 simp [tyB, hb, ht]
theorem tyB_iff {T : List TypeId} {w : World} {k : Nat} (h : tyB T w k = true) : TyBlk T w k := by
 unfold tyB at h
 split at h
 ·rename_i c t fr hc
  simp only [Bool.and_eq_true, decide_eq_true_eq] at h
  obtain ⟨h1, rfl⟩ := h
  exact ⟨t, c.toList, by unfold Blk; simpa using hc, h1⟩
 ·cases h
def cellS (T : List TypeId) (w : World) (a : Addr) : Option Value := if tyB T w a.block = true then w.cell? a else none
theorem cellS_pos {T : List TypeId} {w : World} {a : Addr} (h : TyBlk T w a.block) : cellS T w a = w.cell? a := by
 unfold cellS
 rw [if_pos (tyB_of h)]
theorem cellS_some {T : List TypeId} {w : World} {a : Addr} {v : Value} (h : cellS T w a = some v) : TyBlk T w a.block ∧ w.cell? a = some v := by
 unfold cellS at h
 split at h
 ·rename_i hp
  exact ⟨tyB_iff hp, h⟩
 ·cases h
theorem cellS_le (T : List TypeId) (w : World) : GLe (cellS T w) w.cell? := fun _ _ h => (cellS_some h).2
theorem cellS_sub {T T' : List TypeId} (hT : ∀ t ∈ T, t ∈ T') (w : World) : GLe (cellS T w) (cellS T' w) := fun p v h => by
 obtain ⟨⟨t, cs, hb, ht⟩, h⟩ := cellS_some h
 rw [cellS_pos ⟨t, cs, hb, hT t ht⟩]; exact h
theorem cellS_mods {T : List TypeId} {w w' : World} {S : Nat → Prop} (m : Mods S w w') (hS : ∀ k t cs, Blk w k t cs → t ∈ T → ¬ S k) : GLe (cellS T w) (cellS T w') := fun p v h => by
 obtain ⟨⟨t, cs, hb, ht⟩, h⟩ := cellS_some h
 have hn := hS _ _ _ hb ht
 rw [cellS_pos ⟨t, cs, hb.mods m hn, ht⟩]
 exact m.cell h hn
theorem cellS_blk {T : List TypeId} {w : World} {b : Nat} {t : TypeId} {cs : List Value} (h : Blk w b t cs) (ht : t ∈ T) (i : Nat) : cellS T w ⟨b, i, none⟩ = cs[i]? := by
 rw [cellS_pos ⟨t, cs, h, ht⟩, h.cell]
theorem ints_of_blk {T : List TypeId} {w : World} {g : Nat} {t : TypeId} {l : List Int} {rest : List Value} {cap : Nat} (h : Blk w g t (l.map (Value.int .i64) ++ rest)) (ht : t ∈ T) (hc : l.length ≤ cap) : SlAt 1 (GInt (cellS T w)) (.slice (some ⟨g, 0, none⟩) l.length cap) l := by
 refine ⟨_, g, 0, cap, rfl, hc, ⟨fun _ => rfl, .inr (.inl rfl)⟩, fun j x hj => ?_⟩
 unfold GInt
 have hl := (List.getElem?_eq_some_iff.1 hj).1
 rw [cellS_blk h ht, Nat.zero_add, Nat.mul_one, List.getElem?_append_left (by simpa using hl), List.getElem?_map, hj]
 rfl
theorem code_of_blk {T : List TypeId} {w : World} {g : Nat} {t : TypeId} {l : List LIns} {rest : List Value} {cap : Nat} (h : Blk w g t (codeCells l ++ rest)) (ht : t ∈ T) (hc : l.length ≤ cap) : SlAt 3 (GIns (cellS T w)) (.slice (some ⟨g, 0, none⟩) l.length cap) l := by
 refine ⟨_, g, 0, cap, rfl, hc, ⟨fun _ => rfl, .inr (.inl rfl)⟩, fun j x hj => ?_⟩
 have hl := (List.getElem?_eq_some_iff.1 hj).1
 have hr : ∀ r, r < 3 → cellS T w ⟨g, 0 + j * 3 + r, none⟩ = (insCells x)[r]? := fun r hr => by
  rw [cellS_blk h ht, Nat.zero_add, List.getElem?_append_left (by rw [codeCells_len]; omega)]
  unfold codeCells
  rw [flat_get (f := insCells) (s := 3) (fun _ => rfl) l j r hr, hj]
  rfl
 exact ⟨hr 0 (by omega), hr 1 (by omega), hr 2 (by omega)⟩
abbrev tT : List TypeId := [43]
abbrev t3 : List TypeId := [43, 60, 42]
abbrev t4 : List TypeId := [43, 60, 42, 63]
abbrev t5 : List TypeId := [43, 60, 42, 63, 66]

structure HS (w : World) (B bh : Nat) (cs : List Value) (vt vi vf : Value) (ts is fs : List (Nat × Nat)) : Prop where
 hands : HBlk w bh cs
 c0 : cs[0]? = some vt
 c1 : cs[1]? = some vi
 c2 : cs[2]? = some vf
 t : InT w B vt ts
 i : InI w B vi is
 f : InF w B vf fs
 lt : bh < B
 le : B ≤ w.heap.size

def Rows3 (bh : Nat) (vt vi vf : Value) (k : Nat) : Prop := k = bh ∨ vt.ownBlock = some k ∨ vi.ownBlock = some k ∨ vf.ownBlock = some k
theorem HS.rows {w : World} {B bh : Nat} {cs : List Value} {vt vi vf : Value} {ts is fs : List (Nat × Nat)} (h : HS w B bh cs vt vi vf ts is fs) {k : Nat} (hk : Rows3 bh vt vi vf k) :
  (k = bh ∨ B ≤ k) ∧ ∃ t c, Blk w k t c ∧ (t = 53 ∨ t = 40 ∨ t = 61 ∨ t = 36) := by
 rcases hk with rfl | hk | hk | hk
 ·exact ⟨.inl rfl, _, _, h.hands.1, .inl rfl⟩
 ·obtain ⟨c, hb⟩ := own_blk h.t.row hk
  exact ⟨.inr (h.t.row.lt k hk).1, _, c, hb, .inr (.inl rfl)⟩
 ·obtain ⟨c, hb⟩ := own_blk h.i.row hk
  exact ⟨.inr (h.i.row.lt k hk).1, _, c, hb, .inr (.inr (.inl rfl))⟩
 ·obtain ⟨c, hb⟩ := own_blk h.f.row hk
  exact ⟨.inr (h.f.row.lt k hk).1, _, c, hb, .inr (.inr (.inr rfl))⟩
theorem HS.other {w : World} {B bh : Nat} {cs : List Value} {vt vi vf : Value} {ts is fs : List (Nat × Nat)} (h : HS w B bh cs vt vi vf ts is fs) {k : Nat} {t : TypeId} {c : List Value} (hb : Blk w k t c)
  (ht : ¬ (t = 53 ∨ t = 40 ∨ t = 61 ∨ t = 36)) : ¬ Rows3 bh vt vi vf k := fun hk => by
 obtain ⟨_, t', c', hb', ht'⟩ := h.rows hk
 rw [hb'.uniq hb] at ht'
 exact ht ht'
theorem HS.stay {w w' : World} {B bh : Nat} {cs : List Value} {vt vi vf : Value} {ts is fs : List (Nat × Nat)} {S : Nat → Prop} (h : HS w B bh cs vt vi vf ts is fs) (m : Mods S w w')
  (hS : ∀ k t c, Blk w k t c → S k → ¬ (t = 53 ∨ t = 40 ∨ t = 61 ∨ t = 36 ∨ t = 43 ∨ t = 60 ∨ t = 42)) : HS w' B bh cs vt vi vf ts is fs := by
 have hn : ∀ (t : TypeId), (t = 53 ∨ t = 40 ∨ t = 61 ∨ t = 36 ∨ t = 43 ∨ t = 60 ∨ t = 42) → ∀ k c, Blk w k t c → ¬ S k := fun t ht k c hb hs => hS k t c hb hs ht
 exact ⟨⟨h.hands.1.mods m (hn _ (by simp) _ _ h.hands.1), h.hands.2⟩, h.c0, h.c1, h.c2, h.t.mods m (hn _ (by simp)) (hn _ (by simp)), h.i.mods m (hn _ (by simp)) (hn _ (by simp)), h.f.mods m (hn _ (by simp)) (hn _ (by simp)), h.lt, Nat.le_trans h.le m.size⟩
theorem HS.lent {w w' : World} {B bh : Nat} {cs : List Value} {vt vi vf : Value} {ts is fs : List (Nat × Nat)} (h : HS w B bh cs vt vi vf ts is fs) {l : List Int} {g : Nat} {vt' : Value} (hl : l.length ≤ 1048576) (L : LentT w w' bh cs vt B ts l g vt') :
  HS w' B bh (cs.set 0 vt') vt' vi vf (ts ++ [(g, l.length + 1)]) is fs := by
 have hS : ∀ (t : TypeId), t ≠ 53 → t ≠ 40 → ∀ k c, Blk w k t c → ¬ (k = bh ∨ vt.ownBlock = some k) := fun t h1 h2 k c hb hk => by
  rcases hk with rfl | hk
  ·exact h1 (hb.uniq h.hands.1)
  ·obtain ⟨c', hb'⟩ := own_blk h.t.row hk
   exact h2 (hb.uniq hb')
 have hlen := h.hands.2
 refine ⟨L.hands, by rw [List.getElem?_set_self (by omega)], by rw [List.getElem?_set_ne (by omega)]; exact h.c1, by rw [List.getElem?_set_ne (by omega)]; exact h.c2, ?_, ?_, ?_, h.lt, Nat.le_trans h.le L.mods.size⟩
 ·exact h.t.push L.mods (hS _ (by decide) (by decide)) h.le L.new (by omega) (by omega) L.blk (by simp) (by simp) L.row
 ·exact h.i.mods L.mods (hS _ (by decide) (by decide)) (hS _ (by decide) (by decide))
 ·exact h.f.mods L.mods (hS _ (by decide) (by decide)) (hS _ (by decide) (by decide))
theorem HS.notLent {w : World} {B bh : Nat} {cs : List Value} {vt vi vf : Value} {ts is fs : List (Nat × Nat)} (h : HS w B bh cs vt vi vf ts is fs) {k : Nat} {t : TypeId} {c : List Value} (hb : Blk w k t c) (ht : t ∈ t5) : ¬ Rows3 bh vt vi vf k := by
 refine h.other hb ?_
 simp only [List.mem_cons, List.not_mem_nil, or_false] at ht
 rcases ht with rfl | rfl | rfl | rfl | rfl <;> decide
theorem HS.notOwn {w : World} {B bh : Nat} {cs : List Value} {vt vi vf : Value} {ts is fs : List (Nat × Nat)} (h : HS w B bh cs vt vi vf ts is fs) {k : Nat} (hk : k ≠ bh ∧ k < B) : ¬ Rows3 bh vt vi vf k := fun hr => by
 have := (h.rows hr).1
 omega
theorem HS.lentMods {w w' : World} {B bh : Nat} {cs : List Value} {vt vi vf : Value} {ts is fs : List (Nat × Nat)} (_h : HS w B bh cs vt vi vf ts is fs) {l : List Int} {g : Nat} {vt' : Value} (L : LentT w w' bh cs vt B ts l g vt') :
  Mods (Rows3 bh vt vi vf) w w' := L.mods.mono fun k _ hk => by
 rcases hk with hk | hk
 ·exact .inl hk
 ·exact .inr (.inl hk)
end Go.Proofs.YtiiokkllmchohaaGreat
