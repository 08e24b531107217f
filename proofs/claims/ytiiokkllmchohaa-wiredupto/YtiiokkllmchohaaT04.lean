/- The law's lendMethod: its copy of the code. -/
import Derived.Test.YtiiokkllmchohaaT03
/- LendC0 -/
namespace Go.Proofs.Ytiiokkllmchohaa
open Go.RowKit

theorem infoIns : (Try.prog.info? 54).map (fun i => (i.zero, i.size, i.bytes)) = some (some (.agg #[.int .i64 0, .int .i64 0, .int .i64 0]), 3, 24) := by kernel_rfl
theorem infoInss : (Try.prog.info? 55).map (fun i => (i.zero, i.size, i.bytes)) = some (some (.slice none 0 0), 1, 24) := by kernel_rfl
theorem infoFrame : (Try.prog.info? 103).map (fun i => (i.zero, i.size, i.bytes)) = some (some (.agg #[.int .i64 0, .slice none 0 0, .slice none 0 0]), 3, 56) := by kernel_rfl
theorem infoFrames : (Try.prog.info? 56).map (fun i => (i.zero, i.size, i.bytes)) = some (some (.slice none 0 0), 1, 24) := by kernel_rfl

/-- A list of instructions is copied, marked and put into the hands' row: what that leaves. -/
theorem lend_code {X w2 : World} {B bh : Nat} {cs : List Value} {vt vf : Value} {ia : Option Addr} {icap : Nat} {ts is fs : List (Nat × Nat)} (h : HS X B bh cs vt (.slice ia is.length icap) vf ts is fs) (l : List LIns) (ca : Option Addr) (ccap : Nat)
    (hnil : ca = none → l.length = 0 ∧ ccap = 0) (hsrc : ∀ ad, ca = some ad → ∀ (j : Nat) (u : Value), (codeCells l)[j]? = some u → X.cell? (ad.add j) = some u) (hl : l.length ≤ 1048576) (his : is.length + 1 ≤ 16777216)
    (hb2 : Blk w2 X.heap.size 54 (madeCells (Value.agg #[.int .i64 0, .int .i64 0, .int .i64 0]).cells ((l.length + 1) * 3)).toList) (hm2 : Mods (fun _ => False) X w2) (hs2 : w2.heap.size = X.heap.size + 1) :
    ∃ w3, (Builtin.copy_ #[55, 55] 3 #[.slice (some ⟨X.heap.size, 0, none⟩) (l.length + 1) (l.length + 1), .slice ca l.length ccap]).run Try.prog w2 = .ok (goInt l.length) w3 ∧
      Mods (fun _ => False) X w3 ∧ w3.heap.size = X.heap.size + 1 ∧ (∃ c3, Blk w3 X.heap.size 54 c3 ∧ c3.length = (l.length + 1) * 3) ∧
      ∃ ia' icap' w4, (Builtin.append_ #[37, 37] 37 #[.slice ia is.length icap, .slice (some ⟨X.heap.size + 1, 0, none⟩) 1 1]).run Try.prog
          ((((w3.setCell ⟨X.heap.size, l.length * 3, none⟩ (.int .i64 (-77000000))).setCell ⟨X.heap.size, l.length * 3 + 1, none⟩ (.int .i64 0)).setCell ⟨X.heap.size, l.length * 3 + 2, none⟩ (.int .i64 0)).alloc (.cells #[.slice (some ⟨X.heap.size, 0, none⟩) (l.length + 1) (l.length + 1)] 55)) = .ok (.slice ia' (is.length + 1) icap') w4 ∧
        Mods (fun k => (Value.slice ia is.length icap).ownBlock = some k) X w4 ∧ Blk w4 bh 44 cs ∧
        HS (w4.setCell ⟨bh, 1, none⟩ (.slice ia' (is.length + 1) icap')) B bh (cs.set 1 (.slice ia' (is.length + 1) icap')) vt (.slice ia' (is.length + 1) icap') vf ts (is ++ [(X.heap.size, l.length + 1)]) fs ∧
        Blk w4 X.heap.size 54 (codeCells l ++ lastI) ∧ ((Value.slice ia' (is.length + 1) icap').ownBlock = (Value.slice ia is.length icap).ownBlock ∨ ∃ k, X.heap.size ≤ k ∧ (Value.slice ia' (is.length + 1) icap').ownBlock = some k) := by
  obtain ⟨iI, hI, hI0, hI1, hI2⟩ := info_parts infoIns
  obtain ⟨iJ, hJ, hJ0, hJ1, hJ2⟩ := info_parts infoInss
  have hle := h.le
  have hlt := h.lt
  obtain ⟨w3, hcopy, hb3, hm3, hs3⟩ := copy_ex (P := Try.prog) 55 3 54 iI 3 Try.underlying55 hI hI1 X.heap.size (l.length + 1) (l.length + 1) ca l.length ccap (by omega) hnil (codeCells l) (codeCells_len l) (fun ad e j u hu => hm2.cell (hsrc ad e j u hu) (fun f => f)) 54 _ hb2 (by rw [codeCells_len, made_len]; omega) (codeCells_one l)
  have hM3 : Mods (fun _ => False) X w3 := hm2.trans hm3 (fun i hi e => by omega)
  have hlen : (codeCells l ++ (madeCells (Value.agg #[.int .i64 0, .int .i64 0, .int .i64 0]).cells ((l.length + 1) * 3)).toList.drop (codeCells l).length).length = (l.length + 1) * 3 := by
    rw [List.length_append, List.length_drop, made_len, codeCells_len]; omega
  have hbX : Blk (((w3.setCell ⟨X.heap.size, l.length * 3, none⟩ (.int .i64 (-77000000))).setCell ⟨X.heap.size, l.length * 3 + 1, none⟩ (.int .i64 0)).setCell ⟨X.heap.size, l.length * 3 + 2, none⟩ (.int .i64 0)) X.heap.size 54 (codeCells l ++ lastI) := by
    have := ((hb3.setCell (l.length * 3) (.int .i64 (-77000000))).setCell (l.length * 3 + 1) (.int .i64 0)).setCell (l.length * 3 + 2) (.int .i64 0)
    have e : ((((codeCells l ++ (madeCells (Value.agg #[.int .i64 0, .int .i64 0, .int .i64 0]).cells ((l.length + 1) * 3)).toList.drop (codeCells l).length).set (l.length * 3) (.int .i64 (-77000000))).set (l.length * 3 + 1) (.int .i64 0)).set (l.length * 3 + 2) (.int .i64 0)) = codeCells l ++ lastI := by
      have hd := drop3 (l := set3 (codeCells l ++ (madeCells (Value.agg #[.int .i64 0, .int .i64 0, .int .i64 0]).cells ((l.length + 1) * 3)).toList.drop (codeCells l).length) (l.length * 3) (.int .i64 (-77000000)) (.int .i64 0) (.int .i64 0)) (k := l.length * 3) (by rw [set3_len, hlen]; omega) (set3_0 (by rw [hlen]; omega)) (set3_1 (by rw [hlen]; omega)) (set3_2 (by rw [hlen]; omega))
      have ht : (set3 (codeCells l ++ (madeCells (Value.agg #[.int .i64 0, .int .i64 0, .int .i64 0]).cells ((l.length + 1) * 3)).toList.drop (codeCells l).length) (l.length * 3) (.int .i64 (-77000000)) (.int .i64 0) (.int .i64 0)).take (l.length * 3) = codeCells l := by
        unfold set3
        rw [List.take_set_of_le (by omega), List.take_set_of_le (by omega), List.take_set_of_le (by omega), List.take_append_of_le_length (by rw [codeCells_len]; omega), List.take_of_length_le (by rw [codeCells_len]; omega)]
      show set3 _ _ _ _ _ = _
      rw [← List.take_append_drop (l.length * 3) (set3 (codeCells l ++ (madeCells (Value.agg #[.int .i64 0, .int .i64 0, .int .i64 0]).cells ((l.length + 1) * 3)).toList.drop (codeCells l).length) (l.length * 3) (.int .i64 (-77000000)) (.int .i64 0) (.int .i64 0)), hd, ht]
    rwa [e] at this
  refine ⟨w3, hcopy, hM3, by omega, ⟨_, hb3, hlen⟩, ?_⟩
  generalize hX3 : ((w3.setCell ⟨X.heap.size, l.length * 3, none⟩ (.int .i64 (-77000000))).setCell ⟨X.heap.size, l.length * 3 + 1, none⟩ (.int .i64 0)).setCell ⟨X.heap.size, l.length * 3 + 2, none⟩ (.int .i64 0) = X3 at hbX ⊢
  have hMX3 : Mods (fun _ => False) X X3 := by
    rw [← hX3]
    exact ((hM3.setCell (fun h => Nat.lt_irrefl _ h) _).setCell (fun h => Nat.lt_irrefl _ h) _).setCell (fun h => Nat.lt_irrefl _ h) _
  have hsX3 : X3.heap.size = X.heap.size + 1 := by rw [← hX3]; simp; omega
  clear hX3
  have h3 := h.stay hMX3 (fun k t c _ f => f.elim)
  obtain ⟨vi', w4, happ, hown4, hm4, hat4⟩ := app_ex (P := Try.prog) (W := X3) 37 37 55 iJ (.slice none 0 0) 1 24 Try.underlying37 hJ hJ0 hJ1 hJ2 rfl (by decide) B (.slice ia is.length icap) is.length (is.map slOf) h3.i.row #[.slice (some ⟨X.heap.size, 0, none⟩) (l.length + 1) (l.length + 1)] rfl (by simp [Value.oneCell']) (X.heap.size + 1) (by omega) (by unfold maxLen; omega) (by omega) (by omega)
  obtain ⟨ia', icap', rfl⟩ := own_form hown4
  have hrow : ∀ k, (Value.slice ia is.length icap).ownBlock = some k → B ≤ k ∧ k < X.heap.size := h.i.row.lt
  have hbh4 : Blk w4 bh 44 cs := h3.hands.1.mods hm4 (fun e => by have := hrow _ e; omega)
  have hg4 : Blk w4 X.heap.size 54 (codeCells l ++ lastI) := hbX.mods hm4 (fun e => by have := hrow _ e; omega)
  have hsize4 := hm4.size
  refine ⟨ia', icap', w4, happ, (hMX3.mono (fun _ _ f => f.elim)).trans hm4 (fun _ _ e => e), hbh4, ?_, hg4, ?_⟩
  · have hmods : Mods (fun k => k = bh ∨ (Value.slice ia is.length icap).ownBlock = some k) X3 (w4.setCell ⟨bh, 1, none⟩ (.slice ia' (is.length + 1) icap')) := (hm4.mono (fun _ _ e => .inr e)).setCell (fun _ => .inl rfl) _
    have hS : ∀ (t : TypeId), t ≠ 44 → t ≠ 55 → ∀ k c, Blk X3 k t c → ¬ (k = bh ∨ (Value.slice ia is.length icap).ownBlock = some k) := fun t h1 h2 k c hb hk => by
      rcases hk with rfl | hk
      · exact h1 (hb.uniq h3.hands.1)
      · obtain ⟨c', hb'⟩ := own_blk h3.i.row hk
        exact h2 (hb.uniq hb')
    have hc19 := h.hands.2
    have hne : X.heap.size ≠ bh := by omega
    have hrow4 := own_mods (S := fun k => k = bh) hown4 ((Mods.refl (fun k => k = bh) w4).setCell (p := ⟨bh, 1, none⟩) (fun _ => rfl) (.slice ia' (is.length + 1) icap')) (fun g e => by have := hown4.lt g e; omega)
    refine ⟨⟨hbh4.setCell 1 _, by rw [List.length_set]; exact hc19⟩, by rw [List.getElem?_set_ne (by omega)]; exact h.c0, by rw [List.getElem?_set_self (by omega)], by rw [List.getElem?_set_ne (by omega)]; exact h.c2, ?_, ?_, ?_, hlt, Nat.le_trans h3.le hmods.size⟩
    · exact h3.t.mods hmods (hS _ (by decide) (by decide)) (hS _ (by decide) (by decide))
    · have hEnt : ∀ e ∈ is, B ≤ e.1 ∧ 1 ≤ e.2 ∧ e.2 ≤ 1048577 ∧ ∃ cs : List Value, Blk X e.1 54 cs ∧ cs.length = e.2 * 3 ∧ cs.drop ((e.2 - 1) * 3) = lastI := h.i.ent
      refine InL.push h.i (S := fun k => k = bh ∨ (Value.slice ia is.length icap).ownBlock = some k) ((hMX3.mono (fun _ _ f => f.elim)).trans hmods (fun _ _ e => e)) (fun k c hb => hS _ (by decide) (by decide) k c (hb.mods hMX3 (fun f => f))) hle (Nat.le_refl _) (by omega) (by omega) (hg4.setCell_ne hne _) (by rw [List.length_append, codeCells_len]; show _ + 3 = _; omega) ?_ ?_
      · rw [show l.length + 1 - 1 = l.length by omega, List.drop_append_of_le_length (by rw [codeCells_len]; omega), List.drop_of_length_le (by rw [codeCells_len]; omega)]; rfl
      · rw [List.map_append]; exact hrow4
    · exact h3.f.mods hmods (hS _ (by decide) (by decide)) (hS _ (by decide) (by decide))
  · rcases hat4 with h5 | ⟨k, h5, h6⟩
    · exact .inl h5
    · exact .inr ⟨k, by omega, h6⟩

/-- Behind the code: what holds in the world w4 before the hands and the copy are told. -/
structure Mid1 (w w4 X : World) (B bh : Nat) (cs : List Value) (m : LMeth) (aa ca fa : Option Addr) (acap ccap fcap : Nat) (vt vi vf : Value) (ts is fs : List (Nat × Nat)) (g1 : Nat) (vt1 : Value) (gc : Nat) (vi1 : Value) : Prop where
  eq : X = (w4.setCell ⟨bh, 1, none⟩ vi1).setCell ⟨w.heap.size + 2, 5, none⟩ (.slice (some ⟨gc, 0, none⟩) m.code.length (m.code.length + 1))
  hs : HS X B bh ((cs.set 0 vt1).set 1 vi1) vt1 vi1 vf (ts ++ [(g1, m.args.length + 1)]) (is ++ [(gc, m.code.length + 1)]) fs
  mods : Mods (Rows3 bh vt vi vf) w X
  b0 : Blk X w.heap.size 58 [.int .i64 m.slot, .slice aa m.args.length acap, .int .i64 m.ret, .int .i64 m.locals, .int .i64 m.stack, .slice ca m.code.length ccap, .slice fa m.frames.length fcap]
  b1 : Blk X (w.heap.size + 1) 58 [.int .i64 0, .slice none 0 0, .int .i64 0, .int .i64 0, .int .i64 0, .slice none 0 0, .slice none 0 0]
  b2 : Blk X (w.heap.size + 2) 58 [.int .i64 m.slot, .slice (some ⟨g1, 0, none⟩) m.args.length (m.args.length + 1), .int .i64 m.ret, .int .i64 m.locals, .int .i64 m.stack, .slice (some ⟨gc, 0, none⟩) m.code.length (m.code.length + 1), .slice fa m.frames.length fcap]
  g : Blk X g1 52 (m.args.map (Value.int .i64) ++ lastT)
  c : Blk X gc 54 (codeCells m.code ++ lastI)
  new1 : w.heap.size + 3 ≤ g1
  newc : w.heap.size + 3 ≤ gc
  lt : vt1.ownBlock = vt.ownBlock ∨ ∃ k, w.heap.size ≤ k ∧ vt1.ownBlock = some k
  li : vi1.ownBlock = vi.ownBlock ∨ ∃ k, w.heap.size ≤ k ∧ vi1.ownBlock = some k

end Go.Proofs.Ytiiokkllmchohaa
/- The law's lendMethod: what its loop over frames keeps, and its end. -/
namespace Go.Proofs.Ytiiokkllmchohaa
open Go.RowKit

/-- Frame j lies in the cells cf. -/
def FrameAt (g : Addr → Option Value) (cf : List Value) (f : LFrame) (j : Nat) : Prop :=
  ∃ vl vs, cf[j * 3]? = some (.int .i64 f.pc) ∧ cf[j * 3 + 1]? = some vl ∧ cf[j * 3 + 2]? = some vs ∧ SlAt 1 (GInt g) vl f.locals ∧ SlAt 1 (GInt g) vs f.stack
theorem FrameAt.keep {g g' : Addr → Option Value} {cf cf' : List Value} {f : LFrame} {j : Nat} (h : FrameAt g cf f j) (hg : GLe g g') (hc : ∀ k, k < j * 3 + 3 → cf'[k]? = cf[k]?) : FrameAt g' cf' f j := by
  obtain ⟨vl, vs, h0, h1, h2, h3, h4⟩ := h
  exact ⟨vl, vs, by rw [hc _ (by omega)]; exact h0, by rw [hc _ (by omega)]; exact h1, by rw [hc _ (by omega)]; exact h2, ints_keep hg h3, ints_keep hg h4⟩

/-- Behind i rounds. -/
structure FrSt (w wr : World) (B bh : Nat) (cs : List Value) (m : LMeth) (aa ca fa : Option Addr) (acap ccap fcap : Nat) (vt vi vf : Value) (nts : Nat) (vi1 : Value) (is1 fs : List (Nat × Nat)) (g1 gc gf i : Nat) (vt2 : Value) (ts2 : List (Nat × Nat)) (cs2 cf : List Value) : Prop where
  hs : HS wr B bh cs2 vt2 vi1 vf ts2 is1 fs
  rest : ∀ j, 3 ≤ j → cs2[j]? = cs[j]?
  mods : Mods (Rows3 bh vt vi vf) w wr
  b0 : Blk wr w.heap.size 58 [.int .i64 m.slot, .slice aa m.args.length acap, .int .i64 m.ret, .int .i64 m.locals, .int .i64 m.stack, .slice ca m.code.length ccap, .slice fa m.frames.length fcap]
  b1 : Blk wr (w.heap.size + 1) 58 [.int .i64 0, .slice none 0 0, .int .i64 0, .int .i64 0, .int .i64 0, .slice none 0 0, .slice none 0 0]
  b2 : Blk wr (w.heap.size + 2) 58 [.int .i64 m.slot, .slice (some ⟨g1, 0, none⟩) m.args.length (m.args.length + 1), .int .i64 m.ret, .int .i64 m.locals, .int .i64 m.stack, .slice (some ⟨gc, 0, none⟩) m.code.length (m.code.length + 1), .slice fa m.frames.length fcap]
  g : Blk wr g1 52 (m.args.map (Value.int .i64) ++ lastT)
  c : Blk wr gc 54 (codeCells m.code ++ lastI)
  fb : Blk wr gf 103 cf
  fl : cf.length = (m.frames.length + 1) * 3
  done : ∀ (j : Nat) (hj : j < m.frames.length), j < i → FrameAt (cellS tT wr) cf m.frames[j] j
  lt : vt2.ownBlock = vt.ownBlock ∨ ∃ k, w.heap.size ≤ k ∧ vt2.ownBlock = some k
  li : vi1.ownBlock = vi.ownBlock ∨ ∃ k, w.heap.size ≤ k ∧ vi1.ownBlock = some k
  tl : ts2.length = nts + 1 + 2 * i
  newf : w.heap.size + 3 ≤ gf
  newc : w.heap.size + 3 ≤ gc
  new1 : w.heap.size + 3 ≤ g1
  old : ∀ e ∈ fs, e.1 < w.heap.size
  leB : B ≤ w.heap.size

section
variable {w wr : World} {B bh : Nat} {cs : List Value} {m : LMeth} {aa ca fa : Option Addr} {acap ccap fcap : Nat} {vt vi vf : Value} {nts : Nat} {vi1 : Value} {is1 fs : List (Nat × Nat)} {g1 gc gf i : Nat} {vt2 : Value} {ts2 : List (Nat × Nat)} {cs2 cf : List Value}

/-- The rows of the round lie in those of the beginning, or in new blocks. -/
theorem FrSt.rows (h : FrSt w wr B bh cs m aa ca fa acap ccap fcap vt vi vf nts vi1 is1 fs g1 gc gf i vt2 ts2 cs2 cf) {k : Nat} (hk : k < w.heap.size) (hr : k = bh ∨ vt2.ownBlock = some k) : Rows3 bh vt vi vf k := by
  rcases hr with rfl | hr
  · exact .inl rfl
  · rcases h.lt with e | ⟨k', e1, e2⟩
    · exact .inr (.inl (e ▸ hr))
    · rw [e2] at hr; cases hr; omega
/-- A block of another type than the hands' and their first row's. -/
theorem FrSt.far (h : FrSt w wr B bh cs m aa ca fa acap ccap fcap vt vi vf nts vi1 is1 fs g1 gc gf i vt2 ts2 cs2 cf) {k : Nat} {t : TypeId} {c : List Value} (hb : Blk wr k t c) (h1 : t ≠ 44) (h2 : t ≠ 31) : ¬ (k = bh ∨ vt2.ownBlock = some k) := fun hk => by
  rcases hk with rfl | hk
  · exact h1 (hb.uniq h.hs.hands.1)
  · obtain ⟨c', hb'⟩ := own_blk h.hs.t.row hk
    exact h2 (hb.uniq hb')
theorem FrSt.drew (h : FrSt w wr B bh cs m aa ca fa acap ccap fcap vt vi vf nts vi1 is1 fs g1 gc gf i vt2 ts2 cs2 cf) : FrSt w wr.drew B bh cs m aa ca fa acap ccap fcap vt vi vf nts vi1 is1 fs g1 gc gf i vt2 ts2 cs2 cf := by
  have hm : Mods (fun _ => False) wr wr.drew := (Mods.refl _ _).drew
  exact ⟨h.hs.stay hm (fun _ _ _ _ f => f.elim), h.rest, h.mods.drew, h.b0, h.b1, h.b2, h.g, h.c, h.fb, h.fl, fun j hj hji => (h.done j hj hji).keep (cellS_mods hm (fun _ _ _ _ _ f => f)) (fun _ _ => rfl), h.lt, h.li, h.tl, h.newf, h.newc, h.new1, h.old, h.leB⟩
/-- A list of types is lent in between: the counts and the done frames stand. -/
theorem FrSt.lent (h : FrSt w wr B bh cs m aa ca fa acap ccap fcap vt vi vf nts vi1 is1 fs g1 gc gf i vt2 ts2 cs2 cf) {l : List Int} {w' : World} {g : Nat} {vt' : Value} (hl : l.length ≤ 1048576) (L : LentT wr w' bh cs2 vt2 B ts2 l g vt') (n' : Nat) (hn : ts2.length + 1 = n' + 1 + 2 * i) :
    FrSt w w' B bh cs m aa ca fa acap ccap fcap vt vi vf n' vi1 is1 fs g1 gc gf i vt' (ts2 ++ [(g, l.length + 1)]) (cs2.set 0 vt') cf := by
  have hsz := h.mods.size
  refine ⟨h.hs.lent hl L, fun j hj => by rw [List.getElem?_set_ne (by omega)]; exact h.rest j hj, h.mods.trans L.mods (fun k hk hr => h.rows hk hr), h.b0.mods L.mods (h.far h.b0 (by decide) (by decide)), h.b1.mods L.mods (h.far h.b1 (by decide) (by decide)), h.b2.mods L.mods (h.far h.b2 (by decide) (by decide)),
    h.g.mods L.mods (h.far h.g (by decide) (by decide)), h.c.mods L.mods (h.far h.c (by decide) (by decide)), h.fb.mods L.mods (h.far h.fb (by decide) (by decide)), h.fl,
    fun j hj hji => (h.done j hj hji).keep (cellS_mods L.mods (fun k t c hb ht => by obtain rfl := List.mem_singleton.1 ht; exact h.far hb (by decide) (by decide))) (fun _ _ => rfl), ?_, h.li, by rw [List.length_append, List.length_singleton]; omega, h.newf, h.newc, h.new1, h.old, h.leB⟩
  · rcases L.lies with e | ⟨k, e1, e2⟩
    · rw [e]; exact h.lt
    · exact .inr ⟨k, by omega, e2⟩
theorem FrSt.cellF (h : FrSt w wr B bh cs m aa ca fa acap ccap fcap vt vi vf nts vi1 is1 fs g1 gc gf i vt2 ts2 cs2 cf) (k : Nat) (hk : k < (m.frames.length + 1) * 3) : ∃ u, wr.cell? ⟨gf, k, none⟩ = some u :=
  ⟨cf[k]'(by rw [h.fl]; exact hk), by rw [h.fb.cell]; exact List.getElem?_eq_getElem _⟩
/-- The round's store. -/
theorem FrSt.put (h : FrSt w wr B bh cs m aa ca fa acap ccap fcap vt vi vf nts vi1 is1 fs g1 gc gf i vt2 ts2 cs2 cf) (hi : i < m.frames.length) {vl vs : Value} (hl : SlAt 1 (GInt (cellS tT wr)) vl m.frames[i].locals) (hs : SlAt 1 (GInt (cellS tT wr)) vs m.frames[i].stack) (n' : Nat) (hn : ts2.length = n' + 1 + 2 * (i + 1)) :
    ∃ cf', FrSt w (((wr.setCell ⟨gf, i * 3, none⟩ (.int .i64 m.frames[i].pc)).setCell ⟨gf, i * 3 + 1, none⟩ vl).setCell ⟨gf, i * 3 + 2, none⟩ vs) B bh cs m aa ca fa acap ccap fcap vt vi vf n' vi1 is1 fs g1 gc gf (i + 1) vt2 ts2 cs2 cf' := by
  have hsz := h.mods.size
  have hnf := h.newf
  have hlt := h.hs.lt
  have hle := h.hs.le
  generalize hX : ((wr.setCell ⟨gf, i * 3, none⟩ (.int .i64 m.frames[i].pc)).setCell ⟨gf, i * 3 + 1, none⟩ vl).setCell ⟨gf, i * 3 + 2, none⟩ vs = X
  have hm : Mods (fun k => k = gf) wr X := by
    rw [← hX]
    exact (((Mods.refl (fun k => k = gf) wr).setCell (p := ⟨gf, i * 3, none⟩) (fun _ => rfl) _).setCell (p := ⟨gf, i * 3 + 1, none⟩) (fun _ => rfl) _).setCell (p := ⟨gf, i * 3 + 2, none⟩) (fun _ => rfl) _
  have hb : Blk X gf 103 (set3 cf (i * 3) (.int .i64 m.frames[i].pc) vl vs) := by
    rw [← hX]
    exact ((h.fb.setCell (i * 3) _).setCell (i * 3 + 1) _).setCell (i * 3 + 2) _
  clear hX
  have hfl := h.fl
  have hne : ∀ {k t c}, Blk wr k t c → t ≠ 103 → ¬ (k = gf) := fun hb' ht e => by subst e; exact ht (hb'.uniq h.fb)
  have hge : GLe (cellS tT wr) (cellS tT X) := cellS_mods hm (fun k t c hb' ht => by obtain rfl := List.mem_singleton.1 ht; exact hne hb' (by decide))
  refine ⟨_, ⟨⟨h.hs.hands.1.mods hm (hne h.hs.hands.1 (by decide)), h.hs.hands.2⟩, h.hs.c0, h.hs.c1, h.hs.c2, h.hs.t.mods hm (fun k c hb' => hne hb' (by decide)) (fun k c hb' => hne hb' (by decide)), h.hs.i.mods hm (fun k c hb' => hne hb' (by decide)) (fun k c hb' => hne hb' (by decide)), h.hs.f.mods' hm (fun k c hb' => hne hb' (by decide)) (fun e he hk => by have := h.old e he; omega), hlt, Nat.le_trans hle hm.size⟩, h.rest, h.mods.trans hm (fun k hk e => by omega), h.b0.mods hm (hne h.b0 (by decide)), h.b1.mods hm (hne h.b1 (by decide)), h.b2.mods hm (hne h.b2 (by decide)), h.g.mods hm (hne h.g (by decide)), h.c.mods hm (hne h.c (by decide)), hb, by rw [set3_len]; exact hfl, fun j hj hji => ?_, h.lt, h.li, hn, h.newf, h.newc, h.new1, h.old, h.leB⟩
  · rcases Nat.lt_or_ge j i with hlt' | hge'
    · exact (h.done j hj hlt').keep hge (fun k hk => set3_ne (by omega))
    · obtain rfl : j = i := by omega
      exact ⟨vl, vs, set3_0 (by omega), set3_1 (by omega), set3_2 (by omega), ints_keep hge hl, ints_keep hge hs⟩
/-- The end: the owner's mark behind the frames, and the list put into the hands' row. -/
theorem FrSt.fin {fa2 : Option Addr} {fcap2 : Nat} (h : FrSt w wr B bh cs m aa ca fa acap ccap fcap vt vi (.slice fa2 fs.length fcap2) nts vi1 is1 fs g1 gc gf m.frames.length vt2 ts2 cs2 cf) (hfs : fs.length + 1 ≤ 16777216) (hfl : m.frames.length ≤ 1048576) :
    ∃ fa3 fcap3 w6, (Builtin.append_ #[38, 38] 38 #[.slice fa2 fs.length fcap2, .slice (some ⟨wr.heap.size, 0, none⟩) 1 1]).run Try.prog
        ((((wr.setCell ⟨gf, m.frames.length * 3, none⟩ (.int .i64 (-77000000))).setCell ⟨gf, m.frames.length * 3 + 1, none⟩ (.slice none 0 0)).setCell ⟨gf, m.frames.length * 3 + 2, none⟩ (.slice none 0 0)).alloc (.cells #[.slice (some ⟨gf, 0, none⟩) (m.frames.length + 1) (m.frames.length + 1)] 56)) = .ok (.slice fa3 (fs.length + 1) fcap3) w6 ∧
      Blk w6 bh 44 cs2 ∧ Mods (Rows3 bh vt vi (.slice fa2 fs.length fcap2)) w w6 ∧ wr.heap.size ≤ w6.heap.size ∧
      Blk w6 w.heap.size 58 [.int .i64 m.slot, .slice aa m.args.length acap, .int .i64 m.ret, .int .i64 m.locals, .int .i64 m.stack, .slice ca m.code.length ccap, .slice fa m.frames.length fcap] ∧
      Blk w6 (w.heap.size + 1) 58 [.int .i64 0, .slice none 0 0, .int .i64 0, .int .i64 0, .int .i64 0, .slice none 0 0, .slice none 0 0] ∧
      Blk w6 (w.heap.size + 2) 58 [.int .i64 m.slot, .slice (some ⟨g1, 0, none⟩) m.args.length (m.args.length + 1), .int .i64 m.ret, .int .i64 m.locals, .int .i64 m.stack, .slice (some ⟨gc, 0, none⟩) m.code.length (m.code.length + 1), .slice fa m.frames.length fcap] ∧
      HS (w6.setCell ⟨bh, 2, none⟩ (.slice fa3 (fs.length + 1) fcap3)) B bh (cs2.set 2 (.slice fa3 (fs.length + 1) fcap3)) vt2 vi1 (.slice fa3 (fs.length + 1) fcap3) ts2 is1 (fs ++ [(gf, m.frames.length + 1)]) ∧
      GVals (cellS t3 w6) m (.slice (some ⟨g1, 0, none⟩) m.args.length (m.args.length + 1)) (.slice (some ⟨gc, 0, none⟩) m.code.length (m.code.length + 1)) (.slice (some ⟨gf, 0, none⟩) m.frames.length (m.frames.length + 1)) ∧
      ((Value.slice fa3 (fs.length + 1) fcap3).ownBlock = (Value.slice fa2 fs.length fcap2).ownBlock ∨ ∃ k, w.heap.size ≤ k ∧ (Value.slice fa3 (fs.length + 1) fcap3).ownBlock = some k) := by
  obtain ⟨iG, hG, hG0, hG1, hG2⟩ := info_parts infoFrames
  have hsz := h.mods.size
  have hnf := h.newf
  have hlt := h.hs.lt
  have hle := h.hs.le
  have hcl := h.fl
  have hleB := h.leB
  generalize hX : ((wr.setCell ⟨gf, m.frames.length * 3, none⟩ (.int .i64 (-77000000))).setCell ⟨gf, m.frames.length * 3 + 1, none⟩ (.slice none 0 0)).setCell ⟨gf, m.frames.length * 3 + 2, none⟩ (.slice none 0 0) = X
  have hm : Mods (fun k => k = gf) wr X := by
    rw [← hX]
    exact (((Mods.refl (fun k => k = gf) wr).setCell (p := ⟨gf, m.frames.length * 3, none⟩) (fun _ => rfl) _).setCell (p := ⟨gf, m.frames.length * 3 + 1, none⟩) (fun _ => rfl) _).setCell (p := ⟨gf, m.frames.length * 3 + 2, none⟩) (fun _ => rfl) _
  have hsX : X.heap.size = wr.heap.size := by rw [← hX]; simp
  have hb : Blk X gf 103 (set3 cf (m.frames.length * 3) (.int .i64 (-77000000)) (.slice none 0 0) (.slice none 0 0)) := by
    rw [← hX]
    exact ((h.fb.setCell (m.frames.length * 3) _).setCell (m.frames.length * 3 + 1) _).setCell (m.frames.length * 3 + 2) _
  clear hX
  have hne : ∀ {k t c}, Blk wr k t c → t ≠ 103 → ¬ (k = gf) := fun hb' ht e => by subst e; exact ht (hb'.uniq h.fb)
  have hHX : HS X B bh cs2 vt2 vi1 (.slice fa2 fs.length fcap2) ts2 is1 fs := ⟨⟨h.hs.hands.1.mods hm (hne h.hs.hands.1 (by decide)), h.hs.hands.2⟩, h.hs.c0, h.hs.c1, h.hs.c2, h.hs.t.mods hm (fun k c hb' => hne hb' (by decide)) (fun k c hb' => hne hb' (by decide)), h.hs.i.mods hm (fun k c hb' => hne hb' (by decide)) (fun k c hb' => hne hb' (by decide)), h.hs.f.mods' hm (fun k c hb' => hne hb' (by decide)) (fun e he hk => by have := h.old e he; omega), hlt, Nat.le_trans hle hm.size⟩
  obtain ⟨vf3, w6, happ, hown6, hm6, hat6⟩ := app_ex (P := Try.prog) (W := X) 38 38 56 iG (.slice none 0 0) 1 24 Try.underlying38 hG hG0 hG1 hG2 rfl (by decide) B (.slice fa2 fs.length fcap2) fs.length (fs.map slOf) hHX.f.row #[.slice (some ⟨gf, 0, none⟩) (m.frames.length + 1) (m.frames.length + 1)] rfl (by simp [Value.oneCell']) wr.heap.size hsX (by unfold maxLen; omega) (by omega) (by omega)
  obtain ⟨fa3, fcap3, rfl⟩ := own_form hown6
  have hrow : ∀ k, (Value.slice fa2 fs.length fcap2).ownBlock = some k → ∃ c, Blk X k 56 c := fun k e => own_blk hHX.f.row e
  have hnr : ∀ {k t c}, Blk X k t c → t ≠ 56 → ¬ ((Value.slice fa2 fs.length fcap2).ownBlock = some k) := fun hb' ht e => by obtain ⟨c', hb''⟩ := hrow _ e; exact ht (hb'.uniq hb'')
  have hbh6 : Blk w6 bh 44 cs2 := hHX.hands.1.mods hm6 (hnr hHX.hands.1 (by decide))
  have hg6 := hb.mods hm6 (hnr hb (by decide))
  have hs6 := hm6.size
  have hge : GLe (cellS tT wr) (cellS tT w6) := (cellS_mods hm (fun k t c hb' ht => by obtain rfl := List.mem_singleton.1 ht; exact hne hb' (by decide))).trans (cellS_mods hm6 (fun k t c hb' ht => by obtain rfl := List.mem_singleton.1 ht; exact hnr hb' (by decide)))
  have hmove : ∀ {k t c}, Blk wr k t c → t ≠ 103 → t ≠ 56 → Blk w6 k t c := fun hb' h1 h2 => (hb'.mods hm (hne hb' h1)).mods hm6 (hnr (hb'.mods hm (hne hb' h1)) h2)
  refine ⟨fa3, fcap3, w6, happ, hbh6, (h.mods.trans hm (fun k hk e => by omega)).trans hm6 (fun k hk e => .inr (.inr (.inr e))), by omega, hmove h.b0 (by decide) (by decide), hmove h.b1 (by decide) (by decide), hmove h.b2 (by decide) (by decide), ?_, ?_, ?_⟩
  · have hmods : Mods (fun k => k = bh ∨ (Value.slice fa2 fs.length fcap2).ownBlock = some k) X (w6.setCell ⟨bh, 2, none⟩ (.slice fa3 (fs.length + 1) fcap3)) := (hm6.mono (fun _ _ e => .inr e)).setCell (fun _ => .inl rfl) _
    have hS : ∀ (t : TypeId), t ≠ 44 → t ≠ 56 → ∀ k c, Blk X k t c → ¬ (k = bh ∨ (Value.slice fa2 fs.length fcap2).ownBlock = some k) := fun t h1 h2 k c hb' hk => by
      rcases hk with rfl | hk
      · exact h1 (hb'.uniq hHX.hands.1)
      · exact hnr hb' h2 hk
    have hc19 := h.hs.hands.2
    have hnb : gf ≠ bh := by omega
    have hrow6 := own_mods (S := fun k => k = bh) hown6 ((Mods.refl (fun k => k = bh) w6).setCell (p := ⟨bh, 2, none⟩) (fun _ => rfl) (.slice fa3 (fs.length + 1) fcap3)) (fun g e => by have := hown6.lt g e; omega)
    refine ⟨⟨hbh6.setCell 2 _, by rw [List.length_set]; exact hc19⟩, by rw [List.getElem?_set_ne (by omega)]; exact h.hs.c0, by rw [List.getElem?_set_ne (by omega)]; exact h.hs.c1, by rw [List.getElem?_set_self (by omega)], hHX.t.mods hmods (hS _ (by decide) (by decide)) (hS _ (by decide) (by decide)), hHX.i.mods hmods (hS _ (by decide) (by decide)) (hS _ (by decide) (by decide)), ?_, hlt, Nat.le_trans hHX.le hmods.size⟩
    refine ⟨by rw [List.length_append, List.map_append]; exact hrow6, fun e he => ?_, ?_⟩
    · rcases List.mem_append.1 he with he | he
      · obtain ⟨h1, h2, h3, c, h4, h5⟩ := hHX.f.ent e he
        exact ⟨h1, h2, h3, c, h4.mods hmods (hS _ (by decide) (by decide) _ _ h4), h5⟩
      · rw [List.mem_singleton] at he
        subst he
        refine ⟨by show B ≤ gf; omega, by show 1 ≤ m.frames.length + 1; omega, by show m.frames.length + 1 ≤ 1048577; omega, _, hg6.setCell_ne hnb _, by rw [set3_len]; exact hcl, ?_⟩
        · rw [show m.frames.length + 1 - 1 = m.frames.length by omega]
          exact drop3 (by rw [set3_len]; omega) (set3_0 (by omega)) (set3_1 (by omega)) (set3_2 (by omega))
    · rw [List.map_append, List.nodup_append]
      refine ⟨h.hs.f.nodup, by simp, fun a ha b hb' => ?_⟩
      obtain ⟨e, he, rfl⟩ := List.mem_map.1 ha
      have : b = gf := by simpa using hb'
      have := h.old e he
      omega
  · have hv : ∀ {v l}, SlAt 1 (GInt (cellS tT wr)) v l → SlAt 1 (GInt (cellS t3 w6)) v l := fun hv => ints_keep (hge.trans (cellS_sub (by simp) w6)) hv
    refine ⟨ints_of_blk (hmove h.g (by decide) (by decide)) (by simp) (by omega), code_of_blk (hmove h.c (by decide) (by decide)) (by simp) (by omega), ?_⟩
    refine ⟨_, gf, 0, _, rfl, by omega, ⟨fun _ => rfl, .inr (.inl rfl)⟩, fun j x hj => ?_⟩
    obtain ⟨hj1, rfl⟩ := List.getElem?_eq_some_iff.1 hj
    obtain ⟨vl, vs, f0, f1, f2, f3, f4⟩ := h.done j hj1 hj1
    exact ⟨vl, vs, by rw [cellS_blk hg6 (by simp), Nat.zero_add, set3_ne (by omega)]; exact f0, by rw [cellS_blk hg6 (by simp), Nat.zero_add, set3_ne (by omega)]; exact f1, by rw [cellS_blk hg6 (by simp), Nat.zero_add, set3_ne (by omega)]; exact f2, hv f3, hv f4⟩
  · rcases hat6 with e | ⟨k, e1, e2⟩
    · exact .inl e
    · exact .inr ⟨k, by omega, e2⟩
end
end Go.Proofs.Ytiiokkllmchohaa
