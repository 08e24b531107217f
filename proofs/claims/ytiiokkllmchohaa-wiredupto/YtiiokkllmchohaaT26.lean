/- The document's answer reads a method. -/
import Derived.Test.YtiiokkllmchohaaT14
import Derived.Test.YtiiokkllmchohaaT25
/- RefMC -/
namespace Go.Proofs.Ytiiokkllmchohaa
open Go.RowKit
attribute [local go_sem ↓] Go.wp_at_zero Go.wp_at_succ

abbrev tRM : List TypeId := [52, 54, 103]
theorem own_framesS {W : World} {base : Nat} {v : Value} {fs : List LFrame} {cells : List Value} (h : W.ownsRow base 103 3 v fs.length cells) (hf : ∀ (j : Nat) (f : LFrame), fs[j]? = some f → FrameAt (cellS tT W) cells f j) : SlAt 3 (GFrame (cellS tRM W)) v fs := by
  have hle : GLe (cellS tT W) (cellS tRM W) := cellS_sub (by simp) W
  rcases h.2 with ⟨rfl, h0⟩ | ⟨g, cap, cur, rfl, hb, hg, hnc, hcm, hcs, htk⟩
  · obtain rfl : fs = [] := List.eq_nil_of_length_eq_zero h0
    exact ⟨none, 0, 0, 0, rfl, Nat.le_refl _, ⟨fun e => absurd rfl e, .inl ⟨rfl, rfl⟩⟩, fun j x hj => by simp at hj⟩
  · have hB : Blk W g 103 cur.toList := by unfold Blk; simpa using hg
    refine ⟨some ⟨g, 0, none⟩, g, 0, cap, rfl, hnc, ⟨fun _ => rfl, .inr (.inl rfl)⟩, fun j x hj => ?_⟩
    obtain ⟨vl, vs, f0, f1, f2, f3, f4⟩ := hf j x hj
    have hget : ∀ (k : Nat) (u : Value), cells[k]? = some u → cellS tRM W ⟨g, k, none⟩ = some u := fun k u hk => by
      rw [cellS_blk hB (by simp)]
      rw [← htk, List.getElem?_take] at hk
      split at hk
      · exact hk
      · cases hk
    exact ⟨vl, vs, by rw [Nat.zero_add]; exact hget _ _ f0, by rw [Nat.zero_add]; exact hget _ _ f1, by rw [Nat.zero_add]; exact hget _ _ f2, ints_keep hle f3, ints_keep hle f4⟩

theorem ref_rdtypes_at {n : Nat} {z : Int} (hz : z = (n : Int)) (s : List UInt8) (i : Nat) (bad : Bool) (b : Nat) (w : World) (h : RdAt w b s i bad) (hs : s.length ≤ 1073741824) (hi : i ≤ s.length) (hn : n ≤ 40) :
    Calls Try.prog 45 #[.pointer (some ⟨b, 0, none⟩), .int .i64 z] w fun e w' => ∃ v, e = .returned v ∧ w'.ownsRow w.heap.size 52 1 v (rdTs s n i bad).1.length ((rdTs s n i bad).1.map (Value.int .i64)) ∧ RdAt w' b s (rdTs s n i bad).2.1 (rdTs s n i bad).2.2 ∧ Mods (fun k => k = b) w w' := by
  subst hz; exact ref_rdtypes s n i bad b w h hs hi hn
theorem rm_end {s : List UInt8} {w W : World} {b : Nat} {r t l k : Int} {aa va fa : Option Addr} {ac vcap fcap : Nat} {a : List Int} {ll : List LIns} {fl : List LFrame} {cells : List Value} {o : Nat} {u : Bool}
    (h : RF s w W b [.int .i64 r, .slice aa a.length ac, .int .i64 t, .int .i64 l, .int .i64 k, .slice va ll.length vcap, .slice fa fl.length fcap] o u (.slice aa a.length ac) a (.slice va ll.length vcap) ll (.slice fa fl.length fcap) fl cells) :
    Blk (put7 W w.heap.size (.int .i64 r) (.slice aa a.length ac) (.int .i64 t) (.int .i64 l) (.int .i64 k) (.slice va ll.length vcap) (.slice fa fl.length fcap)) w.heap.size 58 [.int .i64 r, .slice aa a.length ac, .int .i64 t, .int .i64 l, .int .i64 k, .slice va ll.length vcap, .slice fa fl.length fcap] ∧
    Mods (fun k => k = b) w (put7 W w.heap.size (.int .i64 r) (.slice aa a.length ac) (.int .i64 t) (.int .i64 l) (.int .i64 k) (.slice va ll.length vcap) (.slice fa fl.length fcap)) ∧
    RdAt (put7 W w.heap.size (.int .i64 r) (.slice aa a.length ac) (.int .i64 t) (.int .i64 l) (.int .i64 k) (.slice va ll.length vcap) (.slice fa fl.length fcap)) b s o u ∧
    GVals (cellS tRM (put7 W w.heap.size (.int .i64 r) (.slice aa a.length ac) (.int .i64 t) (.int .i64 l) (.int .i64 k) (.slice va ll.length vcap) (.slice fa fl.length fcap))) ⟨r, a, t, l, k, ll, fl⟩ (.slice aa a.length ac) (.slice va ll.length vcap) (.slice fa fl.length fcap) := by
  have ho := h.rc.st.old
  have hm := put7_mods W w.heap.size (.int .i64 r) (.slice aa a.length ac) (.int .i64 t) (.int .i64 l) (.int .i64 k) (.slice va ll.length vcap) (.slice fa fl.length fcap)
  have hk : GLe (cellS tRM W) (cellS tRM (put7 W w.heap.size (.int .i64 r) (.slice aa a.length ac) (.int .i64 t) (.int .i64 l) (.int .i64 k) (.slice va ll.length vcap) (.slice fa fl.length fcap))) :=
    keepS hm (fun k e => ⟨_, _, e ▸ h.rc.st.b0, by decide⟩)
  refine ⟨put7_blk h.rc.st.b0 _ _ _ _ _ _ _, h.rc.st.mods.trans hm (fun k hk e => by omega), Blk.mods h.rc.st.rd hm (by omega), ?_, ?_, ?_⟩
  · exact ints_keep ((cellS_sub (by simp) W).trans hk) h.rc.arg
  · exact code_keep hk (own_codeS (by simp) rfl h.rc.row)
  · exact frames_keep hk (own_framesS h.row h.frs)
/-- Behind jj rounds of the frames' loop. -/
def FrLoop (s : List UInt8) (w : World) (b : Nat) (r t l k : Int) (aa : Option Addr) (ac : Nat) (a : List Int) (va : Option Addr) (vcap : Nat) (ll : List LIns) (ln fn : Nat) (y : List LFrame × Nat × Bool) (jj : Nat) (wr : World) : Prop :=
  ∃ (o : Nat) (u : Bool) (fl : List LFrame) (cells : List Value) (fa : Option Addr) (fcap : Nat), fl.length = jj ∧ y = (fl ++ (rdL (rdFr s ln) (fn - jj) o u).1, (rdL (rdFr s ln) (fn - jj) o u).2) ∧
    RF s w wr b [.int .i64 r, .slice aa a.length ac, .int .i64 t, .int .i64 l, .int .i64 k, .slice va ll.length vcap, .slice fa fl.length fcap] o u (.slice aa a.length ac) a (.slice va ll.length vcap) ll (.slice fa fl.length fcap) fl cells
theorem blk3g {w : World} {b : Nat} {t : TypeId} {a0 a1 a2 : Value} (h : Blk w b t [a0, a1, a2]) : (w.cell? ⟨b, 0, none⟩ = some a0 ∧ w.cell? ⟨b, 1, none⟩ = some a1 ∧ w.cell? ⟨b, 2, none⟩ = some a2) ∧ w.frozen? ⟨b, 0, none⟩ = false ∧ w.frozen? ⟨b, 1, none⟩ = false ∧ w.frozen? ⟨b, 2, none⟩ = false :=
  ⟨⟨h.cell 0, h.cell 1, h.cell 2⟩, h.frozen 0, h.frozen 1, h.frozen 2⟩

set_option maxHeartbeats 4000000 in
set_option maxRecDepth 100000 in
theorem ref_rmethod (s : List UInt8) (i : Nat) (b : Nat) (w : World) (h : RdAt w b s i false) (hs : s.length ≤ 1073741824) (hi : i ≤ s.length) :
    Calls Try.prog 46 #[.pointer (some ⟨b, 0, none⟩)] w fun e w' => ∃ (aa ca fa : Option Addr) (ac cc fc : Nat),
      e = .returned (.agg #[.int .i64 (rdMt s i).1.slot, .slice aa (rdMt s i).1.args.length ac, .int .i64 (rdMt s i).1.ret, .int .i64 (rdMt s i).1.locals, .int .i64 (rdMt s i).1.stack, .slice ca (rdMt s i).1.code.length cc, .slice fa (rdMt s i).1.frames.length fc]) ∧
      GVals (cellS tRM w') (rdMt s i).1 (.slice aa (rdMt s i).1.args.length ac) (.slice ca (rdMt s i).1.code.length cc) (.slice fa (rdMt s i).1.frames.length fc) ∧ RdAt w' b s (rdMt s i).2.1 (rdMt s i).2.2 ∧ Mods (fun k => k = b) w w' := by
  have hbr := h.lt
  obtain ⟨iI, hI, hI0, hI1, hI2⟩ := info_parts infoIns
  obtain ⟨iF, hF, hF0, hF1, hF2⟩ := info_parts infoFrame
  obtain ⟨r, hr⟩ : ∃ r, r = rdN s i false := ⟨_, rfl⟩
  obtain ⟨n, hn⟩ : ∃ n, n = rdM s r.2.1 r.2.2 := ⟨_, rfl⟩
  obtain ⟨a, ha⟩ : ∃ a, a = rdTs s n.1.toNat n.2.1 n.2.2 := ⟨_, rfl⟩
  obtain ⟨t, ht⟩ : ∃ t, t = rdN s a.2.1 a.2.2 := ⟨_, rfl⟩
  obtain ⟨l, hl⟩ : ∃ l, l = rdM s t.2.1 t.2.2 := ⟨_, rfl⟩
  obtain ⟨k, hk⟩ : ∃ k, k = rdN s l.2.1 l.2.2 := ⟨_, rfl⟩
  obtain ⟨c, hc⟩ : ∃ c, c = rdM s k.2.1 k.2.2 := ⟨_, rfl⟩
  obtain ⟨x, hx⟩ : ∃ x, x = rdL (rdI s) c.1.toNat c.2.1 c.2.2 := ⟨_, rfl⟩
  obtain ⟨f, hf⟩ : ∃ f, f = rdM s x.2.1 x.2.2 := ⟨_, rfl⟩
  obtain ⟨y, hy⟩ : ∃ y, y = rdL (rdFr s l.1.toNat) f.1.toNat f.2.1 f.2.2 := ⟨_, rfl⟩
  have HM : Hid (rdMt s i = (⟨r.1, a.1, t.1, l.1, k.1, x.1, y.1⟩, y.2)) := by show _ = _; rw [hy, hf, hx, hc, hk, hl, ht, ha, hn, hr]; rfl
  have n40 := rdM_40 s r.2.1 r.2.2
  have l40 := rdM_40 s t.2.1 t.2.2
  have c40 := rdM_40 s k.2.1 k.2.2
  have f40 := rdM_40 s x.2.1 x.2.2
  have e1 : r.2.1 ≤ s.length := by rw [hr]; exact rdN_le _ hi
  have e2 : n.2.1 ≤ s.length := by rw [hn]; exact rdM_le _ e1
  have e3 : a.2.1 ≤ s.length := by rw [ha]; exact rdTs_le _ _ _ e2
  have e4 : t.2.1 ≤ s.length := by rw [ht]; exact rdN_le _ e3
  have e5 : l.2.1 ≤ s.length := by rw [hl]; exact rdM_le _ e4
  have e6 : k.2.1 ≤ s.length := by rw [hk]; exact rdN_le _ e5
  have e7 : c.2.1 ≤ s.length := by rw [hc]; exact rdM_le _ e6
  have e8 : x.2.1 ≤ s.length := by rw [hx]; exact rdL_le (fun _ => rdI_le s) _ _ _ e7
  have e9 : f.2.1 ≤ s.length := by rw [hf]; exact rdM_le _ e8
  rw [← hn] at n40
  rw [← hl] at l40
  rw [← hc] at c40
  rw [← hf] at f40
  obtain ⟨nn, hnn⟩ := Int.eq_ofNat_of_zero_le n40.1
  obtain ⟨ln, hln⟩ := Int.eq_ofNat_of_zero_le l40.1
  obtain ⟨cn, hcn⟩ := Int.eq_ofNat_of_zero_le c40.1
  obtain ⟨fn, hfn⟩ := Int.eq_ofNat_of_zero_le f40.1
  have Hr := hide hr
  have Hn := hide hn
  have Ha : Hid (a = rdTs s nn n.2.1 n.2.2) := by show _ = _; rw [ha, hnn]; rfl
  have Ht := hide ht
  have Hl := hide hl
  have Hk := hide hk
  have Hc := hide hc
  have Hx : Hid (x = rdL (rdI s) cn c.2.1 c.2.2) := by show _ = _; rw [hx, hcn]; rfl
  have Hf := hide hf
  have Hy : Hid (y = rdL (rdFr s ln) fn f.2.1 f.2.2) := by show _ = _; rw [hy, hfn, hln]; rfl
  have Hnn := hide hnn
  have Hln := hide hln
  have Hcn := hide hcn
  have Hfn := hide hfn
  have nn40 : nn ≤ 40 := by omega
  have ln40 : ln ≤ 40 := by omega
  have cn40 : cn ≤ 40 := by omega
  have fn40 : fn ≤ 40 := by omega
  clear hr hn ha ht hl hk hc hx hf hy hnn hln hcn hfn n40 l40 c40 f40
  have S0 : Hid (RSt s w ((w.alloc (.cells #[.int .i64 0, .slice none 0 0, .int .i64 0, .int .i64 0, .int .i64 0, .slice none 0 0, .slice none 0 0] 58)).alloc (.cells #[.int .i64 0, .slice none 0 0, .int .i64 0, .int .i64 0, .int .i64 0, .slice none 0 0, .slice none 0 0] 58)) b zM i false) := by
    refine ⟨((Mods.refl _ w).alloc _).alloc _, by simp, (Blk.new w _ _).alloc _, ?_, (Blk.alloc h _).alloc _, hi, hbr⟩
    have := Blk.new (w.alloc (.cells #[.int .i64 0, .slice none 0 0, .int .i64 0, .int .i64 0, .int .i64 0, .slice none 0 0, .slice none 0 0] 58)) #[.int .i64 0, .slice none 0 0, .int .i64 0, .int .i64 0, .int .i64 0, .slice none 0 0, .slice none 0 0] 58
    simpa using this
  go_enter Try.func46, Try.ntmps46
  go_wp2_with fail
  generalize (w.alloc _).alloc _ = W0 at *
  clear h
  refine Calls.mono (ref_rd s i false b _ (unhide S0).rd hs hi) ?_
  rintro e w1 ⟨rfl, hR, hm⟩
  rw [← unhide Hr] at *
  have S1 := hide ((unhide S0).call hm hR e1)
  clear hR hm S0
  obtain ⟨⟨c0, c1, c2, c3, c4, c5, c6⟩, g0, g1, g2, g3, g4, g5, g6⟩ := blk7 (unhide S1).b1
  go_wp2_with fail
  have S2 := hide ((unhide S1).put 0 (.int .i64 r.1))
  generalize w1.setCell _ _ = W1 at *
  clear c0 c1 c2 c3 c4 c5 c6 g0 g1 g2 g3 g4 g5 g6 S1
  refine Calls.mono (ref_many s r.2.1 r.2.2 b _ (unhide S2).rd hs e1) ?_
  rintro e w2 ⟨rfl, hR, hm⟩
  rw [← unhide Hn] at *
  have S3 := hide ((unhide S2).call hm hR e2)
  clear hR hm S2
  rw [unhide Hnn]
  go_wp2_with fail
  refine Calls.mono (ref_rdtypes s nn n.2.1 n.2.2 b _ (unhide S3).rd hs e2 nn40) ?_
  rintro e w3 ⟨va, rfl, hrow, hR, hm⟩
  rw [← unhide Ha] at *
  obtain ⟨aa, ac, rfl⟩ := own_form hrow
  have S4 := hide ((unhide S3).call hm hR e3)
  have A4 := hide (own_intsS rfl hrow)
  clear hR hm S3 hrow
  obtain ⟨⟨c0, c1, c2, c3, c4, c5, c6⟩, g0, g1, g2, g3, g4, g5, g6⟩ := blk7 (unhide S4).b1
  go_wp2_with fail
  have S5 := hide ((unhide S4).put 1 (.slice aa a.1.length ac))
  have A5 := hide (ints_keep ((unhide S4).keepPut 1 (.slice aa a.1.length ac)) (unhide A4))
  generalize w3.setCell _ _ = W3 at *
  clear c0 c1 c2 c3 c4 c5 c6 g0 g1 g2 g3 g4 g5 g6 S4 A4
  refine Calls.mono (ref_rd s a.2.1 a.2.2 b _ (unhide S5).rd hs e3) ?_
  rintro e w4 ⟨rfl, hR, hm⟩
  rw [← unhide Ht] at *
  have S6 := hide ((unhide S5).call hm hR e4)
  have A6 := hide (ints_keep ((unhide S5).keepT hm) (unhide A5))
  clear hR hm S5 A5
  obtain ⟨⟨c0, c1, c2, c3, c4, c5, c6⟩, g0, g1, g2, g3, g4, g5, g6⟩ := blk7 (unhide S6).b1
  go_wp2_with fail
  have S7 := hide ((unhide S6).put 2 (.int .i64 t.1))
  have A7 := hide (ints_keep ((unhide S6).keepPut 2 (.int .i64 t.1)) (unhide A6))
  generalize w4.setCell _ _ = W4 at *
  clear c0 c1 c2 c3 c4 c5 c6 g0 g1 g2 g3 g4 g5 g6 S6 A6
  refine Calls.mono (ref_many s t.2.1 t.2.2 b _ (unhide S7).rd hs e4) ?_
  rintro e w5 ⟨rfl, hR, hm⟩
  rw [← unhide Hl] at *
  have S8 := hide ((unhide S7).call hm hR e5)
  have A8 := hide (ints_keep ((unhide S7).keepT hm) (unhide A7))
  clear hR hm S7 A7
  obtain ⟨⟨c0, c1, c2, c3, c4, c5, c6⟩, g0, g1, g2, g3, g4, g5, g6⟩ := blk7 (unhide S8).b1
  go_wp2_with fail
  have S9 := hide ((unhide S8).put 3 (.int .i64 l.1))
  have A9 := hide (ints_keep ((unhide S8).keepPut 3 (.int .i64 l.1)) (unhide A8))
  generalize w5.setCell _ _ = W5 at *
  clear c0 c1 c2 c3 c4 c5 c6 g0 g1 g2 g3 g4 g5 g6 S8 A8
  refine Calls.mono (ref_rd s l.2.1 l.2.2 b _ (unhide S9).rd hs e5) ?_
  rintro e w6 ⟨rfl, hR, hm⟩
  rw [← unhide Hk] at *
  have S10 := hide ((unhide S9).call hm hR e6)
  have A10 := hide (ints_keep ((unhide S9).keepT hm) (unhide A9))
  clear hR hm S9 A9
  obtain ⟨⟨c0, c1, c2, c3, c4, c5, c6⟩, g0, g1, g2, g3, g4, g5, g6⟩ := blk7 (unhide S10).b1
  go_wp2_with fail
  have S11 := hide ((unhide S10).put 4 (.int .i64 k.1))
  have A11 := hide (ints_keep ((unhide S10).keepPut 4 (.int .i64 k.1)) (unhide A10))
  generalize w6.setCell _ _ = W6 at *
  clear c0 c1 c2 c3 c4 c5 c6 g0 g1 g2 g3 g4 g5 g6 S10 A10
  refine Calls.mono (ref_many s k.2.1 k.2.2 b _ (unhide S11).rd hs e6) ?_
  rintro e w7 ⟨rfl, hR, hm⟩
  rw [← unhide Hc] at *
  have S12 := hide ((unhide S11).call hm hR e7)
  have A12 := hide (ints_keep ((unhide S11).keepT hm) (unhide A11))
  clear hR hm S11 A11
  rw [unhide Hcn]
  have R0 : Hid (RC s w w7 b [.int .i64 r.1, .slice aa a.1.length ac, .int .i64 t.1, .int .i64 l.1, .int .i64 k.1, .slice none 0 0, .slice none 0 0] c.2.1 c.2.2 (.slice aa a.1.length ac) a.1 (.slice none 0 0) []) := ⟨unhide S12, World.ownsRow_nil _ _ _ _, unhide A12⟩
  clear S12 A12
  go_wp2_with fail
  go_loopw [6] (fun s6 wr => ∃ (kk j : Nat) (q : Bool) (ll : List LIns) (va : Option Addr) (vcap : Nat), kk ≤ cn ∧ s6 = .int .i64 kk ∧ ll.length = kk ∧ x = (ll ++ (rdL (rdI s) (cn - kk) j q).1, (rdL (rdI s) (cn - kk) j q).2) ∧
      RC s w wr b [.int .i64 r.1, .slice aa a.1.length ac, .int .i64 t.1, .int .i64 l.1, .int .i64 k.1, .slice va ll.length vcap, .slice none 0 0] j q (.slice aa a.1.length ac) a.1 (.slice va ll.length vcap) ll) (fun s6 _ => cn - (intOf s6).toNat)
  case atStart => exact ⟨0, c.2.1, c.2.2, [], none, 0, Nat.zero_le _, rfl, rfl, by rw [unhide Hx]; rfl, unhide R0⟩
  case round =>
    obtain ⟨kk, j, q, ll, va, vcap, hkk, rfl, hll, hxe, hRC⟩ := hrel
    have HRC := hide hRC
    have HXE := hide hxe
    have HLL := hide hll
    have d2 : wr.cell? ⟨b, 2, none⟩ = some (.bool q) := hRC.st.rd.cell 2
    clear hRC hxe hll R0
    by_cases hgo : kk < cn ∧ q = false
    · obtain ⟨hlt, rfl⟩ := hgo
      have hlt' : (kk : Int) < (cn : Int) := by omega
      have hX := (unhide HRC).st.size
      have hXb : ¬ (wr.heap.size = b) := by have := (unhide HRC).st.old; omega
      have hne : ¬ (Value.slice va ll.length vcap).ownBlock = some wr.heap.size := fun e => by have := ((unhide HRC).row.lt _ e).2; omega
      have T0 := hide ((unhide HRC).idle ((Mods.refl (fun _ => False) wr).alloc (.cells #[.int .i64 0, .int .i64 0, .int .i64 0] 54)))
      have I0 := hide (Blk.new wr #[.int .i64 0, .int .i64 0, .int .i64 0] 54)
      have hj := (unhide HRC).st.le
      obtain ⟨p1, hp1⟩ : ∃ p, p = rdN s j false := ⟨_, rfl⟩
      obtain ⟨p2, hp2⟩ : ∃ p, p = rdN s p1.2.1 p1.2.2 := ⟨_, rfl⟩
      obtain ⟨p3, hp3⟩ : ∃ p, p = rdN s p2.2.1 p2.2.2 := ⟨_, rfl⟩
      have HI : Hid (rdI s j = (⟨p1.1, p2.1, p3.1⟩, p3.2)) := by show _ = _; rw [hp3, hp2, hp1]; rfl
      have j1 : p1.2.1 ≤ s.length := by rw [hp1]; exact rdN_le _ hj
      have j2 : p2.2.1 ≤ s.length := by rw [hp2]; exact rdN_le _ j1
      have j3 : p3.2.1 ≤ s.length := by rw [hp3]; exact rdN_le _ j2
      have HP1 := hide hp1
      have HP2 := hide hp2
      have HP3 := hide hp3
      clear hp1 hp2 hp3
      go_wp2_with fail
      obtain ⟨wo, rfl⟩ : ∃ wo : World, wo = wr := ⟨_, rfl⟩
      generalize wo.alloc _ = Z0 at *
      clear d2
      refine Calls.mono (ref_rd s j false b _ (unhide T0).st.rd hs hj) ?_
      rintro e z1 ⟨rfl, hR, hm⟩
      rw [← unhide HP1] at *
      have T1 := hide ((unhide T0).call hm hR j1)
      have I1 := hide ((unhide I0).mods hm hXb)
      obtain ⟨⟨u0, u1, u2⟩, v0, v1, v2⟩ := blk3g (unhide I1)
      clear hR hm T0 I0
      go_wp2_with fail
      have T2 := hide ((unhide T1).set (j := 0) (unhide I1) (by decide) hX hne (.int .i64 p1.1))
      have I2 := hide ((unhide I1).setCell 0 (.int .i64 p1.1))
      generalize z1.setCell _ _ = Z1 at *
      clear u0 u1 u2 v0 v1 v2 T1 I1
      refine Calls.mono (ref_rd s p1.2.1 p1.2.2 b _ (unhide T2).st.rd hs j1) ?_
      rintro e z2 ⟨rfl, hR, hm⟩
      rw [← unhide HP2] at *
      have T3 := hide ((unhide T2).call hm hR j2)
      have I3 := hide ((unhide I2).mods hm hXb)
      obtain ⟨⟨u0, u1, u2⟩, v0, v1, v2⟩ := blk3g (unhide I3)
      clear hR hm T2 I2
      go_wp2_with fail
      have T4 := hide ((unhide T3).set (j := 1) (unhide I3) (by decide) hX hne (.int .i64 p2.1))
      have I4 := hide ((unhide I3).setCell 1 (.int .i64 p2.1))
      generalize z2.setCell _ _ = Z2 at *
      clear u0 u1 u2 v0 v1 v2 T3 I3
      refine Calls.mono (ref_rd s p2.2.1 p2.2.2 b _ (unhide T4).st.rd hs j2) ?_
      rintro e z3 ⟨rfl, hR, hm⟩
      rw [← unhide HP3] at *
      have T5 := hide ((unhide T4).call hm hR j3)
      have I5 := hide ((unhide I4).mods hm hXb)
      obtain ⟨⟨u0, u1, u2⟩, v0, v1, v2⟩ := blk3g (unhide I5)
      have T6 := (unhide T5).set (j := 2) (unhide I5) (by decide) hX hne (.int .i64 p3.1)
      have hll40 : ll.length ≤ 40 := by have := unhide HLL; omega
      obtain ⟨v', y1, happ, hown4, hm4, hat4⟩ := app_ex (P := Try.prog) (W := z3.setCell ⟨wo.heap.size, 2, none⟩ (.int .i64 p3.1)) 55 55 54 iI (.agg #[.int .i64 0, .int .i64 0, .int .i64 0]) 3 24 Try.underlying55 hI hI0 hI1 hI2 rfl (by decide) (w.heap.size + 2) (.slice va ll.length vcap) ll.length (codeCells ll) T6.row #[.int .i64 p1.1, .int .i64 p2.1, .int .i64 p3.1] rfl (by simp [Value.oneCell']) z3.heap.size (by simp [World.setCell]) (by unfold maxLen; omega) (by omega) (by simpa [World.setCell] using T6.st.size)
      obtain ⟨va2, vcap2, rfl⟩ := own_form hown4
      have T7 := T6.app (x := ⟨p1.1, p2.1, p3.1⟩) hown4 hm4
      obtain ⟨⟨c0, c1, c2, c3, c4, c5, c6⟩, g0, g1, g2, g3, g4, g5, g6⟩ := blk7 T7.st.b1
      obtain ⟨⟨k0, k1, k2, k3, k4, k5, k6⟩, _⟩ := blk7 (unhide T5).st.b1
      have hltm : w.heap.size + 1 < z3.heap.size := by have := (unhide T5).st.size; omega
      have hneX : ¬ (wo.heap.size = w.heap.size + 1) := by omega
      have T8 := hide (T7.put 5 (.slice va2 (ll.length + 1) vcap2))
      have HT6 := hide T6
      clear hR hm T4 I4 T6 T7 hown4 hm4 hat4
      go_wp2_with (at_builtin; refine wpList_append_run rfl (.tmp 56) (.tmp 58) 55 rfl _ _ rfl rfl happ ?_)
      refine ⟨⟨kk + 1, p3.2.1, p3.2.2, ll ++ [⟨p1.1, p2.1, p3.1⟩], va2, vcap2, by omega, by go_num, by rw [List.length_append, unhide HLL]; rfl, ?_, ?_⟩, by simp [intOf]; omega⟩
      · rw [unhide HXE, (by omega : cn - kk = (cn - (kk + 1)) + 1), rdL_succ, unhide HI]
        simp
      · rw [List.length_append]
        exact unhide T8
    · have hx2 : x = (ll, j, q) := by
        rw [unhide HXE]
        rcases Nat.lt_or_ge kk cn with g | g
        · have : q = true := by cases q <;> simp_all
          rw [this, rdL_bad]; simp
        · rw [(by omega : cn - kk = 0)]; simp [rdL]
      have hsplit : (kk < cn ∧ q = true) ∨ ¬ kk < cn := by
        rcases Nat.lt_or_ge kk cn with g | g
        · exact .inl ⟨g, by cases q <;> simp_all⟩
        · exact .inr (by omega)
      subst hx2
      clear hgo HXE
      rcases hsplit with ⟨hlt, rfl⟩ | hlt
      all_goals
        first
          | (have hlt' : (kk : Int) < (cn : Int) := by omega)
          | (have hlt' : ¬ (kk : Int) < (cn : Int) := by omega)
        go_wp2_with fail
        refine Calls.mono (ref_many s j _ b _ (unhide HRC).st.rd hs e8) ?_
        rintro e w8 ⟨rfl, hR, hm⟩
        have hfe : f = rdM s j _ := unhide Hf
        rw [← hfe] at hR
        rw [← hfe]
        have F0 := hide ((unhide HRC).call hm hR e9)
        clear hR hm HRC d2 hlt' hfe
        rw [unhide Hfn]
        have G0 : Hid (RF s w w8 b [.int .i64 r.1, .slice aa a.1.length ac, .int .i64 t.1, .int .i64 l.1, .int .i64 k.1, .slice va ll.length vcap, .slice none 0 0] f.2.1 f.2.2 (.slice aa a.1.length ac) a.1 (.slice va ll.length vcap) ll (.slice none 0 0) [] []) := ⟨unhide F0, World.ownsRow_nil _ _ _ _, fun j f hj => by simp at hj⟩
        clear F0
        go_wp2_with fail
        go_loopw [8] (fun s8 wr => ∃ jj : Nat, jj ≤ fn ∧ s8 = .int .i64 jj ∧ FrLoop s w b r.1 t.1 l.1 k.1 aa ac a.1 va vcap ll ln fn y jj wr) (fun s8 _ => fn - (intOf s8).toNat)
        case atStart => exact ⟨0, Nat.zero_le _, rfl, f.2.1, f.2.2, [], [], none, 0, rfl, by rw [unhide Hy]; rfl, unhide G0⟩
        case round =>
          obtain ⟨jj, hjj, rfl, o, u, fl, cells, fa, fcap, hfl, hye, hRF⟩ := hrel
          have HRF := hide hRF
          have HYE := hide hye
          have HFL := hide hfl
          have d2 : wr.cell? ⟨b, 2, none⟩ = some (.bool u) := hRF.rc.st.rd.cell 2
          clear hRF hye hfl G0
          by_cases hgo : jj < fn ∧ u = false
          · obtain ⟨hlt2, rfl⟩ := hgo
            have hlt2' : (jj : Int) < (fn : Int) := by omega
            have hX := (unhide HRF).rc.st.size
            have hXb : ¬ (wr.heap.size = b) := by have := (unhide HRF).rc.st.old; omega
            have hne : ¬ (Value.slice va ll.length vcap).ownBlock = some wr.heap.size := fun e => by have := ((unhide HRF).rc.row.lt _ e).2; omega
            have hne2 : ¬ (Value.slice fa fl.length fcap).ownBlock = some wr.heap.size := fun e => by have := ((unhide HRF).row.lt _ e).2; omega
            have T0 := hide ((unhide HRF).idle ((Mods.refl (fun _ => False) wr).alloc (.cells #[.int .i64 0, .slice none 0 0, .slice none 0 0] 103)))
            have I0 := hide (Blk.new wr #[.int .i64 0, .slice none 0 0, .slice none 0 0] 103)
            have ho := (unhide HRF).rc.st.le
            obtain ⟨p1, hp1⟩ : ∃ p, p = rdN s o false := ⟨_, rfl⟩
            obtain ⟨p2, hp2⟩ : ∃ p, p = rdTs s ln p1.2.1 p1.2.2 := ⟨_, rfl⟩
            obtain ⟨p3, hp3⟩ : ∃ p, p = rdM s p2.2.1 p2.2.2 := ⟨_, rfl⟩
            obtain ⟨p4, hp4⟩ : ∃ p, p = rdTs s p3.1.toNat p3.2.1 p3.2.2 := ⟨_, rfl⟩
            have HI : Hid (rdFr s ln o = (⟨p1.1, p2.1, p4.1⟩, p4.2)) := by show _ = _; rw [hp4, hp3, hp2, hp1]; rfl
            have j1 : p1.2.1 ≤ s.length := by rw [hp1]; exact rdN_le _ ho
            have j2 : p2.2.1 ≤ s.length := by rw [hp2]; exact rdTs_le _ _ _ j1
            have j3 : p3.2.1 ≤ s.length := by rw [hp3]; exact rdM_le _ j2
            have j4 : p4.2.1 ≤ s.length := by rw [hp4]; exact rdTs_le _ _ _ j3
            have p40 := rdM_40 s p2.2.1 p2.2.2
            rw [← hp3] at p40
            obtain ⟨kn, hkn⟩ := Int.eq_ofNat_of_zero_le p40.1
            have kn40 : kn ≤ 40 := by omega
            have HP1 := hide hp1
            have HP2 := hide hp2
            have HP3 := hide hp3
            have HP4 : Hid (p4 = rdTs s kn p3.2.1 p3.2.2) := by show _ = _; rw [hp4, hkn]; rfl
            have HKN := hide hkn
            clear hp1 hp2 hp3 hp4 hkn p40
            go_wp2_with fail
            obtain ⟨wo, rfl⟩ : ∃ wo : World, wo = wr := ⟨_, rfl⟩
            generalize wo.alloc _ = Z0 at *
            clear d2
            refine Calls.mono (ref_rd s o false b _ (unhide T0).rc.st.rd hs ho) ?_
            rintro e z1 ⟨rfl, hR, hm⟩
            rw [← unhide HP1] at *
            have T1 := hide ((unhide T0).call hm hR j1)
            have I1 := hide ((unhide I0).mods hm hXb)
            obtain ⟨⟨u0, u1, u2⟩, v0, v1, v2⟩ := blk3g (unhide I1)
            obtain ⟨⟨k0, k1, k2, k3, k4, k5, k6⟩, _⟩ := blk7 (unhide T1).rc.st.b1
            clear hR hm T0 I0
            go_wp2_with fail
            have T2 := hide ((unhide T1).set (j := 0) (unhide I1) (by decide) hX hne hne2 (.int .i64 p1.1))
            have I2 := hide ((unhide I1).setCell 0 (.int .i64 p1.1))
            generalize z1.setCell _ _ = Z1 at *
            clear u0 u1 u2 v0 v1 v2 k0 k1 k2 k3 k4 k5 k6 T1 I1
            refine Calls.mono (ref_rdtypes_at (unhide Hln) s p1.2.1 p1.2.2 b _ (unhide T2).rc.st.rd hs j1 ln40) ?_
            rintro e z2 ⟨vl, rfl, hrow, hR, hm⟩
            rw [← unhide HP2] at *
            obtain ⟨la, lc, rfl⟩ := own_form hrow
            have T3 := hide ((unhide T2).call hm hR j2)
            have I3 := hide ((unhide I2).mods hm hXb)
            have L3 := hide (own_intsS rfl hrow)
            obtain ⟨⟨u0, u1, u2⟩, v0, v1, v2⟩ := blk3g (unhide I3)
            clear hR hm T2 I2 hrow
            go_wp2_with fail
            have T4 := hide ((unhide T3).set (j := 1) (unhide I3) (by decide) hX hne hne2 (.slice la p2.1.length lc))
            have I4 := hide ((unhide I3).setCell 1 (.slice la p2.1.length lc))
            have L4 := hide (ints_keep (keepSet (j := 1) (unhide I3) (by decide) (.slice la p2.1.length lc)) (unhide L3))
            generalize z2.setCell _ _ = Z2 at *
            clear u0 u1 u2 v0 v1 v2 T3 I3 L3
            refine Calls.mono (ref_many s p2.2.1 p2.2.2 b _ (unhide T4).rc.st.rd hs j2) ?_
            rintro e z3 ⟨rfl, hR, hm⟩
            rw [← unhide HP3] at *
            have T5 := hide ((unhide T4).call hm hR j3)
            have I5 := hide ((unhide I4).mods hm hXb)
            have L5 := hide (ints_keep ((unhide T4).rc.st.keepT hm) (unhide L4))
            clear hR hm T4 I4 L4
            rw [unhide HKN]
            go_wp2_with fail
            refine Calls.mono (ref_rdtypes s kn p3.2.1 p3.2.2 b _ (unhide T5).rc.st.rd hs j3 kn40) ?_
            rintro e z4 ⟨vs, rfl, hrow, hR, hm⟩
            rw [← unhide HP4] at *
            obtain ⟨sa, sc, rfl⟩ := own_form hrow
            have T6 := hide ((unhide T5).call hm hR j4)
            have I6 := hide ((unhide I5).mods hm hXb)
            have L6 := hide (ints_keep ((unhide T5).rc.st.keepT hm) (unhide L5))
            have Q6 := hide (own_intsS rfl hrow)
            obtain ⟨⟨u0, u1, u2⟩, v0, v1, v2⟩ := blk3g (unhide I6)
            have T7 := (unhide T6).set (j := 2) (unhide I6) (by decide) hX hne hne2 (.slice sa p4.1.length sc)
            have L7 := ints_keep (keepSet (j := 2) (unhide I6) (by decide) (.slice sa p4.1.length sc)) (unhide L6)
            have Q7 := ints_keep (keepSet (j := 2) (unhide I6) (by decide) (.slice sa p4.1.length sc)) (unhide Q6)
            have hfl40 : fl.length ≤ 40 := by have := unhide HFL; omega
            obtain ⟨v', y1, happ, hown4, hm4, hat4⟩ := app_ex (P := Try.prog) (W := z4.setCell ⟨wo.heap.size, 2, none⟩ (.slice sa p4.1.length sc)) 56 56 103 iF (.agg #[.int .i64 0, .slice none 0 0, .slice none 0 0]) 3 56 Try.underlying56 hF hF0 hF1 hF2 rfl (by decide) (w.heap.size + 2) (.slice fa fl.length fcap) fl.length cells T7.row #[.int .i64 p1.1, .slice la p2.1.length lc, .slice sa p4.1.length sc] rfl (by simp [Value.oneCell']) z4.heap.size (by simp [World.setCell]) (by unfold maxLen; omega) (by omega) (by simpa [World.setCell] using T7.rc.st.size)
            obtain ⟨fa2, fcap2, rfl⟩ := own_form hown4
            have T8 := T7.app (f := ⟨p1.1, p2.1, p4.1⟩) L7 Q7 hown4 hm4
            obtain ⟨⟨c0, c1, c2, c3, c4, c5, c6⟩, g0, g1, g2, g3, g4, g5, g6⟩ := blk7 T8.rc.st.b1
            obtain ⟨⟨k0, k1, k2, k3, k4, k5, k6⟩, _⟩ := blk7 (unhide T6).rc.st.b1
            have hltm : w.heap.size + 1 < z4.heap.size := by have := (unhide T6).rc.st.size; omega
            have hneX : ¬ (wo.heap.size = w.heap.size + 1) := by omega
            have T9 := hide (T8.put 6 (.slice fa2 (fl.length + 1) fcap2))
            clear hR hm T5 I5 L5 T7 T8 L7 Q7 L6 Q6 hown4 hm4 hat4 hrow
            go_wp2_with (at_builtin; refine wpList_append_run rfl (.tmp 91) (.tmp 93) 56 rfl _ _ rfl rfl happ ?_)
            refine ⟨⟨jj + 1, by omega, by go_num, p4.2.1, p4.2.2, fl ++ [⟨p1.1, p2.1, p4.1⟩], cells ++ [.int .i64 p1.1, .slice la p2.1.length lc, .slice sa p4.1.length sc], fa2, fcap2, by rw [List.length_append, unhide HFL]; rfl, ?_, ?_⟩, by simp [intOf]; omega⟩
            · rw [unhide HYE, (by omega : fn - jj = (fn - (jj + 1)) + 1), rdL_succ, unhide HI]
              simp
            · rw [List.length_append]
              exact unhide T9
          · have hy2 : y = (fl, o, u) := by
              rw [unhide HYE]
              rcases Nat.lt_or_ge jj fn with g | g
              · have : u = true := by cases u <;> simp_all
                rw [this, rdL_bad]; simp
              · rw [(by omega : fn - jj = 0)]; simp [rdL]
            have hsplit2 : (jj < fn ∧ u = true) ∨ ¬ jj < fn := by
              rcases Nat.lt_or_ge jj fn with g | g
              · exact .inl ⟨g, by cases u <;> simp_all⟩
              · exact .inr (by omega)
            subst hy2
            obtain ⟨⟨c0, c1, c2, c3, c4, c5, c6⟩, _⟩ := blk7 (unhide HRF).rc.st.b1
            obtain ⟨⟨k0, k1, k2, k3, k4, k5, k6⟩, g0, g1, g2, g3, g4, g5, g6⟩ := blk7 (unhide HRF).rc.st.b0
            have Z := hide (rm_end (unhide HRF))
            have EM := hide (show (rdMt s i).1 = ⟨r.1, a.1, t.1, l.1, k.1, ll, fl⟩ by rw [unhide HM])
            have EN := hide (show (rdMt s i).2 = (o, u) by rw [unhide HM])
            clear hgo HYE HRF
            rcases hsplit2 with ⟨hlt2, rfl⟩ | hlt2
            all_goals
              first
                | (have hlt2' : (jj : Int) < (fn : Int) := by omega)
                | (have hlt2' : ¬ (jj : Int) < (fn : Int) := by omega)
              go_wp2_with fail
              obtain ⟨Z0, Z1, Z2, Z3⟩ := unhide Z
              unfold put7 at Z0 Z1 Z2 Z3
              generalize World.setCell _ _ _ = Y at Z0 Z1 Z2 Z3 ⊢
              obtain ⟨⟨x0, x1, x2, x3, x4, x5, x6⟩, _⟩ := blk7 Z0
              refine bodyPost_ret (v := .agg #[.int .i64 r.1, .slice aa a.1.length ac, .int .i64 t.1, .int .i64 l.1, .int .i64 k.1, .slice va ll.length vcap, .slice fa fl.length fcap]) (by simp [results, Try.results46, go_sem, x0, x1, x2, x3, x4, x5, x6]) rfl ⟨aa, va, fa, ac, vcap, fcap, ?_, ?_, ?_, Z1⟩
              · rw [unhide EM]
              · rw [unhide EM]; exact Z3
              · rw [unhide EN]; exact Z2
end Go.Proofs.Ytiiokkllmchohaa
