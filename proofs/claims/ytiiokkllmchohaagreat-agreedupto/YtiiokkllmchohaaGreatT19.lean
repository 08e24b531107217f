/- The solver: a round. -/
import Derived.Laws.Tables
import Derived.Test.YtiiokkllmchohaaGreatT15
import Derived.Test.YtiiokkllmchohaaGreatT16
import Derived.Test.YtiiokkllmchohaaGreatT18
/- SolY -/
namespace Go.Proofs.YtiiokkllmchohaaGreat
open Go.RowKit Go.Shelf
attribute [local go_sem ↓] Go.wp_at_zero Go.wp_at_succ
attribute [local go_sem] frz_drew

def RoundR (p : List LClass) (k : Int) (r : Option (SvSt × Bool)) (bs : Nat) (vp : Value) (mc : List Value) (w w' : World) (e : Ending) : Prop :=
 (∀ s' b, r = some (s', b) → e = .returned (.bool b) ∧ SvAt w' bs vp mc s' ∧ SvTy p k s') ∧ (r = none → e = .panicked (refC 5)) ∧ Mods (fun k => k = bs) w w'
theorem RoundR.yes {p : List LClass} {k : Int} {r : Option (SvSt × Bool)} {s' : SvSt} {b : Bool} {bs : Nat} {vp : Value} {mc : List Value} {w w' : World} {e : Ending} (hr : r = some (s', b)) (he : e = .returned (.bool b)) (hS : SvAt w' bs vp mc s') (hT : SvTy p k s') (hM : Mods (fun k => k = bs) w w') : RoundR p k r bs vp mc w w' e :=
 ⟨fun s2 b2 e2 => (by rw [hr] at e2; simp only [Option.some.injEq, Prod.mk.injEq] at e2; obtain ⟨rfl, rfl⟩ := e2; exact ⟨he, hS, hT⟩), fun e2 => (by rw [hr] at e2; cases e2), hM⟩
theorem RoundR.no {p : List LClass} {k : Int} {r : Option (SvSt × Bool)} {bs : Nat} {vp : Value} {mc : List Value} {w w' : World} (hr : r = none) (hM : Mods (fun k => k = bs) w w') : RoundR p k r bs vp mc w w' (.panicked (refC 5)) :=
 ⟨fun s2 b2 e2 => (by rw [hr] at e2; cases e2), fun _ => rfl, hM⟩
theorem roundP_none {p : List LClass} {m : LMeth} {s : SvSt} {k : Nat} (h : roundP p m s k = none) : ∀ n, k ≤ n → roundP p m s n = none := by
 intro n hn
 induction n with
 | zero =>
  obtain rfl : k = 0 := by omega
  exact h
 | succ n ih =>
  rcases Nat.lt_or_ge n k with h1 | h1
  ·obtain rfl : k = n + 1 := by omega
   exact h
  ·unfold roundP
   rw [ih h1]; rfl
def RoundI (p : List LClass) (m : LMeth) (s : SvSt) (bs : Nat) (vp : Value) (mc : List Value) (w : World) (k : Nat) (b : Bool) (V : World) : Prop :=
 ∃ s1, roundP p m s k = some (s1, b) ∧ SvAt V bs vp mc s1 ∧ SvTy p m.stack s1 ∧ Mods (fun k => k = bs) w V
set_option maxHeartbeats 1000000 in
set_option maxRecDepth 100000 in
theorem sv_goRound (p : List LClass) (vp : Value) (m : LMeth) (va vco vf : Value) (w0 w : World) (bs : Nat) (s : SvSt) (h : SvAt w bs vp (methCs m va vco vf) s) (hp : RProg w0 vp p) (hv : GVals w0.cell? m va vco vf) (hbw : Below w0.heap.size w0 w) (hbs : w0.heap.size ≤ bs)
  (h40 : m.code.length ≤ 40) (T : SvTy p m.stack s) (G : Good p) (M : MOk p m) (hins : ∀ i ∈ m.code, insB p m i = true) :
  Calls Tryz.prog 80 #[.pointer (some ⟨bs, 0, none⟩)] w fun e w' => RoundR p m.stack (roundP p m s m.code.length) bs vp (methCs m va vco vf) w w' e := by
 have HI0 : Hid (RoundI p m s bs vp (methCs m va vco vf) w 0 false w) := ⟨s, rfl, h, T, Mods.refl _ _⟩
 have HV := hide hv
 have HG := hide (And.intro G (And.intro M hins))
 obtain ⟨css, hC, hB⟩ := h
 obtain ⟨hva, hvc, hvf⟩ := hv
 obtain ⟨aa, _, _, acap, rfl, _⟩ := hva
 obtain ⟨fa, _, _, fcap, rfl, _⟩ := hvf
 obtain ⟨ca, _, _, ccap, rfl, _⟩ := hvc
 have m5 : w.cell? ⟨bs, 6, none⟩ = some (.slice ca m.code.length ccap) := hB.cell 6
 clear G M hins T hC hB
 have n40 : (m.code.length : Int) ≤ 40 := by omega
 go_enter Tryz.func80, Tryz.ntmps80
 go_wp2_with fail
 go_loopw [3, 11] (fun b i wr => ∃ (k : Nat) (q : Bool), k ≤ m.code.length ∧ i = .int .i64 k ∧ b = .bool q ∧ RoundI p m s bs vp (methCs m (.slice aa m.args.length acap) (.slice ca m.code.length ccap) (.slice fa m.frames.length fcap)) w k q wr) (fun _ i _ => m.code.length - (intOf i).toNat)
 case atStart => exact ⟨0, false, Nat.zero_le _, rfl, rfl, unhide HI0⟩
 case round =>
  obtain ⟨k, q, hk, rfl, rfl, hI⟩ := hrel
  obtain ⟨s1, hR, hA, hT, hM⟩ := hI
  have hbV : Below w0.heap.size w0 wr := hbw.trans (hM.below hbw.size (fun k hk e => by omega))
  by_cases hlt : k < m.code.length
  ·have k0 : (0 : Int) ≤ (k : Int) := by omega
   have k40 : (k : Int) < 40 := by omega
   have k41 : (k : Int) < (m.code.length : Int) := by omega
   have HA := hide hA
   have HT := hide hT
   have HM := hide hM
   obtain ⟨css, hC, hB⟩ := hA
   have r0 : wr.cell? ⟨bs, 728 + k, none⟩ = some (.bool (s1.ra.getD k false)) := by rw [hB.cell]; exact sv_ra hC rfl (by omega)
   cases hra : s1.ra.getD k false with
   | false =>
    rw [hra] at r0
    have HI : Hid (RoundI p m s bs vp (methCs m (.slice aa m.args.length acap) (.slice ca m.code.length ccap) (.slice fa m.frames.length fcap)) w (k + 1) q wr) := by
     refine ⟨s1, ?_, unhide HA, hT, hM⟩
     show (roundP p m s k).bind (askP p m k) = _
     rw [hR]
     show askP p m k (s1, q) = _
     unfold askP
     rw [if_neg (by rw [hra]; decide)]
    clear hra hB hC hR hT hM
    go_wp2_with fail
    refine ⟨⟨k + 1, q, by omega, by go_num, rfl, unhide HI⟩, by simp [intOf]; omega⟩
   | true =>
    rw [hra] at r0
    have HS : Hid (roundP p m s (k + 1) = (goOnP p m k { s1 with ra := s1.ra.set k false }).map fun s' => (s', true)) := by
     show (roundP p m s k).bind (askP p m k) = _
     rw [hR]
     show askP p m k (s1, q) = _
     unfold askP
     rw [if_pos hra]
    have f0 := hB.frozen (728 + k)
    have hB2 := hB.setCell (728 + k) (.bool false)
    rw [sv_setra hC rfl (by omega)] at hB2
    have HA2 : Hid (SvAt (wr.setCell ⟨bs, 728 + k, none⟩ (.bool false)) bs vp (methCs m (.slice aa m.args.length acap) (.slice ca m.code.length ccap) (.slice fa m.frames.length fcap)) { s1 with ra := s1.ra.set k false }) := ⟨css, hC.setra k false, hB2⟩
    have HM2 := hide (hM.setCell (p := ⟨bs, 728 + k, none⟩) (fun _ => rfl) (.bool false))
    have hbV2 := hbV.setCell (p := ⟨bs, 728 + k, none⟩) hbs (.bool false)
    clear hra hB hC hR hT hM hB2
    go_wp2_with fail
    generalize wr.setCell _ _ = V at *
    refine (sv_goOn p vp m _ _ _ k w0 V bs _ (unhide HA2) hp (unhide HV) hbV2 hbs hlt h40 (unhide HT) (unhide HG).1 (unhide HG).2.1 (unhide HG).2.2).mono ?_
    rintro e V2 ⟨h1, h2, hM3⟩
    have HM3 := hide ((unhide HM2).trans hM3 (fun _ _ e => e))
    cases hg : goOnP p m k { s1 with ra := s1.ra.set k false } with
    | none =>
     obtain rfl := h2 hg
     have HN : Hid (roundP p m s m.code.length = none) := roundP_none (k := k + 1) (by rw [unhide HS, hg]; rfl) _ (by omega)
     clear hg h1 h2 hM3
     go_wp2_with fail
     exact ⟨rfl, RoundR.no (unhide HN) (unhide HM3)⟩
    | some s2 =>
     obtain ⟨rfl, hA2, hT2⟩ := h1 s2 hg
     have HI : Hid (RoundI p m s bs vp (methCs m (.slice aa m.args.length acap) (.slice ca m.code.length ccap) (.slice fa m.frames.length fcap)) w (k + 1) true V2) :=
      ⟨s2, by rw [unhide HS, hg]; rfl, hA2, hT2, unhide HM3⟩
     clear hg h1 h2 hM3 hA2 hT2
     go_wp2_with fail
     refine ⟨⟨k + 1, true, by omega, by go_num, rfl, unhide HI⟩, by simp [intOf]; omega⟩
  ·obtain rfl : k = m.code.length := by omega
   have HF := hide (RoundR.yes hR rfl hA hT hM)
   clear hR hA hT hM
   go_wp2_with fail
   go_ret
   exact unhide HF
end Go.Proofs.YtiiokkllmchohaaGreat
/- The solver: the frames that it tells. -/
namespace Go.Proofs.YtiiokkllmchohaaGreat
open Go.RowKit Go.Shelf
attribute [local go_sem ↓] Go.wp_at_zero Go.wp_at_succ
attribute [local go_sem] frz_drew

def frmL (m : LMeth) (s : SvSt) : Nat → List LFrame
 | 0 => []
 | k + 1 => frmL m s k ++ (if s.re.getD k false then [⟨(k : Int), (s.st.getD k zeroS).loc.take m.locals.toNat, (s.st.getD k zeroS).stk⟩] else [])
def FrCs (w : World) (B : Nat) : List Value → List LFrame → Prop
 | cs, [] => cs = []
 | cs, f :: l => ∃ b c r, cs = .int .i64 f.pc :: b :: c :: r ∧ w.ownsRow B 43 1 b f.locals.length (f.locals.map (Value.int .i64)) ∧ w.ownsRow B 43 1 c f.stack.length (f.stack.map (Value.int .i64)) ∧ FrCs w B r l
def FrsAt (w : World) (B : Nat) (v : Value) (l : List LFrame) : Prop :=
 ∃ cs, w.ownsRow B 42 3 v l.length cs ∧ FrCs w B cs l ∧ ((v :: cs).filterMap Value.ownBlock).Nodup
theorem FrCs.mods {S : Nat → Prop} {w w' : World} {B : Nat} (m : Mods S w w') : ∀ (l : List LFrame) (cs : List Value), FrCs w B cs l → (∀ g ∈ cs.filterMap Value.ownBlock, ¬ S g) → FrCs w' B cs l
 | [], _, h, _ => h
 | f :: l, _, ⟨b, c, r, rfl, h2, h3, h4⟩, hS => by
  refine ⟨b, c, r, rfl, own_mods h2 m (fun g hg => hS g ?_), own_mods h3 m (fun g hg => hS g ?_), FrCs.mods m l r h4 (fun g hg => hS g ?_)⟩
  ·exact List.mem_filterMap.2 ⟨b, by simp, hg⟩
  ·exact List.mem_filterMap.2 ⟨c, by simp, hg⟩
  ·obtain ⟨x, hx, hx'⟩ := List.mem_filterMap.1 hg
   exact List.mem_filterMap.2 ⟨x, by simp [hx], hx'⟩
theorem FrCs.snoc {w : World} {B : Nat} {vl vs : Value} {f : LFrame} (h1 : w.ownsRow B 43 1 vl f.locals.length (f.locals.map (Value.int .i64))) (h2 : w.ownsRow B 43 1 vs f.stack.length (f.stack.map (Value.int .i64))) :
  ∀ (l : List LFrame) (cs : List Value), FrCs w B cs l → FrCs w B (cs ++ [.int .i64 f.pc, vl, vs]) (l ++ [f])
 | [], _, h => by
  obtain rfl : _ = [] := h
  exact ⟨_, _, _, rfl, h1, h2, rfl⟩
 | g :: l, _, ⟨b, c, r, rfl, g2, g3, g4⟩ => ⟨b, c, _, rfl, g2, g3, FrCs.snoc h1 h2 l r g4⟩
theorem FrCs.lt {w : World} {B : Nat} : ∀ (l : List LFrame) (cs : List Value), FrCs w B cs l → ∀ g ∈ cs.filterMap Value.ownBlock, B ≤ g ∧ g < w.heap.size
 | [], _, h, g, hg => by
  obtain rfl : _ = [] := h
  simp at hg
 | f :: l, _, ⟨b, c, r, rfl, h2, h3, h4⟩, g, hg => by
  obtain ⟨x, hx, hx'⟩ := List.mem_filterMap.1 hg
  rcases List.mem_cons.1 hx with rfl | hx
  ·cases hx'
  ·rcases List.mem_cons.1 hx with rfl | hx
   ·exact h2.lt g hx'
   ·rcases List.mem_cons.1 hx with rfl | hx
    ·exact h3.lt g hx'
    ·exact FrCs.lt l r h4 g (List.mem_filterMap.2 ⟨x, hx, hx'⟩)
theorem FrCs.base {w : World} {B B' : Nat} (hB : B' ≤ B) : ∀ (l : List LFrame) (cs : List Value), FrCs w B cs l → FrCs w B' cs l
 | [], _, h => h
 | f :: l, _, ⟨b, c, r, rfl, h2, h3, h4⟩ => ⟨b, c, r, rfl, own_base h2 hB, own_base h3 hB, FrCs.base hB l r h4⟩
theorem infoFr3 : (Tryz.prog.info? 42).map (fun i => (i.zero, i.size, i.bytes)) = some (some (.agg #[.int .i64 0, .slice none 0 0, .slice none 0 0]), 3, 56) := by kernel_rfl
theorem nodup_add {l : List Nat} {a : List Nat} (h : l.Nodup) (ha : a.Nodup) (hd : ∀ x ∈ l, x ∉ a) : (l ++ a).Nodup := List.nodup_append.2 ⟨h, ha, fun x hx _ hy e => hd x hx (e ▸ hy)⟩
theorem wp_append_run {P : Program} {w w' : World} {o : Oper} {a : Act} {K : Act → World → Prop} {Q : Exit → Act → World → Prop} (s x : Operand) (t : TypeId)
  (ho : o.op = .call { callee := .builtin .append, args := #[s, x], argTypes := #[t, t] }) (v u : Value) (hs : a.eval s = v) (hx : a.eval x = u) {v' : Value}
  (hr : (Builtin.append_ #[t, t] o.type #[v, u]).run P w = .ok v' w') (h : K (a.put o.dst v') w') : o.wp P a w K Q := by
 unfold Oper.wp execOp
 simp only [ho, resolve, invoke, builtin, Sem.run_bind, Sem.run_pure, Result.andThen_ok, List.map_toArray, List.map_cons, List.map_nil, hs, hx, hr]
 exact h
theorem FrsAt.snoc {w W : World} {B : Nat} {v v' : Value} {l : List LFrame} {cs : List Value} {f : LFrame} {vl vs : Value} (h2 : FrCs w B cs l) (h3 : ((v :: cs).filterMap Value.ownBlock).Nodup)
  (o1 : w.ownsRow B 43 1 vl f.locals.length (f.locals.map (Value.int .i64))) (o2 : w.ownsRow B 43 1 vs f.stack.length (f.stack.map (Value.int .i64))) (hd : ([vl, vs].filterMap Value.ownBlock).Nodup) (hn : ∀ g ∈ [vl, vs].filterMap Value.ownBlock, g ∉ (v :: cs).filterMap Value.ownBlock)
  (hW : W.ownsRow B 42 3 v' (l.length + 1) (cs ++ [.int .i64 f.pc, vl, vs])) (hM : Mods (fun k => v.ownBlock = some k) w W) (hv : v'.ownBlock = v.ownBlock ∨ ∃ k, w.heap.size ≤ k ∧ v'.ownBlock = some k) : FrsAt W B v' (l ++ [f]) := by
 have e0 : ∀ (a : Value) (r : List Value), (a :: r).filterMap Value.ownBlock = (match a.ownBlock with | some k => [k] | none => []) ++ r.filterMap Value.ownBlock := fun a r => by
  rw [List.filterMap_cons]; cases a.ownBlock <;> rfl
 have hcs : (cs.filterMap Value.ownBlock).Nodup := by
  rw [e0] at h3
  exact (List.nodup_append.1 h3).2.1
 have hvc : ∀ k, v.ownBlock = some k → k ∉ cs.filterMap Value.ownBlock := fun k hk hx => by
  rw [e0, hk] at h3
  exact (List.nodup_append.1 h3).2.2 k (by simp) k hx rfl
 have hvn : ∀ g ∈ [vl, vs].filterMap Value.ownBlock, v.ownBlock ≠ some g := fun g hg e => hn g hg (by rw [e0, e]; simp)
 have hfr := FrCs.snoc o1 o2 l cs h2
 have hfm : (cs ++ [.int .i64 f.pc, vl, vs]).filterMap Value.ownBlock = cs.filterMap Value.ownBlock ++ [vl, vs].filterMap Value.ownBlock := by
  rw [List.filterMap_append]; congr 1
 have hno : ((cs ++ [.int .i64 f.pc, vl, vs]).filterMap Value.ownBlock).Nodup := by
  rw [hfm]
  exact nodup_add hcs hd (fun x hx hx' => hn x hx' (by rw [e0]; exact List.mem_append.2 (.inr hx)))
 refine ⟨_, by simpa using hW, FrCs.mods hM _ _ hfr (fun g hg e => ?_), ?_⟩
 ·rw [hfm] at hg
  rcases List.mem_append.1 hg with hg | hg
  ·exact hvc g e hg
  ·exact hvn g hg e
 ·rw [e0]
  refine nodup_add (by cases v'.ownBlock <;> simp) hno (fun x hx hx' => ?_)
  rcases hv with e | ⟨k, hk, e⟩
  ·rw [e] at hx
   rw [hfm] at hx'
   cases hq : v.ownBlock with
   | none => rw [hq] at hx; simp at hx
   | some k =>
    rw [hq] at hx
    obtain rfl : x = k := by simpa using hx
    rcases List.mem_append.1 hx' with hg | hg
    ·exact hvc x hq hg
    ·exact hvn x hg hq
  ·rw [e] at hx
   obtain rfl : x = k := by simpa using hx
   have := (FrCs.lt _ _ hfr x hx').2
   omega
def FrmI (m : LMeth) (s : SvSt) (w : World) (k : Nat) (v : Value) (V : World) : Prop := FrsAt V w.heap.size v (frmL m s k) ∧ Below w.heap.size w V
theorem frmL_len (m : LMeth) (s : SvSt) : ∀ k, (frmL m s k).length ≤ k
 | 0 => Nat.le_refl _
 | k + 1 => by
  have := frmL_len m s k
  unfold frmL
  rw [List.length_append]
  split <;> simp <;> omega
set_option maxHeartbeats 1000000 in
set_option maxRecDepth 100000 in
theorem sv_frames (vp : Value) (m : LMeth) (va vco vf : Value) (w : World) (bs : Nat) (s : SvSt) (h : SvAt w bs vp (methCs m va vco vf) s) (hv : GVals w.cell? m va vco vf) (h40 : m.code.length ≤ 40) (hl0 : 0 ≤ m.locals) (hl8 : m.locals ≤ 8) :
  Calls Tryz.prog 81 #[.pointer (some ⟨bs, 0, none⟩)] w fun e w' => ∃ v, e = .returned v ∧ FrmI m s w m.code.length v w' := by
 obtain ⟨j0, gj0, gz0, gz1, gz2⟩ := info_parts infoFr3
 have HI0 : Hid (FrmI m s w 0 (.slice none 0 0) w) := ⟨⟨[], World.ownsRow_nil _ _ _ _, rfl, (List.nodup_nil : ([] : List Nat).Nodup)⟩, Below.refl _ _⟩
 obtain ⟨css, hC, hB⟩ := h
 obtain ⟨hva, hvc, hvf⟩ := hv
 obtain ⟨aa, _, _, acap, rfl, _⟩ := hva
 obtain ⟨fa, _, _, fcap, rfl, _⟩ := hvf
 obtain ⟨ca, _, _, ccap, rfl, _⟩ := hvc
 have m5 : w.cell? ⟨bs, 6, none⟩ = some (.slice ca m.code.length ccap) := hB.cell 6
 have n40 : (m.code.length : Int) ≤ 40 := by omega
 obtain ⟨ln, hln⟩ : ∃ ln : Nat, m.locals = (ln : Int) := ⟨m.locals.toNat, by omega⟩
 go_enter Tryz.func81, Tryz.ntmps81
 go_wp2_with fail
 go_loopw [3, 11] (fun v i wr => ∃ (k : Nat), k ≤ m.code.length ∧ i = .int .i64 k ∧ FrmI m s w k v wr) (fun _ i _ => m.code.length - (intOf i).toNat)
 case atStart => exact ⟨0, Nat.zero_le _, rfl, unhide HI0⟩
 case round =>
  obtain ⟨k, hk, rfl, hI⟩ := hrel
  have HI := hide hI
  obtain ⟨⟨cs, hO, hF, hD⟩, hb⟩ := hI
  obtain ⟨ra, rcap, rfl⟩ := own_form hO
  by_cases hlt : k < m.code.length
  ·have k0 : (0 : Int) ≤ (k : Int) := by omega
   have k40 : (k : Int) < 40 := by omega
   have k41 : (k : Int) < (m.code.length : Int) := by omega
   have hBV := hB.below hb hB.lt
   have r0 : wr.cell? ⟨bs, 688 + k, none⟩ = some (.bool (s.re.getD k false)) := by rw [hBV.cell]; exact sv_re hC rfl (by omega)
   cases hre : s.re.getD k false with
   | false =>
    rw [hre] at r0
    have HI2 : Hid (FrmI m s w (k + 1) (.slice ra (frmL m s k).length rcap) wr) := by
     have e : frmL m s (k + 1) = frmL m s k := by
      show frmL m s k ++ _ = _
      rw [hre]; simp
     show FrsAt _ _ _ _ ∧ _
     rw [e]; exact unhide HI
    clear hre hO hF hD
    go_wp2_with fail
    refine ⟨⟨k + 1, by omega, by go_num, unhide HI2⟩, by simp [intOf]; omega⟩
   | true =>
    rw [hre] at r0
    have hil : k < s.st.length := by rw [hC.l1]; omega
    have hcl : k < css.length := by rw [hC.lc]; omega
    have hgi : StC (s.st.getD k zeroS) css[k] := by
     have e : s.st.getD k zeroS = s.st[k] := by rw [List.getD_eq_getElem?_getD, List.getElem?_eq_getElem hil]; rfl
     rw [e]
     exact hC.cs k _ _ (List.getElem?_eq_getElem hil) (List.getElem?_eq_getElem hcl)
    have hsv := fun j v (e : css[k][j]? = some v) => sv_state (vp := vp) hC (show (methCs m (.slice aa m.args.length acap) (.slice ca m.code.length ccap) (.slice fa m.frames.length fcap)).length = 7 from rfl) (List.getElem?_eq_getElem hcl) j v e
    have hli := hgi.len
    have HE : Hid (frmL m s (k + 1) = frmL m s k ++ [⟨(k : Int), (s.st.getD k zeroS).loc.take ln, (s.st.getD k zeroS).stk⟩]) := by
     show frmL m s k ++ _ = _
     rw [hre, hln]; rfl
    generalize css[k] = ci at *
    generalize s.st.getD k zeroS = u at *
    have c4 : wr.cell? ⟨bs, 4, none⟩ = some (.int .i64 (ln : Int)) := by rw [hBV.cell, ← hln]; rfl
    go_wp2_with fail
    refine wp_region_noPanic ?_
    refine wp_region_held_drew (S := (fun w' => Blk w' bs 134 (svCells vp (methCs m (.slice aa m.args.length acap) (.slice ca m.code.length ccap) (.slice fa m.frames.length fcap)) css s) ∧ w'.cell? ⟨bs, 4, none⟩ = some (.int .i64 (ln : Int)))) (by kernel_rfl) ?_ (fun hHeld => ?_)
    ·exact ⟨hBV, c4⟩
    refine take_x (some 20) 0 rfl rfl ?_
    refine take_x (some 21) 1 rfl rfl ?_
    refine take_x (some 22) 2 rfl rfl ?_
    refine take_x (some 23) 3 rfl rfl ?_
    refine take_x (some 24) 4 rfl rfl ?_
    refine take_x (some 25) 5 rfl rfl ?_
    refine take_d (some 26) (i := 6) (v := .agg ci.toArray) rfl rfl (by kernel_rfl) (by kernel_rfl) (by kernel_rfl) (fun _ _ _ h => h) (Or.inl ⟨by rfl, fun w' hSw => exec_load_blk aggSt hSw.1 (8 + k * 17) ci hli hsv rfl rfl⟩) (by assumption) ?_
    try simp only [Act.put, List.setIfInBounds_toArray, List.set_cons_zero, List.set_cons_succ]
    refine take_x (some 27) 7 rfl rfl ?_
    refine take_x (some 28) 8 rfl rfl ?_
    refine take_x (some 29) 9 rfl rfl ?_
    refine take_x (some 30) 10 rfl rfl ?_
    refine take_x (some 31) 11 rfl rfl ?_
    refine take_x (some 32) 12 rfl rfl ?_
    refine wpAnyH_ready (rs := [13]) (by kernel_rfl) (by simp) ?_
    refine AllReadyH.cons rfl (fun K hK => ?_) AllReadyH.nil
    go_simp
    refine (st_frame u ci _ ln _ hgi (by omega)).mono ?_
    rintro e w2 ⟨vl, vs, rfl, o1, o2, od, hb2⟩
    have hb2' : Below wr.heap.size wr w2 := ⟨hb2.os, hb2.tape, hb2.output, hb2.size, hb2.block⟩
    obtain ⟨la, lcap, rfl⟩ := own_form o1
    obtain ⟨sa, scap, rfl⟩ := own_form o2
    have hBV2 := hBV.below hb2' hBV.lt
    have hsz := hb.size
    have hm2 := Mods.of_below hb2'
    have hlt1 := FrCs.lt _ _ hF
    have hlt0 := hO.lt
    have hO2 := own_mods hO hm2 (fun g hg e => by have := (hlt0 g hg).2; omega)
    have hF2 := FrCs.mods hm2 _ _ hF (fun g hg e => by have := (hlt1 g hg).2; omega)
    have hfl := frmL_len m s k
    obtain ⟨v3, w3, happ, hO3, hM3, hv3⟩ := app_ex (P := Tryz.prog) (W := w2) 36 36 42 j0 _ 3 56 Tryz.underlying36 gj0 gz0 gz1 gz2 rfl (by decide) w.heap.size _ _ _ hO2 #[.int .i64 (k : Int), .slice la ln lcap, .slice sa u.stk.length scap] rfl
     (fun v hv => by
      simp only [List.mem_cons, List.not_mem_nil, or_false] at hv
      rcases hv with rfl | rfl | rfl <;> rfl) w2.heap.size rfl (by unfold maxLen; omega) (by omega) (Nat.le_trans hsz hb2'.size)
    have hD1 : ∀ g ∈ [Value.slice la ln lcap, .slice sa u.stk.length scap].filterMap Value.ownBlock, wr.heap.size ≤ g := fun g hg => by
     obtain ⟨x, hx, hx'⟩ := List.mem_filterMap.1 hg
     simp only [List.mem_cons, List.not_mem_nil, or_false] at hx
     rcases hx with rfl | rfl
     ·exact (o1.lt g hx').1
     ·exact (o2.lt g hx').1
    have HF3 : Hid (FrsAt w3 w.heap.size v3 (frmL m s (k + 1))) := by
     show FrsAt _ _ _ _
     rw [unhide HE]
     have ul := hgi.ok.1
     refine FrsAt.snoc (f := ⟨(k : Int), u.loc.take ln, u.stk⟩) hF2 hD (own_base (by simpa [ul, show min ln 8 = ln by omega] using o1) hsz) (own_base o2 hsz) ?_ (fun g hg hg' => ?_) hO3 hM3 hv3
     ·show (List.filterMap _ _).Nodup
      simp only [List.filterMap_cons, List.filterMap_nil]
      cases h1 : (Value.slice la ln lcap).ownBlock with
      | none => cases h2 : (Value.slice sa u.stk.length scap).ownBlock <;> simp
      | some x =>
       cases h2 : (Value.slice sa u.stk.length scap).ownBlock with
       | none => simp
       | some y =>
        have := od x h1
        rw [h2] at this
        simp only [ne_eq, Option.some.injEq] at this
        simp only [List.nodup_cons, List.mem_singleton, List.not_mem_nil, not_false_eq_true, List.nodup_nil, and_true]
        exact fun e => this e.symm
     ·have h1 := hD1 g hg
      obtain ⟨x, hx, hx'⟩ := List.mem_filterMap.1 hg'
      rcases List.mem_cons.1 hx with rfl | hx
      ·have := (hlt0 g hx').2; omega
      ·have := (hlt1 g (List.mem_filterMap.2 ⟨x, hx, hx'⟩)).2; omega
    obtain ⟨a3, cap3, rfl⟩ := own_form hO3
    have hb3 : Below w.heap.size w w3 := hb.trans ((hb2'.mono hsz).trans (hM3.below (Nat.le_trans hsz hb2'.size) (fun g hg e => by have := (hlt0 g e).1; omega)))
    have hbs := hB.lt
    have hBV3 := hB.below hb3 hB.lt
    have c42 : w2.cell? ⟨bs, 4, none⟩ = some (.int .i64 (ln : Int)) := Keeps.of_below hb2' _ _ c4
    have c43 : w3.cell? ⟨bs, 4, none⟩ = some (.int .i64 (ln : Int)) := by rw [hBV3.cell, ← hln]; rfl
    have hBV2a := hBV2.alloc (.cells #[.int .i64 (k : Int), .slice la ln lcap, .slice sa u.stk.length scap] 42)
    have c42a : (w2.alloc (.cells #[.int .i64 (k : Int), .slice la ln lcap, .slice sa u.stk.length scap] 42)).cell? ⟨bs, 4, none⟩ = some (.int .i64 (ln : Int)) := by rw [hBV2a.cell, ← hln]; rfl
    clear hD hF hO hF2 hO2 hO3 hM3 hv3 o1 o2 od hlt0 hlt1 hD1 hm2
    go_wp2_with fail
    refine hK.out _ _ ⟨hBV2, c42⟩ (fun hHeld => ?_)
    clear hK K
    try simp only [Act.put, List.setIfInBounds_toArray, List.set_cons_zero, List.set_cons_succ]
    refine wpAnyH_ready (rs := [14]) (by kernel_rfl) (by simp) ?_
    refine AllReadyH.cons rfl (fun K hK => ?_) AllReadyH.nil
    go_simp
    refine hK.out _ _ ⟨hBV2a, c42a⟩ (fun hHeld => ?_)
    clear hK K
    try simp only [Act.put, List.setIfInBounds_toArray, List.set_cons_zero, List.set_cons_succ]
    refine wpAnyH_ready (rs := [15]) (by kernel_rfl) (by simp) ?_
    refine AllReadyH.cons rfl (fun K hK => ?_) AllReadyH.nil
    refine wp_append_run (.tmp 20) (.tmp 34) 36 rfl _ _ rfl rfl happ ?_
    go_simp
    refine hK.out _ _ ⟨hBV3, c43⟩ (fun hHeld => ?_)
    clear hK K
    try simp only [Act.put, List.setIfInBounds_toArray, List.set_cons_zero, List.set_cons_succ]
    refine take_x (some 3) 16 rfl rfl ?_
    refine wpAnyH_done (by kernel_rfl) ?_ _
    refine NoPanic.normal ?_
    clear happ
    go_wp2_with fail
    refine ⟨⟨k + 1, by omega, by go_num, unhide HF3, hb3⟩, by simp [intOf]; omega⟩
  ·obtain rfl : k = m.code.length := by omega
   go_wp2_with fail
   go_ret
   exact ⟨_, rfl, unhide HI⟩
end Go.Proofs.YtiiokkllmchohaaGreat
/- The solver: Solve. -/
namespace Go.Proofs.YtiiokkllmchohaaGreat
open Go.RowKit Go.Shelf
attribute [local go_sem ↓] Go.wp_at_zero Go.wp_at_succ
attribute [local go_sem] frz_drew

theorem aggSv : AggOk Tryz.prog 134 768 := ⟨by kernel_rfl, by kernel_rfl⟩
def css0 : List (List Value) := List.replicate 40 zero17
theorem sv0_cells : SvC sv0 css0 := by
 refine ⟨by simp [sv0], by simp [sv0], by simp [sv0], by simp [css0], fun i x c e1 e2 => ?_⟩
 obtain rfl := List.eq_of_mem_replicate (List.mem_of_getElem? e1)
 obtain rfl := List.eq_of_mem_replicate (List.mem_of_getElem? e2)
 rw [← zeroS_cells]
 exact StC_cells zeroS_ok
theorem sv_built (vp a b c d e f g : Value) : Tryz.prog.built 134 [(0, .agg #[vp]), (1, .agg #[a, b, c, d, e, f, g])] = some (svCells vp [a, b, c, d, e, f, g] css0 sv0).toArray := by kernel_rfl
theorem wpList_build2 {P : Program} {ty : TypeId} {w : World} {ops : Array Oper} {rest : List Oper} {o : Oper} {a : Act} {Q : Exit → Act → World → Prop} (x y : Operand) {u v : Value} {L : List Value} (hb : P.built ty [(0, u), (1, v)] = some L.toArray)
  (hgd : o.guard = none) (ho : o.op = .build ty #[(0, x), (1, y)]) (hx : a.eval x = u) (hy : a.eval y = v) (h : wpList P ops Q rest (a.put o.dst (.agg L.toArray)) w) : wpList P ops Q (o :: rest) a w := by
 refine wpList_plain hgd fun K hK => ?_
 unfold Oper.wp execOp
 simp only [ho, List.map_toArray, List.map_cons, List.map_nil, hx, hy, Sem.run_bind, run_build w ty #[(0, u), (1, v)] L.toArray hb, Result.andThen_ok, Sem.run_pure]
 exact hK _ _ h
theorem svCells_one {vp : Value} {mc : List Value} {css : List (List Value)} {s : SvSt} (h : SvC s css) (h1 : vp.oneCell' = true) (h2 : ∀ v ∈ mc, v.oneCell' = true) : ∀ v ∈ svCells vp mc css s, v.oneCell' = true := by
 intro v hv
 unfold svCells at hv
 rcases List.mem_append.1 hv with hv | hv
 ·rcases List.mem_cons.1 hv with rfl | hv
  ·exact h1
  ·exact h2 v hv
 ·rcases List.mem_append.1 hv with hv | hv
  ·obtain ⟨c, hc, hv⟩ := List.mem_flatten.1 hv
   obtain ⟨i, hi, rfl⟩ := List.getElem_of_mem hc
   have hx := List.getElem?_eq_getElem (show i < s.st.length by rw [h.l1, ← h.lc]; exact hi)
   exact (h.cs i _ _ hx (List.getElem?_eq_getElem hi)).one v hv
  ·rcases List.mem_append.1 hv with hv | hv
   ·obtain ⟨b, _, rfl⟩ := List.mem_map.1 hv; rfl
   ·obtain ⟨b, _, rfl⟩ := List.mem_map.1 hv; rfl
theorem svCells_len {vp : Value} {mc : List Value} {css : List (List Value)} {s : SvSt} (h : SvC s css) (hm : mc.length = 7) : (svCells vp mc css s).length = 768 := by
 unfold svCells
 rw [List.length_append, List.length_append, List.length_append, List.length_map, List.length_map, flt_len css h.all, List.length_cons, hm, h.lc, h.l2, h.l3]
theorem marks_ret0 {P : Program} {fn : Func} {R : Ending → World → Prop} {tmps : Array Value} {w : World} {v : Value} (hv : (results fn tmps).run P w = .ok v w) (hR : R (.returned v) w) :
  marksPost P fn R .ret { tmps := tmps, defers := [] } w := ⟨v, hv, hR⟩
theorem reach0 (p : List LClass) (g : TSt) : reachP p 0 g sv0 = some (putP sv0 0 g) := rfl
def SolveR (r : Option SvSt) (m : LMeth) (w w' : World) (e : Ending) : Prop :=
 (∀ s', r = some s' → ∃ v, e = .returned v ∧ FrsAt w' w.heap.size v (frmL m s' m.code.length)) ∧ (r = none → e = .panicked (refC 5)) ∧ Below w.heap.size w w'
def SolvI (p : List LClass) (m : LMeth) (r : Option SvSt) (bs : Nat) (vp : Value) (mc : List Value) (w : World) (N : Nat) (V : World) : Prop :=
 ∃ s1, solveN p m N s1 = some r ∧ SvAt V bs vp mc s1 ∧ SvTy p m.stack s1 ∧ Below w.heap.size w V
set_option maxHeartbeats 1000000 in
set_option maxRecDepth 100000 in
theorem sv_solve (p : List LClass) (vp : Value) (c : Int) (m : LMeth) (va vco vf : Value) (w : World) (hp : RProg w vp p) (hv : GVals w.cell? m va vco vf) (G : Good p) (hc0 : 0 ≤ c) (hc1 : c < (p.length : Int)) (O : MethOk p c m) (hl0 : 0 ≤ m.locals) (N : Nat) (r : Option SvSt) (hN : solveN p m N (putP sv0 0 (beginS c m)) = some r) :
  Calls Tryz.prog 41 #[.agg #[vp], .int .i64 c, methV m va vco vf] w fun e w' => SolveR r m w w' e := by
 have HP := hide hp
 have HV := hide hv
 have HN := hide hN
 have hz : p.length ≤ 4194304 := Nat.le_trans (szProg_len p) G.sz
 unfold methV
 obtain ⟨pa, _, _, pcap, rfl, _⟩ := hp
 obtain ⟨hva, hvc, hvf⟩ := hv
 obtain ⟨aa, _, _, acap, rfl, _⟩ := hva
 obtain ⟨fa, _, _, fcap, rfl, _⟩ := hvf
 obtain ⟨ca, _, _, ccap, rfl, _⟩ := hvc
 clear hN
 obtain ⟨SL, hSL⟩ : ∃ SL, SL = svCells (.slice pa p.length pcap) [.int .i64 m.slot, .slice aa m.args.length acap, .int .i64 m.ret, .int .i64 m.locals, .int .i64 m.stack, .slice ca m.code.length ccap, .slice fa m.frames.length fcap] css0 sv0 := ⟨_, rfl⟩
 have HB := hide (sv_built (.slice pa p.length pcap) (.int .i64 m.slot) (.slice aa m.args.length acap) (.int .i64 m.ret) (.int .i64 m.locals) (.int .i64 m.stack) (.slice ca m.code.length ccap) (.slice fa m.frames.length fcap))
 rw [← hSL] at HB
 have hone : ∀ v ∈ SL, v.oneCell' = true := by
  rw [hSL]
  refine svCells_one sv0_cells rfl (fun v hv => ?_)
  simp only [List.mem_cons, List.not_mem_nil, or_false] at hv
  rcases hv with rfl | rfl | rfl | rfl | rfl | rfl | rfl <;> rfl
 have hlen : SL.length = 768 := by rw [hSL]; exact svCells_len sv0_cells rfl
 have hzl : Tryz.zeroCells134.toList.length = 768 := by rw [Array.length_toList, Tryz.zeroCells134_size]
 have HSL := hide hSL
 clear hSL
 refine calls_of_wpF Tryz.func41 rfl ?_
 simp only [Tryz.ntmps41, List.size_toArray, List.length_cons, List.length_nil, Nat.reduceAdd, Nat.reduceSub, Array.replicate_succ, Array.replicate_zero, List.push_toArray, List.append_toArray, List.nil_append, List.cons_append]
 refine wpF_seq_wp ?_
 go_wp2_with fail
 have hb2 : Below w.heap.size w ((w.alloc (.cells #[.slice pa p.length pcap] 24)).alloc (.cells #[.int .i64 m.slot, .slice aa m.args.length acap, .int .i64 m.ret, .int .i64 m.locals, .int .i64 m.stack, .slice ca m.code.length ccap, .slice fa m.frames.length fcap] 63)) := box2_below _ _ _
 have B0 := (Blk.new w #[.slice pa p.length pcap] 24).alloc (.cells #[.int .i64 m.slot, .slice aa m.args.length acap, .int .i64 m.ret, .int .i64 m.locals, .int .i64 m.stack, .slice ca m.code.length ccap, .slice fa m.frames.length fcap] 63)
 have B1 := Blk.new (w.alloc (.cells #[.slice pa p.length pcap] 24)) #[.int .i64 m.slot, .slice aa m.args.length acap, .int .i64 m.ret, .int .i64 m.locals, .int .i64 m.stack, .slice ca m.code.length ccap, .slice fa m.frames.length fcap] 63
 have hsz : ((w.alloc (.cells #[.slice pa p.length pcap] 24)).alloc (.cells #[.int .i64 m.slot, .slice aa m.args.length acap, .int .i64 m.ret, .int .i64 m.locals, .int .i64 m.stack, .slice ca m.code.length ccap, .slice fa m.frames.length fcap] 63)).heap.size = w.heap.size + 1 + 1 := by simp
 rw [World.size_alloc] at B1
 generalize (w.alloc _).alloc _ = W at *
 have HSZ := hide hsz
 clear hsz
 have p0 : W.cell? ⟨w.heap.size, 0, none⟩ = some (.slice pa p.length pcap) := B0.cell 0
 have m0 : W.cell? ⟨w.heap.size + 1, 0, none⟩ = some (.int .i64 m.slot) := B1.cell 0
 have m1 : W.cell? ⟨w.heap.size + 1, 1, none⟩ = some (.slice aa m.args.length acap) := B1.cell 1
 have m2 : W.cell? ⟨w.heap.size + 1, 2, none⟩ = some (.int .i64 m.ret) := B1.cell 2
 have m3 : W.cell? ⟨w.heap.size + 1, 3, none⟩ = some (.int .i64 m.locals) := B1.cell 3
 have m4 : W.cell? ⟨w.heap.size + 1, 4, none⟩ = some (.int .i64 m.stack) := B1.cell 4
 have m5 : W.cell? ⟨w.heap.size + 1, 5, none⟩ = some (.slice ca m.code.length ccap) := B1.cell 5
 have m6 : W.cell? ⟨w.heap.size + 1, 6, none⟩ = some (.slice fa m.frames.length fcap) := B1.cell 6
 refine wpF_seq_wp ?_
 go_wp2_with (first
  | refine wpList_build2 (.tmp 8) (.tmp 9) (unhide HB) rfl rfl rfl rfl ?_
  | (refine wpList_store_blk aggSv (Blk.new W Tryz.zeroCells134 134) 0 SL hlen (by rw [hzl]; omega) hone (.tmp 7) (.tmp 10) rfl rfl rfl rfl ?_; intro w3 hB3 hM3 hs3))
 rw [putAt_all (by rw [hlen, hzl])] at hB3
 have hsz := unhide HSZ
 have hb3 : Below W.heap.size W w3 := (box_below W _).trans (hM3.below (by simp) (fun k hk e => by omega))
 have hbw3 := hb2.trans (hb3.mono hb2.size)
 obtain ⟨bs, hbs⟩ : ∃ b, b = W.heap.size := ⟨_, rfl⟩
 have hbs' : w.heap.size ≤ bs := by omega
 rw [← hbs] at hB3 ⊢
 have HA : Hid (SvAt w3 bs (.slice pa p.length pcap) (methCs m (.slice aa m.args.length acap) (.slice ca m.code.length ccap) (.slice fa m.frames.length fcap)) sv0) := ⟨css0, sv0_cells, by rw [unhide HSL] at hB3; exact hB3⟩
 have C1 := B1.below hb3 (by omega)
 have lb := hB3.lt
 clear hbs hsz HSZ
 clear hB3 hM3 hs3 HSL hlen hone HB hzl B0 B1 p0 m0 m1 m2 m3 m4 m5 m6
 have m0 : w3.cell? ⟨w.heap.size + 1, 0, none⟩ = some (.int .i64 m.slot) := C1.cell 0
 have m1 : w3.cell? ⟨w.heap.size + 1, 1, none⟩ = some (.slice aa m.args.length acap) := C1.cell 1
 have m2 : w3.cell? ⟨w.heap.size + 1, 2, none⟩ = some (.int .i64 m.ret) := C1.cell 2
 have m3 : w3.cell? ⟨w.heap.size + 1, 3, none⟩ = some (.int .i64 m.locals) := C1.cell 3
 have m4 : w3.cell? ⟨w.heap.size + 1, 4, none⟩ = some (.int .i64 m.stack) := C1.cell 4
 have m5 : w3.cell? ⟨w.heap.size + 1, 5, none⟩ = some (.slice ca m.code.length ccap) := C1.cell 5
 have m6 : w3.cell? ⟨w.heap.size + 1, 6, none⟩ = some (.slice fa m.frames.length fcap) := C1.cell 6
 refine wpF_seq_wp ?_
 go_wp2_with fail
 refine (st_begin c m _ _ _ _ hc0 (by omega) (GVals.keep (Keeps.of_below hbw3) (unhide HV)) O.a7).mono ?_
 rintro e w4 ⟨rfl, hb4⟩
 have hbw4 := hbw3.trans (hb4.mono hbw3.size)
 have HA4 : Hid (SvAt w4 bs (.slice pa p.length pcap) (methCs m (.slice aa m.args.length acap) (.slice ca m.code.length ccap) (.slice fa m.frames.length fcap)) sv0) := (unhide HA).mods (Mods.of_below hb4) (by omega)
 have hok := okS_begin (c := c) O.a7
 have HRP4 := hide (prog_keep (Keeps.of_below hbw4) (unhide HP))
 clear m0 m1 m2 m3 m4 m5 m6 HA hb4
 go_wp2_with fail
 have hms : 0 ≤ m.stack := by have := O.bg.2.2; omega
 refine (sv_reach p 0 (beginS c m) (stCells (beginS c m)) w4 bs _ _ sv0 (unhide HA4) rfl (by omega) (StC_cells hok) (unhide HRP4) G.sup hz m.stack O.bg (sv0_ty p hms)).mono ?_
 rintro e w5 ⟨h1, _, hM5⟩
 obtain ⟨rfl, hA5, hT5⟩ := h1 _ (reach0 p _)
 have hbw5 : Below w.heap.size w w5 := hbw4.trans (hM5.below hbw4.size (fun k hk e => by omega))
 have HI0 : Hid (SolvI p m r bs (.slice pa p.length pcap) (methCs m (.slice aa m.args.length acap) (.slice ca m.code.length ccap) (.slice fa m.frames.length fcap)) w N w5) := ⟨_, unhide HN, hA5, hT5, hbw5⟩
 clear h1 hM5 hA5 hT5 HA4 HRP4 hbw4 hbw3 hb3 C1
 go_wp2_with fail
 generalize Value.agg SL.toArray = g10
 generalize Value.agg (stCells (beginS c m)).toArray = g13
 generalize Value.agg #[Value.int .i64 m.slot, .slice aa m.args.length acap, .int .i64 m.ret, .int .i64 m.locals, .int .i64 m.stack, .slice ca m.code.length ccap, .slice fa m.frames.length fcap] = g2
 generalize Value.agg #[Value.slice pa p.length pcap] = g0
 refine wpF_seq ?_
 refine wpF_block ?_
 refine wpF_loop (fun N a V => ∃ u, a = { tmps := #[g0, .int .i64 c, g2, .pointer (some ⟨w.heap.size, 0, none⟩), undef, .pointer (some ⟨w.heap.size + 1, 0, none⟩), .slice none 0 0, .pointer (some ⟨bs, 0, none⟩), g0, g2, g10, .int .i64 c, g2, g13, .tuple #[], u, undef], defers := [] } ∧ SolvI p m r bs (.slice pa p.length pcap) (methCs m (.slice aa m.args.length acap) (.slice ca m.code.length ccap) (.slice fa m.frames.length fcap)) w N V) N ⟨undef, rfl, unhide HI0⟩ ?_
 clear HI0 HN hbw5
 rintro N a V ⟨u, rfl, s1, hsn, hA, hT, hb⟩
 cases N with
 | zero => cases hsn
 | succ n =>
  refine wpF_of_wp ?_
  have HSN := hide hsn
  clear hsn
  go_wp2_with fail
  refine (sv_goRound p _ m _ _ _ w V bs s1 hA (unhide HP) (unhide HV) hb hbs' O.c40 hT G O.ok O.ins).mono ?_
  rintro e V2 ⟨h1, h2, hM⟩
  have hb2 : Below w.heap.size w V2 := hb.trans (hM.below hb.size (fun k hk e => by omega))
  cases hr : roundP p m s1 m.code.length with
  | none =>
   obtain rfl := h2 hr
   have HR : Hid (r = none) := by
    have h := unhide HSN
    unfold solveN at h
    rw [hr] at h
    exact (Option.some.inj h).symm
   clear hr h1 h2
   go_wp2_with fail
   exact marks_panic0 ⟨fun s' e => (by rw [unhide HR] at e; cases e), fun _ => rfl, hb2⟩
  | some x =>
   obtain ⟨s2, b⟩ := x
   obtain ⟨rfl, hA2, hT2⟩ := h1 s2 b hr
   cases b with
   | true =>
    have HI2 : Hid (SolvI p m r bs (.slice pa p.length pcap) (methCs m (.slice aa m.args.length acap) (.slice ca m.code.length ccap) (.slice fa m.frames.length fcap)) w n V2) := by
     refine ⟨s2, ?_, hA2, hT2, hb2⟩
     have h := unhide HSN
     unfold solveN at h
     rw [hr] at h
     exact h
    clear hr h1 h2 hA2 hT2
    go_wp2_with fail
    exact ⟨n, by omega, _, rfl, unhide HI2⟩
   | false =>
    have HR : Hid (r = some s2) := by
     have h := unhide HSN
     unfold solveN at h
     rw [hr] at h
     exact (Option.some.inj h).symm
    have HA2 := hide hA2
    clear hr h1 h2 hA2 hT2
    go_wp2_with fail
    refine wpF_seq_wp ?_
    go_wp2_with fail
    refine (sv_frames _ m _ _ _ V2 bs s2 (unhide HA2) (GVals.keep (Keeps.of_below hb2) (unhide HV)) O.c40 hl0 O.ok.loc).mono ?_
    rintro e V3 ⟨v, rfl, ⟨cs, hO, hF, hD⟩, hb3⟩
    obtain ⟨ra, rcap, rfl⟩ := own_form hO
    have HF : Hid (SolveR r m w V3 (.returned (.slice ra (frmL m s2 m.code.length).length rcap))) := by
     refine ⟨fun s' e => ?_, fun e => (by rw [unhide HR] at e; cases e), hb2.trans (hb3.mono hb2.size)⟩
     rw [unhide HR] at e
     obtain rfl := Option.some.inj e
     exact ⟨_, rfl, cs, own_base hO hb2.size, FrCs.base hb2.size _ _ hF, hD⟩
    clear hO hF hD
    go_wp2_with fail
    refine wpF_of_wp ?_
    go_wp2_with fail
    exact marks_ret0 (results_tmp (t := 6) rfl _ _ _) (unhide HF)
end Go.Proofs.YtiiokkllmchohaaGreat
/- Certify: lists are copied. -/
namespace Go.Proofs.YtiiokkllmchohaaGreat
open Go.RowKit Go.Shelf
attribute [local go_sem ↓] Go.wp_at_zero Go.wp_at_succ
attribute [local go_sem] frz_drew

def CopyR (e : TypeId) (sz n : Nat) (news : List Value) (w w' : World) (x : Ending) : Prop := ∃ v, x = .returned v ∧ w'.ownsRow w.heap.size e sz v n news ∧ Below w.heap.size w w'
theorem infoTypeC : (Tryz.prog.info? 43).map (fun i => (i.zero, i.size, i.bytes)) = some (some (.int .i64 0), 1, 8) := by kernel_rfl
theorem infoInsC : (Tryz.prog.info? 60).map (fun i => (i.zero, i.size, i.bytes)) = some (some (.agg #[.int .i64 0, .int .i64 0, .int .i64 0]), 3, 24) := by kernel_rfl
theorem infoMethC : (Tryz.prog.info? 63).map (fun i => (i.zero, i.size, i.bytes)) = some (some (.agg #[.int .i64 0, .slice none 0 0, .int .i64 0, .int .i64 0, .int .i64 0, .slice none 0 0, .slice none 0 0]), 7, 104) := by kernel_rfl
theorem grown_below {w w' : World} (h : w.grownBy w' none) : Below w.heap.size w w' := (((Mods.refl (fun _ => False) w).grown h (fun k e => by cases e))).below (Nat.le_refl _) (fun _ _ f => f)
set_option maxHeartbeats 1000000 in
set_option maxRecDepth 100000 in
theorem cer_copied_Type (sa : Option Addr) (n cap : Nat) (news : List Value) (w : World) (hl : news.length = n * 1) (hnil : sa = none → n = 0 ∧ cap = 0) (hnews : ∀ ad, sa = some ad → ∀ j u, news[j]? = some u → w.cell? (ad.add j) = some u) (h1 : ∀ u ∈ news, u.oneCell' = true) (hn : n ≤ 4194304) :
  Calls Tryz.prog 106 #[.slice sa n cap] w fun e w' => CopyR 43 1 n news w w' e := by
 obtain ⟨iI, hI, hI0, hI1, hI2⟩ := info_parts infoTypeC
 go_enter Tryz.func106, Tryz.ntmps106
 go_wp2_with (at_builtin; refine wpList_append_sl rfl (.const (.slice none 0 0)) (.tmp 3) 40 rfl w.heap.size 43 iI _ 1 8 Tryz.underlying40 hI hI0 hI1 hI2 rfl (by decide) (.slice none 0 0) 0 [] rfl (World.ownsRow_nil _ _ _ _) sa n cap news rfl hl hnil hnews h1 (by unfold maxLen; omega) (by omega) (Nat.le_refl _) ?_; intro v' w' hown hgr hbk; rw [Nat.zero_add, List.nil_append] at hown; obtain ⟨va, vcap, rfl⟩ := own_form hown)
 go_ret
 exact ⟨_, rfl, hown, grown_below hgr⟩
set_option maxHeartbeats 1000000 in
set_option maxRecDepth 100000 in
theorem cer_copied_Ins (sa : Option Addr) (n cap : Nat) (news : List Value) (w : World) (hl : news.length = n * 3) (hnil : sa = none → n = 0 ∧ cap = 0) (hnews : ∀ ad, sa = some ad → ∀ j u, news[j]? = some u → w.cell? (ad.add j) = some u) (h1 : ∀ u ∈ news, u.oneCell' = true) (hn : n ≤ 4194304) :
  Calls Tryz.prog 163 #[.slice sa n cap] w fun e w' => CopyR 60 3 n news w w' e := by
 obtain ⟨iI, hI, hI0, hI1, hI2⟩ := info_parts infoInsC
 go_enter Tryz.func163, Tryz.ntmps163
 go_wp2_with (at_builtin; refine wpList_append_sl rfl (.const (.slice none 0 0)) (.tmp 3) 61 rfl w.heap.size 60 iI _ 3 24 Tryz.underlying61 hI hI0 hI1 hI2 rfl (by decide) (.slice none 0 0) 0 [] rfl (World.ownsRow_nil _ _ _ _) sa n cap news rfl hl hnil hnews h1 (by unfold maxLen; omega) (by omega) (Nat.le_refl _) ?_; intro v' w' hown hgr hbk; rw [Nat.zero_add, List.nil_append] at hown; obtain ⟨va, vcap, rfl⟩ := own_form hown)
 go_ret
 exact ⟨_, rfl, hown, grown_below hgr⟩
set_option maxHeartbeats 1000000 in
set_option maxRecDepth 100000 in
theorem cer_copied_Method (sa : Option Addr) (n cap : Nat) (news : List Value) (w : World) (hl : news.length = n * 7) (hnil : sa = none → n = 0 ∧ cap = 0) (hnews : ∀ ad, sa = some ad → ∀ j u, news[j]? = some u → w.cell? (ad.add j) = some u) (h1 : ∀ u ∈ news, u.oneCell' = true) (hn : n ≤ 4194304) :
  Calls Tryz.prog 162 #[.slice sa n cap] w fun e w' => CopyR 63 7 n news w w' e := by
 obtain ⟨iI, hI, hI0, hI1, hI2⟩ := info_parts infoMethC
 go_enter Tryz.func162, Tryz.ntmps162
 go_wp2_with (at_builtin; refine wpList_append_sl rfl (.const (.slice none 0 0)) (.tmp 3) 64 rfl w.heap.size 63 iI _ 7 104 Tryz.underlying64 hI hI0 hI1 hI2 rfl (by decide) (.slice none 0 0) 0 [] rfl (World.ownsRow_nil _ _ _ _) sa n cap news rfl hl hnil hnews h1 (by unfold maxLen; omega) (by omega) (Nat.le_refl _) ?_; intro v' w' hown hgr hbk; rw [Nat.zero_add, List.nil_append] at hown; obtain ⟨va, vcap, rfl⟩ := own_form hown)
 go_ret
 exact ⟨_, rfl, hown, grown_below hgr⟩
end Go.Proofs.YtiiokkllmchohaaGreat
/- The machine's values and frames in memory. -/
namespace Go.Proofs.YtiiokkllmchohaaGreat
open Go.RowKit Go.Shelf
attribute [local go_sem ↓] Go.wp_at_zero Go.wp_at_succ
attribute [local go_sem] frz_drew

structure LVal where
 kind : Int
 num : Int
 obj : Option Nat
def nothV : LVal := ⟨2, 0, none⟩
def numbV (n : Int) : LVal := ⟨0, n, none⟩
def nullV : LVal := ⟨1, 0, none⟩
def objP (A : List Nat) : Option Nat → Value
 | none => .pointer none
 | some k => .pointer (some ⟨A.getD k 0, 0, none⟩)
def encV (A : List Nat) (v : LVal) : List Value := [.int .i64 v.kind, .int .i64 v.num, objP A v.obj]
def encL (A : List Nat) (l : List LVal) : List Value := l.flatMap (encV A)
def okV (A : List Nat) (v : LVal) : Prop := ∀ k, v.obj = some k → k < A.length
theorem encL_len (A : List Nat) : ∀ l : List LVal, (encL A l).length = l.length * 3
 | [] => rfl
 | v :: r => by
  show (encV A v ++ encL A r).length = _
  rw [List.length_append, encL_len A r, List.length_cons]
  show 3 + _ = _
  omega
theorem encL_get (A : List Nat) : ∀ (l : List LVal) (i : Nat) (v : LVal), l[i]? = some v → ∀ j, j < 3 → (encL A l)[i * 3 + j]? = (encV A v)[j]?
 | [], i, v, h, j, hj => by simp at h
 | u :: r, 0, v, h, j, hj => by
  obtain rfl : u = v := by simpa using h
  show (encV A u ++ encL A r)[0 * 3 + j]? = _
  rw [Nat.zero_mul, Nat.zero_add, List.getElem?_append_left (show j < (encV A u).length from hj)]
 | u :: r, i + 1, v, h, j, hj => by
  show (encV A u ++ encL A r)[(i + 1) * 3 + j]? = _
  have l3 : (encV A u).length = 3 := rfl
  rw [List.getElem?_append_right (by rw [l3]; omega), l3, show (i + 1) * 3 + j - 3 = i * 3 + j by omega]
  exact encL_get A r i v (by simpa using h) j hj
theorem encL_app (A : List Nat) (l r : List LVal) : encL A (l ++ r) = encL A l ++ encL A r := by unfold encL; rw [List.flatMap_append]
theorem encL_take (A : List Nat) : ∀ (l : List LVal) (n : Nat), (encL A l).take (n * 3) = encL A (l.take n)
 | [], n => by simp [encL]
 | v :: r, 0 => by simp [encL]
 | v :: r, n + 1 => by
  show (encV A v ++ encL A r).take ((n + 1) * 3) = encV A v ++ encL A (r.take n)
  have l3 : (encV A v).length = 3 := rfl
  rw [List.take_append, l3, List.take_of_length_le (by rw [l3]; omega), show (n + 1) * 3 - 3 = n * 3 by omega, encL_take A r n]
theorem encL_drop (A : List Nat) : ∀ (l : List LVal) (n : Nat), (encL A l).drop (n * 3) = encL A (l.drop n)
 | [], n => by simp [encL]
 | v :: r, 0 => by simp [encL]
 | v :: r, n + 1 => by
  show (encV A v ++ encL A r).drop ((n + 1) * 3) = encL A (r.drop n)
  have l3 : (encV A v).length = 3 := rfl
  rw [List.drop_append, l3, List.drop_of_length_le (by rw [l3]; omega), List.nil_append, show (n + 1) * 3 - 3 = n * 3 by omega, encL_drop A r n]
theorem encV_one (A : List Nat) (v : LVal) : ∀ u ∈ encV A v, u.oneCell' = true := fun u hu => by
 simp only [encV, List.mem_cons, List.not_mem_nil, or_false] at hu
 rcases hu with rfl | rfl | rfl
 ·rfl
 ·rfl
 ·cases v.obj <;> rfl
theorem encL_one (A : List Nat) (l : List LVal) : ∀ u ∈ encL A l, u.oneCell' = true := fun u hu => by
 obtain ⟨v, _, hv⟩ := List.mem_flatMap.1 hu
 exact encV_one A v u hv
theorem objP_more (A C : List Nat) {o : Option Nat} (h : ∀ k, o = some k → k < A.length) : objP (A ++ C) o = objP A o := by
 cases o with
 | none => rfl
 | some k =>
  show Value.pointer (some ⟨(A ++ C).getD k 0, 0, none⟩) = Value.pointer (some ⟨A.getD k 0, 0, none⟩)
  rw [List.getD_eq_getElem?_getD, List.getD_eq_getElem?_getD, List.getElem?_append_left (h k rfl)]
theorem encV_more (A C : List Nat) {v : LVal} (h : okV A v) : encV (A ++ C) v = encV A v := by
 unfold encV
 rw [objP_more A C h]
theorem encL_more (A C : List Nat) : ∀ {l : List LVal}, (∀ v ∈ l, okV A v) → encL (A ++ C) l = encL A l
 | [], _ => rfl
 | v :: r, h => by
  show encV (A ++ C) v ++ encL (A ++ C) r = encV A v ++ encL A r
  rw [encV_more A C (h v (by simp)), encL_more A C (fun u hu => h u (by simp [hu]))]
theorem aggVal : AggOk Tryz.prog 170 3 := ⟨by kernel_rfl, by kernel_rfl⟩
theorem infoVal : (Tryz.prog.info? 170).map (fun i => (i.zero, i.size, i.bytes)) = some (some (.agg #[.int .i64 0, .int .i64 0, .pointer none]), 3, 24) := by kernel_rfl
theorem own_less {w : World} {B : Nat} {e : TypeId} {sz : Nat} {a : Option Addr} {n cap : Nat} {xs : List Value} (h : w.ownsRow B e sz (.slice a n cap) n xs) {m : Nat} (hm : m ≤ n) : w.ownsRow B e sz (.slice a m cap) m (xs.take (m * sz)) := by
 have hms : m * sz ≤ n * sz := Nat.mul_le_mul_right sz hm
 rcases h.2 with ⟨e1, e2⟩ | ⟨g, c2, cur, e1, h2, h3, h4, h5, h6, h7⟩
 ·cases e1
  obtain rfl : m = 0 := by omega
  exact ⟨by rw [List.length_take, h.1]; omega, .inl ⟨rfl, rfl⟩⟩
 ·cases e1
  refine ⟨by rw [List.length_take, h.1]; omega, .inr ⟨g, cap, cur, rfl, h2, h3, by omega, h5, h6, ?_⟩⟩
  rw [← h7, List.take_take, Nat.min_eq_left hms]
theorem own_read {w : World} {B : Nat} {e : TypeId} {sz : Nat} {v : Value} {n : Nat} {xs : List Value} (h : w.ownsRow B e sz v n xs) (hn : 0 < n) : ∃ g cap, v = .slice (some ⟨g, 0, none⟩) n cap ∧ n ≤ cap ∧ v.ownBlock = some g ∧ ∀ j, j < n * sz → w.cell? ⟨g, j, none⟩ = xs[j]? := by
 rcases h.2 with ⟨_, e2⟩ | ⟨g, cap, cur, rfl, h2, h3, h4, h5, h6, h7⟩
 ·omega
 ·refine ⟨g, cap, rfl, h4, rfl, fun j hj => ?_⟩
  rw [← h7, List.getElem?_take, if_pos hj]
  unfold World.cell?
  simp only [h3]
  simp
end Go.Proofs.YtiiokkllmchohaaGreat
/- The machine's values: how they are made; its frames: push, take, pop, top. -/
namespace Go.Proofs.YtiiokkllmchohaaGreat
open Go.RowKit Go.Shelf
attribute [local go_sem ↓] Go.wp_at_zero Go.wp_at_succ
attribute [local go_sem] frz_drew

def ValR (vs : List Value) (w w' : World) (e : Ending) : Prop := e = .returned (.agg vs.toArray) ∧ Below w.heap.size w w'
theorem ma_number (n : Int) (w : World) : Calls Tryz.prog 110 #[.int .i64 n] w fun e w' => ValR [.int .i64 0, .int .i64 n, .pointer none] w w' e := by
 go_enter Tryz.func110, Tryz.ntmps110
 go_wp2_with fail
 refine bodyPost_ret (results_blk rfl aggVal (Blk.new w _ _) rfl rfl) rfl ?_
 exact ⟨rfl, box_below _ _⟩
theorem ma_nothing (w : World) : Calls Tryz.prog 210 #[] w fun e w' => ValR [.int .i64 2, .int .i64 0, .pointer none] w w' e := by
 go_enter Tryz.func210, Tryz.ntmps210
 go_wp2_with fail
 refine bodyPost_ret (results_blk rfl aggVal (Blk.new w _ _) rfl rfl) rfl ?_
 exact ⟨rfl, box_below _ _⟩
theorem ma_null (w : World) : Calls Tryz.prog 211 #[] w fun e w' => ValR [.int .i64 1, .int .i64 0, .pointer none] w w' e := by
 go_enter Tryz.func211, Tryz.ntmps211
 go_wp2_with fail
 refine bodyPost_ret (results_blk rfl aggVal (Blk.new w _ _) rfl rfl) rfl ?_
 exact ⟨rfl, box_below _ _⟩
def firstC (t : Int) : List Value := if t = 0 then [.int .i64 0, .int .i64 0, .pointer none] else [.int .i64 1, .int .i64 0, .pointer none]
theorem ma_first (t : Int) (w : World) : Calls Tryz.prog 168 #[.int .i64 t] w fun e w' => ValR (firstC t) w w' e := by
 have hbel := box_below w (.cells #[.int .i64 0, .int .i64 0, .pointer none] 170)
 have B0 := Blk.new w #[.int .i64 0, .int .i64 0, .pointer none] 170
 by_cases ht : t = 0
 ·have hf : firstC t = [.int .i64 0, .int .i64 0, .pointer none] := if_pos ht
  rw [hf]
  clear hf
  have ht' : (t == 0) = true := by simpa using ht
  clear ht
  go_enter Tryz.func168, Tryz.ntmps168
  go_wp2_with fail
  generalize w.alloc _ = W at *
  refine (ma_number 0 _).mono ?_
  rintro e w1 ⟨rfl, hb⟩
  have B1 := B0.below hb B0.lt
  go_wp2_with (refine wpList_store_blk aggVal B1 0 _ rfl (by simp) (fun v hv => by simp only [List.mem_cons, List.not_mem_nil, or_false] at hv; rcases hv with rfl | rfl | rfl <;> rfl) (.tmp 2) (.tmp 5) rfl rfl rfl rfl ?_; intro w2 hB2 hM2 hs2)
  rw [putAt_all (by rfl)] at hB2
  refine bodyPost_ret (results_blk rfl aggVal hB2 rfl rfl) rfl ?_
  exact ⟨rfl, hbel.trans ((hb.mono hbel.size).trans (hM2.below (Nat.le_trans hbel.size hb.size) (fun k hk e => by omega)))⟩
 ·have hf : firstC t = [.int .i64 1, .int .i64 0, .pointer none] := if_neg ht
  rw [hf]
  clear hf
  have ht' : (t == 0) = false := by simpa using ht
  clear ht
  go_enter Tryz.func168, Tryz.ntmps168
  go_wp2_with fail
  generalize w.alloc _ = W at *
  refine (ma_null _).mono ?_
  rintro e w1 ⟨rfl, hb⟩
  have B1 := B0.below hb B0.lt
  go_wp2_with (refine wpList_store_blk aggVal B1 0 _ rfl (by simp) (fun v hv => by simp only [List.mem_cons, List.not_mem_nil, or_false] at hv; rcases hv with rfl | rfl | rfl <;> rfl) (.tmp 2) (.tmp 6) rfl rfl rfl rfl ?_; intro w2 hB2 hM2 hs2)
  rw [putAt_all (by rfl)] at hB2
  refine bodyPost_ret (results_blk rfl aggVal hB2 rfl rfl) rfl ?_
  exact ⟨rfl, hbel.trans ((hb.mono hbel.size).trans (hM2.below (Nat.le_trans hbel.size hb.size) (fun k hk e => by omega)))⟩
theorem ma_reference (ob : Nat) (c : Int) (w : World) (hc : w.cell? ⟨ob, 0, none⟩ = some (.int .i64 c)) (h0 : 0 ≤ c) (h1 : c ≤ 4194304) :
  Calls Tryz.prog 166 #[.pointer (some ⟨ob, 0, none⟩)] w fun e w' => ValR [.int .i64 (c + 3), .int .i64 0, .pointer (some ⟨ob, 0, none⟩)] w w' e := by
 have hbel := box_below w (.cells #[.int .i64 0, .int .i64 0, .pointer none] 170)
 have B0 := Blk.new w #[.int .i64 0, .int .i64 0, .pointer none] 170
 have hc' := Keeps.of_below hbel _ _ hc
 go_enter Tryz.func166, Tryz.ntmps166
 go_wp2_with fail
 generalize w.alloc _ = W at *
 refine (code_of c (by omega) (by omega) _).mono ?_
 rintro e w1 ⟨rfl, rfl⟩
 go_wp2_with (refine wpList_store_blk aggVal B0 0 _ rfl (by simp) (fun v hv => by simp only [List.mem_cons, List.not_mem_nil, or_false] at hv; rcases hv with rfl | rfl | rfl <;> rfl) (.tmp 2) (.tmp 9) rfl rfl rfl rfl ?_; intro w2 hB2 hM2 hs2)
 rw [putAt_all (by rfl)] at hB2
 refine bodyPost_ret (results_blk rfl aggVal hB2 rfl rfl) rfl ?_
 exact ⟨rfl, hbel.trans (hM2.below hbel.size (fun k hk e => by omega))⟩
structure FrA (w : World) (B : Nat) (A : List Nat) (fb : Nat) (mc : List Value) (pc : Int) (vl : Value) (loc : List LVal) (vs : Value) (stk : List LVal) : Prop where
 blk : Blk w fb 239 (mc ++ [.int .i64 pc, vl, vs])
 l7 : mc.length = 7
 base : B ≤ fb
 lo : w.ownsRow B 170 3 vl loc.length (encL A loc)
 st : w.ownsRow B 170 3 vs stk.length (encL A stk)
 ne : ∀ g, vl.ownBlock = some g → vs.ownBlock ≠ some g
theorem own_ne {w : World} {B : Nat} {e t : TypeId} {sz : Nat} {v : Value} {n : Nat} {xs cs : List Value} (h : w.ownsRow B e sz v n xs) {b : Nat} (hb : Blk w b t cs) (he : e ≠ t) : v.ownBlock ≠ some b := fun hv => by
 obtain ⟨cur, hc⟩ := own_blk h hv
 exact he (hc.uniq hb)
theorem FrA.c7 {w : World} {B : Nat} {A : List Nat} {fb : Nat} {mc : List Value} {pc : Int} {vl : Value} {loc : List LVal} {vs : Value} {stk : List LVal} (h : FrA w B A fb mc pc vl loc vs stk) : w.cell? ⟨fb, 7, none⟩ = some (.int .i64 pc) ∧ w.cell? ⟨fb, 8, none⟩ = some vl ∧ w.cell? ⟨fb, 9, none⟩ = some vs := by
 have l7 := h.l7
 refine ⟨?_, ?_, ?_⟩ <;> (rw [h.blk.cell, List.getElem?_append_right (by omega), l7]; rfl)
def PushR (B : Nat) (A : List Nat) (fb : Nat) (mc : List Value) (pc : Int) (vl : Value) (loc : List LVal) (vs : Value) (stk : List LVal) (v : LVal) (w w' : World) (e : Ending) : Prop :=
 ∃ vs', e = .returned (.tuple #[]) ∧ FrA w' B A fb mc pc vl loc vs' (stk ++ [v]) ∧ Mods (fun k => k = fb ∨ vs.ownBlock = some k) w w' ∧ (vs'.ownBlock = vs.ownBlock ∨ ∃ k, w.heap.size ≤ k ∧ vs'.ownBlock = some k)
end Go.Proofs.YtiiokkllmchohaaGreat
/- The machine's frames: push. -/
namespace Go.Proofs.YtiiokkllmchohaaGreat
open Go.RowKit Go.Shelf
attribute [local go_sem ↓] Go.wp_at_zero Go.wp_at_succ
attribute [local go_sem] frz_drew

theorem tv_ne_fr : 170 ≠ 239 := by decide
set_option maxHeartbeats 1000000 in
set_option maxRecDepth 100000 in
theorem ma_push (B : Nat) (A : List Nat) (fb : Nat) (mc : List Value) (pc : Int) (vl : Value) (loc : List LVal) (vs : Value) (stk : List LVal) (v : LVal) (w : World) (h : FrA w B A fb mc pc vl loc vs stk) (hB : B ≤ w.heap.size) (hn : stk.length ≤ 4194304) :
  Calls Tryz.prog 213 #[.pointer (some ⟨fb, 0, none⟩), .agg (encV A v).toArray] w fun e w' => PushR B A fb mc pc vl loc vs stk v w w' e := by
 obtain ⟨i0, hi0, hz0, hz1, hz2⟩ := info_parts infoVal
 obtain ⟨sa, scap, rfl⟩ := own_form h.st
 have hblk := h.blk
 have hst := h.st
 have hlo := h.lo
 have l7 := h.l7
 have hfb := hblk.lt
 have c9 := h.c7.2.2
 have hone := encV_one A v
 unfold encV at *
 generalize hob : objP A v.obj = ob at *
 have hbel := box_below w (.cells #[.int .i64 v.kind, .int .i64 v.num, ob] 170)
 have B0 := Blk.new w #[.int .i64 v.kind, .int .i64 v.num, ob] 170
 have hm0 := bnone (S := fun k => k = fb ∨ (Value.slice sa stk.length scap).ownBlock = some k) hbel
 have c9' := Keeps.of_below hbel _ _ c9
 go_enter Tryz.func213, Tryz.ntmps213
 go_wp2_with fail
 generalize w.alloc _ = W at *
 have b0 : W.cell? ⟨w.heap.size, 0, none⟩ = some (.int .i64 v.kind) := B0.cell 0
 have b1 : W.cell? ⟨w.heap.size, 1, none⟩ = some (.int .i64 v.num) := B0.cell 1
 have b2 : W.cell? ⟨w.heap.size, 2, none⟩ = some ob := B0.cell 2
 have hmz := (bnone (S := fun _ => False) hbel).drew
 have hst1 := own_mods hst hmz (fun _ _ f => f)
 obtain ⟨v3, w3, happ, hO3, hM3, hv3⟩ := app_ex (P := Tryz.prog) (W := W.drew) 173 173 170 i0 _ 3 24 Tryz.underlying173 hi0 hz0 hz1 hz2 rfl (by decide) B _ _ _ hst1 #[.int .i64 v.kind, .int .i64 v.num, ob] rfl hone W.heap.size rfl (by unfold maxLen; omega) (by omega) (Nat.le_trans hB hbel.size)
 have hal : Below W.heap.size W (W.drew.alloc (.cells #[.int .i64 v.kind, .int .i64 v.num, ob] 170)) := ⟨rfl, rfl, rfl, by simp, fun i hi => Below.heap_alloc W.drew _ i hi⟩
 have k1 := Keeps.of_below hal
 have c9a := k1 _ _ c9'
 have c9b : (W.alloc (.cells #[.int .i64 v.kind, .int .i64 v.num, ob] 170)).cell? ⟨fb, 9, none⟩ = some (.slice sa stk.length scap) := c9a
 have a0 := k1 _ _ b0
 have a1 := k1 _ _ b1
 have a2 := k1 _ _ b2
 obtain ⟨a3, cap3, rfl⟩ := own_form hO3
 have hblk1 := hblk.mods hmz (fun f => f)
 have hfr3 : ¬ (Value.slice sa stk.length scap).ownBlock = some fb := own_ne hst hblk tv_ne_fr
 have hblk3 := hblk1.mods hM3 hfr3
 have c93 : w3.cell? ⟨fb, 9, none⟩ = some (.slice sa stk.length scap) := hM3.cell (w := W.drew) c9' hfr3
 have hrow : ∀ g, (Value.slice sa stk.length scap).ownBlock = some g → g < w.heap.size := fun g hg => (hst.lt g hg).2
 have hws : ¬ (Value.slice sa stk.length scap).ownBlock = some w.heap.size := fun e => by have := hrow _ e; omega
 have d0 : w3.cell? ⟨w.heap.size, 0, none⟩ = some (.int .i64 v.kind) := hM3.cell (w := W.drew) b0 hws
 have d1 : w3.cell? ⟨w.heap.size, 1, none⟩ = some (.int .i64 v.num) := hM3.cell (w := W.drew) b1 hws
 have d2 : w3.cell? ⟨w.heap.size, 2, none⟩ = some ob := hM3.cell (w := W.drew) b2 hws
 have f9 := hblk3.frozen 9
 have hM4 : Mods (fun k => k = fb) w3 (w3.setCell ⟨fb, 9, none⟩ (.slice a3 (stk.length + 1) cap3)) := (Mods.refl (fun k => k = fb) w3).setCell (p := ⟨fb, 9, none⟩) (fun _ => rfl) _
 have hblk4 := hblk3.setCell 9 (.slice a3 (stk.length + 1) cap3)
 have hB9 : (mc ++ [.int .i64 pc, vl, .slice sa stk.length scap]).set 9 (.slice a3 (stk.length + 1) cap3) = mc ++ [.int .i64 pc, vl, .slice a3 (stk.length + 1) cap3] := by
  rw [List.set_append_right _ _ (by omega), l7]; rfl
 rw [hB9] at hblk4
 have hwf : ¬ w.heap.size = fb := by omega
 have e0 : (w3.setCell ⟨fb, 9, none⟩ (.slice a3 (stk.length + 1) cap3)).cell? ⟨w.heap.size, 0, none⟩ = some (.int .i64 v.kind) := hM4.cell d0 hwf
 have e1 : (w3.setCell ⟨fb, 9, none⟩ (.slice a3 (stk.length + 1) cap3)).cell? ⟨w.heap.size, 1, none⟩ = some (.int .i64 v.num) := hM4.cell d1 hwf
 have e2 : (w3.setCell ⟨fb, 9, none⟩ (.slice a3 (stk.length + 1) cap3)).cell? ⟨w.heap.size, 2, none⟩ = some ob := hM4.cell d2 hwf
 have HF : Hid (PushR B A fb mc pc vl loc (.slice sa stk.length scap) stk v w (w3.setCell ⟨fb, 9, none⟩ (.slice a3 (stk.length + 1) cap3)) (.returned (.tuple #[]))) := by
  have hm3 : Mods (fun k => k = fb ∨ (Value.slice sa stk.length scap).ownBlock = some k) w w3 := hm0.drew.trans hM3 (fun _ _ e => .inr e)
  have hsz : w.heap.size ≤ W.heap.size := hbel.size
  have hmm := hm3.trans hM4 (fun _ _ e => .inl e)
  have hfbO : ∀ g, (Value.slice a3 (stk.length + 1) cap3).ownBlock = some g → ¬ g = fb := fun g hg e => own_ne hO3 hblk3 tv_ne_fr (e ▸ hg)
  refine ⟨_, rfl, ⟨hblk4, l7, h.base, own_mods hlo hmm (fun g hg e => ?_), ?_, fun g hg e => ?_⟩, hmm, ?_⟩
  ·rcases e with e | e
   ·exact own_ne hlo hblk tv_ne_fr (e ▸ hg)
   ·exact h.ne g hg e
  ·have := own_mods hO3 hM4 (fun g hg e => hfbO g hg e)
   rw [encL_app, List.length_append]
   have he : encL A [v] = [.int .i64 v.kind, .int .i64 v.num, ob] := by rw [← hob]; rfl
   rw [he]
   exact this
  ·rcases hv3 with e' | ⟨k, hk, e'⟩
   ·rw [e'] at e; exact h.ne g hg e
   ·rw [e'] at e; cases e
    have := (hlo.lt g hg).2
    omega
  ·rcases hv3 with e' | ⟨k, hk, e'⟩
   ·exact .inl e'
   ·exact .inr ⟨k, by omega, e'⟩
 clear hO3 hM3 hv3 hst1 hblk1 hblk3 hblk4 hB9 hlo hst hm0 hmz h hal k1 hM4
 refine wp_region_noPanic ?_
 refine wp_region_held_drew (S := (fun w' => w'.cell? ⟨w.heap.size, 0, none⟩ = some (.int .i64 v.kind) ∧ w'.cell? ⟨w.heap.size, 1, none⟩ = some (.int .i64 v.num) ∧ w'.cell? ⟨w.heap.size, 2, none⟩ = some ob)) (by kernel_rfl) ?_ (fun hHeld => ?_)
 ·exact ⟨b0, b1, b2⟩
 refine take_x (some 4) 0 rfl rfl ?_
 refine take_x (some 5) 1 rfl rfl ?_
 refine take_x (some 6) 2 rfl rfl ?_
 refine take_x (some 7) 3 rfl rfl ?_
 refine take_x (some 9) 5 rfl rfl ?_
 refine wpAnyH_ready (rs := [4, 6]) (by kernel_rfl) (by simp) ?_
 refine AllReadyH.cons rfl (fun K hK => ?_) (AllReadyH.cons rfl (fun K hK => ?_) AllReadyH.nil)
 ·go_simp
  refine hK.out _ _ ⟨b0, b1, b2⟩ (fun hHeld => ?_)
  clear hK K
  try simp only [Act.put, List.setIfInBounds_toArray, List.set_cons_zero, List.set_cons_succ]
  refine wpAnyH_ready (rs := [6]) (by kernel_rfl) (by simp) ?_
  refine AllReadyH.cons rfl (fun K hK => ?_) AllReadyH.nil
  go_simp
  refine hK.out _ _ ⟨a0, a1, a2⟩ (fun hHeld => ?_)
  clear hK K
  try simp only [Act.put, List.setIfInBounds_toArray, List.set_cons_zero, List.set_cons_succ]
  refine wpAnyH_ready (rs := [7]) (by kernel_rfl) (by simp) ?_
  refine AllReadyH.cons rfl (fun K hK => ?_) AllReadyH.nil
  refine wp_append_run (.tmp 8) (.tmp 10) 173 rfl _ _ rfl rfl happ ?_
  go_simp
  refine hK.out _ _ ⟨d0, d1, d2⟩ (fun hHeld => ?_)
  clear hK K
  try simp only [Act.put, List.setIfInBounds_toArray, List.set_cons_zero, List.set_cons_succ]
  refine take_x (some 12) 8 rfl rfl ?_
  refine take_x (some 13) 9 rfl rfl ?_
  refine wpAnyH_ready (rs := [10]) (by kernel_rfl) (by simp) ?_
  refine AllReadyH.cons rfl (fun K hK => ?_) AllReadyH.nil
  go_simp
  refine hK.out _ _ ⟨e0, e1, e2⟩ (fun hHeld => ?_)
  clear hK K
  try simp only [Act.put, List.setIfInBounds_toArray, List.set_cons_zero, List.set_cons_succ]
  refine wpAnyH_done (by kernel_rfl) ?_ _
  refine NoPanic.normal ?_
  go_wp2_with fail
  go_end0
  exact unhide HF
 ·go_simp
  refine hK.out _ _ ⟨a0, a1, a2⟩ (fun hHeld => ?_)
  clear hK K
  try simp only [Act.put, List.setIfInBounds_toArray, List.set_cons_zero, List.set_cons_succ]
  refine wpAnyH_ready (rs := [4]) (by kernel_rfl) (by simp) ?_
  refine AllReadyH.cons rfl (fun K hK => ?_) AllReadyH.nil
  go_simp
  refine hK.out _ _ ⟨a0, a1, a2⟩ (fun hHeld => ?_)
  clear hK K
  try simp only [Act.put, List.setIfInBounds_toArray, List.set_cons_zero, List.set_cons_succ]
  refine wpAnyH_ready (rs := [7]) (by kernel_rfl) (by simp) ?_
  refine AllReadyH.cons rfl (fun K hK => ?_) AllReadyH.nil
  refine wp_append_run (.tmp 8) (.tmp 10) 173 rfl _ _ rfl rfl happ ?_
  go_simp
  refine hK.out _ _ ⟨d0, d1, d2⟩ (fun hHeld => ?_)
  clear hK K
  try simp only [Act.put, List.setIfInBounds_toArray, List.set_cons_zero, List.set_cons_succ]
  refine take_x (some 12) 8 rfl rfl ?_
  refine take_x (some 13) 9 rfl rfl ?_
  refine wpAnyH_ready (rs := [10]) (by kernel_rfl) (by simp) ?_
  refine AllReadyH.cons rfl (fun K hK => ?_) AllReadyH.nil
  go_simp
  refine hK.out _ _ ⟨e0, e1, e2⟩ (fun hHeld => ?_)
  clear hK K
  try simp only [Act.put, List.setIfInBounds_toArray, List.set_cons_zero, List.set_cons_succ]
  refine wpAnyH_done (by kernel_rfl) ?_ _
  refine NoPanic.normal ?_
  go_wp2_with fail
  go_end0
  exact unhide HF
end Go.Proofs.YtiiokkllmchohaaGreat
