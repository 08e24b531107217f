/- What passes makes no Fault; less fuel (pure). -/
import Derived.Test.YtiiokkllmchohaaGreatT33
/- SndC -/
namespace Go.Proofs.YtiiokkllmchohaaGreat
open Go.RowKit Go.Shelf

def Wait (p : List LClass) (g : MFr) (r : Int) : Prop := ∃ c k s, ownM p c k = some g.m ∧ g.pc < g.m.code.length ∧ atS p c g.m g.pc = some s ∧ ∀ v : LVal, belowB p v.kind r = true → FTy p g.loc (g.stk ++ [v]) s
def Waits (p : List LClass) : List MFr → Int → Prop
  | [], _ => True
  | g :: l, r => Wait p g r ∧ Waits p l g.m.ret
def Runs (p : List LClass) (f : MFr) : Prop := ∃ c k s, ownM p c k = some f.m ∧ f.pc < f.m.code.length ∧ atS p c f.m f.pc = some s ∧ FTy p f.loc f.stk s
def Flds (p : List LClass) (objs : List LObj) : Prop := ∀ o ∈ objs, ∀ (j : Nat) (v : LVal), o.flds[j]? = some v → belowB p v.kind (fieldT p o.cls j) = true
structure TInv (p : List LClass) (st : MaSt) : Prop where
  fl : Flds p st.objs
  fr : ∀ fs f, st.frames = fs ++ [f] → Runs p f ∧ Waits p fs.reverse f.m.ret
def PassAll (p : List LClass) : Prop := ∀ c k m, ownM p c k = some m → passB p c m = true
theorem first_ty {p : List LClass} {t : Int} (h : t = 0 ∨ 3 ≤ t) : belowB p (firstV t).kind t = true := by
  unfold firstV
  split
  · rename_i e; subst e; exact below_refl _ _
  · rw [below_iff]
    right; right
    exact ⟨by omega, .inl rfl⟩
theorem obj_kind {objs : List LObj} {v : LVal} {p : List LClass} {u : Int} (h : VOk objs v) (hb : belowB p v.kind u = true) (hu : u = 1 ∨ 3 ≤ u) (hn : v.obj = none) : v.kind = 1 := by
  unfold VOk at h
  rw [hn] at h
  rw [below_iff] at hb
  dsimp only at h
  omega
section
variable {p : List LClass} {fuel : Int} {st : MaSt} {f : MFr} {fs : List MFr}
theorem fields_decl (hF : formI p = 0) {a : Int} {j : Nat} (hj : j < (fieldsOf p a).length) : fieldT p a j = 0 ∨ 3 ≤ fieldT p a j := by
  have hmem : fieldT p a j ∈ fieldsOf p a := by
    unfold fieldT
    rw [Int.toNat_natCast, List.getD_eq_getElem?_getD, List.getElem?_eq_getElem hj]
    exact List.getElem_mem hj
  unfold fieldsOf at hmem
  obtain ⟨l, hl, ht⟩ := List.mem_flatten.1 hmem
  obtain ⟨c, _, rfl⟩ := List.mem_map.1 hl
  unfold ownFields at ht
  cases hx : p[c]? with
  | none => rw [hx] at ht; simp at ht
  | some x =>
    rw [hx] at ht
    have h2 := ((form_all hF).2.1 c x hx).2
    unfold restB at h2
    simp only [Bool.and_eq_true] at h2
    have := List.all_eq_true.1 h2.1.1.1 _ (by simpa using ht)
    unfold declB at this
    simp at this
    omega
theorem TInv.go (hF : formI p = 0) (T : TInv p st) (he : st.frames = fs ++ [f]) {c k : Int} (hown : ownM p c k = some f.m) {objs' : List LObj} (ho : Flds p objs') {pc : Nat} {loc stk : List LVal} {s t : TSt} (hat : atS p c f.m pc = some t) (hpc : pc < f.m.code.length) (hb : belowS p s t = true) (hF' : FTy p loc stk s) (hl : t = s ∨ t.loc.length = 8) (h8 : loc.length ≤ 8) (tl : LVal) (out' : List Int) (n : Nat) :
    TInv p ⟨fs ++ [{ f with pc := pc, loc := loc, stk := stk }], objs', tl, out', n⟩ := by
  have hs := form_sup hF
  refine ⟨ho, fun gs g e => ?_⟩
  dsimp only at e
  obtain ⟨rfl, e2⟩ := List.append_inj' e rfl
  cases e2
  refine ⟨⟨c, k, t, hown, hpc, hat, ?_⟩, (T.fr _ _ he).2⟩
  refine hF'.mono hs hb ?_ h8
  rcases hl with rfl | hl
  · exact hF'.l.1
  · exact hl
theorem begin_runs (hF : formI p = 0) (hP : PassAll p) {cl b : Int} (m1 : (methOf p cl b).isSome = true) (o : Nat) {z : List LVal} (t2 : TyL p z (findM p cl b).args) : Runs p ⟨findM p cl b, 0, thisV cl o :: z ++ List.replicate ((findM p cl b).locals.toNat - (1 + z.length)) nothV, []⟩ := by
  have hs := form_sup hF
  obtain ⟨i', j', n1, n2, n3, n4, n5⟩ := find_own hs m1
  have hcl := desc_in n4
  obtain ⟨k0, k1, M'⟩ := form_own hF n2
  have hb' := bareB_iff.1 (form_find hF m1)
  have hzl := t2.len
  refine ⟨(i' : Int), (j' : Int), ?_⟩
  have hbg : FTy p (thisV cl o :: z ++ List.replicate ((findM p cl b).locals.toNat - (1 + z.length)) nothV) [] (beginS i' (findM p cl b)) := by
    refine ⟨⟨?_, fun j v e => ?_⟩, trivial⟩
    · unfold beginS
      simp only [List.length_cons, List.length_append, List.length_replicate]
      omega
    · unfold beginS
      dsimp only
      cases j with
      | zero =>
        cases e
        rw [List.getD_cons_zero, below_iff]
        right; right
        refine ⟨by omega, .inr ⟨?_, ?_⟩⟩
        · show 3 ≤ cl + 3; omega
        · show descB p (cl + 3 - 3) ((i' : Int) + 3 - 3) = true
          simpa using n4
      | succ j =>
        rw [List.cons_append, List.getElem?_cons_succ] at e
        rw [List.getD_cons_succ]
        by_cases hj : j < z.length
        · rw [List.getElem?_append_left hj] at e
          rw [List.getD_eq_getElem?_getD, List.getElem?_append_left (by omega), ← List.getD_eq_getElem?_getD]
          have := t2.get j ((findM p cl b).args[j]'(by omega)) (List.getElem?_eq_getElem _)
          rw [List.getD_eq_getElem?_getD, e] at this
          rw [List.getD_eq_getElem?_getD, List.getElem?_eq_getElem (by omega)]
          exact this
        · rw [List.getElem?_append_right (by omega)] at e
          have := List.mem_of_getElem? e
          obtain ⟨_, rfl⟩ := List.mem_replicate.1 this
          rw [List.getD_eq_getElem?_getD, List.getElem?_append_right (by omega)]
          have hjj := (List.getElem?_eq_some_iff.1 e).1
          rw [List.length_replicate] at hjj
          rw [List.getElem?_replicate, if_pos (by omega)]
          exact below_top _ _
  have hp0 := hP _ _ _ n2
  obtain ⟨h1, eK⟩ := passK_some hp0 1 M'.c1
  have eS : stepS p (findM p cl b) 0 (some (beginS i' (findM p cl b))) = some h1 := by
    have := eK
    unfold passK at this
    exact this
  cases hfr : frameAtS (findM p cl b) ((0 : Nat) : Int) with
  | none =>
    refine ⟨beginS i' (findM p cl b), n2, M'.c1, ?_, hbg⟩
    show atS p i' (findM p cl b) 0 = _
    unfold atS
    rw [hfr]
    rfl
  | some t =>
    refine ⟨t, n2, M'.c1, ?_, ?_⟩
    · show atS p i' (findM p cl b) 0 = _
      unfold atS
      rw [hfr]
    · have hbl := (stepS_go eS (s := t) (by rw [hfr])).2 _ _ rfl hfr
      refine hbg.mono hs hbl (frameAtS_len M'.fr hfr) ?_
      rw [List.length_append, List.length_cons, List.length_replicate]
      have := M'.ok.loc
      omega
theorem snd_step (hF : formI p = 0) (hz : szProg p ≤ 4194304) (hfu : fuel ≤ 5000) (hP : PassAll p) (I : Inv p fuel st) (T : TInv p st) : (∀ st', stepM p fuel st = .inl st' → TInv p st') ∧ ∀ r, stepM p fuel st = .inr r → r.2 ≠ 5 := by
  have hs := form_sup hF
  cases hgl : st.frames.getLast? with
  | none =>
    have : stepM p fuel st = .inr (st, 1) := by unfold stepM; rw [hgl]
    rw [this]
    exact ⟨fun st' e => (by cases e), fun r e => by cases e; simp⟩
  | some f =>
    obtain ⟨fs, he, hlen, hdl⟩ := getLast_split hgl
    have K := I.fr f (by rw [he]; simp)
    have ht := I.top f hgl
    obtain ⟨⟨c, k, s, hown, hpc, hat, FT⟩, hW⟩ := T.fr fs f he
    obtain ⟨hc0, hc1, M⟩ := form_own hF hown
    have hlm := K.loc
    have hl8 : f.loc.length ≤ 8 := by have := M.ok.loc; omega
    by_cases hst : (st.steps : Int) = fuel
    · have hlk : lookP p fuel st.steps f = 6 := by
        unfold lookP
        rw [if_neg (by omega), if_pos hst]
      have : stepM p fuel st = .inr (st, 6) := by
        unfold stepM
        rw [hgl]
        dsimp only
        rw [if_pos (by rw [hlk]; decide), hlk]
      rw [this]
      exact ⟨fun st' e => (by cases e), fun r e => by cases e; simp⟩
    have hi : insB p f.m (insAt f.m f.pc) = true := by
      refine M.ins _ ?_
      unfold insAt
      rw [List.getElem?_eq_getElem hpc]
      exact List.getElem_mem _
    obtain ⟨s', hdo, hjmp, hfall⟩ := pass_at (hP c k f.m hown) M.fr M.ins hpc hat
    obtain ⟨op, a, b, hI⟩ : ∃ op a b, insAt f.m f.pc = ⟨op, a, b⟩ := ⟨_, _, _, rfl⟩
    rw [hI] at hi hdo hjmp hfall
    dsimp only at hjmp
    have J := ins_ok hi
    have FS := FT.s
    have FL := FT.l
    -- from readiness to the step
    have go : readyB p f.m f.loc f.stk op a b = true → (lookP p fuel st.steps f = 0) ∧ stepM p fuel st = stepI p st fs.length f op a b := fun hr => by
      have hlk : lookP p fuel st.steps f = 0 := by
        unfold lookP
        rw [if_neg (by omega), if_neg hst, hI, if_pos hr]
      exact ⟨hlk, stepM_eq hgl hlk hlen hI⟩
    have S := I.stepOk hF hz hfu
    by_cases hmv : op = 0 ∨ op = 16 ∨ op = 1 ∨ op = 2 ∨ op = 14 ∨ op = 15 ∨ op = 20 ∨ op = 3 ∨ op = 4 ∨ op = 5 ∨ op = 6
    · obtain ⟨hr, hF'⟩ := snd_move hs hdo FT hlm hl8 ht J.loc hmv
      obtain ⟨hlk, e⟩ := go hr
      obtain ⟨t, h1, h2, h3, h4⟩ := hfall (by
        unfold fallsB
        rcases hmv with rfl | rfl | rfl | rfl | rfl | rfl | rfl | rfl | rfl | rfl | rfl <;> rfl)
      have hmo := moveP_ok (objs := st.objs) (op := op) (a := a) K.vl K.vs
      have hne : op ≠ 7 ∧ op ≠ 8 ∧ op ≠ 12 ∧ op ≠ 13 ∧ op ≠ 18 := by omega
      rw [e, stepI_do _ _ _ _ _ _ _ hne]
      have hset : tick (incF (setF st fs.length f (moveP op a f.loc f.stk).1 (moveP op a f.loc f.stk).2) fs.length) = ⟨fs ++ [{ f with pc := f.pc + 1, loc := (moveP op a f.loc f.stk).1, stk := (moveP op a f.loc f.stk).2 }], st.objs, st.told, st.out, st.steps + 1⟩ := by
        rw [setF_last he]
        unfold incF tick
        dsimp only
        rw [show ∀ x : MFr, (fs ++ [x])[fs.length]? = some x by intro x; simp]
        dsimp only
        rw [set_lastF]
      have fin : TInv p (tick (incF (setF st fs.length f (moveP op a f.loc f.stk).1 (moveP op a f.loc f.stk).2) fs.length)) := by
        rw [hset]
        exact T.go hF he hown T.fl h1 h3 h2 hF' h4 (by rw [hmo.2.2]; exact hl8) _ _ _
      by_cases h6 : op = 6
      · subst h6
        unfold doP
        rw [if_pos rfl]
        dsimp only
        by_cases hn : (topV f.stk).num = 0
        · rw [if_pos hn, if_pos hn, if_neg (by decide)]
          exact ⟨fun st' e => (by cases e), fun r e => by cases e; simp⟩
        · rw [if_neg hn, if_neg hn, if_pos rfl]
          exact ⟨fun st' e => by cases e; exact fin, fun r e => by cases e⟩
      · have hdd : doP p st fs.length f op a b = (setF st fs.length f (moveP op a f.loc f.stk).1 (moveP op a f.loc f.stk).2, 0) := by
          unfold doP
          rw [if_neg h6, if_neg (by omega), if_neg (by omega), if_neg (by omega), if_neg (by omega), if_neg (by omega)]
        rw [hdd, if_pos rfl]
        exact ⟨fun st' e => by cases e; exact fin, fun r e => by cases e⟩
    by_cases h7 : op = 7
    · subst h7
      have hr : readyB p f.m f.loc f.stk 7 a b = true := ready_mk0 rfl (by omega) (fun e => by cases e)
      obtain ⟨hlk, e⟩ := go hr
      obtain ⟨t, h1, h2, h3, h4⟩ := hjmp rfl
      have hdo' : some s = some s' := hdo
      cases hdo'
      have e2 : stepI p st fs.length f 7 a b = .inl (tick (goF st fs.length f a.toNat f.stk)) := rfl
      rw [e, e2, goF_last he]
      exact ⟨fun st' e => by cases e; exact T.go hF he hown T.fl h1 h3 h2 FT (.inr h4) hl8 _ _ _, fun r e => by cases e⟩
    by_cases h8 : op = 8
    · subst h8
      obtain ⟨u, e1, e2, hb⟩ := wantS_iff (show wantS p 0 s = some s' from hdo)
      rw [e1] at FS
      obtain ⟨y, x, hy, h3, h4⟩ := FS.snoc
      have hr : readyB p f.m f.loc f.stk 8 a b = true := by
        rw [hy]
        exact ready_mk (show TyL p [x] [0] from ⟨below_trans hs h4 hb, trivial⟩) (by omega) (fun e => by cases e)
      obtain ⟨hlk, e⟩ := go hr
      have hdl : f.stk.dropLast = y := by rw [hy, List.dropLast_concat]
      have hF' : FTy p f.loc f.stk.dropLast s' := ⟨by rw [e2]; exact FL, by rw [hdl]; exact h3⟩
      obtain ⟨t, j1, j2, j3, j4⟩ := hjmp rfl
      obtain ⟨t', g1, g2, g3, g4⟩ := hfall rfl
      have e3 : stepI p st fs.length f 8 a b = .inl (tick (if (topV f.stk).num = 0 then goF st fs.length f a.toNat f.stk.dropLast else goF st fs.length f (f.pc + 1) f.stk.dropLast)) := rfl
      rw [e, e3]
      refine ⟨fun st' e => ?_, fun r e => by cases e⟩
      cases e
      split
      · rw [goF_last he]
        exact T.go hF he hown T.fl j1 j3 j2 hF' (.inr j4) hl8 _ _ _
      · rw [goF_last he]
        exact T.go hF he hown T.fl g1 g3 g2 hF' g4 hl8 _ _ _
    by_cases h18 : op = 18
    · subst h18
      obtain ⟨u, e1, e2, hb⟩ := wantO_iff (show wantO s = some s' from hdo)
      rw [e1] at FS
      obtain ⟨y, x, hy, h3, h4⟩ := FS.snoc
      have hx := K.vs x (by rw [hy]; simp)
      have h5 : belowB p x.kind 3 = true := by
        have hty := hx.ty I.ob
        rw [below_iff] at h4 ⊢
        by_cases hx1 : x.kind = 1
        · exact .inr (.inr ⟨by omega, .inl hx1⟩)
        · have hx3 : 3 ≤ x.kind := by omega
          exact .inr (.inr ⟨by omega, .inr ⟨hx3, desc_zero hs (by omega) (by have := hty.2; omega)⟩⟩)
      have hr : readyB p f.m f.loc f.stk 18 a b = true := by
        rw [hy]
        exact ready_mk (show TyL p [x] [3] from ⟨h5, trivial⟩) (by omega) (fun e => by cases e)
      obtain ⟨hlk, e⟩ := go hr
      have hdl : f.stk.dropLast = y := by rw [hy, List.dropLast_concat]
      have hF' : FTy p f.loc f.stk.dropLast s' := ⟨by rw [e2]; exact FL, by rw [hdl]; exact h3⟩
      obtain ⟨t, j1, j2, j3, j4⟩ := hjmp rfl
      obtain ⟨t', g1, g2, g3, g4⟩ := hfall rfl
      have e3 : stepI p st fs.length f 18 a b = .inl (tick (if (topV f.stk).obj = none then goF st fs.length f a.toNat f.stk.dropLast else goF st fs.length f (f.pc + 1) f.stk.dropLast)) := rfl
      rw [e, e3]
      refine ⟨fun st' e => ?_, fun r e => by cases e⟩
      cases e
      split
      · rw [goF_last he]
        exact T.go hF he hown T.fl j1 j3 j2 hF' (.inr j4) hl8 _ _ _
      · rw [goF_last he]
        exact T.go hF he hown T.fl g1 g3 g2 hF' g4 hl8 _ _ _
    by_cases h13 : op = 13
    · subst h13
      obtain ⟨u, e1, e2, hb⟩ := wantS_iff (show wantS p f.m.ret s = some s' from hdo)
      rw [e1] at FS
      obtain ⟨y, x, hy, h3, h4⟩ := FS.snoc
      have hr : readyB p f.m f.loc f.stk 13 a b = true := by
        rw [hy]
        exact ready_mk (show TyL p [x] [f.m.ret] from ⟨below_trans hs h4 hb, trivial⟩) (by omega) (fun e => by cases e)
      obtain ⟨hlk, e⟩ := go hr
      have htx : topV f.stk = x := by rw [hy, topV_snoc]
      rw [e, stepI_13, goF_last he, htx]
      refine ⟨fun st' e => ?_, fun r e => by cases e⟩
      cases e
      rcases List.eq_nil_or_concat fs with rfl | ⟨gs, g, rfl⟩
      · exact ⟨T.fl, fun gs g e => by
          have : ([] : List MFr) = gs ++ [g] := e
          simp at this⟩
      · rw [List.concat_eq_append] at hW ⊢
        have hE : ∀ (x : MFr) (o : List LObj) (t : LVal) (u : List Int) (s : Nat) (v : LVal), endSt ⟨gs ++ [g] ++ [x], o, t, u, s⟩ v = ⟨gs ++ [{ g with stk := g.stk ++ [v] }], o, v, u, s⟩ := fun x o t u s v => by
          unfold endSt
          dsimp only
          rw [List.dropLast_concat, List.getLast?_concat, List.dropLast_concat]
        rw [hE]
        rw [List.reverse_append] at hW
        obtain ⟨⟨c', k', s2, q1, q2, q3, q4⟩, hW2⟩ := hW
        refine ⟨T.fl, fun gs' g' e => ?_⟩
        have e' : gs ++ [{ g with stk := g.stk ++ [x] }] = gs' ++ [g'] := e
        obtain ⟨rfl, e2⟩ := List.append_inj' e' rfl
        cases e2
        exact ⟨⟨c', k', s2, q1, q2, q3, q4 x (below_trans hs h4 hb)⟩, hW2⟩
    by_cases h12 : op = 12
    · subst h12
      have hcls := J.cls (by omega)
      have hcall := J.call rfl
      obtain ⟨s1, g1, hd2⟩ := bind_iff (show (wantsS p (findM p a b).args.reverse s).bind (fun s => (wantS p (a + 3) s).bind (leaveS f.m (findM p a b).ret)) = some s' from hdo)
      obtain ⟨s2, g2, g3⟩ := bind_iff hd2
      obtain ⟨y, z, hyz, t1, t2, t3, t4⟩ := wantsS_iff hs _ g1 FS
      obtain ⟨u, e1, e2, hb⟩ := wantS_iff g2
      obtain ⟨_, e3, e4⟩ := leaveS_iff g3
      rw [e1] at t1
      obtain ⟨w, x, rfl, t5, t6⟩ := t1.snoc
      have hzl := t2.len
      have hr : readyB p f.m f.loc f.stk 12 a b = true := by
        rw [hyz, List.append_assoc]
        exact ready_mk (show TyL p (x :: z) ((a + 3) :: (findM p a b).args) from ⟨below_trans hs t6 hb, t2⟩) (by omega) (fun e => by cases e)
      obtain ⟨hlk, e⟩ := go hr
      have hsub : f.stk.length - (findM p a b).args.length = (w ++ [x]).length := by rw [hyz, List.length_append, hzl]; omega
      have htake : f.stk.take (f.stk.length - (findM p a b).args.length) = w ++ [x] := by rw [hsub, hyz, List.take_left]
      have hdrop : f.stk.drop (f.stk.length - (findM p a b).args.length) = z := by rw [hsub, hyz, List.drop_left]
      rw [e, stepI_12]
      unfold callP
      dsimp only
      rw [htake, hdrop, topV_snoc, List.dropLast_concat]
      cases hxo : x.obj with
      | none =>
        dsimp only
        exact ⟨fun st' e => (by cases e), fun r e => by cases e; simp⟩
      | some o =>
        dsimp only
        split
        · exact ⟨fun st' e => (by cases e), fun r e => by cases e; simp⟩
        · rw [goF_last he]
          refine ⟨fun st' e => ?_, fun r e => by cases e⟩
          cases e
          have hxv := K.vs x (by rw [hyz]; simp)
          obtain ⟨ob, q1, q2⟩ := hxv.some hxo
          have hoc := I.ob.cls ob (List.mem_of_getElem? q1)
          have hbx := below_trans hs t6 hb
          rw [q2] at hbx
          have hd := below_cls hbx hs hoc.1 hoc.2 hcls.1
          obtain ⟨m1, m2, m3⟩ := desc_find hF hd hcall
          rw [objAt_of q1]
          obtain ⟨t', r1, r2, r3, r4⟩ := hfall rfl
          refine ⟨T.fl, fun gs g e => ?_⟩
          have e' : (fs ++ [{ f with pc := f.pc + 1, stk := w }]) ++ [⟨findM p ob.cls b, 0, thisV ob.cls o :: z ++ List.replicate ((findM p ob.cls b).locals.toNat - (1 + z.length)) nothV, []⟩] = gs ++ [g] := e
          obtain ⟨rfl, e2'⟩ := List.append_inj' e' rfl
          cases e2'
          refine ⟨?_, ?_⟩
          · exact begin_runs hF hP m1 o (by rw [m2]; exact t2)
          · rw [List.reverse_append]
            refine ⟨⟨c, k, t', hown, r3, r1, fun v hv => ?_⟩, hW⟩
            dsimp only
            rw [m3] at hv
            have hFv : FTy p f.loc (w ++ [v]) s' := ⟨by rw [e4, e2, t3]; exact FL, by rw [e3]; exact t5.push hv⟩
            refine hFv.mono hs r2 ?_ hl8
            rcases r4 with rfl | r4
            · exact hFv.l.1
            · exact r4
    -- the others
    have hne : op ≠ 7 ∧ op ≠ 8 ∧ op ≠ 12 ∧ op ≠ 13 ∧ op ≠ 18 := by omega
    have o0 := J.op0
    have o1 := J.op1
    have hinc : ∀ (x : MFr) (ob : List LObj) (tl : LVal) (u : List Int) (n : Nat), tick (incF ⟨fs ++ [x], ob, tl, u, n⟩ fs.length) = ⟨fs ++ [{ x with pc := x.pc + 1 }], ob, tl, u, n + 1⟩ := fun x ob tl u n => by
      unfold incF tick
      dsimp only
      rw [show (fs ++ [x])[fs.length]? = some x by simp]
      dsimp only
      rw [set_lastF]
    obtain ⟨t', r1, r2, r3, r4⟩ := hfall (by
      unfold fallsB
      simp only [Bool.and_eq_true, Bool.not_eq_true', beq_eq_false_iff_ne]
      omega)
    by_cases h9 : op = 9
    · subst h9
      obtain ⟨n1, e3, e4⟩ := leaveS_iff (show leaveS f.m (a + 3) s = some s' from hdo)
      have hlenS := FS.len
      have hr : readyB p f.m f.loc f.stk 9 a b = true := ready_mk0 rfl (by omega) (fun _ => by omega)
      obtain ⟨hlk, e⟩ := go hr
      rw [e, stepI_do _ _ _ _ _ _ _ hne]
      have hdd : doP p st fs.length f 9 a b = (if st.objs.length = 100 then st else newSt p st fs.length f a, if st.objs.length = 100 then 8 else 0) := rfl
      rw [hdd]
      dsimp only
      by_cases h0 : st.objs.length = 100
      · rw [if_pos h0, if_pos h0, if_neg (by decide)]
        exact ⟨fun st' e => (by cases e), fun r e => by cases e; simp⟩
      · rw [if_neg h0, if_neg h0, if_pos rfl]
        refine ⟨fun st' e => ?_, fun r e => by cases e⟩
        cases e
        unfold newSt
        rw [setF_last he]
        rw [hinc]
        refine T.go hF he hown ?_ r1 r3 r2 (s := s') ⟨by rw [e4]; exact FL, by rw [e3]; exact FS.push (below_refl _ _)⟩ r4 hl8 _ _ _
        intro o ho j v hv
        rcases List.mem_append.1 ho with ho | ho
        · exact T.fl o ho j v hv
        · obtain rfl := List.mem_singleton.1 ho
          dsimp only at hv ⊢
          rw [List.getElem?_map] at hv
          have hj : j < (fieldsOf p a).length := by
            apply Nat.lt_of_not_le
            intro g
            rw [List.getElem?_eq_none g] at hv
            cases hv
          rw [List.getElem?_eq_getElem hj] at hv
          cases hv
          have e5 : (fieldsOf p a)[j] = fieldT p a j := by
            unfold fieldT
            rw [Int.toNat_natCast, List.getD_eq_getElem?_getD, List.getElem?_eq_getElem hj]; rfl
          rw [e5]
          exact first_ty (fields_decl hF hj)
    by_cases h10 : op = 10
    · subst h10
      have hcls := J.cls (by omega)
      have hfld := J.fld (by omega)
      obtain ⟨s1, g1, g2⟩ := bind_iff (show (wantS p (a + 3) s).bind (leaveS f.m (fieldT p a b)) = some s' from hdo)
      obtain ⟨u, e1, e2, hb⟩ := wantS_iff g1
      obtain ⟨_, e3, e4⟩ := leaveS_iff g2
      rw [e1] at FS
      obtain ⟨y, x, hy, h3, h4⟩ := FS.snoc
      have hr : readyB p f.m f.loc f.stk 10 a b = true := by
        rw [hy]
        exact ready_mk (show TyL p [x] [a + 3] from ⟨below_trans hs h4 hb, trivial⟩) (by omega) (fun e => by cases e)
      obtain ⟨hlk, e⟩ := go hr
      rw [e, stepI_do _ _ _ _ _ _ _ hne]
      have hdd : doP p st fs.length f 10 a b = getP st fs.length f b := rfl
      rw [hdd]
      unfold getP
      rw [show topV f.stk = x by rw [hy, topV_snoc], show f.stk.dropLast = y by rw [hy, List.dropLast_concat]]
      have hxv := K.vs x (by rw [hy]; simp)
      cases hxo : x.obj with
      | none =>
        dsimp only
        rw [if_neg (by decide)]
        exact ⟨fun st' e => (by cases e), fun r e => by cases e; simp⟩
      | some o =>
        dsimp only
        rw [if_pos rfl]
        refine ⟨fun st' e => ?_, fun r e => by cases e⟩
        cases e
        rw [setF_last he, hinc]
        obtain ⟨ob, q1, q2⟩ := hxv.some hxo
        have hoc := I.ob.cls ob (List.mem_of_getElem? q1)
        have hbx := below_trans hs h4 hb
        rw [q2] at hbx
        have hd := below_cls hbx hs hoc.1 hoc.2 hcls.1
        have hbl : b.toNat < (fieldsOf p a).length := by omega
        have hfT := desc_fieldT hs hd hbl
        have hlt : b.toNat < ob.flds.length := by
          rw [I.ob.fl ob (List.mem_of_getElem? q1)]
          have := (desc_fields hs hd).length_le
          omega
        refine T.go hF he hown T.fl r1 r3 r2 (s := s') ⟨by rw [e4, e2]; exact FL, ?_⟩ r4 hl8 _ _ _
        dsimp only
        rw [e3]
        refine h3.push ?_
        rw [objAt_of q1, List.getD_eq_getElem?_getD, List.getElem?_eq_getElem hlt, ← hfT]
        have := T.fl ob (List.mem_of_getElem? q1) b.toNat _ (List.getElem?_eq_getElem hlt)
        rw [show ((b.toNat : Nat) : Int) = b by omega] at this
        exact this
    by_cases h11 : op = 11
    · subst h11
      have hcls := J.cls (by omega)
      have hfld := J.fld (by omega)
      obtain ⟨s1, g1, g2⟩ := bind_iff (show (wantS p (fieldT p a b) s).bind (wantS p (a + 3)) = some s' from hdo)
      obtain ⟨u, e1, e2, hb⟩ := wantS_iff g1
      obtain ⟨u2, e3, e4, hb2⟩ := wantS_iff g2
      rw [e1, e3] at FS
      obtain ⟨y, x, hy, h3, h4⟩ := FS.snoc
      obtain ⟨z, w, rfl, h5, h6⟩ := h3.snoc
      have hr : readyB p f.m f.loc f.stk 11 a b = true := by
        rw [hy, List.append_assoc]
        exact ready_mk (show TyL p [w, x] [a + 3, fieldT p a b] from ⟨below_trans hs h6 hb2, below_trans hs h4 hb, trivial⟩) (by omega) (fun e => by cases e)
      obtain ⟨hlk, e⟩ := go hr
      rw [e, stepI_do _ _ _ _ _ _ _ hne]
      have hdd : doP p st fs.length f 11 a b = putP2 st fs.length f b := rfl
      rw [hdd]
      unfold putP2
      rw [show topV f.stk = x by rw [hy, topV_snoc], show f.stk.dropLast = z ++ [w] by rw [hy, List.dropLast_concat], topV_snoc, List.dropLast_concat]
      have hxv := K.vs w (by rw [hy]; simp)
      cases hxo : w.obj with
      | none =>
        dsimp only
        rw [if_neg (by decide)]
        exact ⟨fun st' e => (by cases e), fun r e => by cases e; simp⟩
      | some o =>
        dsimp only
        rw [if_pos rfl]
        refine ⟨fun st' e => ?_, fun r e => by cases e⟩
        cases e
        rw [setF_last he, hinc]
        obtain ⟨ob, q1, q2⟩ := hxv.some hxo
        have hoc := I.ob.cls ob (List.mem_of_getElem? q1)
        have hbx := below_trans hs h6 hb2
        rw [q2] at hbx
        have hd := below_cls hbx hs hoc.1 hoc.2 hcls.1
        have hbl : b.toNat < (fieldsOf p a).length := by omega
        have hfT := desc_fieldT hs hd hbl
        refine T.go hF he hown ?_ r1 r3 r2 (s := s') ⟨by rw [e4, e2]; exact FL, h5⟩ r4 hl8 _ _ _
        intro q hq j v hv
        rcases List.mem_or_eq_of_mem_set hq with hq | rfl
        · exact T.fl q hq j v hv
        · dsimp only at hv ⊢
          rw [objAt_of q1] at hv ⊢
          by_cases hj : j = b.toNat
          · subst hj
            have hjl := (List.getElem?_eq_some_iff.1 hv).1
            rw [List.length_set] at hjl
            rw [List.getElem?_set_self hjl] at hv
            cases hv
            rw [show ((b.toNat : Nat) : Int) = b by omega, hfT]
            exact below_trans hs h4 hb
          · rw [List.getElem?_set_ne (fun h => hj h.symm)] at hv
            exact T.fl ob (List.mem_of_getElem? q1) j v hv
    by_cases h17 : op = 17
    · subst h17
      have hcls := J.cls (by omega)
      obtain ⟨s1, g1, g2⟩ := bind_iff (show (wantO s).bind (leaveS f.m (a + 3)) = some s' from hdo)
      obtain ⟨u, e1, e2, hb⟩ := wantO_iff g1
      obtain ⟨_, e3, e4⟩ := leaveS_iff g2
      rw [e1] at FS
      obtain ⟨y, x, hy, h3, h4⟩ := FS.snoc
      have hx := K.vs x (by rw [hy]; simp)
      have h5 : belowB p x.kind 3 = true := by
        have hty := hx.ty I.ob
        rw [below_iff] at h4 ⊢
        by_cases hx1 : x.kind = 1
        · exact .inr (.inr ⟨by omega, .inl hx1⟩)
        · have hx3 : 3 ≤ x.kind := by omega
          exact .inr (.inr ⟨by omega, .inr ⟨hx3, desc_zero hs (by omega) (by have := hty.2; omega)⟩⟩)
      have hr : readyB p f.m f.loc f.stk 17 a b = true := by
        rw [hy]
        exact ready_mk (show TyL p [x] [3] from ⟨h5, trivial⟩) (by omega) (fun e => by cases e)
      obtain ⟨hlk, e⟩ := go hr
      rw [e, stepI_do _ _ _ _ _ _ _ hne]
      have hdd : doP p st fs.length f 17 a b = (st, castP p st f a) := rfl
      rw [hdd]
      dsimp only
      split
      · rename_i h0
        refine ⟨fun st' e => ?_, fun r e => by cases e⟩
        cases e
        have hst : st = ⟨fs ++ [f], st.objs, st.told, st.out, st.steps⟩ := by
          cases st
          dsimp only at he ⊢
          rw [he]
        rw [show incF st fs.length = incF ⟨fs ++ [f], st.objs, st.told, st.out, st.steps⟩ fs.length by rw [← hst], hinc]
        refine T.go hF he hown T.fl r1 r3 r2 (s := s') ⟨by rw [e4, e2]; exact FL, ?_⟩ r4 hl8 _ _ _
        rw [e3, hy]
        refine h3.push ?_
        unfold castP at h0
        rw [show topV f.stk = x by rw [hy, topV_snoc]] at h0
        cases hxo : x.obj with
        | none =>
          have := obj_kind hx h4 hb hxo
          rw [below_iff]
          right; right
          exact ⟨by omega, .inl this⟩
        | some o =>
          rw [hxo] at h0
          dsimp only at h0
          obtain ⟨ob, q1, q2⟩ := hx.some hxo
          rw [objAt_of q1] at h0
          split at h0
          · rename_i hd
            have hoc := I.ob.cls ob (List.mem_of_getElem? q1)
            rw [below_iff, q2]
            right; right
            exact ⟨by omega, .inr ⟨by omega, by simpa using hd⟩⟩
          · cases h0
      · rename_i h0
        refine ⟨fun st' e => (by cases e), fun r e => ?_⟩
        cases e
        dsimp only
        unfold castP
        split
        · decide
        · split <;> decide
    have h19 : op = 19 := by omega
    subst h19
    obtain ⟨u, e1, e2, hb⟩ := wantS_iff (show wantS p 0 s = some s' from hdo)
    rw [e1] at FS
    obtain ⟨y, x, hy, h3, h4⟩ := FS.snoc
    have hr : readyB p f.m f.loc f.stk 19 a b = true := by
      rw [hy]
      exact ready_mk (show TyL p [x] [0] from ⟨below_trans hs h4 hb, trivial⟩) (by omega) (fun e => by cases e)
    obtain ⟨hlk, e⟩ := go hr
    rw [e, stepI_do _ _ _ _ _ _ _ hne]
    have hdd : doP p st fs.length f 19 a b = (prnP st fs.length f, 0) := rfl
    rw [hdd, if_pos rfl]
    refine ⟨fun st' e => ?_, fun r e => by cases e⟩
    cases e
    unfold prnP
    rw [setF_last he, hinc]
    refine T.go hF he hown T.fl r1 r3 r2 (s := s') ⟨by rw [e2]; exact FL, ?_⟩ r4 hl8 _ _ _
    rw [show f.stk.dropLast = y by rw [hy, List.dropLast_concat]]
    exact h3
theorem snd_run (hF : formI p = 0) (hz : szProg p ≤ 4194304) (hfu : fuel ≤ 5000) (hP : PassAll p) : ∀ (n : Nat) (st : MaSt) (R : MaSt × Int), Inv p fuel st → TInv p st → runM p fuel n st = some R → R.2 ≠ 5
  | 0, _, _, _, _, h => by cases h
  | n + 1, st, R, I, T, h => by
    have hS := snd_step hF hz hfu hP I T
    unfold runM at h
    cases e : stepM p fuel st with
    | inr r =>
      rw [e] at h
      cases h
      exact hS.2 _ e
    | inl st' =>
      rw [e] at h
      exact snd_run hF hz hfu hP n st' R (I.step hF hz hfu e) (hS.1 _ e) h
theorem TInv.start (hF : formI p = 0) (hP : PassAll p) {c slot : Int} {args : List Int} (hm : (methOf p c slot).isSome = true) (hn : (findM p c slot).args.length = args.length) (hi : ∀ t ∈ (findM p c slot).args, t = 0) : TInv p (startM p c slot args) := by
  refine ⟨fun o ho j v hv => ?_, fun gs g e => ?_⟩
  · obtain rfl := List.mem_singleton.1 ho
    dsimp only at hv ⊢
    rw [List.getElem?_map] at hv
    have hj : j < (fieldsOf p c).length := by
      apply Nat.lt_of_not_le
      intro g
      rw [List.getElem?_eq_none g] at hv
      cases hv
    rw [List.getElem?_eq_getElem hj] at hv
    cases hv
    have e5 : (fieldsOf p c)[j] = fieldT p c j := by
      unfold fieldT
      rw [Int.toNat_natCast, List.getD_eq_getElem?_getD, List.getElem?_eq_getElem hj]; rfl
    rw [e5]
    exact first_ty (fields_decl hF hj)
  · have key : ∀ (l : List Int) (u : List Int), u.length = l.length → (∀ t ∈ u, t = 0) → TyL p (l.map numbV) u := by
      intro l
      induction l with
      | nil => intro u h _; match u, h with | [], _ => exact trivial
      | cons x r ih =>
        intro u h h0
        match u, h with
        | t :: u, h => exact ⟨by rw [h0 t (by simp)]; exact below_refl _ _, ih u (by simpa using h) (fun t ht => h0 t (by simp [ht]))⟩
    have e' : [] ++ [⟨findM p c slot, 0, thisV c 0 :: args.map numbV ++ List.replicate ((findM p c slot).locals.toNat - (1 + (args.map numbV).length)) nothV, []⟩] = gs ++ [g] := e
    obtain ⟨rfl, e2⟩ := List.append_inj' e' rfl
    cases e2
    exact ⟨begin_runs hF hP hm 0 (key args _ hn hi), trivial⟩
theorem step_kind {r : MaSt × Int} (h : stepM p fuel st = .inr r) : (1 ≤ r.2 ∧ r.2 ≤ 8) ∧ r.1.steps = st.steps ∧ r.1.out = st.out ∧ (r.2 = 6 → (r.1.steps : Int) = fuel) := by
  cases hgl : st.frames.getLast? with
  | none =>
    unfold stepM at h
    rw [hgl] at h
    cases h
    exact ⟨by omega, rfl, rfl, fun e => by cases e⟩
  | some f =>
    by_cases hlk : lookP p fuel st.steps f = 0
    · obtain ⟨fs, he, hlen, hdl⟩ := getLast_split hgl
      obtain ⟨op, a, b, hI⟩ : ∃ op a b, insAt f.m f.pc = ⟨op, a, b⟩ := ⟨_, _, _, rfl⟩
      rw [stepM_eq hgl hlk hlen hI] at h
      unfold stepI at h
      by_cases h7 : op = 7
      · rw [if_pos h7] at h; cases h
      rw [if_neg h7] at h
      by_cases h8 : op = 8
      · rw [if_pos h8] at h; cases h
      rw [if_neg h8] at h
      by_cases h18 : op = 18
      · rw [if_pos h18] at h; cases h
      rw [if_neg h18] at h
      by_cases h12 : op = 12
      · rw [if_pos h12] at h
        unfold callP at h
        dsimp only at h
        split at h
        · cases h
          exact ⟨by simp, rfl, rfl, fun e => by simp at e⟩
        split at h
        · cases h
          exact ⟨by simp, rfl, rfl, fun e => by simp at e⟩
        · cases h
      rw [if_neg h12] at h
      by_cases h13 : op = 13
      · rw [if_pos h13] at h; cases h
      rw [if_neg h13] at h
      split at h
      · cases h
      · rename_i h0
        cases h
        unfold doP at h0 ⊢
        by_cases h6 : op = 6
        · rw [if_pos h6] at h0 ⊢
          dsimp only at h0 ⊢
          by_cases hn : (topV f.stk).num = 0
          · rw [if_pos hn, if_pos hn]
            exact ⟨by omega, rfl, rfl, fun e => by cases e⟩
          · rw [if_neg hn] at h0
            exact absurd rfl h0
        rw [if_neg h6] at h0 ⊢
        by_cases h9 : op = 9
        · rw [if_pos h9] at h0 ⊢
          dsimp only at h0 ⊢
          by_cases hn : st.objs.length = 100
          · rw [if_pos hn, if_pos hn]
            exact ⟨by omega, rfl, rfl, fun e => by cases e⟩
          · rw [if_neg hn] at h0
            exact absurd rfl h0
        rw [if_neg h9] at h0 ⊢
        by_cases h10 : op = 10
        · rw [if_pos h10] at h0 ⊢
          unfold getP at h0 ⊢
          split
          · exact ⟨by simp, rfl, rfl, fun e => by simp at e⟩
          · rename_i k hk
            rw [hk] at h0
            exact absurd rfl h0
        rw [if_neg h10] at h0 ⊢
        by_cases h11 : op = 11
        · rw [if_pos h11] at h0 ⊢
          unfold putP2 at h0 ⊢
          split
          · exact ⟨by simp, rfl, rfl, fun e => by simp at e⟩
          · rename_i k hk
            rw [hk] at h0
            exact absurd rfl h0
        rw [if_neg h11] at h0 ⊢
        by_cases h17 : op = 17
        · rw [if_pos h17] at h0 ⊢
          dsimp only at h0 ⊢
          have hc : castP p st f a = 0 ∨ castP p st f a = 4 := by
            unfold castP
            split
            · exact .inl rfl
            · split
              · exact .inl rfl
              · exact .inr rfl
          exact ⟨by omega, rfl, rfl, fun e => by omega⟩
        rw [if_neg h17] at h0 ⊢
        by_cases h19 : op = 19
        · rw [if_pos h19] at h0
          exact absurd rfl h0
        · rw [if_neg h19] at h0
          exact absurd rfl h0
    · unfold stepM at h
      rw [hgl] at h
      dsimp only at h
      rw [if_pos hlk] at h
      cases h
      dsimp only
      have hl : lookP p fuel st.steps f = 5 ∨ (lookP p fuel st.steps f = 6 ∧ (st.steps : Int) = fuel) := by
        unfold lookP at hlk ⊢
        split
        · exact .inl rfl
        split
        · rename_i e; exact .inr ⟨rfl, e⟩
        split
        · rename_i h1 h2 h3
          rw [if_neg h1, if_neg h2, if_pos h3] at hlk
          exact absurd rfl hlk
        · exact .inl rfl
      exact ⟨by omega, rfl, rfl, fun e => by omega⟩
theorem run_same : ∀ (n k : Nat) (st : MaSt) (R S : MaSt × Int), runM p fuel n st = some R → runM p fuel k st = some S → R = S
  | 0, _, _, _, _, h, _ => by cases h
  | _, 0, _, _, _, _, h => by cases h
  | n + 1, k + 1, st, R, S, h, h' => by
    unfold runM at h h'
    cases e : stepM p fuel st with
    | inr r => rw [e] at h h'; cases h; cases h'; rfl
    | inl st' => rw [e] at h h'; exact run_same n k st' R S h h'
theorem Inv.last (hF : formI p = 0) (hz : szProg p ≤ 4194304) (hfu : fuel ≤ 5000) : ∀ (n : Nat) (st : MaSt) (R : MaSt × Int), Inv p fuel st → runM p fuel n st = some R → (R.1.steps : Int) ≤ fuel
  | 0, _, _, _, h => by cases h
  | n + 1, st, R, I, h => by
    unfold runM at h
    cases e : stepM p fuel st with
    | inr r =>
      rw [e] at h
      cases h
      rw [(step_kind e).2.1]
      exact I.stp
    | inl st' =>
      rw [e] at h
      exact Inv.last hF hz hfu n st' R (I.step hF hz hfu e) h
end
end Go.Proofs.YtiiokkllmchohaaGreat
/- Sums, one behind the other: the program that reckons them, its pass, its run (pure). -/
namespace Go.Proofs.YtiiokkllmchohaaGreat
open Go.RowKit Go.Shelf

def pickI (x n : Int) : Int := (if x < 0 then -(x + 1) else x) % n
def numOf (x : Int) : Int := if x < 0 then -(pickI x 1099511627776 / 4) else pickI x 1099511627776 / 4
def opOf (x : Int) : Int := 3 + pickI x 4
def pairs (l : List Int) : List LIns := l.flatMap fun x => [⟨0, numOf x, 0⟩, ⟨opOf x, 0, 0⟩]
theorem pickI_in (x : Int) {n : Int} (h : 0 < n) : 0 ≤ pickI x n ∧ pickI x n < n := ⟨Int.emod_nonneg _ (by omega), Int.emod_lt_of_pos _ h⟩
section
variable {p : List LClass} {m : LMeth} {c : Int}
theorem step_plain (hf : m.frames = []) {k : Nat} {i : LIns} (hi : insAt m k = i) (hj : jumpsB i = false) (hfl : fallsB i = true) (hk : k + 1 < m.code.length) {s s' : TSt} (hd : doS p m i s = some s') : stepS p m k (some s) = some (some s') := by
  have h1 : frameAtS m k = none := by unfold frameAtS; rw [hf]; rfl
  have hon : onwardL i k = [((k : Int) + 1, false)] := by unfold onwardL; rw [hj, hfl]; rfl
  have hend : endB m k = false := by
    unfold endB
    rw [hi, hon]
    simp only [List.any_cons, List.any_nil, Bool.or_false, beq_eq_false_iff_ne]
    omega
  unfold stepS
  rw [h1]
  dsimp only
  unfold goS nextS
  rw [hi, hd, Option.bind_some, hend, if_neg (by simp), Option.bind_some, hon, hfl]
  rfl
theorem step_ret (hf : m.frames = []) {k : Nat} (hi : insAt m k = ⟨13, 0, 0⟩) {s s' : TSt} (hd : doS p m ⟨13, 0, 0⟩ s = some s') : stepS p m k (some s) = some none := by
  have h1 : frameAtS m k = none := by unfold frameAtS; rw [hf]; rfl
  have hon : onwardL ⟨13, 0, 0⟩ k = [] := rfl
  have hend : endB m k = false := by
    unfold endB
    rw [hi, hon]; rfl
  unfold stepS
  rw [h1]
  dsimp only
  unfold goS nextS
  rw [hi, hd, Option.bind_some, hend, if_neg (by simp), Option.bind_some, hon]
  rfl
variable {fuel : Int}
end
end Go.Proofs.YtiiokkllmchohaaGreat
