/- The least state above two (pure side). -/
import Derived.WalkMore
import Derived.Laws.Tables
import Derived.Test.YtiiokkllmchohaaGreatT19
import Derived.Test.YtiiokkllmchohaaGreatT22
import Derived.Test.YtiiokkllmchohaaGreatT26
namespace Go.Proofs.YtiiokkllmchohaaGreat
open Go.RowKit
def setK (s : TSt) (i : Nat) (t : Int) : TSt := { s with stk := s.stk.set i t }
def joinK (p : List LClass) (s t : TSt) : Nat → TSt
 | 0 => s
 | k + 1 => setL (joinK p s t k) k (joinB p (s.loc.getD k 0) (t.loc.getD k 0))
def joinT (p : List LClass) (s t : TSt) : Nat → TSt
 | 0 => joinK p s t 8
 | k + 1 => setK (joinT p s t k) k (joinB p (s.stk.getD k 0) (t.stk.getD k 0))
def joinS (p : List LClass) (s t : TSt) : TSt := joinT p s t s.stk.length
theorem joinK_stk (p : List LClass) (s t : TSt) : ∀ k, (joinK p s t k).stk = s.stk
 | 0 => rfl
 | k + 1 => joinK_stk p s t k
theorem joinK_len (p : List LClass) (s t : TSt) : ∀ k, (joinK p s t k).loc.length = s.loc.length
 | 0 => rfl
 | k + 1 => by
  show ((joinK p s t k).loc.set k _).length = _
  rw [List.length_set, joinK_len p s t k]
theorem joinT_len (p : List LClass) (s t : TSt) : ∀ k, (joinT p s t k).stk.length = s.stk.length
 | 0 => by
  show (joinK p s t 8).stk.length = _
  rw [joinK_stk]
 | k + 1 => by
  show ((joinT p s t k).stk.set k _).length = _
  rw [List.length_set, joinT_len p s t k]
end Go.Proofs.YtiiokkllmchohaaGreat
namespace Go.Proofs.YtiiokkllmchohaaGreat
open Go.RowKit Go.Shelf
attribute [local go_sem ↓] Go.wp_at_zero Go.wp_at_succ
attribute [local go_sem] frz_drew
end Go.Proofs.YtiiokkllmchohaaGreat
namespace Go.Proofs.YtiiokkllmchohaaGreat
open Go.RowKit
def zeroS : TSt := ⟨List.replicate 8 0, []⟩
structure SvSt where
 st : List TSt
 re : List Bool
 ra : List Bool
def sv0 : SvSt := ⟨List.replicate 40 zeroS, List.replicate 40 false, List.replicate 40 false⟩
def putP (s : SvSt) (i : Nat) (g : TSt) : SvSt := ⟨s.st.set i g, s.re.set i true, s.ra.set i true⟩
def reachP (p : List LClass) (i : Nat) (g : TSt) (s : SvSt) : Option SvSt :=
 if s.re.getD i false then
  if belowS p g (s.st.getD i zeroS) then some s
  else if (s.st.getD i zeroS).stk.length = g.stk.length then some (putP s i (joinS p (s.st.getD i zeroS) g)) else none
 else some (putP s i g)
def reachAll (p : List LClass) (n : TSt) : List (Int × Bool) → SvSt → Option SvSt
 | [], s => some s
 | y :: r, s => (reachP p y.1.toNat n s).bind (reachAll p n r)
def goOnP (p : List LClass) (m : LMeth) (i : Nat) (s : SvSt) : Option SvSt := (nextS p m i (s.st.getD i zeroS)).bind fun n => reachAll p n (onwardL (insAt m i) i) s
def askP (p : List LClass) (m : LMeth) (i : Nat) (s : SvSt × Bool) : Option (SvSt × Bool) :=
 if s.1.ra.getD i false then (goOnP p m i { s.1 with ra := s.1.ra.set i false }).map fun s' => (s', true) else some s
def roundP (p : List LClass) (m : LMeth) (s : SvSt) : Nat → Option (SvSt × Bool)
 | 0 => some (s, false)
 | k + 1 => (roundP p m s k).bind (askP p m k)
def solveN (p : List LClass) (m : LMeth) : Nat → SvSt → Option (Option SvSt)
 | 0, _ => none
 | n + 1, s => match roundP p m s m.code.length with
  | none => some none
  | some (s', true) => solveN p m n s'
  | some (s', false) => some (some s')

end Go.Proofs.YtiiokkllmchohaaGreat
namespace Go.Proofs.YtiiokkllmchohaaGreat
open Go.RowKit Go.Shelf
attribute [local go_sem ↓] Go.wp_at_zero Go.wp_at_succ
attribute [local go_sem] frz_drew
theorem wp_store_blk {P : Program} {ty : TypeId} {n : Nat} (h : AggOk P ty n) {w : World} {g : Nat} {t : TypeId} {cur : List Value} (hB : Blk w g t cur) (off : Nat) (vs : List Value) (hl : vs.length = n) (hf : off + n ≤ cur.length) (h1 : ∀ v ∈ vs, v.oneCell' = true)
  {o : Oper} {a : Act} {K : Act → World → Prop} {Q : Exit → Act → World → Prop} (x y : Operand) (ho : o.op = .store ty x y) (hx : a.eval x = .pointer (some ⟨g, off, none⟩)) (hy : a.eval y = .agg vs.toArray)
  (hK : ∀ w', Blk w' g t (putAt cur off vs) → Mods (fun k => k = g) w w' → w'.heap.size = w.heap.size → K (a.put o.dst undef) w') : o.wp P a w K Q := by
 unfold Oper.wp execOp
 simp only [ho, hx, hy, Instr.storeAt, Instr.sureAddr, Sem.run_bind, Sem.run_pure, Result.andThen_ok, run_store_blk h hB off vs hl hf h1]
 obtain ⟨h1, h2, h3⟩ := store_blk hB (putAt cur off vs)
 exact hK _ h1 h2 h3
end Go.Proofs.YtiiokkllmchohaaGreat
namespace Go.Proofs.YtiiokkllmchohaaGreat
open Go.RowKit
theorem jump_in {p : List LClass} {m : LMeth} {i : LIns} (h : insB p m i = true) (hj : jumpsB i = true) : 0 ≤ i.a ∧ i.a < (m.code.length : Int) := by
 unfold jumpsB at hj
 have ho : i.op = 7 ∨ i.op = 8 ∨ i.op = 18 := by simpa [or_assoc] using hj
 unfold insB at h
 rw [if_neg (by rcases ho with e | e | e <;> rw [e] <;> decide), if_neg (by rcases ho with e | e | e <;> rw [e] <;> decide), if_pos ho] at h
 have := (Bool.and_eq_true_iff.1 h).1
 unfold placeB at this
 simpa using this
theorem onward_in {p : List LClass} {m : LMeth} {pc : Nat} (hpc : pc < m.code.length) (hi : ∀ i ∈ m.code, insB p m i = true) {s n : TSt} (hn : nextS p m pc s = some n) : ∀ y ∈ onwardL (insAt m pc) pc, 0 ≤ y.1 ∧ y.1 < (m.code.length : Int) := by
 have he : endB m pc = false := by
  unfold nextS at hn
  cases hd : doS p m (insAt m pc) s with
  | none => rw [hd] at hn; cases hn
  | some x =>
   rw [hd] at hn
   cases he : endB m pc with
   | false => rfl
   | true => simp [he] at hn
 intro y hy
 have hne : y.1 ≠ (m.code.length : Int) := fun e => by
  have : endB m pc = true := by
   unfold endB
   exact List.any_eq_true.2 ⟨y, hy, by simpa using e⟩
  rw [he] at this; cases this
 have hX : insB p m (insAt m pc) = true := by
  unfold insAt
  rw [List.getElem?_eq_getElem hpc]
  exact hi _ (List.getElem_mem hpc)
 unfold onwardL at hy
 rcases List.mem_append.1 hy with h | h
 ·split at h
  ·rename_i hj
   obtain rfl := List.mem_singleton.1 h
   exact jump_in hX hj
  ·cases h
 ·split at h
  ·obtain rfl := List.mem_singleton.1 h
   dsimp only at hne ⊢
   omega
  ·cases h
end Go.Proofs.YtiiokkllmchohaaGreat
namespace Go.Proofs.YtiiokkllmchohaaGreat
open Go.RowKit Go.Shelf
attribute [local go_sem ↓] Go.wp_at_zero Go.wp_at_succ
attribute [local go_sem] frz_drew
attribute [local go_sem] Oper.semAt_some
end Go.Proofs.YtiiokkllmchohaaGreat
namespace Go.Proofs.YtiiokkllmchohaaGreat
open Go.RowKit Go.Shelf
attribute [local go_sem ↓] Go.wp_at_zero Go.wp_at_succ
attribute [local go_sem] frz_drew
def frmL (m : LMeth) (s : SvSt) : Nat → List LFrame
 | 0 => []
 | k + 1 => frmL m s k ++ (if s.re.getD k false then [⟨(k : Int), (s.st.getD k zeroS).loc.take m.locals.toNat, (s.st.getD k zeroS).stk⟩] else [])
theorem infoFr3 : (Tryz.prog.info? 42).map (fun i => (i.zero, i.size, i.bytes)) = some (some (.agg #[.int .i64 0, .slice none 0 0, .slice none 0 0]), 3, 56) := by kernel_rfl
theorem wp_append_run {P : Program} {w w' : World} {o : Oper} {a : Act} {K : Act → World → Prop} {Q : Exit → Act → World → Prop} (s x : Operand) (t : TypeId)
  (ho : o.op = .call { callee := .builtin .append, args := #[s, x], argTypes := #[t, t] }) (v u : Value) (hs : a.eval s = v) (hx : a.eval x = u) {v' : Value}
  (hr : (Builtin.append_ #[t, t] o.type #[v, u]).run P w = .ok v' w') (h : K (a.put o.dst v') w') : o.wp P a w K Q := by
 unfold Oper.wp execOp
 simp only [ho, resolve, invoke, builtin, Sem.run_bind, Sem.run_pure, Result.andThen_ok, List.map_toArray, List.map_cons, List.map_nil, hs, hx, hr]
 exact h
structure LVal where
 kind : Int
 num : Int
 obj : Option Nat
theorem own_read {w : World} {B : Nat} {e : TypeId} {sz : Nat} {v : Value} {n : Nat} {xs : List Value} (h : w.ownsRow B e sz v n xs) (hn : 0 < n) : ∃ g cap, v = .slice (some ⟨g, 0, none⟩) n cap ∧ n ≤ cap ∧ v.ownBlock = some g ∧ ∀ j, j < n * sz → w.cell? ⟨g, j, none⟩ = xs[j]? := by
 rcases h.2 with ⟨_, e2⟩ | ⟨g, cap, cur, rfl, h2, h3, h4, h5, h6, h7⟩
 ·omega
 ·refine ⟨g, cap, rfl, h4, rfl, fun j hj => ?_⟩
  rw [← h7, List.getElem?_take, if_pos hj]
  unfold World.cell?
  simp only [h3]
  simp
section
variable {w : World} {B : Nat} {A : List Nat} {fb : Nat} {mc : List Value} {pc : Int} {vl : Value} {loc : List LVal} {vs : Value} {stk : List LVal}
end
section
variable {w w' : World} {B : Nat} {A : List Nat} {fb : Nat} {mc : List Value} {pc : Int} {vl : Value} {loc : List LVal} {vs : Value} {stk : List LVal}
end
section
variable (B : Nat) (A : List Nat) (fb : Nat) (mc : List Value) (pc : Int) (vl : Value) (loc : List LVal) (vs : Value) (stk : List LVal) (a b : Int) (w : World)
end
theorem fld_num (k n : Int) (o : Value) (w : World) : (Instr.field 170 (.agg #[.int .i64 k, .int .i64 n, o]) 1).run Tryz.prog w = .ok (.int .i64 n) w := by kernel_rfl
theorem fld_obj (k n : Int) (o : Value) (w : World) : (Instr.field 170 (.agg #[.int .i64 k, .int .i64 n, o]) 2).run Tryz.prog w = .ok o w := by kernel_rfl
attribute [local go_sem] fld_num fld_obj
section
variable (B : Nat) (A : List Nat) (fb : Nat) (mc : List Value) (pc : Int) (vl : Value) (loc : List LVal) (vs : Value) (stk : List LVal) (a b : Int) (w : World)
end
end Go.Proofs.YtiiokkllmchohaaGreat
namespace Go.Proofs.YtiiokkllmchohaaGreat
open Go.RowKit Go.Shelf
structure MFr where
 m : LMeth
 pc : Nat
 loc : List LVal
 stk : List LVal
structure LObj where
 cls : Int
 flds : List LVal
structure MaSt where
 frames : List MFr
 objs : List LObj
 told : LVal
 out : List Int
 steps : Nat
structure FrX where
 fb : Nat
 mc : List Value
 vl : Value
 vs : Value
section
variable {w0 w w' : World} {ρ ρ' : Nat → Nat × Nat} {A : List Nat} {S : Nat → Prop}
end
section
variable {w0 w w' : World} {ρ : Nat → Nat × Nat} {mb : Nat} {vp : Value} {fuel : Int} {ask : Bool} {st : MaSt} {A : List Nat} {X : List FrX} {Y : List Value} {vr vpr : Value}
end
end Go.Proofs.YtiiokkllmchohaaGreat
namespace Go.Proofs.YtiiokkllmchohaaGreat
open Go.RowKit Go.Shelf
attribute [local go_sem ↓] Go.wp_at_zero Go.wp_at_succ
attribute [local go_sem] frz_drew
end Go.Proofs.YtiiokkllmchohaaGreat
namespace Go.Proofs.YtiiokkllmchohaaGreat
open Go.RowKit Go.Shelf
section
variable {w0 w w' : World} {ρ : Nat → Nat × Nat} {mb : Nat} {vp : Value} {fuel : Int} {ask : Bool} {st : MaSt} {A : List Nat} {X : List FrX} {Y : List Value} {vr vpr : Value}
end
end Go.Proofs.YtiiokkllmchohaaGreat
namespace Go.Proofs.YtiiokkllmchohaaGreat
open Go.RowKit Go.Shelf
attribute [local go_sem ↓] Go.wp_at_zero Go.wp_at_succ
attribute [local go_sem] frz_drew
section
variable {w0 w w' : World} {ρ : Nat → Nat × Nat} {mb : Nat} {vp : Value} {fuel : Int} {ask : Bool} {st : MaSt} {A : List Nat} {X : List FrX} {Y : List Value} {vr vpr : Value}
end
section
variable (p : List LClass) (vp : Value) (w0 w : World) (mb fb : Nat) (a b : Int)
end
theorem fld_args (s r l k : Int) (x y z : Value) (w : World) : (Instr.field 63 (.agg #[.int .i64 s, x, .int .i64 r, .int .i64 l, .int .i64 k, y, z]) 1).run Tryz.prog w = .ok x w := by kernel_rfl
attribute [local go_sem] fld_args
section
variable (p : List LClass) (vp : Value) (w0 w : World) (mb fb : Nat) (a b : Int)
end
structure InsOk (p : List LClass) (m : LMeth) (op a b : Int) : Prop where
 op0 : 0 ≤ op
 op1 : op ≤ 20
 cls : (op = 9 ∨ op = 17 ∨ op = 10 ∨ op = 11 ∨ op = 12) → 0 ≤ a ∧ a < (p.length : Int)
 loc : (op = 1 ∨ op = 2) → 0 ≤ a ∧ a < m.locals
 fld : (op = 10 ∨ op = 11) → 0 ≤ b ∧ b < ((fieldsOf p a).length : Int)
 call : op = 12 → (methOf p a b).isSome = true
 jmp : (op = 7 ∨ op = 8 ∨ op = 18) → 0 ≤ a ∧ a < (m.code.length : Int)
theorem ins_ok {p : List LClass} {m : LMeth} {op a b : Int} (hi : insB p m ⟨op, a, b⟩ = true) : InsOk p m op a b := by
 have hop : 0 ≤ op ∧ op ≤ 20 := by
  unfold insB at hi
  dsimp only at hi
  repeat' split at hi
  all_goals first | omega | (simp only [Bool.and_eq_true, placeB_iff] at hi; omega)
 refine ⟨hop.1, hop.2, fun ho => ?_, fun ho => ?_, fun ho => ?_, fun ho => ?_, fun ho => ?_⟩
 ·unfold insB at hi
  dsimp only at hi
  rcases ho with rfl | rfl | rfl | rfl | rfl <;> simp [placeB_iff] at hi <;> exact hi.1
 ·unfold insB at hi
  dsimp only at hi
  rcases ho with rfl | rfl <;> simp [placeB_iff] at hi <;> exact hi.1
 ·unfold insB at hi
  dsimp only at hi
  rcases ho with rfl | rfl <;> simp [placeB_iff] at hi <;> exact hi.2
 ·subst ho
  unfold insB at hi
  dsimp only at hi
  simp [placeB_iff] at hi
  exact hi.2
 ·unfold insB at hi
  dsimp only at hi
  rcases ho with rfl | rfl | rfl <;> simp [placeB_iff] at hi <;> exact hi.1
end Go.Proofs.YtiiokkllmchohaaGreat
namespace Go.Proofs.YtiiokkllmchohaaGreat
open Go.RowKit Go.Shelf
attribute [local go_sem ↓] Go.wp_at_zero Go.wp_at_succ
attribute [local go_sem] frz_drew
attribute [local go_sem] fld_num fld_obj
section
variable (p : List LClass) (vp : Value) (w0 w : World) (ρ : Nat → Nat × Nat) (mb : Nat) (fuel : Int) (ask : Bool) (st : MaSt) (A : List Nat) (X : List FrX) (Y : List Value) (vr vpr : Value) (i : Nat) (f : MFr) (x : FrX) (op a b : Int)
end
section
variable {w0 w w' : World} {ρ : Nat → Nat × Nat} {mb : Nat} {vp : Value} {fuel : Int} {ask : Bool} {st : MaSt} {A : List Nat} {X : List FrX} {Y : List Value} {vr vpr : Value} {i : Nat} {f : MFr} {x : FrX}
end
section
variable (p : List LClass) (vp : Value) (w0 w : World) (ρ : Nat → Nat × Nat) (mb : Nat) (fuel : Int) (ask : Bool) (st : MaSt) (A : List Nat) (X : List FrX) (Y : List Value) (vr vpr : Value) (i : Nat) (f : MFr) (x : FrX) (a b : Int)
end
section
variable {w0 w w' : World} {ρ : Nat → Nat × Nat} {mb : Nat} {vp : Value} {fuel : Int} {ask : Bool} {st : MaSt} {A : List Nat} {X : List FrX} {Y : List Value} {vr vpr : Value} {i : Nat} {f : MFr} {x : FrX}
end
section
variable (p : List LClass) (vp : Value) (w0 w : World) (ρ : Nat → Nat × Nat) (mb : Nat) (fuel : Int) (ask : Bool) (st : MaSt) (A : List Nat) (X : List FrX) (Y : List Value) (vr vpr : Value) (i : Nat) (f : MFr) (x : FrX) (a b : Int)
end
section
variable (p : List LClass) (vp : Value) (w0 w : World) (ρ : Nat → Nat × Nat) (mb : Nat) (fuel : Int) (ask : Bool) (st : MaSt) (A : List Nat) (X : List FrX) (Y : List Value) (vr vpr : Value) (i : Nat) (f : MFr) (x : FrX) (a b : Int)
end
section
variable {w0 w w' : World} {ρ : Nat → Nat × Nat} {mb : Nat} {vp : Value} {fuel : Int} {ask : Bool} {st : MaSt} {A : List Nat} {X : List FrX} {Y : List Value} {vr vpr : Value}
end
section
variable (p : List LClass) (vp : Value) (w0 w : World) (ρ : Nat → Nat × Nat) (mb : Nat) (fuel : Int) (ask : Bool) (st : MaSt) (A : List Nat) (X : List FrX) (Y : List Value) (vr vpr : Value) (i : Nat) (f : MFr) (x : FrX) (a b : Int)
end
end Go.Proofs.YtiiokkllmchohaaGreat
namespace Go.Proofs.YtiiokkllmchohaaGreat
open Go.RowKit Go.Shelf
section
variable {p : List LClass} {fuel : Int} {st : MaSt} {f : MFr}
end
end Go.Proofs.YtiiokkllmchohaaGreat
namespace Go.Proofs.YtiiokkllmchohaaGreat
open Go.RowKit Go.Shelf
attribute [local go_sem ↓] Go.wp_at_zero Go.wp_at_succ
attribute [local go_sem] frz_drew
end Go.Proofs.YtiiokkllmchohaaGreat
namespace Go.Proofs.YtiiokkllmchohaaGreat
open Go.RowKit Go.Shelf
attribute [local go_sem ↓] Go.wp_at_zero Go.wp_at_succ
attribute [local go_sem] frz_drew
attribute [local go_sem] fld_num fld_obj fld_args
section
variable {w0 w w' : World} {ρ : Nat → Nat × Nat} {mb : Nat} {vp : Value} {fuel : Int} {ask : Bool} {st : MaSt} {A : List Nat} {X : List FrX} {Y : List Value} {vr vpr : Value} {i : Nat} {f : MFr} {x : FrX}
end
theorem fld_ret (s r l k : Int) (x y z : Value) (w : World) : (Instr.field 63 (.agg #[.int .i64 s, x, .int .i64 r, .int .i64 l, .int .i64 k, y, z]) 2).run Tryz.prog w = .ok (.int .i64 r) w := by kernel_rfl
attribute [local go_sem] fld_ret
end Go.Proofs.YtiiokkllmchohaaGreat
namespace Go.Proofs.YtiiokkllmchohaaGreat
open Go.RowKit Go.Shelf
theorem getLast_split {α : Type} {l : List α} {f : α} (h : l.getLast? = some f) : ∃ fs, l = fs ++ [f] ∧ l.length - 1 = fs.length ∧ l.dropLast = fs := by
 rcases List.eq_nil_or_concat l with rfl | ⟨fs, g, rfl⟩
 ·cases h
 ·rw [List.concat_eq_append, List.getLast?_concat] at h
  cases h
  refine ⟨fs, by simp, by simp, by simp⟩
section
variable {p : List LClass} {fuel : Int} {st : MaSt} {f : MFr} {fs : List MFr}
end
theorem below_refl (p : List LClass) (t : Int) : belowB p t t = true := by unfold belowB; simp
theorem below_top (p : List LClass) (t : Int) : belowB p t 2 = true := by unfold belowB; simp
theorem below_iff {p : List LClass} {t o : Int} : belowB p t o = true ↔ t = o ∨ o = 2 ∨ (3 ≤ o ∧ (t = 1 ∨ (3 ≤ t ∧ descB p (t - 3) (o - 3) = true))) := by
 unfold belowB
 simp only [Bool.or_eq_true, Bool.and_eq_true, beq_iff_eq, decide_eq_true_eq, or_assoc]
theorem below_trans {p : List LClass} (hs : SupOk p p.length) {a b c : Int} (h1 : belowB p a b = true) (h2 : belowB p b c = true) : belowB p a c = true := by
 rw [below_iff] at h1 h2 ⊢
 rcases h1 with rfl | rfl | ⟨h1, h3⟩
 ·exact h2
 ·rcases h2 with rfl | rfl | ⟨h4, h5⟩
  ·exact .inr (.inl rfl)
  ·exact .inr (.inl rfl)
  ·omega
 ·rcases h2 with rfl | rfl | ⟨h4, h5⟩
  ·exact .inr (.inr ⟨h1, h3⟩)
  ·exact .inr (.inl rfl)
  ·refine .inr (.inr ⟨h4, ?_⟩)
   rcases h3 with rfl | ⟨h3, h6⟩
   ·exact .inl rfl
   ·rcases h5 with h5 | ⟨h5, h7⟩
    ·omega
    ·exact .inr ⟨h3, desc_trans hs h6 h7⟩
theorem takeS_iff {s : TSt} {t : Int} {s' : TSt} (h : takeS s = some (t, s')) : s.stk = s'.stk ++ [t] ∧ s'.loc = s.loc := by
 unfold takeS at h
 cases e : s.stk.getLast? with
 | none => rw [e] at h; cases h
 | some y =>
  rw [e] at h
  cases h
  obtain ⟨fs, h1, _, h2⟩ := getLast_split e
  refine ⟨?_, rfl⟩
  dsimp only
  rw [h2]; exact h1
theorem wantS_iff {p : List LClass} {s s' : TSt} {t : Int} (h : wantS p t s = some s') : ∃ u, s.stk = s'.stk ++ [u] ∧ s'.loc = s.loc ∧ belowB p u t = true := by
 unfold wantS at h
 cases e : takeS s with
 | none => rw [e] at h; cases h
 | some x =>
  rw [e, Option.bind_some] at h
  split at h
  ·rename_i hb
   cases h
   obtain ⟨h1, h2⟩ := takeS_iff (t := x.1) (s' := x.2) e
   exact ⟨x.1, h1, h2, hb⟩
  ·cases h
theorem wantO_iff {s s' : TSt} (h : wantO s = some s') : ∃ u, s.stk = s'.stk ++ [u] ∧ s'.loc = s.loc ∧ (u = 1 ∨ 3 ≤ u) := by
 unfold wantO at h
 cases e : takeS s with
 | none => rw [e] at h; cases h
 | some x =>
  rw [e, Option.bind_some] at h
  split at h
  ·rename_i hb
   cases h
   obtain ⟨h1, h2⟩ := takeS_iff (t := x.1) (s' := x.2) e
   refine ⟨x.1, h1, h2, ?_⟩
   unfold mayObj at hb
   simpa using hb
  ·cases h
theorem leaveS_iff {m : LMeth} {t : Int} {s s' : TSt} (h : leaveS m t s = some s') : (s.stk.length : Int) ≠ m.stack ∧ s'.stk = s.stk ++ [t] ∧ s'.loc = s.loc := by
 unfold leaveS at h
 split at h
 ·cases h
 ·rename_i hn
  cases h
  exact ⟨hn, rfl, rfl⟩
theorem knownS_iff {t u : Int} (h : knownS t = some u) : u = t ∧ t ≠ 2 := by
 unfold knownS at h
 split at h
 ·cases h
 ·rename_i hn
  cases h
  exact ⟨rfl, hn⟩
theorem bind_iff {α β : Type} {o : Option α} {f : α → Option β} {b : β} (h : o.bind f = some b) : ∃ a, o = some a ∧ f a = some b := by
 cases o with
 | none => cases h
 | some a => exact ⟨a, rfl, h⟩
section
variable {p : List LClass} {m : LMeth} {loc stk : List LVal} {s s' : TSt} {a b : Int}
end
section
variable {p : List LClass} {fuel : Int} {st : MaSt} {f : MFr} {fs : List MFr}
end
theorem up_cases (p : List LClass) (b : Int) : ∀ (l : List Nat), (upB p b l = 2 ∧ ∀ c ∈ l, belowB p b ((c : Int) + 3) = false) ∨ ∃ (pre : List Nat) (c : Nat) (post : List Nat), l = pre ++ c :: post ∧ upB p b l = (c : Int) + 3 ∧ belowB p b ((c : Int) + 3) = true ∧ ∀ d ∈ pre, belowB p b ((d : Int) + 3) = false
 | [] => .inl ⟨rfl, fun c h => by cases h⟩
 | c :: l => by
  cases h : belowB p b ((c : Int) + 3) with
  | true => exact .inr ⟨[], c, l, rfl, upB_hit h, h, fun d hd => by cases hd⟩
  | false =>
   rcases up_cases p b l with ⟨h1, h2⟩ | ⟨pre, d, post, rfl, h2, h3, h4⟩
   ·exact .inl ⟨by rw [upB_next h]; exact h1, fun e he => by
     rcases List.mem_cons.1 he with rfl | he
     ·exact h
     ·exact h2 e he⟩
   ·exact .inr ⟨c :: pre, d, post, rfl, by rw [upB_next h]; exact h2, h3, fun e he => by
     rcases List.mem_cons.1 he with rfl | he
     ·exact h
     ·exact h4 e he⟩
theorem desc_mem {p : List LClass} {c : Int} {d : Nat} : descB p c d = true ↔ d ∈ chainOf p c := by
 unfold descB
 rw [List.any_eq_true]
 constructor
 ·rintro ⟨x, hx, e⟩
  simp only [beq_iff_eq] at e
  obtain rfl : x = d := by omega
  exact hx
 ·intro h
  exact ⟨d, h, by simp⟩
theorem chain_order {p : List LClass} (hs : SupOk p p.length) : ∀ (n : Nat) (pre : List Nat) (c : Nat) (post : List Nat), chainOf p (n : Int) = pre ++ c :: post → ∀ d ∈ c :: post, descB p (c : Int) (d : Int) = true := by
 intro n
 induction n using Nat.strongRecOn with
 | ind n ih =>
  intro pre c post h d hd
  cases hx : p[n]? with
  | none =>
   have : chainOf p (n : Int) = [] := by
    unfold chainOf chain
    rw [if_neg (by omega), Int.toNat_natCast, hx]
   rw [this] at h
   simp at h
  | some x =>
   have hn := (List.getElem?_eq_some_iff.1 hx).1
   have hc := chainOf_cons p hs hn hx
   cases pre with
   | nil =>
    rw [List.nil_append] at h
    have : c = n := by rw [hc] at h; cases h; rfl
    subst this
    rw [desc_mem, h]
    exact hd
   | cons y pre =>
    rw [hc, List.cons_append] at h
    injection h with h1 h2
    have hb := supB_le (hs n x hn hx)
    rcases Int.lt_or_le x.sup 0 with g | g
    ·rw [chainOf_neg p g] at h2
     simp at h2
    ·obtain ⟨k, hk⟩ := Int.eq_ofNat_of_zero_le g
     rw [hk] at h2 hb
     exact ih k (by omega) pre c post h2 d hd
theorem join_ub1 {p : List LClass} (a b : Int) : belowB p a (joinB p a b) = true := by
 unfold joinB
 split
 ·rename_i h; exact h
 ·split
  ·rename_i h3
   rcases up_cases p b (chainOf p (a - 3)) with ⟨h1, _⟩ | ⟨pre, c, post, h1, h2, h4, _⟩
   ·rw [h1]; exact below_top _ _
   ·rw [h2, below_iff]
    right; right
    refine ⟨by omega, .inr ⟨h3, ?_⟩⟩
    rw [show (c : Int) + 3 - 3 = c by omega, desc_mem, h1]
    simp
  ·exact below_top _ _
theorem join_ub2 {p : List LClass} (a b : Int) : belowB p b (joinB p a b) = true := by
 unfold joinB
 split
 ·exact below_refl _ _
 ·split
  ·rcases up_cases p b (chainOf p (a - 3)) with ⟨h1, _⟩ | ⟨pre, c, post, h1, h2, h4, _⟩
   ·rw [h1]; exact below_top _ _
   ·rw [h2]; exact h4
  ·exact below_top _ _
theorem join_lub {p : List LClass} (hs : SupOk p p.length) {a b u : Int} (ha : belowB p a u = true) (hb : belowB p b u = true) (hA : 3 ≤ a → a - 3 < (p.length : Int)) : belowB p (joinB p a b) u = true := by
 unfold joinB
 split
 ·exact hb
 ·rename_i hab
  split
  ·rename_i h3
   obtain ⟨n, hn⟩ := Int.eq_ofNat_of_zero_le (show 0 ≤ a - 3 by omega)
   rw [hn]
   rw [below_iff] at ha
   by_cases hu2 : u = 2
   ·rw [hu2]; exact below_top _ _
   -- u is a class at or above a
   have hu3 : 3 ≤ u ∧ descB p (n : Int) (u - 3) = true := by
    rcases ha with rfl | h | ⟨h1, h2⟩
    ·exact ⟨h3, by rw [hn]; exact desc_refl hs (by omega) (by have := hA h3; omega)⟩
    ·exact absurd h hu2
    ·refine ⟨h1, ?_⟩
     rcases h2 with h2 | ⟨_, h2⟩
     ·omega
     ·rw [hn] at h2; exact h2
   obtain ⟨k, hk⟩ := Int.eq_ofNat_of_zero_le (show 0 ≤ u - 3 by omega)
   rw [hk] at hu3
   have hmem := desc_mem.1 hu3.2
   have huk : u = (k : Int) + 3 := by omega
   rcases up_cases p b (chainOf p (n : Int)) with ⟨_, h2⟩ | ⟨pre, c, post, h1, h2, h4, h5⟩
   ·have := h2 k hmem
    rw [huk] at hb
    rw [hb] at this
    cases this
   ·rw [h2, below_iff]
    right; right
    refine ⟨hu3.1, .inr ⟨by omega, ?_⟩⟩
    rw [show (c : Int) + 3 - 3 = c by omega, hk]
    have hkin : k ∈ c :: post := by
     rw [h1] at hmem
     rcases List.mem_append.1 hmem with h | h
     ·have := h5 k h
      rw [huk] at hb
      rw [hb] at this
      cases this
     ·exact h
    exact chain_order hs n pre c post h1 k hkin
  ·rename_i h3
   rw [below_iff] at ha hb
   rw [below_iff] at hab
   have : u = 2 := by
    apply Classical.byContradiction
    intro hu
    rcases ha with rfl | h | ⟨h1, h2⟩
    ·rcases hb with rfl | h | ⟨h1, _⟩
     ·exact hab (.inl rfl)
     ·exact hu h
     ·omega
    ·exact hu h
    ·rcases h2 with rfl | ⟨h2, _⟩
     ·rcases hb with rfl | h | ⟨_, h⟩
      ·exact hab (.inr (.inr ⟨h1, .inl rfl⟩))
      ·exact hu h
      ·rcases h with rfl | ⟨h, _⟩
       ·exact hab (.inl rfl)
       ·exact hab (.inr (.inr ⟨h, .inl rfl⟩))
     ·omega
   rw [this]
   exact below_top _ _
def rank (p : List LClass) (t : Int) : Nat := if t = 2 then 0 else if t = 1 then 20 else if 3 ≤ t then 1 + (chainOf p (t - 3)).length else 1
theorem chain_le (p : List LClass) (hs : SupOk p p.length) : ∀ n : Nat, (chainOf p (n : Int)).length ≤ n + 1 := by
 intro n
 induction n using Nat.strongRecOn with
 | ind n ih =>
  cases hx : p[n]? with
  | none =>
   have : chainOf p (n : Int) = [] := by
    unfold chainOf chain
    rw [if_neg (by omega), Int.toNat_natCast, hx]
   rw [this]; simp
  | some x =>
   have hn := (List.getElem?_eq_some_iff.1 hx).1
   rw [chainOf_cons p hs hn hx, List.length_cons]
   have hb := supB_le (hs n x hn hx)
   rcases Int.lt_or_le x.sup 0 with g | g
   ·rw [chainOf_neg p g]; simp
   ·obtain ⟨k, hk⟩ := Int.eq_ofNat_of_zero_le g
    rw [hk]
    have := ih k (by omega)
    omega
theorem rank_le {p : List LClass} (hs : SupOk p p.length) (h6 : p.length ≤ 6) (t : Int) : rank p t ≤ 20 := by
 unfold rank
 split
 ·omega
 split
 ·omega
 split
 ·rename_i h3
  obtain ⟨n, hn⟩ := Int.eq_ofNat_of_zero_le (show 0 ≤ t - 3 by omega)
  rw [hn]
  rcases Nat.lt_or_ge n p.length with h | h
  ·have := chain_le p hs n
   omega
  ·have : chainOf p (n : Int) = [] := by
    unfold chainOf chain
    rw [if_neg (by omega), Int.toNat_natCast, List.getElem?_eq_none h]
   rw [this]; simp
 ·omega
theorem rank_desc {p : List LClass} (hs : SupOk p p.length) {c o : Int} (h : descB p c o = true) (hne : c ≠ o) : (chainOf p o).length < (chainOf p c).length := by
 have key : c = o ∨ (chainOf p o).length < (chainOf p c).length := by
  refine desc_ind hs (fun c => c = o ∨ (chainOf p o).length < (chainOf p c).length) (fun n x _ e => .inl e) (fun n x hx _ ih => ?_) c h
  right
  rw [chainOf_cons p hs (List.getElem?_eq_some_iff.1 hx).1 hx, List.length_cons]
  rcases ih with e | e
  ·rw [e]; omega
  ·omega
 rcases key with e | e
 ·exact absurd e hne
 ·exact e
theorem rank_mono {p : List LClass} (hs : SupOk p p.length) (h6 : p.length ≤ 6) {a b : Int} (h : belowB p a b = true) : rank p b ≤ rank p a ∧ (a ≠ b → rank p b < rank p a) := by
 by_cases e : a = b
 ·subst e
  exact ⟨Nat.le_refl _, fun h => absurd rfl h⟩
 have hlt : rank p b < rank p a := by
  rw [below_iff] at h
  rcases h with h | rfl | ⟨h1, h2⟩
  ·exact absurd h e
  ·unfold rank
   rw [if_pos rfl, if_neg e]
   split
   ·omega
   split
   ·omega
   ·omega
  ·rcases h2 with rfl | ⟨h2, h3⟩
   ·have hb : rank p b = 1 + (chainOf p (b - 3)).length := by
     unfold rank
     rw [if_neg (by omega), if_neg (by omega), if_pos h1]
    have ha : rank p 1 = 20 := rfl
    rw [hb, ha]
    obtain ⟨n, hn⟩ := Int.eq_ofNat_of_zero_le (show 0 ≤ b - 3 by omega)
    rw [hn]
    rcases Nat.lt_or_ge n p.length with h | h
    ·have := chain_le p hs n
     omega
    ·have : chainOf p (n : Int) = [] := by
      unfold chainOf chain
      rw [if_neg (by omega), Int.toNat_natCast, List.getElem?_eq_none h]
     rw [this]; simp
   ·have hb : rank p b = 1 + (chainOf p (b - 3)).length := by
     unfold rank
     rw [if_neg (by omega), if_neg (by omega), if_pos h1]
    have ha : rank p a = 1 + (chainOf p (a - 3)).length := by
     unfold rank
     rw [if_neg (by omega), if_neg (by omega), if_pos h2]
    have := rank_desc hs h3 (by omega)
    omega
 exact ⟨by omega, fun _ => hlt⟩
structure LeS (p : List LClass) (s t : TSt) : Prop where
 n : s.stk.length = t.stk.length
 l : ∀ i, i < 8 → belowB p (s.loc.getD i 0) (t.loc.getD i 0) = true
 k : ∀ i, i < s.stk.length → belowB p (s.stk.getD i 0) (t.stk.getD i 0) = true
theorem zip_all {p : List LClass} : ∀ {l u : List Int}, l.length = u.length → (((l.zip u).all fun x => belowB p x.1 x.2) = true ↔ ∀ i, i < l.length → belowB p (l.getD i 0) (u.getD i 0) = true)
 | [], [], _ => ⟨fun _ i h => by simp at h, fun _ => rfl⟩
 | a :: l, b :: u, h => by
  rw [List.zip_cons_cons, List.all_cons, Bool.and_eq_true, zip_all (by simpa using h)]
  constructor
  ·rintro ⟨h1, h2⟩ i hi
   cases i with
   | zero => exact h1
   | succ i => exact h2 i (by simpa using hi)
  ·intro h
   exact ⟨h 0 (by simp), fun i hi => h (i + 1) (by simpa using hi)⟩
 | [], _ :: _, h => by simp at h
 | _ :: _, [], h => by simp at h
theorem le_iff {p : List LClass} {s t : TSt} (hs : s.loc.length = 8) (ht : t.loc.length = 8) : belowS p s t = true ↔ LeS p s t := by
 unfold belowS
 simp only [Bool.and_eq_true, beq_iff_eq]
 constructor
 ·rintro ⟨⟨h1, h2⟩, h3⟩
  rw [zip_all (by rw [hs, ht])] at h2
  rw [zip_all h1] at h3
  exact ⟨h1, fun i hi => h2 i (by omega), h3⟩
 ·rintro ⟨h1, h2, h3⟩
  exact ⟨⟨h1, (zip_all (by rw [hs, ht])).2 (fun i hi => h2 i (by omega))⟩, (zip_all h1).2 h3⟩
theorem LeS.refl (p : List LClass) (s : TSt) : LeS p s s := ⟨rfl, fun _ _ => below_refl _ _, fun _ _ => below_refl _ _⟩
theorem LeS.trans {p : List LClass} (hs : SupOk p p.length) {s t u : TSt} (h : LeS p s t) (h' : LeS p t u) : LeS p s u :=
 ⟨h.n.trans h'.n, fun i hi => below_trans hs (h.l i hi) (h'.l i hi), fun i hi => below_trans hs (h.k i hi) (h'.k i (by rw [← h.n]; exact hi))⟩
theorem joinK_at (p : List LClass) (s t : TSt) (hl : s.loc.length = 8) : ∀ (k i : Nat), i < k → k ≤ 8 → (joinK p s t k).loc.getD i 0 = joinB p (s.loc.getD i 0) (t.loc.getD i 0)
 | 0, i, h, _ => by omega
 | k + 1, i, h, h8 => by
  show ((joinK p s t k).loc.set k _).getD i 0 = _
  rw [List.getD_eq_getElem?_getD]
  by_cases e : i = k
  ·subst e
   rw [List.getElem?_set_self (by rw [joinK_len, hl]; omega)]
   rfl
  ·rw [List.getElem?_set_ne (by omega), ← List.getD_eq_getElem?_getD]
   exact joinK_at p s t hl k i (by omega) (by omega)
theorem joinT_locs (p : List LClass) (s t : TSt) : ∀ k, (joinT p s t k).loc = (joinK p s t 8).loc
 | 0 => rfl
 | k + 1 => joinT_locs p s t k
theorem joinT_at (p : List LClass) (s t : TSt) : ∀ (k i : Nat), i < k → k ≤ s.stk.length → (joinT p s t k).stk.getD i 0 = joinB p (s.stk.getD i 0) (t.stk.getD i 0)
 | 0, i, h, _ => by omega
 | k + 1, i, h, h8 => by
  show ((joinT p s t k).stk.set k _).getD i 0 = _
  rw [List.getD_eq_getElem?_getD]
  by_cases e : i = k
  ·subst e
   rw [List.getElem?_set_self (by rw [joinT_len]; omega)]
   rfl
  ·rw [List.getElem?_set_ne (by omega), ← List.getD_eq_getElem?_getD]
   exact joinT_at p s t k i (by omega) (by omega)
theorem joinS_len (p : List LClass) (s t : TSt) : (joinS p s t).stk.length = s.stk.length ∧ (joinS p s t).loc.length = s.loc.length := by
 unfold joinS
 refine ⟨joinT_len _ _ _ _, ?_⟩
 rw [joinT_locs, joinK_len]
theorem joinS_loc (p : List LClass) (s t : TSt) (hl : s.loc.length = 8) {i : Nat} (hi : i < 8) : (joinS p s t).loc.getD i 0 = joinB p (s.loc.getD i 0) (t.loc.getD i 0) := by
 unfold joinS
 rw [joinT_locs]
 exact joinK_at p s t hl 8 i hi (Nat.le_refl _)
theorem joinS_stk (p : List LClass) (s t : TSt) {i : Nat} (hi : i < s.stk.length) : (joinS p s t).stk.getD i 0 = joinB p (s.stk.getD i 0) (t.stk.getD i 0) := joinT_at p s t _ i hi (Nat.le_refl _)
theorem join_up1 {p : List LClass} {s t : TSt} (hl : s.loc.length = 8) : LeS p s (joinS p s t) :=
 ⟨(joinS_len p s t).1.symm, fun i hi => by rw [joinS_loc p s t hl hi]; exact join_ub1 _ _, fun i hi => by rw [joinS_stk p s t hi]; exact join_ub1 _ _⟩
theorem join_up2 {p : List LClass} {s t : TSt} (hl : s.loc.length = 8) (hn : s.stk.length = t.stk.length) : LeS p t (joinS p s t) :=
 ⟨by rw [(joinS_len p s t).1, hn], fun i hi => by rw [joinS_loc p s t hl hi]; exact join_ub2 _ _, fun i hi => by rw [joinS_stk p s t (by omega)]; exact join_ub2 _ _⟩
def TyIn (p : List LClass) (s : TSt) : Prop := (∀ i, i < 8 → 3 ≤ s.loc.getD i 0 → s.loc.getD i 0 - 3 < (p.length : Int)) ∧ ∀ i, i < s.stk.length → 3 ≤ s.stk.getD i 0 → s.stk.getD i 0 - 3 < (p.length : Int)
theorem join_least {p : List LClass} (hs : SupOk p p.length) {s t u : TSt} (hl : s.loc.length = 8) (hT : TyIn p s) (h1 : LeS p s u) (h2 : LeS p t u) : LeS p (joinS p s t) u :=
 ⟨by rw [(joinS_len p s t).1, h1.n], fun i hi => by rw [joinS_loc p s t hl hi]; exact join_lub hs (h1.l i hi) (h2.l i hi) (hT.1 i hi), fun i hi => by
  rw [(joinS_len p s t).1] at hi
  rw [joinS_stk p s t hi]
  exact join_lub hs (h1.k i hi) (h2.k i (by rw [h2.n, ← h1.n]; exact hi)) (hT.2 i hi)⟩
def rankS (p : List LClass) (s : TSt) : Nat := (s.loc.map (rank p)).sum + (s.stk.map (rank p)).sum
theorem sum_mono {f : Int → Nat} : ∀ {l l' : List Int}, l.length = l'.length → (∀ i, i < l.length → f (l'.getD i 0) ≤ f (l.getD i 0)) → (l'.map f).sum ≤ (l.map f).sum ∧ ((∃ i, i < l.length ∧ f (l'.getD i 0) < f (l.getD i 0)) → (l'.map f).sum < (l.map f).sum)
 | [], [], _, _ => ⟨Nat.le_refl _, fun ⟨i, h, _⟩ => by simp at h⟩
 | a :: l, b :: l', h, hp => by
  have h0 : f b ≤ f a := hp 0 (by simp)
  obtain ⟨h1, h2⟩ := sum_mono (f := f) (l := l) (l' := l') (by simpa using h) (fun i hi => hp (i + 1) (by simpa using hi))
  simp only [List.map_cons, List.sum_cons]
  refine ⟨by omega, ?_⟩
  rintro ⟨i, hi, hlt⟩
  cases i with
  | zero =>
   have : f b < f a := hlt
   omega
  | succ i =>
   have := h2 ⟨i, by simpa using hi, hlt⟩
   omega
 | [], _ :: _, h, _ => by simp at h
 | _ :: _, [], h, _ => by simp at h
theorem rankS_join {p : List LClass} (hs : SupOk p p.length) (h6 : p.length ≤ 6) {s t : TSt} (hl : s.loc.length = 8) (ht : t.loc.length = 8) (hn : s.stk.length = t.stk.length) (hb : ¬ belowS p t s = true) : rankS p (joinS p s t) < rankS p s := by
 have hu := join_up1 (p := p) (s := s) (t := t) hl
 have hv := join_up2 (p := p) (s := s) (t := t) hl hn
 obtain ⟨j1, j2⟩ := joinS_len p s t
 obtain ⟨a1, a2⟩ := sum_mono (f := rank p) (l := s.loc) (l' := (joinS p s t).loc) j2.symm (fun i hi => (rank_mono hs h6 (hu.l i (by omega))).1)
 obtain ⟨b1, b2⟩ := sum_mono (f := rank p) (l := s.stk) (l' := (joinS p s t).stk) j1.symm (fun i hi => (rank_mono hs h6 (hu.k i hi)).1)
 unfold rankS
 rw [le_iff ht hl] at hb
 have : (∃ i, i < 8 ∧ belowB p (t.loc.getD i 0) (s.loc.getD i 0) = false) ∨ ∃ i, i < s.stk.length ∧ belowB p (t.stk.getD i 0) (s.stk.getD i 0) = false := by
  apply Classical.byContradiction
  intro hc
  apply hb
  refine ⟨hn.symm, fun i hi => ?_, fun i hi => ?_⟩
  ·cases e : belowB p (t.loc.getD i 0) (s.loc.getD i 0) with
   | true => rfl
   | false => exact absurd (.inl ⟨i, hi, e⟩) hc
  ·cases e : belowB p (t.stk.getD i 0) (s.stk.getD i 0) with
   | true => rfl
   | false => exact absurd (.inr ⟨i, by omega, e⟩) hc
 rcases this with ⟨i, hi, e⟩ | ⟨i, hi, e⟩
 ·have := a2 ⟨i, by omega, (rank_mono hs h6 (hu.l i hi)).2 (fun h => by
   have := hv.l i hi
   rw [← h, e] at this
   cases this)⟩
  omega
 ·have := b2 ⟨i, hi, (rank_mono hs h6 (hu.k i hi)).2 (fun h => by
   have := hv.k i (by omega)
   rw [← h, e] at this
   cases this)⟩
  omega
theorem rankS_le {p : List LClass} (hs : SupOk p p.length) (h6 : p.length ≤ 6) {s : TSt} (hl : s.loc.length = 8) (hk : s.stk.length ≤ 8) : rankS p s ≤ 320 := by
 have key : ∀ l : List Int, (l.map (rank p)).sum ≤ 20 * l.length := by
  intro l
  induction l with
  | nil => simp
  | cons a l ih =>
   have := rank_le hs h6 a
   simp only [List.map_cons, List.sum_cons, List.length_cons]
   omega
 have h1 := key s.loc
 have h2 := key s.stk
 unfold rankS
 omega
def sumN (f : Nat → Nat) : Nat → Nat
 | 0 => 0
 | n + 1 => sumN f n + f n
theorem sumN_upd {f g : Nat → Nat} {i : Nat} (h : ∀ j, j ≠ i → f j = g j) : ∀ n, (i < n → sumN f n + g i = sumN g n + f i) ∧ (n ≤ i → sumN f n = sumN g n)
 | 0 => ⟨fun h => by omega, fun _ => rfl⟩
 | n + 1 => by
  obtain ⟨h1, h2⟩ := sumN_upd h n
  refine ⟨fun hi => ?_, fun hi => ?_⟩
  ·show sumN f n + f n + g i = sumN g n + g n + f i
   by_cases e : i = n
   ·subst e
    rw [h2 (Nat.le_refl _)]
    omega
   ·have := h1 (by omega)
    have := h n (fun x => e x.symm)
    omega
  ·show sumN f n + f n = sumN g n + g n
   rw [h2 (by omega), h n (by omega)]
def mu (p : List LClass) (s : SvSt) : Nat := sumN (fun i => if s.re.getD i false then rankS p (s.st.getD i zeroS) else 400) 40
def cnt (s : SvSt) : Nat := sumN (fun i => if s.ra.getD i false then 1 else 0) 40
structure SvOk (p : List LClass) (m : LMeth) (s : SvSt) : Prop where
 l1 : s.st.length = 40
 l2 : s.re.length = 40
 l3 : s.ra.length = 40
 ok : ∀ i, i < 40 → (s.st.getD i zeroS).loc.length = 8 ∧ ((s.st.getD i zeroS).stk.length : Int) ≤ m.stack
theorem getD_set_self {α : Type} {l : List α} {i : Nat} (h : i < l.length) (x d : α) : (l.set i x).getD i d = x := by
 rw [List.getD_eq_getElem?_getD, List.getElem?_set_self h]; rfl
theorem getD_set_ne {α : Type} {l : List α} {i j : Nat} (h : j ≠ i) (x d : α) : (l.set i x).getD j d = l.getD j d := by
 rw [List.getD_eq_getElem?_getD, List.getElem?_set_ne (fun e => h e.symm), ← List.getD_eq_getElem?_getD]
theorem SvOk.put {p : List LClass} {m : LMeth} {s : SvSt} (h : SvOk p m s) {i : Nat} (hi : i < 40) {g : TSt} (hl : g.loc.length = 8) (hk : (g.stk.length : Int) ≤ m.stack) : SvOk p m (putP s i g) := by
 refine ⟨by simpa [putP] using h.l1, by simpa [putP] using h.l2, by simpa [putP] using h.l3, fun j hj => ?_⟩
 show ((s.st.set i g).getD j zeroS).loc.length = 8 ∧ _
 by_cases e : j = i
 ·subst e
  show ((s.st.set j g).getD j zeroS).loc.length = 8 ∧ (((s.st.set j g).getD j zeroS).stk.length : Int) ≤ m.stack
  rw [getD_set_self (by rw [h.l1]; exact hj)]
  exact ⟨hl, hk⟩
 ·show ((s.st.set i g).getD j zeroS).loc.length = 8 ∧ (((s.st.set i g).getD j zeroS).stk.length : Int) ≤ m.stack
  rw [getD_set_ne e]
  exact h.ok j hj
theorem put_mu {p : List LClass} {m : LMeth} {s : SvSt} (h : SvOk p m s) {i : Nat} (hi : i < 40) {g : TSt} (hlt : rankS p g < (if s.re.getD i false then rankS p (s.st.getD i zeroS) else 400)) : mu p (putP s i g) < mu p s ∧ cnt (putP s i g) ≤ cnt s + 1 := by
 constructor
 ·unfold mu
  have := (sumN_upd (i := i) (f := fun j => if (putP s i g).re.getD j false then rankS p ((putP s i g).st.getD j zeroS) else 400) (g := fun j => if s.re.getD j false then rankS p (s.st.getD j zeroS) else 400) (fun j hj => by
   show (if (s.re.set i true).getD j false then rankS p ((s.st.set i g).getD j zeroS) else 400) = _
   rw [getD_set_ne hj, getD_set_ne hj]) 40).1 hi
  have e : (if (putP s i g).re.getD i false then rankS p ((putP s i g).st.getD i zeroS) else 400) = rankS p g := by
   show (if (s.re.set i true).getD i false then rankS p ((s.st.set i g).getD i zeroS) else 400) = _
   rw [getD_set_self (by rw [h.l2]; exact hi), getD_set_self (by rw [h.l1]; exact hi), if_pos rfl]
  rw [e] at this
  omega
 ·unfold cnt
  have := (sumN_upd (i := i) (f := fun j => if (putP s i g).ra.getD j false then 1 else 0) (g := fun j => if s.ra.getD j false then 1 else 0) (fun j hj => by
   show (if (s.ra.set i true).getD j false then 1 else 0) = _
   rw [getD_set_ne hj]) 40).1 hi
  have e : (if (putP s i g).ra.getD i false then 1 else 0) ≤ 1 := by split <;> omega
  omega
def msr (p : List LClass) (s : SvSt) : Nat := mu p s * 41 + cnt s
section
variable {p : List LClass} {m : LMeth} (hs : SupOk p p.length) (h6 : p.length ≤ 6) (h8 : m.stack ≤ 8)
include hs h6 h8
theorem reach_msr {s s' : SvSt} (h : SvOk p m s) {i : Nat} (hi : i < 40) {g : TSt} (hl : g.loc.length = 8) (hk : (g.stk.length : Int) ≤ m.stack) (e : reachP p i g s = some s') : SvOk p m s' ∧ msr p s' ≤ msr p s := by
 unfold reachP at e
 split at e
 ·rename_i hre
  split at e
  ·cases e
   exact ⟨h, Nat.le_refl _⟩
  ·rename_i hb
   split at e
   ·rename_i hn
    cases e
    have ho := h.ok i hi
    obtain ⟨j1, j2⟩ := joinS_len p (s.st.getD i zeroS) g
    have hP := h.put hi (g := joinS p (s.st.getD i zeroS) g) (by rw [j2]; exact ho.1) (by rw [j1]; exact ho.2)
    refine ⟨hP, ?_⟩
    have := put_mu h hi (g := joinS p (s.st.getD i zeroS) g) (by rw [if_pos hre]; exact rankS_join hs h6 ho.1 hl hn hb)
    unfold msr
    omega
   ·cases e
 ·rename_i hre
  cases e
  refine ⟨h.put hi hl hk, ?_⟩
  have := put_mu h hi (g := g) (by rw [if_neg hre]; have := rankS_le hs h6 hl (by omega); omega)
  unfold msr
  omega
theorem reachAll_msr {n : TSt} (hl : n.loc.length = 8) (hk : (n.stk.length : Int) ≤ m.stack) : ∀ (l : List (Int × Bool)) (s s' : SvSt), SvOk p m s → (∀ y ∈ l, y.1.toNat < 40) → reachAll p n l s = some s' → SvOk p m s' ∧ msr p s' ≤ msr p s
 | [], s, s', h, _, e => by cases e; exact ⟨h, Nat.le_refl _⟩
 | y :: l, s, s', h, hy, e => by
  unfold reachAll at e
  obtain ⟨s1, e1, e2⟩ := bind_iff e
  obtain ⟨h1, h2⟩ := reach_msr hs h6 h8 h (hy y (by simp)) hl hk e1
  obtain ⟨h3, h4⟩ := reachAll_msr hl hk l s1 s' h1 (fun z hz => hy z (by simp [hz])) e2
  exact ⟨h3, by omega⟩
end
section
variable {p : List LClass} {m : LMeth}
theorem leave_len {t : Int} {s s' : TSt} (h : leaveS m t s = some s') (hk : (s.stk.length : Int) ≤ m.stack) : (s'.stk.length : Int) ≤ m.stack ∧ s'.loc = s.loc := by
 obtain ⟨h1, h2, h3⟩ := leaveS_iff h
 refine ⟨?_, h3⟩
 rw [h2, List.length_append, List.length_singleton]
 omega
theorem want_len {t : Int} {s s' : TSt} (h : wantS p t s = some s') (hk : (s.stk.length : Int) ≤ m.stack) : (s'.stk.length : Int) ≤ m.stack ∧ s'.loc = s.loc := by
 obtain ⟨u, h1, h2, _⟩ := wantS_iff h
 refine ⟨?_, h2⟩
 rw [h1, List.length_append] at hk
 omega
theorem wantO_len {s s' : TSt} (h : wantO s = some s') (hk : (s.stk.length : Int) ≤ m.stack) : (s'.stk.length : Int) ≤ m.stack ∧ s'.loc = s.loc := by
 obtain ⟨u, h1, h2, _⟩ := wantO_iff h
 refine ⟨?_, h2⟩
 rw [h1, List.length_append] at hk
 omega
theorem take_len {s s' : TSt} {t : Int} (h : takeS s = some (t, s')) (hk : (s.stk.length : Int) ≤ m.stack) : (s'.stk.length : Int) ≤ m.stack ∧ s'.loc = s.loc := by
 obtain ⟨h1, h2⟩ := takeS_iff h
 refine ⟨?_, h2⟩
 rw [h1, List.length_append] at hk
 omega
theorem wants_len : ∀ (l : List Int) {s s' : TSt}, wantsS p l s = some s' → (s.stk.length : Int) ≤ m.stack → (s'.stk.length : Int) ≤ m.stack ∧ s'.loc = s.loc
 | [], s, s', h, hk => by cases h; exact ⟨hk, rfl⟩
 | t :: l, s, s', h, hk => by
  unfold wantsS at h
  obtain ⟨s1, h1, h2⟩ := bind_iff h
  obtain ⟨a1, a2⟩ := want_len h1 hk
  obtain ⟨b1, b2⟩ := wants_len l h2 a1
  exact ⟨b1, b2.trans a2⟩
theorem do_len {i : LIns} {s s' : TSt} (h : doS p m i s = some s') (hl : s.loc.length = 8) (hk : (s.stk.length : Int) ≤ m.stack) : s'.loc.length = 8 ∧ (s'.stk.length : Int) ≤ m.stack := by
 unfold doS at h
 by_cases c : i.op = 0
 ·rw [if_pos c] at h
  obtain ⟨a, b⟩ := leave_len h hk
  exact ⟨by rw [b]; exact hl, a⟩
 rw [if_neg c] at h; clear c
 by_cases c : i.op = 1
 ·rw [if_pos c] at h
  obtain ⟨t, _, h⟩ := bind_iff h
  obtain ⟨a, b⟩ := leave_len h hk
  exact ⟨by rw [b]; exact hl, a⟩
 rw [if_neg c] at h; clear c
 by_cases c : i.op = 2
 ·rw [if_pos c] at h
  obtain ⟨⟨t, s1⟩, h1, h2⟩ := bind_iff h
  obtain ⟨a, b⟩ := take_len h1 hk
  obtain ⟨u, _, rfl⟩ := Option.map_eq_some_iff.1 h2
  exact ⟨by dsimp only; rw [List.length_set, b]; exact hl, a⟩
 rw [if_neg c] at h; clear c
 by_cases c : i.op = 3 ∨ i.op = 4 ∨ i.op = 5 ∨ i.op = 6
 ·rw [if_pos c] at h
  obtain ⟨s1, h1, h2⟩ := bind_iff h
  obtain ⟨s2, h3, h4⟩ := bind_iff h2
  obtain ⟨a1, b1⟩ := want_len h1 hk
  obtain ⟨a2, b2⟩ := want_len h3 a1
  obtain ⟨a3, b3⟩ := leave_len h4 a2
  exact ⟨by rw [b3, b2, b1]; exact hl, a3⟩
 rw [if_neg c] at h; clear c
 by_cases c : i.op = 8 ∨ i.op = 19
 ·rw [if_pos c] at h
  obtain ⟨a1, b1⟩ := want_len h hk
  exact ⟨by rw [b1]; exact hl, a1⟩
 rw [if_neg c] at h; clear c
 by_cases c : i.op = 9
 ·rw [if_pos c] at h
  obtain ⟨a, b⟩ := leave_len h hk
  exact ⟨by rw [b]; exact hl, a⟩
 rw [if_neg c] at h; clear c
 by_cases c : i.op = 10
 ·rw [if_pos c] at h
  obtain ⟨s1, h1, h2⟩ := bind_iff h
  obtain ⟨a1, b1⟩ := want_len h1 hk
  obtain ⟨a3, b3⟩ := leave_len h2 a1
  exact ⟨by rw [b3, b1]; exact hl, a3⟩
 rw [if_neg c] at h; clear c
 by_cases c : i.op = 11
 ·rw [if_pos c] at h
  obtain ⟨s1, h1, h2⟩ := bind_iff h
  obtain ⟨a1, b1⟩ := want_len h1 hk
  obtain ⟨a3, b3⟩ := want_len h2 a1
  exact ⟨by rw [b3, b1]; exact hl, a3⟩
 rw [if_neg c] at h; clear c
 by_cases c : i.op = 12
 ·rw [if_pos c] at h
  obtain ⟨s1, h1, h2⟩ := bind_iff h
  obtain ⟨s2, h3, h4⟩ := bind_iff h2
  obtain ⟨a1, b1⟩ := wants_len _ h1 hk
  obtain ⟨a2, b2⟩ := want_len h3 a1
  obtain ⟨a3, b3⟩ := leave_len h4 a2
  exact ⟨by rw [b3, b2, b1]; exact hl, a3⟩
 rw [if_neg c] at h; clear c
 by_cases c : i.op = 13
 ·rw [if_pos c] at h
  obtain ⟨a1, b1⟩ := want_len h hk
  exact ⟨by rw [b1]; exact hl, a1⟩
 rw [if_neg c] at h; clear c
 by_cases c : i.op = 14
 ·rw [if_pos c] at h
  obtain ⟨⟨t, s1⟩, h1, rfl⟩ := Option.map_eq_some_iff.1 h
  obtain ⟨a1, b1⟩ := take_len h1 hk
  exact ⟨by dsimp only; rw [b1]; exact hl, a1⟩
 rw [if_neg c] at h; clear c
 by_cases c : i.op = 15
 ·rw [if_pos c] at h
  obtain ⟨⟨t, s1⟩, h1, h2⟩ := bind_iff h
  obtain ⟨s2, h3, h4⟩ := bind_iff h2
  obtain ⟨a1, b1⟩ := take_len h1 hk
  obtain ⟨a2, b2⟩ := leave_len h3 a1
  obtain ⟨a3, b3⟩ := leave_len h4 a2
  exact ⟨by rw [b3, b2, b1]; exact hl, a3⟩
 rw [if_neg c] at h; clear c
 by_cases c : i.op = 16
 ·rw [if_pos c] at h
  obtain ⟨a, b⟩ := leave_len h hk
  exact ⟨by rw [b]; exact hl, a⟩
 rw [if_neg c] at h; clear c
 by_cases c : i.op = 17
 ·rw [if_pos c] at h
  obtain ⟨s1, h1, h2⟩ := bind_iff h
  obtain ⟨a1, b1⟩ := wantO_len (m := m) h1 hk
  obtain ⟨a3, b3⟩ := leave_len h2 a1
  exact ⟨by rw [b3, b1]; exact hl, a3⟩
 rw [if_neg c] at h; clear c
 by_cases c : i.op = 18
 ·rw [if_pos c] at h
  obtain ⟨a1, b1⟩ := wantO_len (m := m) h hk
  exact ⟨by rw [b1]; exact hl, a1⟩
 rw [if_neg c] at h; clear c
 by_cases c : i.op = 20
 ·rw [if_pos c] at h
  obtain ⟨⟨t, s1⟩, h1, h2⟩ := bind_iff h
  obtain ⟨⟨u, s2⟩, h3, h4⟩ := bind_iff h2
  obtain ⟨s3, h5, h6⟩ := bind_iff h4
  obtain ⟨a1, b1⟩ := take_len h1 hk
  obtain ⟨a2, b2⟩ := take_len h3 a1
  obtain ⟨a3, b3⟩ := leave_len h5 a2
  obtain ⟨a4, b4⟩ := leave_len h6 a3
  dsimp only at b2 b3
  exact ⟨by rw [b4, b3, b2, b1]; exact hl, a4⟩
 rw [if_neg c] at h
 cases h
 exact ⟨hl, hk⟩
theorem next_len {pc : Nat} {s s' : TSt} (h : nextS p m pc s = some s') (hl : s.loc.length = 8) (hk : (s.stk.length : Int) ≤ m.stack) : s'.loc.length = 8 ∧ (s'.stk.length : Int) ≤ m.stack := by
 unfold nextS at h
 obtain ⟨s1, h1, h2⟩ := bind_iff h
 split at h2
 ·cases h2
 ·cases h2
  exact do_len h1 hl hk
theorem clear_msr {s : SvSt} (h : SvOk p m s) {i : Nat} (hi : i < 40) (hr : s.ra.getD i false = true) : SvOk p m { s with ra := s.ra.set i false } ∧ msr p { s with ra := s.ra.set i false } + 1 = msr p s := by
 refine ⟨⟨h.l1, h.l2, by simpa using h.l3, h.ok⟩, ?_⟩
 have := (sumN_upd (i := i) (f := fun j => if (s.ra.set i false).getD j false then 1 else 0) (g := fun j => if s.ra.getD j false then 1 else 0) (fun j hj => by
  show (if (s.ra.set i false).getD j false then 1 else 0) = _
  rw [getD_set_ne hj]) 40).1 hi
 have e1 : (if (s.ra.set i false).getD i false then 1 else 0) = 0 := by rw [getD_set_self (by rw [h.l3]; exact hi)]; rfl
 have e2 : (if s.ra.getD i false then 1 else 0) = 1 := by rw [hr]; rfl
 unfold msr
 show mu p s * 41 + sumN (fun j => if (s.ra.set i false).getD j false then 1 else 0) 40 + 1 = mu p s * 41 + sumN (fun j => if s.ra.getD j false then 1 else 0) 40
 omega
variable (hs : SupOk p p.length) (h6 : p.length ≤ 6) (h8 : m.stack ≤ 8) (hi40 : m.code.length ≤ 40) (hins : ∀ i ∈ m.code, insB p m i = true)
include hs h6 h8 hi40 hins
theorem ask_msr {k : Nat} (hk : k < m.code.length) {s s' : SvSt × Bool} (h : SvOk p m s.1) (e : askP p m k s = some s') : SvOk p m s'.1 ∧ msr p s'.1 ≤ msr p s.1 ∧ (s' ≠ s → msr p s'.1 < msr p s.1) ∧ (s'.2 = s.2 ∨ (s'.2 = true ∧ msr p s'.1 < msr p s.1)) := by
 unfold askP at e
 split at e
 ·rename_i hr
  obtain ⟨s1, h1, rfl⟩ := Option.map_eq_some_iff.1 e
  obtain ⟨c1, c2⟩ := clear_msr h (show k < 40 by omega) hr
  unfold goOnP at h1
  obtain ⟨n, g1, g2⟩ := bind_iff h1
  have ho := c1.ok k (by omega)
  obtain ⟨n1, n2⟩ := next_len g1 ho.1 ho.2
  have hin := onward_in hk hins g1
  obtain ⟨r1, r2⟩ := reachAll_msr hs h6 h8 n1 n2 _ _ _ c1 (fun y hy => by have := hin y hy; omega) g2
  exact ⟨r1, by dsimp only; omega, fun _ => by dsimp only; omega, .inr ⟨rfl, by dsimp only; omega⟩⟩
 ·cases e
  exact ⟨h, Nat.le_refl _, fun e => absurd rfl e, .inl rfl⟩
theorem round_msr {s : SvSt} (h : SvOk p m s) : ∀ (k : Nat) (s' : SvSt × Bool), k ≤ m.code.length → roundP p m s k = some s' → SvOk p m s'.1 ∧ msr p s'.1 ≤ msr p s ∧ (s'.2 = true → msr p s'.1 < msr p s) ∧ (s'.2 = false → s'.1 = s)
 | 0, s', _, e => by cases e; exact ⟨h, Nat.le_refl _, fun e => (by cases e), fun _ => rfl⟩
 | k + 1, s', hk, e => by
  unfold roundP at e
  obtain ⟨s1, e1, e2⟩ := bind_iff e
  obtain ⟨a1, a2, a3, a4⟩ := round_msr h k s1 (by omega) e1
  obtain ⟨b1, b2, b3, b4⟩ := ask_msr hs h6 h8 hi40 hins (by omega) a1 e2
  refine ⟨b1, by omega, fun ht => ?_, fun hf => ?_⟩
  ·rcases b4 with b4 | ⟨_, b4⟩
   ·have := a3 (by rw [← b4]; exact ht)
    omega
   ·omega
  ·rcases b4 with b4 | ⟨b4, _⟩
   ·rw [hf] at b4
    have e0 := a4 b4.symm
    apply Classical.byContradiction
    intro hc
    have hne : s' ≠ s1 := fun e => hc (by rw [e]; exact e0)
    unfold askP at e2
    split at e2
    ·obtain ⟨s2, _, rfl⟩ := Option.map_eq_some_iff.1 e2
     cases hf
    ·cases e2
     exact hne rfl
   ·rw [hf] at b4; cases b4
theorem solve_ends : ∀ (n : Nat) (s : SvSt), SvOk p m s → msr p s < n → ∃ r, solveN p m n s = some r
 | 0, s, _, h => by omega
 | n + 1, s, h, hn => by
  unfold solveN
  cases e : roundP p m s m.code.length with
  | none => exact ⟨none, rfl⟩
  | some x =>
   obtain ⟨s', b⟩ := x
   obtain ⟨a1, a2, a3, a4⟩ := round_msr hs h6 h8 hi40 hins h _ _ (Nat.le_refl _) e
   cases b with
   | true =>
    have := a3 rfl
    exact solve_ends n s' a1 (by dsimp only at this; omega)
   | false => exact ⟨some s', rfl⟩
end
end Go.Proofs.YtiiokkllmchohaaGreat
namespace Go.Proofs.YtiiokkllmchohaaGreat
open Go.RowKit Go.Shelf
attribute [local go_sem ↓] Go.wp_at_zero Go.wp_at_succ
attribute [local go_sem] frz_drew
theorem infoTypeC : (Tryz.prog.info? 43).map (fun i => (i.zero, i.size, i.bytes)) = some (some (.int .i64 0), 1, 8) := by kernel_rfl
end Go.Proofs.YtiiokkllmchohaaGreat
namespace Go.Proofs.YtiiokkllmchohaaGreat
open Go.RowKit Go.Shelf
instance (n : Nat) (t : Int) : Decidable (tyOk n t) := inferInstanceAs (Decidable (0 ≤ t ∧ t < (n : Int) + 3))
end Go.Proofs.YtiiokkllmchohaaGreat
