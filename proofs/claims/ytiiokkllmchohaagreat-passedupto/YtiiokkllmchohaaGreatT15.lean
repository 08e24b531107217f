/- What the document says of states, of what fits, and of the pass, on plain Lean data. -/
import Derived.Test.YtiiokkllmchohaaGreatT01
namespace Go.Proofs.YtiiokkllmchohaaGreat
open Go.RowKit
def descB (p : List LClass) (c o : Int) : Bool := (chainOf p c).any fun k => (k : Int) == o
def belowB (p : List LClass) (t o : Int) : Bool := t == o || o == 2 || (decide (3 ≤ o) && (t == 1 || (decide (3 ≤ t) && descB p (t - 3) (o - 3))))

structure TSt where
 loc : List Int
 stk : List Int

def beginS (c : Int) (m : LMeth) : TSt := ⟨(c + 3) :: (m.args ++ List.replicate (7 - m.args.length) 2), []⟩
def toldS (f : LFrame) : TSt := ⟨f.locals ++ List.replicate (8 - f.locals.length) 2, f.stack⟩
def belowS (p : List LClass) (s t : TSt) : Bool := (s.stk.length == t.stk.length) && ((s.loc.zip t.loc).all fun x => belowB p x.1 x.2) && ((s.stk.zip t.stk).all fun x => belowB p x.1 x.2)
def takeS (s : TSt) : Option (Int × TSt) := s.stk.getLast?.map fun t => (t, { s with stk := s.stk.dropLast })
def wantS (p : List LClass) (t : Int) (s : TSt) : Option TSt := (takeS s).bind fun x => if belowB p x.1 t then some x.2 else none
def mayObj (t : Int) : Bool := t == 1 || decide (3 ≤ t)
def wantO (s : TSt) : Option TSt := (takeS s).bind fun x => if mayObj x.1 then some x.2 else none
def leaveS (m : LMeth) (t : Int) (s : TSt) : Option TSt := if (s.stk.length : Int) = m.stack then none else some { s with stk := s.stk ++ [t] }
def knownS (t : Int) : Option Int := if t = 2 then none else some t
def wantsS (p : List LClass) : List Int → TSt → Option TSt
 | [], s => some s
 | t :: r, s => (wantS p t s).bind (wantsS p r)
def fieldT (p : List LClass) (c b : Int) : Int := (fieldsOf p c).getD b.toNat 0
def findM (p : List LClass) (c slot : Int) : LMeth := (((methOf p c slot).bind (methAt p)).getD ⟨0, [], 0, 0, 0, [], []⟩)
def doS (p : List LClass) (m : LMeth) (i : LIns) (s : TSt) : Option TSt :=
 if i.op = 0 then leaveS m 0 s
 else if i.op = 1 then (knownS (s.loc.getD i.a.toNat 0)).bind fun t => leaveS m t s
 else if i.op = 2 then (takeS s).bind fun x => (knownS x.1).map fun t => { x.2 with loc := x.2.loc.set i.a.toNat t }
 else if i.op = 3 ∨ i.op = 4 ∨ i.op = 5 ∨ i.op = 6 then (wantS p 0 s).bind fun s => (wantS p 0 s).bind (leaveS m 0)
 else if i.op = 8 ∨ i.op = 19 then wantS p 0 s
 else if i.op = 9 then leaveS m (i.a + 3) s
 else if i.op = 10 then (wantS p (i.a + 3) s).bind (leaveS m (fieldT p i.a i.b))
 else if i.op = 11 then (wantS p (fieldT p i.a i.b) s).bind (wantS p (i.a + 3))
 else if i.op = 12 then (wantsS p (findM p i.a i.b).args.reverse s).bind fun s => (wantS p (i.a + 3) s).bind (leaveS m (findM p i.a i.b).ret)
 else if i.op = 13 then wantS p m.ret s
 else if i.op = 14 then (takeS s).map (·.2)
 else if i.op = 15 then (takeS s).bind fun x => (leaveS m x.1 x.2).bind (leaveS m x.1)
 else if i.op = 16 then leaveS m 1 s
 else if i.op = 17 then (wantO s).bind (leaveS m (i.a + 3))
 else if i.op = 18 then wantO s
 else if i.op = 20 then (takeS s).bind fun y => (takeS y.2).bind fun x => (leaveS m y.1 x.2).bind (leaveS m x.1)
 else some s
def jumpsB (i : LIns) : Bool := i.op == 7 || i.op == 8 || i.op == 18
def fallsB (i : LIns) : Bool := !(i.op == 7) && !(i.op == 13)
def onwardL (i : LIns) (pc : Nat) : List (Int × Bool) := (if jumpsB i then [(i.a, true)] else []) ++ (if fallsB i then [((pc : Int) + 1, false)] else [])
def insAt (m : LMeth) (pc : Nat) : LIns := (m.code[pc]?).getD ⟨0, 0, 0⟩
def endB (m : LMeth) (pc : Nat) : Bool := (onwardL (insAt m pc) pc).any fun x => x.1 == (m.code.length : Int)
def nextS (p : List LClass) (m : LMeth) (pc : Nat) (s : TSt) : Option TSt := (doS p m (insAt m pc) s).bind fun s' => if endB m pc then none else some s'
def frameAtS (m : LMeth) (pc : Int) : Option TSt := (m.frames.find? fun f => f.pc == pc).map toldS
def frOk (p : List LClass) (m : LMeth) (s : TSt) (pc : Int) : Bool := match frameAtS m pc with
 | none => false
 | some t => belowS p s t
def goS (p : List LClass) (m : LMeth) (pc : Nat) (s : TSt) : Option (Option TSt) := (nextS p m pc s).bind fun s' =>
 if (onwardL (insAt m pc) pc).all fun x => !x.2 || frOk p m s' x.1 then some (if fallsB (insAt m pc) then some s' else none) else none
def stepS (p : List LClass) (m : LMeth) (pc : Nat) (h : Option TSt) : Option (Option TSt) := match frameAtS m pc, h with
 | some t, some s => if belowS p s t then goS p m pc t else none
 | some t, none => goS p m pc t
 | none, some s => goS p m pc s
 | none, none => some none
def passK (p : List LClass) (c : Int) (m : LMeth) : Nat → Option (Option TSt)
 | 0 => some (some (beginS c m))
 | k + 1 => (passK p c m k).bind (stepS p m k)
def passB (p : List LClass) (c : Int) (m : LMeth) : Bool := (passK p c m m.code.length).isSome

def okS (s : TSt) : Prop := s.loc.length = 8 ∧ s.stk.length ≤ 8
theorem okS_begin {c : Int} {m : LMeth} (h : m.args.length ≤ 7) : okS (beginS c m) := by
 refine ⟨?_, by simp [beginS]⟩
 simp [beginS]; omega
theorem okS_told {f : LFrame} (h : f.locals.length ≤ 8) (h' : f.stack.length ≤ 8) : okS (toldS f) := by
 refine ⟨?_, h'⟩
 simp [toldS]; omega
end Go.Proofs.YtiiokkllmchohaaGreat
