/- What the document says of states, of what fits, and of the pass, on plain Lean data. -/
import Derived.Test.YtiiokkllmchohaaGreatT01
set_option maxHeartbeats 0
set_option maxRecDepth 99999
namespace Go.Proofs.YtiiokkllmchohaaGreat
open Go.Value renaming int->J,slice->O,pointer->zP,bool->zB
open Go.IntKind renaming i64->I
open Option renaming none->U,some->M
open Bool renaming true->K,false->F
open Go.Ending renaming returned->zR
open Go.Obj renaming cells->zC
open Go.RowKit
def fD (p:On)(c o:Int):Bool:=(OD p c).any λk=>(k:Int) == o
def eF (p:On)(t o:Int):Bool:=t == o || o == 2 || (decide (3<=o) && (t == 1 || (decide (3<=t) && fD p (t-3) (o-3))))
structure ef where
 loc:List Int
 stk:List Int
def fH (c:Int)(m:eh):ef:=⟨(c+3)::(m.args++List.replicate (7-m.args.length) 2),[]⟩
def gW (f:fT):ef:=⟨f.locals++List.replicate (8-f.locals.length) 2,f.stack⟩
def gA (p:On)(s t:ef):Bool:=(s.stk.length == t.stk.length) && ((s.loc.zip t.loc).all λx=>eF p x.1 x.2) && ((s.stk.zip t.stk).all λx=>eF p x.1 x.2)
def fS (s:ef):Option (Int×ef):=s.stk.getLast?.map λt=>(t,{ s with stk:=s.stk.dropLast })
def fC (p:On)(t:Int)(s:ef):Option ef:=(fS s).bind λx=>if eF p x.1 t then M x.2 else U
def iy (t:Int):Bool:=t == 1 || decide (3<=t)
def iU (s:ef):Option ef:=(fS s).bind λx=>if iy x.1 then M x.2 else U
def fj (m:eh)(t:Int)(s:ef):Option ef:=if (s.stk.length:Int)=m.stack then U else M { s with stk:=s.stk++ [t] }
def jj (t:Int):Option Int:=if t=2 then U else M t
def gC (p:On):List Int->ef->Option ef
 | [], s => M s
 | t :: r, s => (fC p t s).bind (gC p r)
def gi (p:On)(c b:Int):Int:=(OE p c).getD b.toNat 0
def ew (p:On)(c slot:Int):eh:=(((fy p c slot).bind (mh p)).getD ⟨0,[],0,0,0,[],[]⟩)
def fe (p:On)(m:eh)(i:fG)(s:ef):Option ef:=
 if i.op=0 then fj m 0 s
 else if i.op=1 then (jj (s.loc.getD i.a.toNat 0)).bind λt=>fj m t s
 else if i.op=2 then (fS s).bind λx=>(jj x.1).map λt=> { x.2 with loc:=x.2.loc.set i.a.toNat t }
 else if i.op=3\/i.op=4\/i.op=5\/i.op=6 then (fC p 0 s).bind λs=>(fC p 0 s).bind (fj m 0)
 else if i.op=8\/i.op=19 then fC p 0 s
 else if i.op=9 then fj m (i.a+3) s
 else if i.op=10 then (fC p (i.a+3) s).bind (fj m (gi p i.a i.b))
 else if i.op=11 then (fC p (gi p i.a i.b) s).bind (fC p (i.a+3))
 else if i.op=12 then (gC p (ew p i.a i.b).args.reverse s).bind λs=>(fC p (i.a+3) s).bind (fj m (ew p i.a i.b).ret)
 else if i.op=13 then fC p m.ret s
 else if i.op = 14 then (fS s).map (·.2)
 else if i.op=15 then (fS s).bind λx=>(fj m x.1 x.2).bind (fj m x.1)
 else if i.op=16 then fj m 1 s
 else if i.op=17 then (iU s).bind (fj m (i.a+3))
 else if i.op=18 then iU s
 else if i.op=20 then (fS s).bind λy=>(fS y.2).bind λx=>(fj m y.1 x.2).bind (fj m x.1)
 else M s
def gz (i:fG):Bool:=i.op == 7 || i.op == 8 || i.op == 18
def gJ (i:fG):Bool:= !(i.op == 7) && !(i.op == 13)
def gU (i:fG)(pc:Nat):List (Int×Bool):=(if gz i then [(i.a,K)] else [])++(if gJ i then [((pc:Int)+1,F)] else [])
def ey (m:eh)(pc:Nat):fG:=(m.code[pc]?).getD ⟨0,0,0⟩
def kX (m:eh)(pc:Nat):Bool:=(gU (ey m pc) pc).any λx=>x.1 == (m.code.length:Int)
def iq (p:On)(m:eh)(pc:Nat)(s:ef):Option ef:=(fe p m (ey m pc) s).bind λs'=>if kX m pc then U else M s'
def jP (m:eh)(pc:Int):Option ef:=(m.frames.find? λf=>f.pc == pc).map gW
def jp (p:On)(m:eh)(s:ef)(pc:Int):Bool:=match jP m pc with
 | none => F
 | some t => gA p s t
def kv (p:On)(m:eh)(pc:Nat)(s:ef):Option (Option ef):=(iq p m pc s).bind λs'=>
 if (gU (ey m pc) pc).all λx=> !x.2 || jp p m s' x.1 then M (if gJ (ey m pc) then M s' else U) else U
def stepS (p:On)(m:eh)(pc:Nat)(h:Option ef):Option (Option ef):=match jP m pc,h with
 | some t, M s => if gA p s t then kv p m pc t else U
 | some t, U => kv p m pc t
 | none, M s => kv p m pc s
 | none, U => M U
def iP (p:On)(c:Int)(m:eh):Nat->Option (Option ef)
 | 0 => M (M (fH c m))
 | k + 1 => (iP p c m k).bind (stepS p m k)
def iX (p:On)(c:Int)(m:eh):Bool:=(iP p c m m.code.length).isSome
def okS (s:ef):Prop:=s.loc.length=8/\s.stk.length<=8
theorem xg{c a}(b:a.args.length<=7):okS (fH c a):=by
 refine⟨?_,by simp[fH]⟩;simp[fH];omega
theorem xh{a}(c:a.locals.length<=8)(b:a.stack.length<=8):okS (gW a):=by
 refine⟨?_,b⟩;simp[gW];omega
end Go.Proofs.YtiiokkllmchohaaGreat
