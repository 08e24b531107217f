/- What the document says of states, of what fits, and of the pass, on plain Lean data. -/
import Derived.Test.YtiiokkllmchohaaGreatT01
set_option maxHeartbeats 4000000
set_option maxRecDepth 100000
namespace Go.Proofs.YtiiokkllmchohaaGreat
open Go.RowKit
def gY (p:List aj)(c o:Int):Bool:=(chainOf p c).any fun k=>(k:Int) == o
def bf (p:List aj)(t o:Int):Bool:=t == o || o == 2 || (decide (3≤o) && (t == 1 || (decide (3≤t) && gY p (t-3) (o-3))))

structure aH where
 loc:List Int
 stk:List Int

def dO (c:Int)(m:aC):aH:=⟨(c+3)::(m.args++List.replicate (7-m.args.length) 2),[]⟩
def akk (f:bF):aH:=⟨f.locals++List.replicate (8-f.locals.length) 2,f.stack⟩
def jw (p:List aj)(s t:aH):Bool:=(s.stk.length == t.stk.length) && ((s.loc.zip t.loc).all fun x=>bf p x.1 x.2) && ((s.stk.zip t.stk).all fun x=>bf p x.1 x.2)
def fA (s:aH):Option (Int×aH):=s.stk.getLast?.map fun t=>(t,{ s with stk:=s.stk.dropLast })
def dw (p:List aj)(t:Int)(s:aH):Option aH:=(fA s).bind fun x=>if bf p x.1 t then some x.2 else none
def qC (t:Int):Bool:=t == 1 || decide (3≤t)
def jX (s:aH):Option aH:=(fA s).bind fun x=>if qC x.1 then some x.2 else none
def bM (m:aC)(t:Int)(s:aH):Option aH:=if (s.stk.length:Int)=m.stack then none else some { s with stk:=s.stk++ [t] }
def lM (t:Int):Option Int:=if t=2 then none else some t
def fU (p:List aj):List Int→aH→Option aH
 | [], s => some s
 | t :: r, s => (dw p t s).bind (fU p r)
def jm (p:List aj)(c b:Int):Int:=(fieldsOf p c).getD b.toNat 0
def cO (p:List aj)(c slot:Int):aC:=(((fO p c slot).bind (sV p)).getD ⟨0,[],0,0,0,[],[]⟩)
def aY (p:List aj)(m:aC)(i:eF)(s:aH):Option aH:=
 if i.op=0 then bM m 0 s
 else if i.op=1 then (lM (s.loc.getD i.a.toNat 0)).bind fun t=>bM m t s
 else if i.op=2 then (fA s).bind fun x=>(lM x.1).map fun t=> { x.2 with loc:=x.2.loc.set i.a.toNat t }
 else if i.op=3∨i.op=4∨i.op=5∨i.op=6 then (dw p 0 s).bind fun s=>(dw p 0 s).bind (bM m 0)
 else if i.op=8∨i.op=19 then dw p 0 s
 else if i.op=9 then bM m (i.a+3) s
 else if i.op=10 then (dw p (i.a+3) s).bind (bM m (jm p i.a i.b))
 else if i.op=11 then (dw p (jm p i.a i.b) s).bind (dw p (i.a+3))
 else if i.op=12 then (fU p (cO p i.a i.b).args.reverse s).bind fun s=>(dw p (i.a+3) s).bind (bM m (cO p i.a i.b).ret)
 else if i.op=13 then dw p m.ret s
 else if i.op = 14 then (fA s).map (·.2)
 else if i.op=15 then (fA s).bind fun x=>(bM m x.1 x.2).bind (bM m x.1)
 else if i.op=16 then bM m 1 s
 else if i.op=17 then (jX s).bind (bM m (i.a+3))
 else if i.op=18 then jX s
 else if i.op=20 then (fA s).bind fun y=>(fA y.2).bind fun x=>(bM m y.1 x.2).bind (bM m x.1)
 else some s
def gU (i:eF):Bool:=i.op == 7 || i.op == 8 || i.op == 18
def qW (i:eF):Bool:= !(i.op == 7) && !(i.op == 13)
def gy (i:eF)(pc:Nat):List (Int×Bool):=(if gU i then [(i.a,true)] else [])++(if qW i then [((pc:Int)+1,false)] else [])
def bH (m:aC)(pc:Nat):eF:=(m.code[pc]?).getD ⟨0,0,0⟩
def uH (m:aC)(pc:Nat):Bool:=(gy (bH m pc) pc).any fun x=>x.1 == (m.code.length:Int)
def jy (p:List aj)(m:aC)(pc:Nat)(s:aH):Option aH:=(aY p m (bH m pc) s).bind fun s'=>if uH m pc then none else some s'
def okS (s:aH):Prop:=s.loc.length=8∧s.stk.length≤8
theorem OX {c:Int}{m:aC}(h:m.args.length≤7):okS (dO c m):=by
 refine⟨?_,by simp [dO]⟩;simp [dO];omega
end Go.Proofs.YtiiokkllmchohaaGreat
