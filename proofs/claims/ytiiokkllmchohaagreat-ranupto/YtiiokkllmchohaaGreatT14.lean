/- Structs and arrays that are loaded from and stored into blocks that are known whole. -/
import Derived.Laws.Rows
import Derived.OrdersHeld
import Derived.Test.YtiiokkllmchohaaGreatT01
set_option maxHeartbeats 0
set_option maxRecDepth 99999
namespace Go.Proofs.YtiiokkllmchohaaGreat
open Go.Value renaming int->J,slice->O,pointer->zP,bool->zB
open Go.IntKind renaming i64->I
open Option renaming none->U,some->M
open Bool renaming true->K,false->F
open Go.Ending renaming returned->zR
open Go.Obj renaming cells->zC
open Go.RowKit
def jJ (P : Program) (ty : TypeId) (n : Nat) : Prop := (P.underlying ty).map (λd => match d with | .struct _ | .array _ _ => K | _ => F) = M K /\ (P.info? ty).map (·.size) = M n
theorem MK{a d h}(g:jJ a d h)(e):(isAgg d).run a e= .ok K e:=by
 obtain⟨b,_⟩:=g
 cases c:a.underlying d with
 | none => rw[c]at b; cases b
 | some f =>
  rw[c]at b;unfold isAgg;rw[Sem.run_bind,run_underlying c e]
  cases f <;> simp_all
theorem run_sizeOf{b d e}(g:jJ b d e)(f):(sizeOf d).run b f= .ok e f:=by
 obtain⟨_,a⟩:=g
 cases c:b.info? d with
 | none => rw[c]at a; cases a
 | some b =>
  rw[c]at a;simp only[bD,aX]at a;simp[sizeOf,typeInfo,c,a]
theorem Am{g k j}(i:jJ g k j){f b o h}(l:ed f b o h)(c)(e:Oj)(m:e.length=j)(n:∀a d,e[a]? =M d->h[c+a]? =M d):
  (loadVar k ⟨b,c,U⟩).run g f= .ok (.agg e.toArray) f:=by
 have:=run_loadCells_list (P:=g) f ⟨b,c,U⟩ e (λa d e=>by
  rw[show (⟨b,c,U⟩:Addr).add a=⟨b,c+a,U⟩ by unfold Addr.add;split <;> simp_all,l.cell]
  exact n a d e)
 rw[m]at this;simp[loadVar,Sem.run_bind,MK i,run_sizeOf i,this]
theorem wI{d j h}(l:jJ d j h){c f q e}(m:ed c f q e)(b)(a:Oj)(n:a.length=h)(p:∀g k,a[g]? =M k->e[b+g]? =M k){i ρ x}(o:i.op= .load j x)(hx: ρ x=zP (M ⟨f,b,U⟩)):(execOp ρ i).run d c= .ok (.value (.agg a.toArray)) c:=by
 unfold execOp;simp only[o,hx,Instr.loadAt,Instr.sureAddr,Sem.run_bind,Sem.run_pure,Result.andThen_ok,Am l m b a n p]
theorem jv{c m k}(o:jJ c m k){f i w h}(p:ed f i w h)(e)(b:Oj)(t:b.length=k)(v:∀j n,b[j]? =M n->h[e+j]? =M n){l rest a d g}(x)(s:a.guard=U)(u:a.op= .load m x)(hx:d.eval x=zP (M ⟨i,e,U⟩))(q:wpList c l g rest (d.put a.dst (.agg b.toArray)) f):wpList c l g (a::rest) d f:=by
 refine wpList_plain s λa r=>?_;unfold Oper.wp;rw[wI o p e b t v u hx];exact r _ _ q
def OL (cur:Oj)(off:Nat)(vs:Oj):List Value:=cur.take off++vs++cur.drop (off+vs.length)
theorem tV{a c b}(d:b+c.length<=a.length):(OL a b c).length=a.length:=by
 simp[OL];omega
theorem rv{c d a}(e:a+d.length<=c.length)(b):(OL c a d)[b]? =if b<a then c[b]? else if b<a+d.length then d[b-a]? else c[b]? :=by
 unfold OL
 by_cases e:b<a
 .rw [am e,a9,aL (by simp;omega),bj,am e]
 .rw [af e];have f:(c.take a).length=a:=by simp;omega
  by_cases c:b<a+d.length
  .rw [am c,aL (by simp;omega),aP (by omega),f]
  .rw [af c,aP (by simp;omega),cS]
   congr 1
   simp;omega
theorem fw{b a}(c:a.length=b.length):OL b 0 a=a:=by
 simp[OL,c]
theorem Ew{f j g}(k:jJ f j g){e c i b}(m:ed e c i b)(d a)(h:a.length=g)(n:d+g<=b.length)(l:∀o∈a,o.oneCell'=K):
  (storeVar j ⟨c,d,U⟩ (.agg a.toArray)).run f e= .ok () (e.setRow c (OL b d a).toArray):=by
 have:=run_storeCells_at f c d i a 0 b.toArray e m (by simpa[h]using n) l;simp only[bK]at this;simp[storeVar,Sem.run_bind,run_sizeOf k,Value.cells,h,this,OL]
theorem EX{b a e f}(g:ed b a e f)(c):ed (b.setRow a c.toArray) a e c/\ee (λd=>d=a) b (b.setRow a c.toArray)/\(b.setRow a c.toArray).heap.size=b.heap.size:=
 ⟨setRow_heap b a f.toArray _ e (0,0) g,⟨rfl,rfl,rfl,by simp[World.setRow],λd _ c=>setRow_other b a d _ c⟩,by simp[World.setRow]⟩
theorem fJ{i p k}(r:jJ i p k){g e o d}(m:ed g e o d)(b a)(w:a.length=k)(u:b+k<=d.length)(j:∀B∈a,B.oneCell'=K){n rest f c l}(x q)(v:f.guard=U)(y:f.op= .store p x q)(hx:c.eval x=zP (M ⟨e,b,U⟩))(z:c.eval q= .agg a.toArray)(s:∀h,ed h e o (OL d b a)->ee (λA=>A=e) g h->h.heap.size=g.heap.size->wpList i n l rest (c.put f.dst undef) h):wpList i n l (f::rest) c g:=by
 refine wpList_plain v λc t=>?_;unfold Oper.wp execOp;simp only[y,hx,z,Instr.storeAt,Instr.sureAddr,Sem.run_bind,Sem.run_pure,Result.andThen_ok,Ew r m b a w u j];obtain⟨j,c,e⟩:=EX m (OL d b a);exact t _ _ (s _ j c e)
end Go.Proofs.YtiiokkllmchohaaGreat
