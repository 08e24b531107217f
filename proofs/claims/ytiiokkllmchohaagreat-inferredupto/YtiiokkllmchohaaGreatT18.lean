/- Structs and arrays that are loaded from and stored into blocks that are known whole. -/
import Derived.Laws.Rows
import Derived.OrdersHeld
import Derived.Test.YtiiokkllmchohaaGreatT01
set_option maxHeartbeats 4000000
set_option maxRecDepth 100000
namespace Go.Proofs.YtiiokkllmchohaaGreat
open Go.RowKit
def ni (P : Program) (ty : TypeId) (n : Nat) : Prop := (P.underlying ty).map (fun d => match d with | .struct _ | .array _ _ => true | _ => false) = some true ∧ (P.info? ty).map (·.size) = some n
theorem ajJ {P:Program}{ty:TypeId}{n:Nat}(h:ni P ty n)(w:World):(isAgg ty).run P w= .ok true w:=by
 obtain⟨h1,_⟩:=h
 cases hu:P.underlying ty with
 | none => rw [hu] at h1; cases h1
 | some d =>
  rw [hu] at h1;unfold isAgg;rw [Sem.run_bind,run_underlying hu w]
  cases d <;> simp_all
theorem run_sizeOf {P:Program}{ty:TypeId}{n:Nat}(h:ni P ty n)(w:World):(sizeOf ty).run P w= .ok n w:=by
 obtain⟨_,h2⟩:=h
 cases hi:P.info? ty with
 | none => rw [hi] at h2; cases h2
 | some i =>
  rw [hi] at h2;simp only [Option.map_some,Option.some.injEq] at h2;simp [sizeOf,typeInfo,hi,h2]
theorem Va {P:Program}{ty:TypeId}{n:Nat}(h:ni P ty n){w:World}{g:Nat}{t:TypeId}{cur:List Value}(hB:ak w g t cur)(off:Nat)(vs:List Value)(hl:vs.length=n)(hv:∀j v,vs[j]? =some v→cur[off+j]? =some v) :
  (loadVar ty ⟨g,off,none⟩).run P w= .ok (.agg vs.toArray) w:=by
 have:=run_loadCells_list (P:=P) w ⟨g,off,none⟩ vs (fun j v e=>by
  rw [show (⟨g,off,none⟩:Addr).add j=⟨g,off+j,none⟩ by unfold Addr.add;split <;> simp_all,hB.cell]
  exact hv j v e)
 rw [hl] at this;simp [loadVar,Sem.run_bind,ajJ h,run_sizeOf h,this]
theorem qQ {P:Program}{ty:TypeId}{n:Nat}(h:ni P ty n){w:World}{g:Nat}{t:TypeId}{cur:List Value}(hB:ak w g t cur)(off:Nat)(vs:List Value)(hl:vs.length=n)(hv:∀j v,vs[j]? =some v→cur[off+j]? =some v)
  {o:Oper} {ρ :Operand→Value} {x:Operand} (ho:o.op= .load ty x) (hx: ρ x= .pointer (some ⟨g,off,none⟩)):(execOp ρ o).run P w= .ok (.value (.agg vs.toArray)) w:=by
 unfold execOp;simp only [ho,hx,Instr.loadAt,Instr.sureAddr,Sem.run_bind,Sem.run_pure,Result.andThen_ok,Va h hB off vs hl hv]
theorem yj {P:Program}{ty:TypeId}{n:Nat}(h:ni P ty n){w:World}{g:Nat}{t:TypeId}{cur:List Value}(hB:ak w g t cur)(off:Nat)(vs:List Value)(hl:vs.length=n)(hv:∀j v,vs[j]? =some v→cur[off+j]? =some v)
  {ops:Array Oper} {rest:List Oper} {o:Oper} {a:Act} {Q:Exit→Act→World→Prop} (x:Operand) (hgd:o.guard=none) (ho:o.op= .load ty x) (hx:a.eval x= .pointer (some ⟨g,off,none⟩))
  (hK:wpList P ops Q rest (a.put o.dst (.agg vs.toArray)) w):wpList P ops Q (o::rest) a w:=by
 refine wpList_plain hgd fun K hK'=>?_;unfold Oper.wp;rw [qQ h hB off vs hl hv ho hx];exact hK' _ _ hK

def putAt (cur:List Value)(off:Nat)(vs:List Value):List Value:=cur.take off++vs++cur.drop (off+vs.length)
theorem aiF {cur vs:List Value}{off:Nat}(h:off+vs.length≤cur.length):(putAt cur off vs).length=cur.length:=by
 simp [putAt];omega
theorem O9 {cur vs:List Value}{off:Nat}(h:off+vs.length≤cur.length)(i:Nat):(putAt cur off vs)[i]? =if i<off then cur[i]? else if i<off+vs.length then vs[i-off]? else cur[i]? :=by
 unfold putAt
 by_cases h1:i<off
 ·rw [if_pos h1,List.append_assoc,List.getElem?_append_left (by simp;omega),List.getElem?_take,if_pos h1]
 ·rw [if_neg h1];have hl:(cur.take off).length=off:=by simp;omega
  by_cases h2:i<off+vs.length
  ·rw [if_pos h2,List.getElem?_append_left (by simp;omega),List.getElem?_append_right (by omega),hl]
  ·rw [if_neg h2,List.getElem?_append_right (by simp;omega),List.getElem?_drop]
   congr 1
   simp;omega
theorem gB {cur vs:List Value}(h:vs.length=cur.length):putAt cur 0 vs=vs:=by
 simp [putAt,h]
theorem ace {P:Program}{ty:TypeId}{n:Nat}(h:ni P ty n){w:World}{g:Nat}{t:TypeId}{cur:List Value}(hB:ak w g t cur)(off:Nat)(vs:List Value)(hl:vs.length=n)(hf:off+n≤cur.length)(h1:∀v∈vs,v.oneCell'=true) :
  (storeVar ty ⟨g,off,none⟩ (.agg vs.toArray)).run P w= .ok () (w.setRow g (putAt cur off vs).toArray):=by
 have:=run_storeCells_at P g off t vs 0 cur.toArray w hB (by simpa [hl] using hf) h1;simp only [Nat.add_zero] at this;simp [storeVar,Sem.run_bind,run_sizeOf h,Value.cells,hl,this,putAt]
theorem acD {w:World}{g:Nat}{t:TypeId}{cur:List Value}(hB:ak w g t cur)(cs:List Value):ak (w.setRow g cs.toArray) g t cs∧ay (fun k=>k=g) w (w.setRow g cs.toArray)∧(w.setRow g cs.toArray).heap.size=w.heap.size:=
 ⟨setRow_heap w g cur.toArray _ t (0,0) hB,⟨rfl,rfl,rfl,by simp [World.setRow],fun k _ hk=>setRow_other w g k _ hk⟩,by simp [World.setRow]⟩
theorem iZ {P:Program}{ty:TypeId}{n:Nat}(h:ni P ty n){w:World}{g:Nat}{t:TypeId}{cur:List Value}(hB:ak w g t cur)(off:Nat)(vs:List Value)(hl:vs.length=n)(hf:off+n≤cur.length)(h1:∀v∈vs,v.oneCell'=true)
  {ops:Array Oper} {rest:List Oper} {o:Oper} {a:Act} {Q:Exit→Act→World→Prop} (x y:Operand) (hgd:o.guard=none) (ho:o.op= .store ty x y) (hx:a.eval x= .pointer (some ⟨g,off,none⟩)) (hy:a.eval y= .agg vs.toArray)
  (hK:∀w',ak w' g t (putAt cur off vs)→ay (fun k=>k=g) w w'→w'.heap.size=w.heap.size→wpList P ops Q rest (a.put o.dst undef) w'):wpList P ops Q (o::rest) a w:=by
 refine wpList_plain hgd fun K hK'=>?_;unfold Oper.wp execOp;simp only [ho,hx,hy,Instr.storeAt,Instr.sureAddr,Sem.run_bind,Sem.run_pure,Result.andThen_ok,ace h hB off vs hl hf h1];obtain⟨h1,h2,h3⟩:=acD hB (putAt cur off vs);exact hK' _ _ (hK _ h1 h2 h3)
end Go.Proofs.YtiiokkllmchohaaGreat
