/- Rows of structs, cell by cell; what is read in a part of memory alone. -/
import Derived.Test.YtiiokkllmchohaaGreatT01
set_option maxHeartbeats 0
set_option maxRecDepth 99999
namespace Go.Proofs.YtiiokkllmchohaaGreat
open Go.Value renaming int->J,slice->O,pointer->zP,bool->zB
open Go.IntKind renaming i64->I
open Option renaming none->U,some->M
open Bool renaming true->K,false->F
open Go.Ending renaming returned->zR
open Go.Obj renaming cells->zC
open Go.RowKit
def sel (S:Nat->Prop) [DecidablePred S] (w:World):Addr->Option Value:=λa=>if S a.block then w.cell? a else U
theorem pI {S:Nat->Prop} [DecidablePred S] {w:World}{a:Addr}(b:S a.block):sel S w a=w.cell? a:=by unfold sel;rw[am b]
theorem iw {S:Nat->Prop} [DecidablePred S] {w:World}{b:Addr}{v:Value}(a:sel S w b=M v):S b.block/\w.cell? b=M v:=by
 unfold sel at a
 by_cases e:S b.block
 .rw [am e]at a;exact⟨e,a⟩
 .rw [af e]at a;cases a
theorem fW {S S' T:Nat->Prop} [DecidablePred S] [DecidablePred S'] {w d:World}(i:ee T w d)(f:∀a,a<w.heap.size->S a->¬T a/\S' a):fN (sel S w) (sel S' d):=λj v e=>by
 obtain⟨h,b⟩:=iw e;obtain⟨a,d⟩:=f _ (Oo b) h;rw[pI d];exact i.cell b a
theorem iR {S:Nat->Prop} [DecidablePred S] {w:World} :fN (sel S w) w.cell? :=λ_ _ e=>(iw e).2
theorem AK {S T:Nat->Prop} [DecidablePred S] {w b:World}(f:ee T w b)(d:∀a,a<w.heap.size->¬T a/\S a):fN w.cell? (sel S b):=λh v e=>by
 obtain⟨a,b⟩:=d _ (Oo e);rw[pI b];exact f.cell e a
def lA {α :Type}(sz:Nat)(C: α->List Value->Prop)(cs:Oj)(l:List α):Prop:=
 cs.length=l.length*sz/\∀(j:Nat) (x: α),l[j]? =M x->C x ((cs.drop (j*sz)).take sz)
section
variable {α : Type} {sz : Nat} {C C' : α -> List Value -> Prop} {cs : List Value} {l : List α}
theorem lA.nil:lA sz C [] []:=⟨by simp,λb d a=>by simp at a⟩
theorem lA.mono (a:lA sz C cs l)(f:∀x c,C x c->C' x c):lA sz C' cs l:=⟨a.1,λd x b=>f _ _ (a.2 d x b)⟩
theorem lA.snoc(d:lA sz C cs l){x c}(h:C x c)(j:c.length=sz):lA sz C (cs++c) (l++ [x]):=by
 refine⟨by rw[aw,aw,d.1,j,Nat.add_mul];simp,λb k a=>?_⟩
 rcases bt b l.length with f | i
 .rw [aL f]at a;have j:b*sz+sz<=cs.length:=by rw[d.1,<-cq];exact bP _ f
  rw[bW (by omega),cI (by rw[cv];omega)];exact d.2 b k a
 .rw [aP i]at a
  have f:b-l.length=0:=by
   have:=(ag.1 a).1;simp at this;omega
  obtain rfl:b=l.length:=by omega
  rw[co]at a;simp at a;subst a;rw[<-d.1,bW (ai _),List.drop_length,bN,aH (by omega)];exact h
theorem Aj{b a}(d:a<sz):cs[b*sz+a]? =((cs.drop (b*sz)).take sz)[a]? :=by
 rw[bj,am d,cS]
end
theorem xm{α sz d}{w:World}{B e v l cs}(h:w.ownsRow B e sz v l.length cs)(o:∀g,v.ownBlock=M g->B<=g->(∀a,a<l.length*sz->w.cell? ⟨g,a,U⟩=cs[a]?)->∀(a:Nat) (x: α),l[a]? =M x->d x g (a*sz)):eG sz d v l:=by
 rcases h.2 with ⟨rfl,i⟩ | ⟨g,f,d,rfl,j,k,m,d,d,n⟩
 .obtain rfl:l= []:=aV i;exact⟨U,0,0,0,rfl,ai _,⟨λe=>absurd rfl e,.inl ⟨rfl,rfl⟩⟩,λa x b=>by simp at b⟩
 .refine⟨M ⟨g,0,U⟩,g,0,f,rfl,m,⟨λ_=>rfl,.inr (.inl rfl)⟩,λa x b=>?_⟩;rw[bJ];refine o g rfl j (λa b=>?_) a x b;rw[<-n,bj,am b];unfold World.cell?;simp only[k];simp
theorem Lk{w:World}{B e sz j v cs}(f:w.ownsRow B e sz v j cs){g}(i:v.ownBlock=M g)(a b):(w.setCell ⟨g,a,U⟩ b).ownsRow B e sz v j (cs.set a b):=by
 refine⟨by rw[aO];exact f.1,?_⟩
 rcases f.2 with ⟨rfl,f⟩ | ⟨g',k,d,rfl,m,n,o,p,q,r⟩
 .cases i
 .cases i
  have s:ed w g' e d.toList:=by unfold ed;simpa using n
  have h:=s.setCell a b;unfold ed at h;refine .inr ⟨g',k,(d.toList.set a b).toArray,rfl,m,h,o,p,by simpa using q,?_⟩;rw[<-r];simp[List.take_set]
theorem rt {S:Nat->Prop} [DecidablePred S] {w:World}{B:Nat}{e:TypeId}{v:Value}{l:Ok}(a:w.ownsRow B e 1 v l.length (l.map (J .i64)))(b:∀g,v.ownBlock=M g->S g):eG 1 (gy (sel S w)) v l:=
 xm a λg f _ d h i a=>by
  unfold gy;rw[pI (b g f),cE,d h (by rw[cE];exact(ag.1 a).1),aU,a];rfl
def sS (g:Addr->Option Value)(x:fT)(c:Oj):Prop:=∃vl vs,c= [J I x.pc,vl,vs]/\eG 1 (gy g) vl x.locals/\eG 1 (gy g) vs x.stack
def pW (g:Addr->Option Value)(x:eh)(c:Oj):Prop:=∃va vc vf,c= [J I x.slot,va,J I x.ret,J I x.locals,J I x.stack,vc,vf]/\fK g x va vc vf
def pR (g:Addr->Option Value)(x:eb)(c:Oj):Prop:=∃vf vm,c= [J I x.sup,vf,vm]/\eG 1 (gy g) vf x.fields/\eG 7 (mT g) vm x.ek
section
variable {g g' : Addr -> Option Value} {c : List Value}
theorem sS.keep(a:fN g g'){x}(h:sS g x c):sS g' x c:=by
 obtain⟨i,j,b,d,f⟩:=h;exact⟨i,j,b,fu a d,fu a f⟩
theorem pW.keep(a:fN g g'){x}(f:pW g x c):pW g' x c:=by
 obtain⟨h,i,j,b,d⟩:=f;exact⟨h,i,j,b,Ot a d⟩
theorem pR.keep(a:fN g g'){x}(h:pR g x c):pR g' x c:=by
 obtain⟨i,j,b,d,f⟩:=h;exact⟨i,j,b,fu a d,pC a f⟩
end
section
variable {S : Nat -> Prop} [DecidablePred S] {w : World} {B : Nat} {e : TypeId} {v : Value} {cs : List Value}
theorem Lh {l:List fT}(a:w.ownsRow B e 3 v l.length cs)(q:lA 3 (sS (sel S w)) cs l)(n:∀g,v.ownBlock=M g->S g):eG 3 (pk (sel S w)) v l:=
 xm a λg p _ o d i b=>by
  have:=(ag.1 b).1;obtain⟨f,h,m,j,k⟩:=q.2 d i b
  have a:∀a,a<3->sel S w ⟨g,d*3+a,U⟩= [J .i64 i.pc,f,h][a]? :=λa f=>by
   rw[pI (n g p),o _ (by omega),Aj f,m]
  exact⟨f,h,a 0 (by omega),a 1 (by omega),a 2 (by omega),j,k⟩
theorem Li {l:List eh}(a:w.ownsRow B e 7 v l.length cs)(q:lA 7 (pW (sel S w)) cs l)(n:∀g,v.ownBlock=M g->S g):eG 7 (mT (sel S w)) v l:=
 xm a λg p _ o f b d=>by
  have:=(ag.1 d).1;obtain⟨h,i,j,m,k⟩:=q.2 f b d
  have a:∀a,a<7->sel S w ⟨g,f*7+a,U⟩= [J .i64 b.slot,h,J I b.ret,J I b.locals,J I b.stack,i,j][a]? :=λa h=>by
   rw[pI (n g p),o _ (by omega),Aj h,m]
  exact⟨h,i,j,k,a 0 (by omega),a 1 (by omega),a 2 (by omega),a 3 (by omega),a 4 (by omega),a 5 (by omega),a 6 (by omega)⟩
theorem Lg {l:On}(a:w.ownsRow B e 3 v l.length cs)(q:lA 3 (pR (sel S w)) cs l)(n:∀g,v.ownBlock=M g->S g):eG 3 (lw (sel S w)) v l:=
 xm a λg p _ o d i b=>by
  have:=(ag.1 b).1;obtain⟨f,h,m,j,k⟩:=q.2 d i b
  have a:∀a,a<3->sel S w ⟨g,d*3+a,U⟩= [J .i64 i.sup,f,h][a]? :=λa f=>by
   rw[pI (n g p),o _ (by omega),Aj f,m]
  exact⟨f,h,a 0 (by omega),a 1 (by omega),a 2 (by omega),j,k⟩
end
theorem pL{α sz a v}{l:List α}(b:eG sz a v l):v.oneCell'=K:=by
 obtain⟨a,a,a,a,rfl,_⟩:=b
 rfl
end Go.Proofs.YtiiokkllmchohaaGreat
