/- Rows of structs, cell by cell; what is read in a part of memory alone. -/
import Derived.Test.YtiiokkllmchohaaGreatT01
set_option maxHeartbeats 4000000
set_option maxRecDepth 100000
namespace Go.Proofs.YtiiokkllmchohaaGreat
open Go.RowKit
def sel (S:Nat→Prop) [DecidablePred S] (w:World):Addr→Option Value:=fun a=>if S a.block then w.cell? a else none
theorem Bd {S:Nat→Prop} [DecidablePred S] {w:World}{a:Addr}(h:S a.block):sel S w a=w.cell? a:=by unfold sel;rw [if_pos h]
theorem DW {S:Nat→Prop} [DecidablePred S] {w:World}{a:Addr}{v:Value}(h:sel S w a=some v):S a.block∧w.cell? a=some v:=by
 unfold sel at h
 by_cases e:S a.block
 ·rw [if_pos e] at h;exact⟨e,h⟩
 ·rw [if_neg e] at h;cases h
theorem dR {S S' T:Nat→Prop} [DecidablePred S] [DecidablePred S'] {w w':World}(hm:ay T w w')(h:∀k,k<w.heap.size→S k→¬T k∧S' k):dM (sel S w) (sel S' w'):=fun p v e=>by
 obtain⟨h1,h2⟩:=DW e;obtain⟨h3,h4⟩:=h _ (cell_lt h2) h1;rw [Bd h4];exact hm.cell h2 h3
theorem jk {S:Nat→Prop} [DecidablePred S] {w:World} :dM (sel S w) w.cell? :=fun _ _ e=>(DW e).2
theorem akr {S T:Nat→Prop} [DecidablePred S] {w w':World}(hm:ay T w w')(h:∀k,k<w.heap.size→¬T k∧S k):dM w.cell? (sel S w'):=fun p v e=>by
 obtain⟨h3,h4⟩:=h _ (cell_lt e);rw [Bd h4];exact hm.cell e h3

def iU {α :Type}(sz:Nat)(C: α→List Value→Prop)(cs:List Value)(l:List α):Prop:=
 cs.length=l.length*sz∧∀(j:Nat) (x: α),l[j]? =some x→C x ((cs.drop (j*sz)).take sz)
section
variable {α : Type} {sz : Nat} {C C' : α → List Value → Prop} {cs : List Value} {l : List α}
theorem iU.nil:iU sz C [] []:=⟨by simp,fun j x h=>by simp at h⟩
theorem iU.mono (h:iU sz C cs l)(k:∀x c,C x c→C' x c):iU sz C' cs l:=⟨h.1,fun j x hj=>k _ _ (h.2 j x hj)⟩
theorem iU.snoc (h:iU sz C cs l){x: α}{c:List Value}(hc:C x c)(hl:c.length=sz):iU sz C (cs++c) (l++ [x]):=by
 refine⟨by rw [List.length_append,List.length_append,h.1,hl,Nat.add_mul];simp,fun j y hj=>?_⟩
 rcases Nat.lt_or_ge j l.length with hlt | hge
 ·rw [List.getElem?_append_left hlt] at hj;have h1:j*sz+sz≤cs.length:=by rw [h.1,←Nat.succ_mul];exact Nat.mul_le_mul_right _ hlt
  rw [List.drop_append_of_le_length (by omega),List.take_append_of_le_length (by rw [List.length_drop];omega)];exact h.2 j y hj
 ·rw [List.getElem?_append_right hge] at hj
  have hj0:j-l.length=0:=by
   have:=(List.getElem?_eq_some_iff.1 hj).1;simp at this;omega
  obtain rfl:j=l.length:=by omega
  rw [Nat.sub_self] at hj;simp at hj;subst hj;rw [←h.1,List.drop_append_of_le_length (Nat.le_refl _),List.drop_length,List.nil_append,List.take_of_length_le (by omega)];exact hc
theorem iU.cons (h:iU sz C cs l){x: α}{c:List Value}(hc:C x c)(hl:c.length=sz):iU sz C (c++cs) (x::l):=by
 refine⟨by rw [List.length_append,List.length_cons,h.1,hl,Nat.succ_mul,Nat.add_comm],fun j y hj=>?_⟩
 cases j with
 | zero =>
  rw [List.getElem?_cons_zero] at hj
  cases hj
  rw [Nat.zero_mul,List.drop_zero,List.take_append_of_le_length (by omega),List.take_of_length_le (by omega)];exact hc
 | succ j =>
  rw [List.getElem?_cons_succ] at hj
  have e:(c++cs).drop ((j+1)*sz)=cs.drop (j*sz):=by
   rw [Nat.succ_mul,Nat.add_comm,←List.drop_drop,←hl,List.drop_left]
  rw [e];exact h.2 j y hj
theorem DV {j i:Nat}(hi:i<sz):cs[j*sz+i]? =((cs.drop (j*sz)).take sz)[i]? :=by
 rw [List.getElem?_take,if_pos hi,List.getElem?_drop]
end
theorem IC {α :Type}{sz:Nat}{R: α→Nat→Nat→Prop}{w:World}{B:Nat}{e:TypeId}{v:Value}{l:List α}{cs:List Value}(h:w.ownsRow B e sz v l.length cs)
  (hR:∀g,v.ownBlock=some g→B≤g→(∀j,j<l.length*sz→w.cell? ⟨g,j,none⟩=cs[j]?)→∀(j:Nat) (x: α),l[j]? =some x→R x g (j*sz)):aV sz R v l:=by
 rcases h.2 with ⟨rfl,h0⟩ | ⟨g,cap,cur,rfl,h2,h3,h4,h5,h6,h7⟩
 ·obtain rfl:l= []:=List.eq_nil_of_length_eq_zero h0;exact⟨none,0,0,0,rfl,Nat.le_refl _,⟨fun e=>absurd rfl e,.inl ⟨rfl,rfl⟩⟩,fun j x hj=>by simp at hj⟩
 ·refine⟨some ⟨g,0,none⟩,g,0,cap,rfl,h4,⟨fun _=>rfl,.inr (.inl rfl)⟩,fun j x hj=>?_⟩;rw [Nat.zero_add];refine hR g rfl h2 (fun j hj=>?_) j x hj;rw [←h7,List.getElem?_take,if_pos hj];unfold World.cell?;simp only [h3];simp
theorem abE {w:World}{B:Nat}{e:TypeId}{sz n:Nat}{v:Value}{cs:List Value}(h:w.ownsRow B e sz v n cs){g:Nat}(hg:v.ownBlock=some g)(i:Nat)(u:Value):(w.setCell ⟨g,i,none⟩ u).ownsRow B e sz v n (cs.set i u):=by
 refine⟨by rw [List.length_set];exact h.1,?_⟩
 rcases h.2 with ⟨rfl,h0⟩ | ⟨g',cap,cur,rfl,h2,h3,h4,h5,h6,h7⟩
 ·cases hg
 ·cases hg
  have hb:ak w g' e cur.toList:=by unfold ak;simpa using h3
  have hb2:=hb.setCell i u;unfold ak at hb2;refine .inr ⟨g',cap,(cur.toList.set i u).toArray,rfl,h2,hb2,h4,h5,by simpa using h6,?_⟩;rw [←h7];simp [List.take_set]
theorem acs {α :Type}{sz:Nat}{R: α→Nat→Nat→Prop}{C: α→List Value→Prop}{w:World}{v:Value}{l:List α}(h:aV sz R v l)
  (hR:∀x b o,R x b o→∃c,c.length=sz∧C x c∧(∀u∈c,u.oneCell'=true)∧∀i u,c[i]? =some u→w.cell? ⟨b,o+i,none⟩=some u) :
  ∃a cap news,v= .slice a l.length cap∧(a=none→l.length=0∧cap=0)∧news.length=l.length*sz∧iU sz C news l∧(∀ad,a=some ad→∀j u,news[j]? =some u→w.cell? (ad.add j)=some u)∧∀u∈news,u.oneCell'=true:=by
 obtain⟨a,b,off,cap,h1,h2,h3,h4⟩:=h
 have key:∀(l:List α) (off:Nat),(∀(j:Nat) (x: α),l[j]? =some x→R x b (off+j*sz))→∃news,iU sz C news l∧(∀j u,news[j]? =some u→w.cell? ⟨b,off+j,none⟩=some u)∧∀u∈news,u.oneCell'=true:=by
  intro l
  induction l with
  | nil => exact fun _ _ => ⟨[], iU.nil, fun j u e => by simp at e, fun u hu => by simp at hu⟩
  | cons x l ih =>
   intro off hh;obtain⟨c,c1,c2,c3,c4⟩:=hR x b off (by have:=hh 0 x rfl;rwa [Nat.zero_mul,Nat.add_zero] at this)
   obtain⟨ns,n1,n2,n3⟩:=ih (off+sz) (fun j y hj=>by
    have:=hh (j+1) y hj
    rwa [Nat.succ_mul,Nat.add_comm (j*sz),←Nat.add_assoc] at this)
   refine⟨c++ns,n1.cons c2 c1,fun j u e=>?_,fun u hu=>?_⟩
   ·rcases Nat.lt_or_ge j c.length with hlt | hge
    ·rw [List.getElem?_append_left hlt] at e;exact c4 j u e
    ·rw [List.getElem?_append_right hge] at e;have:=n2 _ u e
     rwa [show off+sz+(j-c.length)=off+j by omega] at this
   ·rcases List.mem_append.1 hu with hu | hu
    ·exact c3 u hu
    ·exact n3 u hu
 obtain⟨ns,n1,n2,n3⟩:=key l off h4;refine⟨a,cap,ns,h1,fun e=>?_,n1.1,n1,fun ad e j u hu=>?_,n3⟩
 ·rcases h3.2 with ⟨_,hc⟩ | hc | ⟨_,hc⟩
  ·exact⟨by rw [Classical.byContradiction fun hn:¬l= []=>(by have:=h3.1 hn;rw [e] at this;cases this)];rfl,hc⟩
  ·rw [e] at hc;cases hc
  ·exact absurd e hc
 ·rcases h3.2 with ⟨hc,_⟩ | hc | ⟨hc,_⟩
  ·rw [e] at hc;cases hc
  ·rw [e] at hc;cases hc;rw [show (⟨b,off,none⟩:Addr).add j=⟨b,off+j,none⟩ by unfold Addr.add;split <;> simp_all];exact n2 j u hu
  ·subst hc;obtain rfl:ns= []:=List.eq_nil_of_length_eq_zero (by simpa using n1.1);simp at hu
theorem rQ {S:Nat→Prop} [DecidablePred S] {w:World}{B:Nat}{e:TypeId}{v:Value}{l:List Int}(h:w.ownsRow B e 1 v l.length (l.map (Value.int .i64)))(hS:∀g,v.ownBlock=some g→S g):aV 1 (fE (sel S w)) v l:=
 IC h fun g hg _ hc j x hj=>by
  unfold fE;rw [Bd (hS g hg),Nat.mul_one,hc j (by rw [Nat.mul_one];exact (List.getElem?_eq_some_iff.1 hj).1),List.getElem?_map,hj];rfl
def Ri (x:eF)(c:List Value):Prop:=c= [.int .i64 x.op,.int .i64 x.a,.int .i64 x.b]
def yx (g:Addr→Option Value)(x:bF)(c:List Value):Prop:=∃vl vs,c= [.int .i64 x.pc,vl,vs]∧aV 1 (fE g) vl x.locals∧aV 1 (fE g) vs x.stack
def qK (g:Addr→Option Value)(x:aC)(c:List Value):Prop:=∃va vc vf,c= [.int .i64 x.slot,va,.int .i64 x.ret,.int .i64 x.locals,.int .i64 x.stack,vc,vf]∧bV g x va vc vf
def tY (g:Addr→Option Value)(x:aj)(c:List Value):Prop:=∃vf vm,c= [.int .i64 x.sup,vf,vm]∧aV 1 (fE g) vf x.fields∧aV 7 (o8 g) vm x.aB
section
variable {g g' : Addr → Option Value} {c : List Value}
theorem yx.keep (h:dM g g'){x:bF}(r:yx g x c):yx g' x c:=by
 obtain⟨vl,vs,h1,h2,h3⟩:=r;exact⟨vl,vs,h1,dA h h2,dA h h3⟩
theorem qK.keep (h:dM g g'){x:aC}(r:qK g x c):qK g' x c:=by
 obtain⟨va,vc,vf,h1,h2⟩:=r;exact⟨va,vc,vf,h1,bV.keep h h2⟩
theorem tY.keep (h:dM g g'){x:aj}(r:tY g x c):tY g' x c:=by
 obtain⟨vf,vm,h1,h2,h3⟩:=r;exact⟨vf,vm,h1,dA h h2,sW h h3⟩
end
section
variable {S : Nat → Prop} [DecidablePred S] {w : World} {B : Nat} {e : TypeId} {v : Value} {cs : List Value}
theorem ait {l:List eF}(h:w.ownsRow B e 3 v l.length cs)(r:iU 3 Ri cs l)(hS:∀g,v.ownBlock=some g→S g):aV 3 (vw (sel S w)) v l:=
 IC h fun g hg _ hc j x hj=>by
  have hl:=(List.getElem?_eq_some_iff.1 hj).1;have hC:=r.2 j x hj;unfold Ri at hC
  have key:∀i,i<3→sel S w ⟨g,j*3+i,none⟩= [Value.int .i64 x.op,.int .i64 x.a,.int .i64 x.b][i]? :=fun i hi=>by
   rw [Bd (hS g hg),hc _ (by omega),DV hi,hC]
  exact⟨key 0 (by omega),key 1 (by omega),key 2 (by omega)⟩
theorem abC {l:List bF}(h:w.ownsRow B e 3 v l.length cs)(r:iU 3 (yx (sel S w)) cs l)(hS:∀g,v.ownBlock=some g→S g):aV 3 (vk (sel S w)) v l:=
 IC h fun g hg _ hc j x hj=>by
  have hl:=(List.getElem?_eq_some_iff.1 hj).1;obtain⟨vl,vs,hC,h1,h2⟩:=r.2 j x hj
  have key:∀i,i<3→sel S w ⟨g,j*3+i,none⟩= [Value.int .i64 x.pc,vl,vs][i]? :=fun i hi=>by
   rw [Bd (hS g hg),hc _ (by omega),DV hi,hC]
  exact⟨vl,vs,key 0 (by omega),key 1 (by omega),key 2 (by omega),h1,h2⟩
theorem abD {l:List aC}(h:w.ownsRow B e 7 v l.length cs)(r:iU 7 (qK (sel S w)) cs l)(hS:∀g,v.ownBlock=some g→S g):aV 7 (o8 (sel S w)) v l:=
 IC h fun g hg _ hc j x hj=>by
  have hl:=(List.getElem?_eq_some_iff.1 hj).1;obtain⟨va,vc,vf,hC,h1⟩:=r.2 j x hj
  have key:∀i,i<7→sel S w ⟨g,j*7+i,none⟩= [Value.int .i64 x.slot,va,.int .i64 x.ret,.int .i64 x.locals,.int .i64 x.stack,vc,vf][i]? :=fun i hi=>by
   rw [Bd (hS g hg),hc _ (by omega),DV hi,hC]
  exact⟨va,vc,vf,h1,key 0 (by omega),key 1 (by omega),key 2 (by omega),key 3 (by omega),key 4 (by omega),key 5 (by omega),key 6 (by omega)⟩
theorem abB {l:List aj}(h:w.ownsRow B e 3 v l.length cs)(r:iU 3 (tY (sel S w)) cs l)(hS:∀g,v.ownBlock=some g→S g):aV 3 (lU (sel S w)) v l:=
 IC h fun g hg _ hc j x hj=>by
  have hl:=(List.getElem?_eq_some_iff.1 hj).1;obtain⟨vf,vm,hC,h1,h2⟩:=r.2 j x hj
  have key:∀i,i<3→sel S w ⟨g,j*3+i,none⟩= [Value.int .i64 x.sup,vf,vm][i]? :=fun i hi=>by
   rw [Bd (hS g hg),hc _ (by omega),DV hi,hC]
  exact⟨vf,vm,key 0 (by omega),key 1 (by omega),key 2 (by omega),h1,h2⟩
end
theorem wE {α :Type}{sz:Nat}{R: α→Nat→Nat→Prop}{v:Value}{l:List α}(h:aV sz R v l):v.oneCell'=true:=by
 obtain⟨a,b,off,cap,rfl,_⟩:=h
 rfl
theorem ahs {w:World}{v:Value}{l:List eF}(h:aV 3 (zO w) v l) :
  ∃a cap news,v= .slice a l.length cap∧(a=none→l.length=0∧cap=0)∧news.length=l.length*3∧iU 3 Ri news l∧(∀ad,a=some ad→∀j u,news[j]? =some u→w.cell? (ad.add j)=some u)∧∀u∈news,u.oneCell'=true:=
 acs h fun x b o r=>by
  obtain⟨h1,h2,h3⟩:=r;refine⟨_,rfl,rfl,fun u hu=>?_,fun i u e=>?_⟩
  ·simp only [List.mem_cons,List.not_mem_nil,or_false] at hu
   rcases hu with rfl | rfl | rfl <;> rfl
  ·match i,e with
   | 0, e => cases e; exact h1
   | 1, e => cases e; exact h2
   | 2, e => cases e; exact h3
   | i + 3, e => simp at e
theorem ahZ {w:World}{v:Value}{l:List aC}(h:aV 7 (Ey w) v l) :
  ∃a cap news,v= .slice a l.length cap∧(a=none→l.length=0∧cap=0)∧news.length=l.length*7∧iU 7 (qK w.cell?) news l∧(∀ad,a=some ad→∀j u,news[j]? =some u→w.cell? (ad.add j)=some u)∧∀u∈news,u.oneCell'=true:=
 acs h fun x b o r=>by
  obtain⟨va,vc,vf,hv,h0,h1,h2,h3,h4,h5,h6⟩:=r;refine⟨_,rfl,⟨va,vc,vf,rfl,hv⟩,fun u hu=>?_,fun i u e=>?_⟩
  ·simp only [List.mem_cons,List.not_mem_nil,or_false] at hu;have v1:=wE hv.1;have v2:=wE hv.2.1;have v3:=wE hv.2.2
   rcases hu with rfl | rfl | rfl | rfl | rfl | rfl | rfl <;> first | rfl | assumption
  ·match i,e with
   | 0, e => cases e; exact h0
   | 1, e => cases e; exact h1
   | 2, e => cases e; exact h2
   | 3, e => cases e; exact h3
   | 4, e => cases e; exact h4
   | 5, e => cases e; exact h5
   | 6, e => cases e; exact h6
   | i + 7, e => simp at e
end Go.Proofs.YtiiokkllmchohaaGreat
