/- The arguments of a law, read as data, as plain programs. -/
import Derived.Test.YtiiokkllmchohaaGreatRows
import Derived.ProofKit
import Derived.OpenShut
import Derived.JoinedCond
import Derived.ChangeArms
import Derived.Carry
import Derived.ChangeMaps5
import Derived.Test.YtiiokkllmchohaaGreatT01
set_option maxHeartbeats 4000000
set_option maxRecDepth 100000
namespace Go.Proofs.YtiiokkllmchohaaGreat
open Go.RowKit
theorem cell_spot {w:World}{a:Addr}{v:Value}(h:w.cell? a=some v):a=⟨a.block,a.off,none⟩:=by
 obtain⟨b,off,sp⟩:=a;unfold World.cell? at h
 cases sp with
 | none => rfl
 | some k =>
  simp only at h
  split at h
  ·simp at h
  ·cases h
theorem ad1 {H:Type}(d:DataW H):1≤Rows.uptoBulk d:=by
 cases d with
 | lit l => cases l <;> simp [Rows.uptoBulk]
 | nil => simp [Rows.uptoBulk]
 | ptr d => simp [Rows.uptoBulk]
 | slice elems spare => simp [Rows.uptoBulk]
 | agg parts => simp [Rows.uptoBulk]
 | iface t d => simp [Rows.uptoBulk]
 | map entries => simp [Rows.uptoBulk]
 | held h => simp [Rows.uptoBulk]
theorem J4 {w:World}{b off n:Nat}{cs:List Value}(h:w.cells? 0 ⟨b,off,none⟩ n=some cs):cs.length=n∧∀i,i<n→w.cell? ⟨b,off+i,none⟩=cs[i]? :=by
 obtain⟨_,h1,h2⟩:=World.cells?_some h;refine⟨h1,fun i hi=>?_⟩;rw [←addr_add];exact h2 i hi

theorem ahT {α :Type}{l:List α}(h:l.length=1):∃a,l= [a]:=by
 match l,h with
 | [a], _ => exact ⟨a, rfl⟩
theorem Il {α :Type}{l:List α}(h:l.length=3):∃a b c,l= [a,b,c]:=by
 match l,h with
 | [a, b, c], _ => exact ⟨a, b, c, rfl⟩
theorem abm {α :Type}{l:List α}(h:l.length=7):∃a b c d e f g,l= [a,b,c,d,e,f,g]:=by
 match l,h with
 | [a, b, c, d, e, f, g], _ => exact ⟨a, b, c, d, e, f, g, rfl⟩
theorem Vj {α :Type}(k:Nat):∀l:List α,(l.map fun _=>k).sum=k*l.length
 | [] => by simp
 | _ :: r => by rw [List.map_cons, List.sum_cons, Vj k r, List.length_cons, Nat.mul_succ]; omega

section
variable {H : Type} {enc : TypeId × Value → H} {w : World}
abbrev TR (enc:TypeId×Value→H)(w:World)(fuel:Nat)(t:TypeId)(cs:List Value)(y:DataW H×List MemPlace):Prop:=DataW.trod enc Tryz.prog w 0 (fun _=>true) true fuel t cs=some y
theorem XV {α :Type}{sz b:Nat}(R: α→Nat→Nat→Prop)(Wf: α→Prop)(S: α→Nat):∀(es:List (DataW H×List MemPlace)) (off:Nat),
  (∀ i y, es[i]? = some y → ∃ x, R x b (off + i * sz) ∧ Wf x ∧ S x ≤ Rows.uptoBulk y.1) → ∃ l : List α, l.length = es.length ∧ (∀ j x, l[j]? = some x → R x b (off + j * sz)) ∧ (∀ x ∈ l, Wf x) ∧ (l.map S).sum ≤ Rows.uptoBulkAll (es.map (·.1))
 | [], off, _ => ⟨[], rfl, fun j x h => (by simp at h), fun x h => (by cases h), by simp [Rows.uptoBulkAll]⟩
 | y :: r, off, h => by
  obtain⟨x,h1,h2,h3⟩:=h 0 y rfl
  obtain⟨l,l1,l2,l3,l4⟩:=XV R Wf S r (off+sz) (fun i z hz=>by
   have:=h (i+1) z (by simpa using hz)
   rwa [Nat.succ_mul,show off+(i*sz+sz)=off+sz+i*sz by omega] at this)
  refine⟨x::l,by simp [l1],fun j z hz=>?_,fun z hz=>?_,?_⟩
  ·cases j with
   | zero => simp at hz; subst hz; exact h1
   | succ j =>
    have:=l2 j z (by simpa using hz)
    rwa [Nat.succ_mul,show off+(j*sz+sz)=off+sz+j*sz by omega]
  ·rcases List.mem_cons.1 hz with rfl | hz
   ·exact h2
   ·exact l3 z hz
  ·simp only [List.map_cons,List.sum_cons,Rows.uptoBulkAll];omega
theorem open_list {α :Type}{t e:TypeId}{sz:Nat}(R: α→Nat→Nat→Prop)(Wf: α→Prop)(S: α→Nat)(ht:Tryz.prog.underlying t=some (.slice e))(hc:Tryz.prog.cellsOf e=sz)(hpos:0<sz)
  (hel:∀n b off cs y,w.cells? 0 ⟨b,off,none⟩ sz=some cs→TR enc w n e cs y→∃x,R x b off∧Wf x∧S x≤Rows.uptoBulk y.1) {fuel:Nat} {v:Value} {y:DataW H×List MemPlace} (h:TR enc w fuel t [v] y) :
  ∃l:List α,aV sz R v l∧(∀x∈l,Wf x)∧(l.map S).sum+1≤Rows.uptoBulk y.1:=by
 rcases DataW.trod_slice ht h with ⟨h1,rfl⟩ | ⟨a,len,cap,elems,rest,n,_,h1,rfl,_,hlc,_,hlen,hget,_⟩
 ·obtain rfl:v= .slice none 0 0:=by simpa using h1
  exact⟨[],⟨none,0,0,0,rfl,Nat.le_refl _,⟨fun e=>absurd rfl e,.inl ⟨rfl,rfl⟩⟩,fun j x hj=>by simp at hj⟩,fun x hx=>(by cases hx),by simp [Rows.uptoBulk]⟩
 ·obtain rfl:v= .slice (some a) len cap:=by simpa using h1
  rw [hc] at hget
  rcases Nat.eq_zero_or_pos len with h0 | h0
  ·subst h0;refine⟨[],⟨some a,0,0,cap,rfl,Nat.zero_le _,⟨fun e=>absurd rfl e,.inr (.inr ⟨rfl,fun e=>by cases e⟩)⟩,fun j x hj=>by simp at hj⟩,fun x hx=>(by cases hx),by simp only [List.map_nil,List.sum_nil];exact ad1 _⟩
  ·have ha:a=⟨a.block,a.off,none⟩:=by
    have:=hget 0 h0;rw [Nat.zero_mul] at this
    cases hcs:w.cells? 0 (a.add 0) sz with
    | none =>
     rw [hcs,List.getElem?_eq_getElem (by omega)] at this
     cases this
    | some cs =>
     obtain⟨_,e1,e2⟩:=World.cells?_some hcs;have e3:=e2 0 hpos;rw [show (a.add 0).add 0=a by simp [Addr.add]] at e3;exact cell_spot (e3.trans (List.getElem?_eq_getElem (by omega)))
   obtain⟨b,off,sp⟩:=a;simp only [Addr.mk.injEq,true_and] at ha;subst ha
   obtain⟨l,l1,l2,l3,l4⟩:=XV (b:=b) (sz:=sz) R Wf S elems off (fun i z hz=>by
    have hi:i<len:=by have:=(List.getElem?_eq_some_iff.1 hz).1;omega
    have hg:=hget i hi;rw [hz,addr_add] at hg
    cases hcs:w.cells? 0 ⟨b,off+i*sz,none⟩ sz with
    | none => rw [hcs] at hg; cases hg
    | some cs =>
     rw [hcs] at hg
     exact hel n b (off+i*sz) cs z hcs hg)
   have hll:l.length=len:=by omega
   refine⟨l,⟨some ⟨b,off,none⟩,b,off,cap,by rw [hll],by omega,⟨fun _=>rfl,.inr (.inl rfl)⟩,l2⟩,l3,?_⟩;simp only [Rows.uptoBulk];omega
theorem aed:Tryz.prog.cellsOf 3=1∧Tryz.prog.cellsOf 43=1∧Tryz.prog.cellsOf 40=1∧Tryz.prog.cellsOf 61=1∧Tryz.prog.cellsOf 36=1∧Tryz.prog.cellsOf 64=1∧Tryz.prog.cellsOf 22=1:=
 ⟨by kernel_rfl,by kernel_rfl,by kernel_rfl,by kernel_rfl,by kernel_rfl,by kernel_rfl,by kernel_rfl⟩
theorem J6:Tryz.prog.cellsOf 60=3∧Tryz.prog.cellsOf 42=3∧Tryz.prog.cellsOf 63=7∧Tryz.prog.cellsOf 66=3∧Tryz.prog.cellsOf 24=1:=
 ⟨by kernel_rfl,by kernel_rfl,by kernel_rfl,by kernel_rfl,by kernel_rfl⟩
theorem wf_i64 {n:Int}(h:(Lit.int .i64 n).wf=true):I64 n:=by
 have: -9223372036854775808≤n∧n≤9223372036854775807:=by simpa [Lit.wf,IntKind.min,IntKind.max,IntKind.signed,IntKind.bits] using h
 exact this
theorem A8 {t:TypeId}(ht:Tryz.prog.underlying t=some (.int .i64)){fuel:Nat}{c:Value}{y:DataW H×List MemPlace}(h:TR enc w fuel t [c] y):∃n,c= .int .i64 n∧I64 n∧Rows.uptoBulk y.1=1:=by
 obtain⟨n,h1,rfl,h3⟩:=DataW.trod_int ht h;exact⟨n,by simpa using h1,wf_i64 h3,by simp [Rows.uptoBulk]⟩
theorem OZ {fuel:Nat}{v:Value}{y:DataW H×List MemPlace}(h:TR enc w fuel 40 [v] y):∃l,aV 1 (jL w) v l∧(∀x∈l,I64 x)∧l.length+1≤Rows.uptoBulk y.1:=by
 obtain⟨l,h1,h2,h3⟩:=open_list (enc:=enc) (w:=w) (jL w) I64 (fun _=>1) Tryz.underlying40 aed.2.1 (by decide) (fun n b off cs y hc hy=>by
  obtain⟨c1,c2⟩:=J4 hc;obtain⟨x,e1,e2,e3⟩:=DataW.trod_int Tryz.underlying43 hy;subst e1;refine⟨x,?_,wf_i64 e3,by rw [e2];simp [Rows.uptoBulk]⟩;have:=c2 0 (by omega)
  simpa [fE] using this) h
 exact⟨l,h1,h2,by rw [Vj] at h3;omega⟩
theorem aik {n b off:Nat}{cs:List Value}{y:DataW H×List MemPlace}(hc:w.cells? 0 ⟨b,off,none⟩ 3=some cs)(h:TR enc w n 60 cs y):∃x,zO w x b off∧Jf x∧4≤Rows.uptoBulk y.1:=by
 obtain⟨c1,c2⟩:=J4 hc;obtain⟨xs,m,_,rfl,_,hl,hx⟩:=DataW.trod_struct Tryz.underlying60 h;obtain⟨a0,a1,a2,rfl⟩:=Il c1;obtain⟨y0,y1,y2,rfl⟩:=Il hl;have f0:=hx 0 _ rfl;have f1:=hx 1 _ rfl;have f2:=hx 2 _ rfl;simp only [List.getElem?_cons_zero,List.getElem?_cons_succ] at f0 f1 f2;obtain⟨n0,rfl,w0,b0⟩:=A8 Tryz.underlying3 f0;obtain⟨n1,rfl,w1,b1⟩:=A8 Tryz.underlying3 f1;obtain⟨n2,rfl,w2,b2⟩:=A8 Tryz.underlying3 f2;exact⟨⟨n0,n1,n2⟩,⟨c2 0 (by omega),c2 1 (by omega),c2 2 (by omega)⟩,⟨w0,w1,w2⟩,by simp only [List.map_cons,List.map_nil,Rows.uptoBulk,Rows.uptoBulkAll];omega⟩
theorem aif {fuel:Nat}{v:Value}{y:DataW H×List MemPlace}(h:TR enc w fuel 61 [v] y):∃l,aV 3 (zO w) v l∧(∀x∈l,Jf x)∧4*l.length+1≤Rows.uptoBulk y.1:=by
 obtain⟨l,h1,h2,h3⟩:=open_list (enc:=enc) (w:=w) (zO w) Jf (fun _=>4) Tryz.underlying61 J6.1 (by decide) (fun n b off cs y hc hy=>aik hc hy) h;refine⟨l,h1,h2,?_⟩;rw [Vj] at h3;omega
theorem aii {n b off:Nat}{cs:List Value}{y:DataW H×List MemPlace}(hc:w.cells? 0 ⟨b,off,none⟩ 3=some cs)(h:TR enc w n 42 cs y):∃x,Cb w x b off∧Je x∧iH x≤Rows.uptoBulk y.1:=by
 obtain⟨c1,c2⟩:=J4 hc;obtain⟨xs,m,_,rfl,_,hl,hx⟩:=DataW.trod_struct Tryz.underlying42 h;obtain⟨a0,a1,a2,rfl⟩:=Il c1;obtain⟨y0,y1,y2,rfl⟩:=Il hl;have f0:=hx 0 _ rfl;have f1:=hx 1 _ rfl;have f2:=hx 2 _ rfl;simp only [List.getElem?_cons_zero,List.getElem?_cons_succ] at f0 f1 f2;obtain⟨n0,rfl,w0,b0⟩:=A8 Tryz.underlying3 f0;obtain⟨l1,s1,w1,b1⟩:=OZ f1;obtain⟨l2,s2,w2,b2⟩:=OZ f2;refine⟨⟨n0,l1,l2⟩,⟨a1,a2,c2 0 (by omega),c2 1 (by omega),c2 2 (by omega),s1,s2⟩,⟨w0,w1,w2⟩,?_⟩;unfold iH;simp only [List.map_cons,List.map_nil,Rows.uptoBulk,Rows.uptoBulkAll];omega
theorem aij {fuel:Nat}{v:Value}{y:DataW H×List MemPlace}(h:TR enc w fuel 36 [v] y):∃l,aV 3 (Cb w) v l∧(∀x∈l,Je x)∧(l.map iH).sum+1≤Rows.uptoBulk y.1:=
 open_list (enc := enc) (w := w) (Cb w) Je iH Tryz.underlying36 J6.2.1 (by decide) (fun n b off cs y hc hy => aii hc hy) h
theorem ail {n b off:Nat}{cs:List Value}{y:DataW H×List MemPlace}(hc:w.cells? 0 ⟨b,off,none⟩ 7=some cs)(h:TR enc w n 63 cs y):∃x,Ey w x b off∧zk x∧dN x≤Rows.uptoBulk y.1:=by
 obtain⟨c1,c2⟩:=J4 hc;obtain⟨xs,m,_,rfl,_,hl,hx⟩:=DataW.trod_struct Tryz.underlying63 h;obtain⟨a0,a1,a2,a3,a4,a5,a6,rfl⟩:=abm c1;obtain⟨y0,y1,y2,y3,y4,y5,y6,rfl⟩:=abm hl;have f0:=hx 0 _ rfl;have f1:=hx 1 _ rfl;have f2:=hx 2 _ rfl;have f3:=hx 3 _ rfl;have f4:=hx 4 _ rfl;have f5:=hx 5 _ rfl;have f6:=hx 6 _ rfl;simp only [List.getElem?_cons_zero,List.getElem?_cons_succ] at f0 f1 f2 f3 f4 f5 f6;obtain⟨n0,rfl,w0,b0⟩:=A8 Tryz.underlying3 f0;obtain⟨l1,s1,w1,b1⟩:=OZ f1;obtain⟨n2,rfl,w2,b2⟩:=A8 Tryz.underlying43 f2;obtain⟨n3,rfl,w3,b3⟩:=A8 Tryz.underlying3 f3;obtain⟨n4,rfl,w4,b4⟩:=A8 Tryz.underlying3 f4;obtain⟨l5,s5,w5,b5⟩:=aif f5
 obtain⟨l6,s6,w6,b6⟩:=aij f6;refine⟨⟨n0,l1,n2,n3,n4,l5,l6⟩,⟨a1,a5,a6,⟨s1,s5,s6⟩,c2 0 (by omega),c2 1 (by omega),c2 2 (by omega),c2 3 (by omega),c2 4 (by omega),c2 5 (by omega),c2 6 (by omega)⟩,⟨w0,w1,w2,w3,w4,w5,w6⟩,?_⟩;unfold dN;simp only [List.map_cons,List.map_nil,Rows.uptoBulk,Rows.uptoBulkAll];omega
theorem ain {fuel:Nat}{v:Value}{y:DataW H×List MemPlace}(h:TR enc w fuel 64 [v] y):∃l,aV 7 (Ey w) v l∧(∀x∈l,zk x)∧(l.map dN).sum+1≤Rows.uptoBulk y.1:=
 open_list (enc := enc) (w := w) (Ey w) zk dN Tryz.underlying64 J6.2.2.1 (by decide) (fun n b off cs y hc hy => ail hc hy) h
theorem aie {n b off:Nat}{cs:List Value}{y:DataW H×List MemPlace}(hc:w.cells? 0 ⟨b,off,none⟩ 3=some cs)(h:TR enc w n 66 cs y):∃x,Rn w x b off∧VI x∧gJ x≤Rows.uptoBulk y.1:=by
 obtain⟨c1,c2⟩:=J4 hc;obtain⟨xs,m,_,rfl,_,hl,hx⟩:=DataW.trod_struct Tryz.underlying66 h;obtain⟨a0,a1,a2,rfl⟩:=Il c1;obtain⟨y0,y1,y2,rfl⟩:=Il hl;have f0:=hx 0 _ rfl;have f1:=hx 1 _ rfl;have f2:=hx 2 _ rfl;simp only [List.getElem?_cons_zero,List.getElem?_cons_succ] at f0 f1 f2;obtain⟨n0,rfl,w0,b0⟩:=A8 Tryz.underlying3 f0;obtain⟨l1,s1,w1,b1⟩:=OZ f1;obtain⟨l2,s2,w2,b2⟩:=ain f2;refine⟨⟨n0,l1,l2⟩,⟨a1,a2,c2 0 (by omega),c2 1 (by omega),c2 2 (by omega),s1,s2⟩,⟨w0,w1,w2⟩,?_⟩;unfold gJ;simp only [List.map_cons,List.map_nil,Rows.uptoBulk,Rows.uptoBulkAll];omega
theorem aio {v:Value}{d:DataW H}{ps:List MemPlace}{base:Nat}(hv:Value.okWide Tryz.prog w .any base 24 v)(h:DataW.Trod enc Tryz.prog w 0 (fun _=>true) true 24 v d ps) :
  ∃vp p,v= .agg #[vp]∧aX w vp p∧jq p∧bn p+2≤Rows.uptoBulk d:=by
 unfold Value.okWide at hv;rw [Tryz.underlying24] at hv;obtain⟨cs,rfl,hsz,_⟩:=hv;rw [J6.2.2.2.2] at hsz;obtain⟨fuel,h⟩:=h;obtain⟨xs,m,_,hy,_,hl,hx⟩:=DataW.trod_struct Tryz.underlying24 h
 obtain⟨vp,rfl⟩:∃vp,cs= #[vp]:=by
  match cs,hsz with
  | ⟨[a]⟩, _ => exact ⟨a, rfl⟩
 obtain⟨y0,rfl⟩:=ahT hl;have f0:=hx 0 _ rfl;simp only [List.getElem?_cons_zero] at f0;obtain⟨l,s1,w1,b1⟩:=open_list (enc:=enc) (w:=w) (Rn w) VI gJ Tryz.underlying22 J6.2.2.2.1 (by decide) (fun n b off cs y hc hy=>aie hc hy) f0;refine⟨vp,l,rfl,s1,w1,?_⟩;have e:=congrArg Prod.fst hy;simp only at e;rw [e];unfold bn;simp only [List.map_cons,List.map_nil,Rows.uptoBulk,Rows.uptoBulkAll];omega
end
end Go.Proofs.YtiiokkllmchohaaGreat
namespace Go.Proofs.YtiiokkllmchohaaGreat
open Go.ChangeShapes Go.WideShapes Go.ChangeAt Go.RowKit
section
variable {H : Type} {enc : TypeId × Value → H} {w : World}
end
section
variable {H : Type} {enc : TypeId × Value → H} {P : Program} {w : World} {base : Nat} {spare : Nat → Bool} {held : Bool}
end
theorem ahC:ownKnob Tryz.prog.godebug=none:=by kernel_rfl
theorem Ut:laidOutB Tryz.prog=true:=by kernel_rfl
end Go.Proofs.YtiiokkllmchohaaGreat
