/- The law's hands: a list that came out is written full, and kept four times, each time one longer. -/
import Derived.Test.YtiiokkllmchohaaGreatT10
import Derived.Test.YtiiokkllmchohaaGreatT14
set_option maxHeartbeats 4000000
set_option maxRecDepth 100000
namespace Go.Proofs.YtiiokkllmchohaaGreat
open Go.RowKit
theorem afO {p:List Value}{sz:Nat}(h:p.length=sz){k n:Nat}(hk:k≤n):(kT p n).take (k*sz)=kT p k:=by
 induction n with
 | zero => obtain rfl : k = 0 := by omega
           simp [kT]
 | succ n ih =>
  rcases Nat.eq_or_lt_of_le hk with e | e
  ·subst e;rw [List.take_of_length_le (by rw [NS h];exact Nat.le_refl _)]
  ·rw [NT,List.take_append_of_le_length (by rw [NS h];exact Nat.mul_le_mul_right _ (by omega))];exact ih (by omega)

def KS (bh:Nat)(cs:List Value)(lo hi k:Nat):Prop:=k=bh∨(∃f,OwnAt cs f k)∨(lo≤k∧k<hi)
structure Es (i:Nat)(tO:TypeId)(zI:Value)(bI:Nat):Prop where
 lt:i<6
 uO:Tryz.prog.underlying tO=some (.slice (qy i))
 uI:Tryz.prog.underlying (qy i)=some (.slice (rM i))
 iO:∃x,Tryz.prog.info? (qy i)=some x∧x.zero=some (.slice none 0 0)∧x.size=1∧x.bytes=24
 iI:∃x,Tryz.prog.info? (rM i)=some x∧x.zero=some zI∧x.size=jO i∧x.bytes=bI
 zc:zI.cells.size=jO i
 zp:0<jO i
 bb:bI≤104
 pl:∀m,(ig i m).length=jO i
 po:∀m,∀u∈ig i m,u.oneCell'=true
theorem ahn:(Tryz.prog.info? 3).map (fun i=>(i.zero,i.size,i.bytes))=some (some (.int .i64 0),1,8):=by kernel_rfl

structure nV (w wr:World)(bh:Nat)(cs:List Value)(n:Nat)(es:Nat→List dF)(lo hi i:Nat)(m:Int)(L kk:Nat)(vl:Value)(cs':List Value)(es':Nat→List dF):Prop where
 inv:gK wr bh cs' n es'
 own:wr.ownsRow lo (rM i) (jO i) vl (L+kk) (kT (ig i m) (L+kk))
 off:∀g,vl.ownBlock=some g→g≠bh∧∀f,¬OwnAt cs' f g
 same:∀j,j<6→∀e∈es' j,∀g,e.a=some g→vl.ownBlock=some g→j=i∧e.m=m∧e.len≤L+kk
 mods:ay (KS bh cs lo hi) w wr
 rows:∀f k,OwnAt cs' f k→OwnAt cs f k∨w.heap.size≤k
 ents:∀j,j<6→∀e∈es' j,∀g,e.a=some g→(∃e0∈es j,e0.a=some g)∨(lo≤g∧g<hi)∨w.heap.size≤g
 lies:∀g,vl.ownBlock=some g→(lo≤g∧g<hi)∨w.heap.size≤g
 cnt:∀j,j<6→(es' j).length≤(es j).length+kk
 low:lo≤wr.heap.size

theorem aji (es:Nat→List dF){i:Nat}(e:dF)(f:Nat)(h7:7≤f) :
  upd (upd (kJ es) (7+2*i) (kJ es (7+2*i)++ [e.sl])) (8+2*i) (upd (kJ es) (7+2*i) (kJ es (7+2*i)++ [e.sl]) (8+2*i)++ [e.mv]) f=kJ (upd es i (es i++ [e])) f:=by
 by_cases h8:f=8+2*i
 ·subst h8;rw [Bl,upd_ne _ _ (by omega)];unfold kJ;rw [if_neg (by omega),if_neg (by omega),show (8+2*i-8) / 2=i by omega,Bl,List.map_append]
  rfl
 ·rw [upd_ne _ _ h8]
  by_cases h9:f=7+2*i
  ·subst h9;rw [Bl];unfold kJ;rw [if_pos (by omega),if_pos (by omega),show (7+2*i-7) / 2=i by omega,Bl,List.map_append]
   rfl
  ·rw [upd_ne _ _ h9];unfold kJ
   by_cases ho:f % 2=1
   ·rw [if_pos ho,if_pos ho,upd_ne _ _ (by omega)]
   ·rw [if_neg ho,if_neg ho,upd_ne _ _ (by omega)]
theorem SN (i:Nat):fty (7+2*i)=qy i:=by unfold fty;rw [if_pos (by omega),show (7+2*i-7) / 2=i by omega]
theorem SK (i:Nat):fty (8+2*i)=3:=by unfold fty;rw [if_neg (by omega)]

section
variable {w wr : World} {bh : Nat} {cs : List Value} {n : Nat} {es : Nat → List dF} {lo hi i : Nat} {m : Int} {L kk : Nat} {vl : Value} {cs' : List Value} {es' : Nat → List dF}
theorem nV.entry (h:nV w wr bh cs n es lo hi i m L kk vl cs' es')(hL:L+kk≤1048576):∃e:dF,e.sl=vl∧e.mv= .int .i64 m∧e.len=L+kk∧e.m=m∧e.a=vl.ownBlock∧F9 wr (rM i) (jO i) (ig i) e:=by
 rcases h.own.2 with ⟨rfl,h0⟩ | ⟨g,cap,cur,rfl,hb,hg,hnc,hcm,hcz,htk⟩
 ·refine⟨⟨none,L+kk,0,m⟩,by rw [h0];rfl,rfl,rfl,rfl,rfl,fun _=>h0,hL,fun g hg=>by cases hg⟩
 ·refine⟨⟨some g,L+kk,cap,m⟩,rfl,rfl,rfl,rfl,rfl,fun hn=>(by cases hn),hL,fun g' hg'=>?_⟩
  cases hg'
  exact⟨cur.toList,by unfold ak;simpa using hg,htk⟩
theorem jr.add {rs:Nat→List Value}(h:jr w bh cs n es rs){i:Nat}{e:dF}(he:F9 w (rM i) (jO i) (ig i) e)(hf:∀g,e.a=some g→g≠bh∧∀f,¬OwnAt cs f g):jr w bh cs n (upd es i (es i++ [e])) rs:=by
 refine⟨h.hands,h.nil,h.c6,h.row,h.apart,fun j hj x hx=>?_,fun j hj x hx=>?_⟩
 ·by_cases hji:j=i
  ·subst hji;rw [Bl] at hx
   rcases List.mem_append.1 hx with hx | hx
   ·exact h.ent j hj x hx
   ·rw [List.mem_singleton.1 hx];exact he
  ·rw [upd_ne _ _ hji] at hx;exact h.ent j hj x hx
 ·by_cases hji:j=i
  ·subst hji;rw [Bl] at hx
   rcases List.mem_append.1 hx with hx | hx
   ·exact h.off j hj x hx
   ·rw [List.mem_singleton.1 hx];exact hf
  ·rw [upd_ne _ _ hji] at hx;exact h.off j hj x hx
theorem OO {α :Type}{es:Nat→List α}{i j:Nat}{e x: α}(hx:x∈upd es i (es i++ [e]) j):x∈es j∨(j=i∧x=e):=by
 by_cases hji:j=i
 ·subst hji;rw [Bl] at hx
  rcases List.mem_append.1 hx with hx | hx
  ·exact .inl hx
  ·exact .inr ⟨rfl,List.mem_singleton.1 hx⟩
 ·rw [upd_ne _ _ hji] at hx;exact .inl hx

structure KRd (w wr:World)(bh:Nat)(cs:List Value)(n:Nat)(es:Nat→List dF)(lo hi i:Nat)(m:Int)(L kk:Nat)(vl:Value)(tO:TypeId)(cs':List Value)(rn:Nat)(ra ma oH ma' la':Option Addr)(rc mc rc' mc' oQ:Nat)(w1 w3 w5:World):Prop where
 c7:wr.cell? ⟨bh,7+2*i,none⟩=some (.slice ra rn rc)
 app1:(Builtin.append_ #[tO,tO] tO #[.slice ra rn rc,.slice (some ⟨wr.heap.size,0,none⟩) 1 1]).run Tryz.prog (wr.alloc (.cells #[vl] (qy i)))= .ok (.slice oH (rn+1) rc') w1
 d7:w1.cell? ⟨bh,7+2*i,none⟩=some (.slice ra rn rc)
 f7:w1.frozen? ⟨bh,7+2*i,none⟩=false
 d8:w1.cell? ⟨bh,8+2*i,none⟩=some (.slice ma rn mc)
 akB:(Builtin.append_ #[51,51] 51 #[.slice ma rn mc,.slice (some ⟨w1.heap.size,0,none⟩) 1 1]).run Tryz.prog ((w1.setCell ⟨bh,7+2*i,none⟩ (.slice oH (rn+1) rc')).alloc (.cells #[.int .i64 m] 3))= .ok (.slice ma' (rn+1) mc') w3
 e8:w3.cell? ⟨bh,8+2*i,none⟩=some (.slice ma rn mc)
 f8:w3.frozen? ⟨bh,8+2*i,none⟩=false
 akC:(Builtin.append_ #[qy i,qy i] (qy i) #[vl,.slice (some ⟨w3.heap.size,0,none⟩) 1 1]).run Tryz.prog ((w3.setCell ⟨bh,8+2*i,none⟩ (.slice ma' (rn+1) mc')).alloc (.cells (ig i m).toArray (rM i)))= .ok (.slice la' (L+kk+1) oQ) w5
 next:∃cs2 es2,nV w w5 bh cs n es lo hi i m L (kk+1) (.slice la' (L+kk+1) oQ) cs2 es2
theorem nV.round (h:nV w wr bh cs n es lo hi i m L kk vl cs' es'){tO:TypeId}{zI:Value}{bI:Nat}(ty:Es i tO zI bI)(hk:kk<4)(hL:L≤1000)(hc:∀j,j<6→(es j).length≤16777216) :
  ∃rn ra ma oH ma' la' rc mc rc' mc' oQ w1 w3 w5,KRd w wr bh cs n es lo hi i m L kk vl tO cs' rn ra ma oH ma' la' rc mc rc' mc' oQ w1 w3 w5:=by
 have hi6:=ty.lt;obtain⟨e,e1,e2,e3,e4,e5,e6⟩:=h.entry (by omega);obtain⟨xO,o1,o2,o3,o4⟩:=ty.iO;obtain⟨xI,i1,i2,i3,i4⟩:=ty.iI;obtain⟨xN,n1,n2,n3,n4⟩:=info_parts ahn;have hcnt:=h.cnt i hi6;have hci:=hc i hi6;have K0:=h.inv.add e6 (fun g hg=>h.off g (e5▸hg));obtain⟨vr,r1,r2⟩:=h.inv.row (7+2*i) (by omega) (by omega);obtain⟨vm,m1,m2⟩:=h.inv.row (8+2*i) (by omega) (by omega);obtain⟨ra,rc,rfl⟩:=cZ r2;obtain⟨ma,mc,rfl⟩:=cZ m2;have l7:(kJ es' (7+2*i)).length=(es' i).length:=by unfold kJ;rw [if_pos (by omega),show (7+2*i-7) / 2=i by omega,List.length_map]
 have l8:(kJ es' (8+2*i)).length=(es' i).length:=by unfold kJ;rw [if_neg (by omega),show (8+2*i-8) / 2=i by omega,List.length_map]
 rw [l7] at r1 r2;rw [l8] at m1 m2;have ag8:vl.oneCell'=true:=by rw [←e1];rfl
 obtain⟨oH,rc',w1,p1,p2,p3,p4,p5,p6⟩:=K0.push (f:=7+2*i) (by omega) (by omega) (tt:=tO) (i0:=xO) (z:=.slice none 0 0) (bytes:=24) (by rw [SN];exact ty.uO) (by rw [SN];exact o1) o2 o3 o4 rfl (by omega) vl ag8 (by rw [l7];omega) rfl r1;rw [SN,l7] at p1;rw [l7] at p3 p4 p6;have hcl:=h.inv.hands.2;have qB:(cs'.set (7+2*i) (.slice oH ((es' i).length+1) rc'))[8+2*i]? =some (.slice ma (es' i).length mc):=by rw [List.getElem?_set_ne (by omega)];exact m1
 have OI:upd (kJ es') (7+2*i) (kJ es' (7+2*i)++ [vl]) (8+2*i)=kJ es' (8+2*i):=upd_ne _ _ (by omega);obtain⟨ma',mc',w3,q1,q2,q3,q4,q5,q6⟩:=p3.push (f:=8+2*i) (by omega) (by omega) (tt:=51) (i0:=xN) (z:=.int .i64 0) (bytes:=8) (by rw [SK];exact Tryz.underlying51) (by rw [SK];exact n1) n2 n3 n4 rfl (by omega) (.int .i64 m) rfl (by rw [OI,l8];omega) (H:=w1.heap.size) (by simp [World.setCell]) qB;rw [SK,OI,l8] at q1;rw [OI,l8] at q3 q4 q6
 -- the list's own row
 have hvb:∀g,vl.ownBlock=some g→g<wr.heap.size:=fun g hg=>(h.own.lt g hg).2
 have aiq:=eP h.own p4 (fun g hg hk=>by
  rcases hk with hk | hk
  ·exact (h.off g hg).1 hk
  ·exact (h.off g hg).2 (7+2*i) ⟨_,r1,hk⟩)
 have off1:∀g,vl.ownBlock=some g→∀f,¬OwnAt (cs'.set (7+2*i) (.slice oH ((es' i).length+1) rc')) f g:=fun g hg f hf=>by
  rcases p6 f g hf with x | x
  ·exact (h.off g hg).2 f x
  ·have:=hvb g hg;omega
 have air:=eP aiq q4 (fun g hg hk=>by
  rcases hk with hk | hk
  ·exact (h.off g hg).1 hk
  ·exact off1 g hg (8+2*i) ⟨_,qB,hk⟩)
 have off2:∀g,vl.ownBlock=some g→∀f,¬OwnAt ((cs'.set (7+2*i) (.slice oH ((es' i).length+1) rc')).set (8+2*i) (.slice ma' ((es' i).length+1) mc')) f g:=fun g hg f hf=>by
  rcases q6 f g hf with x | x
  ·exact off1 g hg f x
  ·have:=hvb g hg;have:=p4.size;omega
 have hs4:wr.heap.size≤(w3.setCell ⟨bh,8+2*i,none⟩ (.slice ma' ((es' i).length+1) mc')).heap.size:=Nat.le_trans p4.size q4.size;have hbb:(L+kk+1)*bI≤(L+kk+1)*104:=Nat.mul_le_mul_left _ ty.bb;obtain⟨v5,w5,s1,s2,s3,s4,s5⟩:=adG (P:=Tryz.prog) (W:=w3.setCell ⟨bh,8+2*i,none⟩ (.slice ma' ((es' i).length+1) mc')) (qy i) (qy i) (rM i) xI zI (jO i) bI ty.uI i1 i2 i3 i4 ty.zc ty.zp lo vl (L+kk) (kT (ig i m) (L+kk)) air (ig i m).toArray (by simpa using ty.pl m) (by simpa using ty.po m) w3.heap.size (by simp [World.setCell]) (by unfold maxLen;omega) (by omega) (Nat.le_trans h.low hs4);obtain⟨la',oQ,rfl⟩:=cZ s2
 have s2':w5.ownsRow lo (rM i) (jO i) (.slice la' (L+kk+1) oQ) (L+(kk+1)) (kT (ig i m) (L+(kk+1))):=by
  rw [show L+(kk+1)=L+kk+1 from rfl,NT];exact s2
 have agG:∀k,vl.ownBlock=some k→k≠bh:=fun k hk=>(h.off k hk).1
 -- the entries behind the list's own append
 have K5:jr w5 bh ((cs'.set (7+2*i) (.slice oH ((es' i).length+1) rc')).set (8+2*i) (.slice ma' ((es' i).length+1) mc')) n (upd es' i (es' i++ [e])) (kJ (upd es' i (es' i++ [e]))):=by
  have q3':=q3.congr (rs':=kJ (upd es' i (es' i++ [e]))) (fun f h7 _=>by
   have:=aji es' (i:=i) e f h7;rw [e1,e2,OI] at this
   exact this)
  refine⟨⟨q3'.hands.1.mods s3 (fun hk=>agG bh hk rfl),q3'.hands.2⟩,q3'.nil,q3'.c6,fun f h7 h19=>?_,q3'.apart,fun j hj x hx=>?_,q3'.off⟩
  ·obtain⟨u,u1,u2⟩:=q3'.row f h7 h19;exact⟨u,u1,eP u2 s3 (fun g hg hk=>off2 g hk f ⟨u,u1,hg⟩)⟩
  ·have hx0:=q3'.ent j hj x hx;refine⟨hx0.1,hx0.2.1,fun g hg=>?_⟩;obtain⟨c,c1,c2⟩:=hx0.2.2 g hg
   by_cases hv:vl.ownBlock=some g
   ·have hsame:j=i∧x.m=m∧x.len≤L+kk:=by
     rcases OO hx with hx | ⟨hx1,hx2⟩
     ·exact h.same j hj x hx g hg hv
     ·exact⟨hx1,by rw [hx2];exact e4,by rw [hx2,e3];exact Nat.le_refl _⟩
    obtain⟨rfl,hxm,hxl⟩:=hsame;obtain⟨cur',t1,t2⟩:=s5 g c hv c1;refine⟨cur',t1,?_⟩;have e1:cur'.take (x.len*jO j)=(cur'.take ((L+kk)*jO j)).take (x.len*jO j):=by rw [List.take_take,Nat.min_eq_left (Nat.mul_le_mul_right _ hxl)]
    rw [e1,t2,afO (ty.pl m) hxl,hxm]
   ·exact⟨c,c1.mods s3 (fun hk=>hv hk),c2⟩
 have hlies:∀g,(Value.slice la' (L+kk+1) oQ).ownBlock=some g→vl.ownBlock=some g∨(wr.heap.size≤g∧w3.heap.size≤g):=fun g hg=>by
  rcases s4 with x | ⟨k,x1,x2⟩
  ·exact .inl (x▸hg)
  ·rw [x2] at hg
   cases hg
   have:w3.heap.size=(w3.setCell ⟨bh,8+2*i,none⟩ (.slice ma' ((es' i).length+1) mc')).heap.size:=by simp [World.setCell]
   exact .inr ⟨by omega,by omega⟩
 have hrows:∀f k,OwnAt ((cs'.set (7+2*i) (.slice oH ((es' i).length+1) rc')).set (8+2*i) (.slice ma' ((es' i).length+1) mc')) f k→OwnAt cs' f k∨wr.heap.size≤k:=fun f k hf=>by
  rcases q6 f k hf with x | x
  ·exact p6 f k x
  ·have:=p4.size;exact .inr (by omega)
 have hall:ay (fun k=>k=bh∨(∃f,OwnAt cs' f k)∨vl.ownBlock=some k) wr w5:=by
  refine ((p4.mono (T:=fun k=>k=bh∨(∃f,OwnAt cs' f k)∨vl.ownBlock=some k) (fun k _ hk=>?_)).trans q4 (fun k hk hS=>?_)).trans s3 (fun k _ hk=>.inr (.inr hk))
  ·rcases hk with hk | hk
   ·exact .inl hk
   ·exact .inr (.inl ⟨_,_,r1,hk⟩)
  ·rcases hS with hS | hS
   ·exact .inl hS
   ·rcases p6 (8+2*i) k ⟨_,qB,hS⟩ with x | x
    ·exact .inr (.inl ⟨_,x⟩)
    ·omega
 have hws:=h.mods.size;refine⟨(es' i).length,ra,ma,oH,ma',la',rc,mc,rc',mc',oQ,w1,w3,w5,⟨by rw [h.inv.hands.1.cell,r1],p1,by rw [p2.cell,r1],p2.frozen _,by rw [p2.cell,m1],q1,by rw [q2.cell,qB],q2.frozen _,s1,_,_,K5,s2',fun g hg=>?_,fun j hj x hx g hg hg'=>?_,h.mods.trans hall (fun k hk hS=>?_),fun f k hf=>?_,fun j hj x hx g hg=>?_,fun g hg=>?_,fun j hj=>?_,Nat.le_trans h.low (Nat.le_trans hs4 s3.size)⟩⟩
 ·rcases hlies g hg with x | x
  ·exact⟨(h.off g x).1,off2 g x⟩
  ·refine⟨fun e=>by have:=h.inv.hands.1.lt;omega,fun f hf=>?_⟩;have:=(q3.own hf).2.2;have:w3.heap.size=(w3.setCell ⟨bh,8+2*i,none⟩ (.slice ma' ((es' i).length+1) mc')).heap.size:=by simp [World.setCell]
   omega
 ·rcases hlies g hg' with y | y
  ·rcases OO hx with hx | ⟨hx1,hx2⟩
   ·have:=h.same j hj x hx g hg y;exact⟨this.1,this.2.1,by omega⟩
   ·exact⟨hx1,by rw [hx2];exact e4,by rw [hx2,e3];omega⟩
  ·rcases OO hx with hx | ⟨hx1,hx2⟩
   ·obtain⟨c,c1,_⟩:=(h.inv.ent j hj x hx).2.2 g hg;have:=c1.lt;omega
   ·rw [hx2,e5] at hg;have:=hvb g hg;omega
 ·rcases hS with hS | ⟨f,hS⟩ | hS
  ·exact .inl hS
  ·rcases h.rows f k hS with x | x
   ·exact .inr (.inl ⟨f,x⟩)
   ·omega
  ·rcases h.lies k hS with x | x
   ·exact .inr (.inr x)
   ·omega
 ·rcases hrows f k hf with x | x
  ·exact h.rows f k x
  ·exact .inr (by omega)
 ·rcases OO hx with hx | ⟨hx1,hx2⟩
  ·exact h.ents j hj x hx g hg
  ·rw [hx2,e5] at hg;exact .inr (h.lies g hg)
 ·rcases hlies g hg with x | x
  ·exact h.lies g x
  ·exact .inr (by omega)
 ·have hj':=h.cnt j hj
  by_cases hji:j=i
  ·subst hji;rw [Bl,List.length_append,List.length_singleton];omega
  ·rw [upd_ne _ _ hji];omega
end
end Go.Proofs.YtiiokkllmchohaaGreat
namespace Go.Proofs.YtiiokkllmchohaaGreat
open Go.RowKit
attribute [local go_sem ↓] Go.wp_at_zero Go.wp_at_succ
theorem SB {p cur cur':List Value}{sz k:Nat}(hp:p.length=sz)(ht:cur.take (k*sz)=kT p k)(hne:∀j,j<k*sz→cur'[j]? =cur[j]?)(hat:∀r,r<sz→cur'[k*sz+r]? =p[r]?):cur'.take ((k+1)*sz)=kT p (k+1):=by
 have hm:(k+1)*sz=k*sz+sz:=by rw [Nat.succ_mul]
 apply List.ext_getElem?
 intro j;rw [List.getElem?_take,NT];have hfl:=NS hp k
 by_cases h1:j<(k+1)*sz
 ·rw [if_pos h1]
  by_cases h2:j<k*sz
  ·rw [hne j h2,List.getElem?_append_left (by omega),←ht,List.getElem?_take,if_pos h2]
  ·rw [List.getElem?_append_right (by omega),hfl,←hat (j-k*sz) (by omega)]
   congr 1
   omega
 ·rw [if_neg h1,List.getElem?_eq_none (by rw [List.length_append,hfl,hp];omega)]
theorem afP {x:Value}{cur:List Value}{k:Nat}(ht:cur.take (k*1)=kT [x] k)(hk:k<cur.length):(cur.set k x).take ((k+1)*1)=kT [x] (k+1):=by
 refine SB (p:= [x]) (sz:=1) rfl ht (fun j hj=>List.getElem?_set_ne (by omega)) (fun r hr=>?_);obtain rfl:r=0:=by omega
 rw [Nat.mul_one,Nat.add_zero,List.getElem?_set_self hk]
 rfl
theorem SC {a b c:Value}{cur:List Value}{k:Nat}(ht:cur.take (k*3)=kT [a,b,c] k)(hk:k*3+2<cur.length):(nO cur (k*3) a b c).take ((k+1)*3)=kT [a,b,c] (k+1):=by
 refine SB (p:= [a,b,c]) (sz:=3) rfl ht (fun j hj=>FP (by omega)) (fun r hr=>?_)
 match r,hr with
 | 0, _ => exact IQ hk
 | 1, _ => exact IW hk
 | 2, _ => exact IX hk
theorem afQ {a b c d e f g:Value}{cur:List Value}{k:Nat}(ht:cur.take (k*7)=kT [a,b,c,d,e,f,g] k)(hk:k*7+6<cur.length):(rV cur (k*7) a b c d e f g).take ((k+1)*7)=kT [a,b,c,d,e,f,g] (k+1):=by
 obtain⟨h0,h1,h2,h3,h4,h5,h6⟩:=Vd (l:=cur) (k:=k*7) (a:=a) (b:=b) (c:=c) (d:=d) (e:=e) (f:=f) (g:=g) hk;refine SB (p:= [a,b,c,d,e,f,g]) (sz:=7) rfl ht (fun j hj=>Ve (by omega)) (fun r hr=>?_)
 match r,hr with
 | 0, _ => exact h0
 | 1, _ => exact h1
 | 2, _ => exact h2
 | 3, _ => exact h3
 | 4, _ => exact h4
 | 5, _ => exact h5
 | 6, _ => exact h6
structure jG (w w':World)(bh:Nat)(cs cs':List Value)(es es':Nat→List dF)(lo hi c:Nat):Prop where
 mods:ay (KS bh cs lo hi) w w'
 rows:∀f k,OwnAt cs' f k→OwnAt cs f k∨w.heap.size≤k
 ents:∀j,j<6→∀e∈es' j,∀g,e.a=some g→(∃e0∈es j,e0.a=some g)∨(lo≤g∧g<hi)∨w.heap.size≤g
 cnt:∀j,j<6→(es' j).length≤(es j).length+4*c
theorem jG.trans {w w1 w2:World}{bh:Nat}{cs cs1 cs2:List Value}{es es1 es2:Nat→List dF}{lo hi lo1 hi1 lo2 hi2 c d:Nat}(a:jG w w1 bh cs cs1 es es1 lo1 hi1 c)(b:jG w1 w2 bh cs1 cs2 es1 es2 lo2 hi2 d)(h1:lo≤lo1)(h2:hi1≤hi)(h3:lo≤lo2)(h4:hi2≤hi):jG w w2 bh cs cs2 es es2 lo hi (c+d):=by
 have hs:=a.mods.size;refine⟨(a.mods.mono (fun k _ hk=>?_)).trans b.mods (fun k hk hS=>?_),fun f k hf=>?_,fun j hj e he g hg=>?_,fun j hj=>?_⟩
 ·rcases hk with hk | hk | hk
  ·exact .inl hk
  ·exact .inr (.inl hk)
  ·exact .inr (.inr (by omega))
 ·rcases hS with hS | ⟨f,hS⟩ | hS
  ·exact .inl hS
  ·rcases a.rows f k hS with x | x
   ·exact .inr (.inl ⟨f,x⟩)
   ·omega
  ·exact .inr (.inr (by omega))
 ·rcases b.rows f k hf with x | x
  ·exact a.rows f k x
  ·exact .inr (by omega)
 ·rcases b.ents j hj e he g hg with ⟨e0,m0,g0⟩ | x | x
  ·rcases a.ents j hj e0 m0 g g0 with x | x | x
   ·exact .inl x
   ·exact .inr (.inl (by omega))
   ·exact .inr (.inr x)
  ·exact .inr (.inl (by omega))
  ·exact .inr (.inr (by omega))
 ·have:=a.cnt j hj;have:=b.cnt j hj;omega
structure su (bh:Nat)(cs:List Value)(es:Nat→List dF)(lo hi:Nat):Prop where
 hb:¬(lo≤bh∧bh<hi)
 rows:∀f k,OwnAt cs f k→¬(lo≤k∧k<hi)
 ents:∀j,j<6→∀e∈es j,∀g,e.a=some g→¬(lo≤g∧g<hi)
theorem su.step {w w':World}{bh:Nat}{cs cs':List Value}{es es':Nat→List dF}{lo hi lo1 hi1 c:Nat}(h:su bh cs es lo hi)(s:jG w w' bh cs cs' es es' lo1 hi1 c)(hd:∀k,lo≤k→k<hi→¬(lo1≤k∧k<hi1))(hh:hi≤w.heap.size):su bh cs' es' lo hi:=by
 refine⟨h.hb,fun f k hf x=>?_,fun j hj e he g hg x=>?_⟩
 ·rcases s.rows f k hf with y | y
  ·exact h.rows f k y x
  ·omega
 ·rcases s.ents j hj e he g hg with ⟨e0,m0,g0⟩ | y | y
  ·exact h.ents j hj e0 m0 g g0 x
  ·exact hd g x.1 x.2 y
  ·omega
theorem jr.Ld {w w':World}{bh:Nat}{cs:List Value}{n:Nat}{es:Nat→List dF}{rs:Nat→List Value}{lo hi:Nat}(h:jr w bh cs n es rs)(f:su bh cs es lo hi)(m:ay (fun k=>lo≤k∧k<hi) w w'):jr w' bh cs n es rs:=
 h.mods m f.hb f.rows f.ents
theorem jG.fill {w w':World}{bh:Nat}{cs:List Value}{es:Nat→List dF}{lo hi:Nat}(m:ay (fun k=>lo≤k∧k<hi) w w'):jG w w' bh cs cs es es lo hi 0:=
 ⟨m.mono (fun _ _ x=>.inr (.inr x)),fun _ _ h=>.inl h,fun _ _ e he g hg=>.inl ⟨e,he,hg⟩,fun _ _=>by omega⟩
theorem jG.mark {w w':World}{bh:Nat}{cs cs':List Value}{es:Nat→List dF}(m:ay (fun k=>k=bh) w w')(ho:∀f k,OwnAt cs' f k→OwnAt cs f k)(lo hi:Nat):jG w w' bh cs cs' es es lo hi 0:=
 ⟨m.mono (fun _ _ x=>.inl x),fun f k h=>.inl (ho f k h),fun _ _ e he g hg=>.inl ⟨e,he,hg⟩,fun _ _=>by omega⟩
theorem nV.fin {w wr:World}{bh:Nat}{cs:List Value}{n:Nat}{es:Nat→List dF}{lo hi i:Nat}{m:Int}{L kk:Nat}{v:Value}{cs':List Value}{es':Nat→List dF}(h:nV w wr bh cs n es lo hi i m L kk v cs' es')(hk:kk≤4):jG w wr bh cs cs' es es' lo hi 1:=
 ⟨h.mods,h.rows,h.ents,fun j hj=>by have:=h.cnt j hj;omega⟩

theorem aa6:Es 0 45 (.int .i64 0) 8:=
 ⟨by decide,Tryz.underlying45,Tryz.underlying40,info_parts aaQ,info_parts infoType,rfl,by decide,by decide,fun _=>rfl,fun m u hu=>by rw [List.mem_singleton.1 hu];rfl⟩

def nC (w:World)(ei:TypeId)(sz lo hi:Nat)(v:Value)(L:Nat)(p:List Value)(k:Nat):Prop:=
 (v= .slice none 0 0∧L=0)∨∃g cap cur,lo≤g∧g<hi∧v= .slice (some ⟨g,0,none⟩) L cap∧L≤cap∧cap≤maxLen∧ak w g ei cur∧cur.length=cap*sz∧cur.take (k*sz)=kT p k
theorem nC.own {w:World}{ei:TypeId}{sz lo hi:Nat}{v:Value}{L:Nat}{p:List Value}(h:nC w ei sz lo hi v L p L)(hp:p.length=sz):w.ownsRow lo ei sz v L (kT p L):=by
 rcases h with ⟨rfl,rfl⟩ | ⟨g,cap,cur,h1,h2,rfl,hc,hm,h3,h4,h5⟩
 ·exact World.ownsRow_nil _ _ _ _
 ·exact⟨NS hp L,.inr ⟨g,cap,cur.toArray,rfl,h1,h3,hc,hm,by simpa using h4,by simpa using h5⟩⟩
theorem nC.block {w:World}{ei:TypeId}{sz lo hi:Nat}{v:Value}{L:Nat}{p:List Value}{k:Nat}(h:nC w ei sz lo hi v L p k){g:Nat}(hg:v.ownBlock=some g):lo≤g∧g<hi:=by
 rcases h with ⟨rfl,rfl⟩ | ⟨g',cap,cur,h1,h2,rfl,_⟩
 ·cases hg
 ·cases hg;exact⟨h1,h2⟩
theorem nC.start {t:TypeId}{sz:Nat}{w:World}{B lo hi:Nat}{v:Value}{L:Nat}{xs:List Value}(h:w.ownsRow B t sz v L xs)(hv:∀g,v.ownBlock=some g→lo≤g∧g<hi)(p:List Value):nC w t sz lo hi v L p 0:=by
 rcases h.2 with ⟨rfl,rfl⟩ | ⟨g,cap,cur,rfl,h2,h3,h4,h5,h6,h7⟩
 ·exact .inl ⟨rfl,rfl⟩
 ·obtain⟨a,b⟩:=hv g rfl;exact .inr ⟨g,cap,cur.toList,a,b,rfl,h4,h5,by unfold ak;simpa using h3,by simpa using h6,by simp [kT]⟩
theorem nC.mods {w w':World}{ei:TypeId}{sz lo hi:Nat}{v:Value}{L:Nat}{p:List Value}{k:Nat}{S:Nat→Prop}(h:nC w ei sz lo hi v L p k)(m:ay S w w')(hS:∀g,v.ownBlock=some g→¬S g):nC w' ei sz lo hi v L p k:=by
 rcases h with h | ⟨g,cap,cur,h1,h2,rfl,hc,hm,h3,h4⟩
 ·exact .inl h
 ·exact .inr ⟨g,cap,cur,h1,h2,rfl,hc,hm,h3.mods m (hS g rfl),h4⟩
theorem nV.LW {w:World}{bh:Nat}{cs:List Value}{n:Nat}{es:Nat→List dF}{lo hi i:Nat}{m:Int}{L:Nat}{v tO zI bI}(ty:Es i tO zI bI)(h:gK w bh cs n es)(f:su bh cs es lo hi)(hF:nC w (rM i) (jO i) lo hi v L (ig i m) L)(hlo:lo≤w.heap.size):nV w w bh cs n es lo hi i m L 0 v cs es:=
 ⟨h,hF.own (ty.pl m),fun g hg=>⟨fun e=>f.hb (e▸hF.block hg),fun f' hf=>f.rows f' g hf (hF.block hg)⟩,fun j hj e he g hg hv=>absurd (hF.block hv) (f.ents j hj e he g hg),ay.refl _ _,fun _ _ h=>.inl h,fun _ _ e he _ hg=>.inl ⟨e,he,hg⟩,fun _ hg=>.inl (hF.block hg),fun _ _=>Nat.le_refl _,hlo⟩
theorem ahF (L:Nat)(v:Value)(w:World)(bh:Nat)(cs:List Value)(n:Nat)(es:Nat→List dF)(lo hi:Nat)(h:gK w bh cs n es)(B:Nat)(xs:List Value)(hv:w.ownsRow B 43 1 v L xs)(hlh:lo≤hi)(hv2:∀g,v.ownBlock=some g→lo≤g∧g<hi)(hf:su bh cs es lo hi)(hhi:hi≤w.heap.size)(hl:L≤1000)(hn:n≤1000000)(hc:∀j,j<6→(es j).length≤16777216) :
  Calls Tryz.prog 87 #[.pointer (some ⟨bh,0,none⟩),v] w fun e w'=>e= .returned (.tuple #[])∧∃cs' es',gK w' bh cs' (n+1) es'∧jG w w' bh cs cs' es es' lo hi 1:=by
 have agN:=hlh;have hF:=hide (nC.start hv hv2 (ig 0 (-77000001-(n:Int))));obtain⟨a,cap,rfl⟩:=cZ hv;clear hv hv2;go_enter Tryz.func87,Tryz.ntmps87
 go_wp2_with fail
 refine Calls.mono (Lp n w bh cs h.hands h.c6 (by omega)) ?_;rintro e w1 ⟨rfl,hh1,hm1⟩;obtain⟨K1,ho1⟩:=h.mark (n+1) hh1 hm1;have S1:=hide (jG.mark (es:=es) hm1 ho1 lo hi);have F1:=hide ((ah hF).mods hm1 (fun g hg e=>hf.hb (e▸(ah hF).block hg)));have wY:su bh (cs.set 6 (.int .i64 ((n+1:Nat):Int))) es lo hi:=hf.step (jG.mark (es:=es) hm1 ho1 0 0) (fun k _ _ x=>by omega) hhi;have hs1:=hm1.size;have lV:=hide K1;have wG:=hide wY;clear K1 hF hf h wY hh1 hm1 ho1;generalize cs.set 6 _=cs1 at *;go_wp2_with fail
 generalize hM: -77000001-(n:Int)=m at *
 go_loopw [5] (fun s5 wr=>∃k:Nat,k≤L∧s5= .int .i64 k∧gK wr bh cs1 (n+1) es∧nC wr 43 1 lo hi (.slice a L cap) L (ig 0 m) k∧ay (fun k=>lo≤k∧k<hi) w1 wr) (fun s5 _=>L-(intOf s5).toNat)
 case atStart=>exact ⟨0,Nat.zero_le _,rfl,ah lV,ah F1,ay.refl _ _⟩
 case round=>
  obtain⟨k,hk,rfl,hK,og,jg⟩:=hrel
  by_cases hlt:k<L
  ·have hlt':(k:Int)<(L:Int):=by omega
   have HK:=hide hK;have HM:=hide jg
   rcases og with ⟨_,h0⟩ | ⟨g,cap1,cur,g1,g2,ge,gc,gm,g3,g4,g5⟩
   ·omega
   ·simp only [Value.slice.injEq] at ge;obtain⟨rfl,_,rfl⟩:=ge;have c0:wr.cell? ⟨g,k,none⟩=some (cur[k]'(by omega)):=by rw [g3.cell];exact List.getElem?_eq_getElem _
    have f0:=g3.frozen k;have G3:=hide (g3.setCell k (.int .i64 m));have G5:=hide (afP (x:=.int .i64 m) g5 (by omega));generalize cur[k]'_=c at *;clear hK jg g3 g5;go_wp2_with fail
    have m2:ay (fun k=>lo≤k∧k<hi) wr (wr.setCell ⟨g,k,none⟩ (.int .i64 m)):=(ay.refl _ wr).setCell (p:=⟨g,k,none⟩) (fun _=>⟨g1,g2⟩) _;refine⟨⟨k+1,by omega,by go_num,(ah HK).Ld (ah wG) m2,.inr ⟨g,_,_,g1,g2,rfl,gc,gm,ah G3,by rw [List.length_set];exact g4,ah G5⟩,(ah HM).trans m2 (fun _ _ x=>x)⟩,by simp [intOf];omega⟩
  ·have hlt':¬(k:Int)<(L:Int):=by omega
   obtain rfl:L=k:=by omega
   have P0:=hide (nV.LW (m:=m) aa6 hK (ah wG) og (Nat.le_trans (Nat.le_trans agN hhi) (Nat.le_trans hs1 jg.size)));have ST:=hide ((ah S1).trans (jG.fill (bh:=bh) (cs:=cs1) (es:=es) jg) (Nat.le_refl _) (Nat.le_refl _) (Nat.le_refl _) (Nat.le_refl _));clear hK og jg lV F1;obtain⟨wo,rfl⟩:∃wo:World,wo=wr:=⟨_,rfl⟩;go_wp2_with fail
   go_loopw [1,6] (fun s1 s6 wr=>∃(kk:Nat) (la:Option Addr) (lc:Nat),kk≤4∧s6= .int .i64 kk∧s1= .slice la (L+kk) lc∧∃cs' es',nV wo wr bh cs1 (n+1) es lo hi 0 m L kk (.slice la (L+kk) lc) cs' es') (fun _ s6 _=>4-(intOf s6).toNat)
   case atStart=>exact ⟨0,a,cap,by omega,rfl,rfl,cs1,es,ah P0⟩
   case round=>
    obtain⟨kk,la,lc,hkk,rfl,rfl,cs2,es2,hP⟩:=hrel
    by_cases h4:kk<4
    ·have h4':(kk:Int)<4:=by omega
     obtain⟨rn,ra,ma,oH,ma',la',rc,mc,rc',mc',oQ,x1,x3,x5,R⟩:=hP.round aa6 h4 hl hc;obtain⟨r1,r2,r3,r4,r5,r6,r7,r8,r9,r10⟩:=R;simp only [qy,rM,ig,Nat.mul_zero,Nat.add_zero] at r1 r2 r3 r4 r5 r6 r7 r8 r9;have R10:=hide r10;clear hP r10 P0
     go_wp2_with (at_builtin;first
      | refine wpList_append_run rfl (.tmp 27) (.tmp 29) 45 rfl _ _ rfl rfl r2 ?_
      | refine wpList_append_run rfl (.tmp 37) (.tmp 39) 51 rfl _ _ rfl rfl r6 ?_
      | refine wpList_append_run rfl (.tmp 43) (.tmp 45) 40 rfl _ _ rfl rfl r9 ?_)
     obtain⟨oL,es3,h3⟩:=ah R10;refine⟨⟨kk+1,la',oQ,by omega,by go_num,rfl,oL,es3,h3⟩,by simp [intOf];omega⟩
    ·have h4':¬(kk:Int)<4:=by omega
     go_wp2_with fail
     go_end0;have hst:=(ah ST).trans (hP.fin hkk) (Nat.le_refl _) (Nat.le_refl _) (Nat.le_refl _) (Nat.le_refl _);exact⟨rfl,cs2,es2,hP.inv,hst⟩

structure lJ (bh:Nat)(cs:List Value)(es:Nat→List dF)(D:Nat→Prop):Prop where
 hb:¬D bh
 rows:∀f k,OwnAt cs f k→¬D k
 ents:∀j,j<6→∀e∈es j,∀g,e.a=some g→¬D g
structure kC (w w':World)(bh:Nat)(cs cs':List Value)(es es':Nat→List dF)(D:Nat→Prop)(c:Nat):Prop where
 mods:ay (fun k=>k=bh∨(∃f,OwnAt cs f k)∨D k) w w'
 rows:∀f k,OwnAt cs' f k→OwnAt cs f k∨w.heap.size≤k
 ents:∀j,j<6→∀e∈es' j,∀g,e.a=some g→(∃e0∈es j,e0.a=some g)∨D g∨w.heap.size≤g
 cnt:∀j,j<6→(es' j).length≤(es j).length+4*c
section
variable {w w' w2 : World} {bh : Nat} {cs cs' cs2 : List Value} {es es' es2 : Nat → List dF} {D D1 D2 : Nat → Prop} {c d lo hi : Nat}
theorem jG.toS (s:jG w w' bh cs cs' es es' lo hi c)(h:∀k,lo≤k→k<hi→D k):kC w w' bh cs cs' es es' D c:=
 ⟨s.mods.mono fun k _ x=>by
  rcases x with x | x | x
  ·exact .inl x
  ·exact .inr (.inl x)
  ·exact .inr (.inr (h k x.1 x.2)),s.rows,fun j hj e he g hg=>by
  rcases s.ents j hj e he g hg with x | x | x
  ·exact .inl x
  ·exact .inr (.inl (h g x.1 x.2))
  ·exact .inr (.inr x),s.cnt⟩
theorem kC.refl (w:World)(bh:Nat)(cs:List Value)(es:Nat→List dF)(D:Nat→Prop):kC w w bh cs cs es es D 0:=
 ⟨ay.refl _ _,fun _ _ h=>.inl h,fun _ _ e he g hg=>.inl ⟨e,he,hg⟩,fun _ _=>by omega⟩
theorem kC.mono (s:kC w w' bh cs cs' es es' D1 c)(h:∀k,D1 k→D k):kC w w' bh cs cs' es es' D c:=
 ⟨s.mods.mono fun k _ x=>by
  rcases x with x | x | x
  ·exact .inl x
  ·exact .inr (.inl x)
  ·exact .inr (.inr (h k x)),s.rows,fun j hj e he g hg=>by
  rcases s.ents j hj e he g hg with x | x | x
  ·exact .inl x
  ·exact .inr (.inl (h g x))
  ·exact .inr (.inr x),s.cnt⟩
theorem kC.trans (a:kC w w' bh cs cs' es es' D c)(b:kC w' w2 bh cs' cs2 es' es2 D d):kC w w2 bh cs cs2 es es2 D (c+d):=by
 have hs:=a.mods.size;refine⟨a.mods.trans b.mods (fun k hk hS=>?_),fun f k hf=>?_,fun j hj e he g hg=>?_,fun j hj=>?_⟩
 ·rcases hS with hS | ⟨f,hS⟩ | hS
  ·exact .inl hS
  ·rcases a.rows f k hS with x | x
   ·exact .inr (.inl ⟨f,x⟩)
   ·omega
  ·exact .inr (.inr hS)
 ·rcases b.rows f k hf with x | x
  ·exact a.rows f k x
  ·exact .inr (by omega)
 ·rcases b.ents j hj e he g hg with ⟨e0,m0,g0⟩ | x | x
  ·exact a.ents j hj e0 m0 g g0
  ·exact .inr (.inl x)
  ·exact .inr (.inr (by omega))
 ·have:=a.cnt j hj;have:=b.cnt j hj;omega
theorem lJ.sub (h:lJ bh cs es D)(hs:∀k,D1 k→D k):lJ bh cs es D1:=
 ⟨fun x=>h.hb (hs _ x),fun f k hf x=>h.rows f k hf (hs _ x),fun j hj e he g hg x=>h.ents j hj e he g hg (hs _ x)⟩
theorem lJ.step (h:lJ bh cs es D)(s:kC w w' bh cs cs' es es' D1 c)(hd:∀k,D k→¬D1 k)(hw:∀k,D k→k<w.heap.size):lJ bh cs' es' D:=by
 refine⟨h.hb,fun f k hf x=>?_,fun j hj e he g hg x=>?_⟩
 ·rcases s.rows f k hf with y | y
  ·exact h.rows f k y x
  ·have:=hw k x;omega
 ·rcases s.ents j hj e he g hg with ⟨e0,m0,g0⟩ | y | y
  ·exact h.ents j hj e0 m0 g g0 x
  ·exact hd g x y
  ·have:=hw g x;omega
theorem kC.same (s:kC w w' bh cs cs' es es' D1 c)(f:lJ bh cs es D)(hd:∀k,D k→¬D1 k){k:Nat}(hk:D k)(hw:k<w.heap.size):w'.heap[k]? =w.heap[k]? :=
 s.mods.block k hw (fun x=>by
  rcases x with x | ⟨f',x⟩ | x
  ·subst x;exact f.hb hk
  ·exact f.rows f' k x hk
  ·exact hd k hk x)
theorem lJ.free (h:lJ bh cs es D)(hD:∀k,lo≤k→k<hi→D k):su bh cs es lo hi:=
 ⟨fun x=>h.hb (hD _ x.1 x.2),fun f k hf x=>h.rows f k hf (hD _ x.1 x.2),fun j hj e he g hg x=>h.ents j hj e he g hg (hD _ x.1 x.2)⟩
end
theorem LJ {w:World}{B:Nat}{t:TypeId}{sz L:Nat}{v:Value}{xs:List Value}(h:w.ownsRow B t sz v L xs):∃lo hi,lo≤hi∧hi≤w.heap.size∧(∀g,v.ownBlock=some g→lo≤g∧g<hi)∧∀k,lo≤k→k<hi→v.ownBlock=some k:=by
 rcases h.2 with ⟨rfl,rfl⟩ | ⟨g,cap,cur,rfl,h2,h3,h4⟩
 ·exact⟨0,0,Nat.le_refl _,Nat.zero_le _,fun _ hg=>(by cases hg),fun k _ hk=>by omega⟩
 ·have hlt:=(Array.getElem?_eq_some_iff.1 h3).1;exact⟨g,g+1,by omega,by omega,fun _ hg=>(by cases hg;exact⟨Nat.le_refl _,Nat.lt_succ_self _⟩),fun k (p1:g≤k) (p2:k<g+1)=>congrArg some (show g=k by omega)⟩
theorem OJ (L:Nat)(v:Value)(w:World)(bh:Nat)(cs:List Value)(n:Nat)(es:Nat→List dF)(h:gK w bh cs n es)(B:Nat)(xs:List Value)(hv:w.ownsRow B 43 1 v L xs)(hf:lJ bh cs es fun k=>v.ownBlock=some k)(hl:L≤1000)(hn:n≤1000000)(hc:∀j,j<6→(es j).length≤16777216) :
  Calls Tryz.prog 87 #[.pointer (some ⟨bh,0,none⟩),v] w fun e w'=>e= .returned (.tuple #[])∧∃cs' es',gK w' bh cs' (n+1) es'∧kC w w' bh cs cs' es es' (fun k=>v.ownBlock=some k) 1:=by
 obtain⟨lo,hi,h1,h2,h3,h4⟩:=LJ hv;refine (ahF L v w bh cs n es lo hi h B xs hv h1 h3 (hf.free h4) h2 hl hn hc).mono ?_;rintro e w' ⟨rfl,cs',es',K,S⟩;exact⟨rfl,cs',es',K,S.toS h4⟩
section
variable {α : Type} {t : TypeId} {sz : Nat} {R : Rl α} {w w' : World} {lo hi : Nat} {v : Value} {l : List α} {k mid : Nat}
end
theorem ak.same {w w':World}{g:Nat}{t:TypeId}{c:List Value}(h:ak w g t c)(e:w'.heap[g]? =w.heap[g]?):ak w' g t c:=e.trans h

theorem aa8:Es 2 47 (.agg #[.int .i64 0,.slice none 0 0,.slice none 0 0]) 56:=
 ⟨by decide,Tryz.underlying47,Tryz.underlying36,info_parts Ue,info_parts aaN,rfl,by decide,by decide,fun _=>rfl,fun m u hu=>by
  simp only [ig,List.mem_cons,List.not_mem_nil,or_false] at hu
  rcases hu with rfl | rfl | rfl <;> rfl⟩

abbrev Ew (α :Type):=World→(Nat→Prop)→List Value→α→Prop
structure Gy {α :Type}(R:Ew α):Prop where
 lt:∀ {w D c x},R w D c x→∀k,D k→k<w.heap.size
 stay:∀ {w w' D c x},(∀k,D k→w'.heap[k]? =w.heap[k]?)→R w D c x→R w' D c x
def kX (xs:List Value)(k sz:Nat):List Value:=(xs.drop (k*sz)).take sz
theorem CP {xs:List Value}{k sz r:Nat}(hr:r<sz):(kX xs k sz)[r]? =xs[k*sz+r]? :=by
 unfold kX;rw [List.getElem?_take,if_pos hr,List.getElem?_drop]
theorem Ba {w w':World}{B:Nat}{t:TypeId}{sz n:Nat}{v:Value}{xs:List Value}(h:w.ownsRow B t sz v n xs)(hk:∀g,v.ownBlock=some g→w'.heap[g]? =w.heap[g]?):w'.ownsRow B t sz v n xs:=by
 refine⟨h.1,?_⟩
 rcases h.2 with h0 | ⟨g,cap,cur,rfl,h2,h3,h4⟩
 ·exact .inl h0
 ·exact .inr ⟨g,cap,cur,rfl,h2,(hk g rfl).trans h3,h4⟩
theorem FK {w:World}{B:Nat}{e:TypeId}{sz n:Nat}{v:Value}{cs:List Value}(h:w.ownsRow B e sz v n cs){g:Nat}(hg:v.ownBlock=some g){j:Nat}(hj:j<n*sz):w.cell? ⟨g,j,none⟩=cs[j]? :=by
 rcases h.2 with ⟨rfl,_⟩ | ⟨g',cap,cur,rfl,h2,h3,h4,h5,h6,h7⟩
 ·cases hg
 ·cases hg
  rw [←h7,List.getElem?_take,if_pos hj];unfold World.cell?;simp only [h3];simp
def mO {α :Type}(t:TypeId)(sz:Nat)(R:Ew α)(w:World)(D:Nat→Prop)(v:Value)(l:List α):Prop:=
 ∃(B:Nat) (xs:List Value) (Ds:Nat→Nat→Prop),w.ownsRow B t sz v l.length xs∧(∀(k:Nat) (x: α),l[k]? =some x→R w (Ds k) (kX xs k sz) x)∧(∀j k g,j≠k→Ds j g→¬Ds k g)∧(∀k g,Ds k g→v.ownBlock≠some g)∧∀g,(D g↔v.ownBlock=some g∨∃k,k<l.length∧Ds k g)
structure wM {α :Type}(t:TypeId)(sz:Nat)(R:Ew α)(wr:World)(bh:Nat)(cs:List Value)(es:Nat→List dF)(v:Value)(l:List α)(B:Nat)(xs:List Value)(Ds:Nat→Nat→Prop)(k:Nat):Prop where
 row:wr.ownsRow B t sz v l.length xs
 els:∀(j:Nat) (x: α),k≤j→l[j]? =some x→R wr (Ds j) (kX xs j sz) x
 fr:∀j,k≤j→j<l.length→lJ bh cs es (Ds j)
 fg:lJ bh cs es fun g=>v.ownBlock=some g
 dj:∀j k g,j≠k→Ds j g→¬Ds k g
 dv:∀k g,Ds k g→v.ownBlock≠some g
section
variable {α : Type} {t : TypeId} {sz : Nat} {R : Ew α} {w wr w' : World} {D D1 : Nat → Prop} {v : Value} {l : List α} {bh : Nat} {cs cs' cs2 : List Value} {es es' es2 : Nat → List dF} {B : Nat} {xs : List Value} {Ds : Nat → Nat → Prop} {k c : Nat}
theorem mO.lt (ok:Gy R)(h:mO t sz R w D v l):∀g,D g→g<w.heap.size:=fun g hg=>by
 obtain⟨B,xs,Ds,h1,h2,h3,h4,h5⟩:=h
 rcases (h5 g).1 hg with x | ⟨k,hk,x⟩
 ·exact (h1.lt g x).2
 ·exact ok.lt (h2 k _ (List.getElem?_eq_getElem hk)) g x
theorem mO.stay (ok:Gy R)(hk:∀k,D k→w'.heap[k]? =w.heap[k]?)(h:mO t sz R w D v l):mO t sz R w' D v l:=by
 obtain⟨B,xs,Ds,h1,h2,h3,h4,h5⟩:=h;exact⟨B,xs,Ds,Ba h1 (fun g hg=>hk g ((h5 g).2 (.inl hg))),fun j x hj=>ok.stay (fun g hg=>hk g ((h5 g).2 (.inr ⟨j,(List.getElem?_eq_some_iff.1 hj).1,hg⟩))) (h2 j x hj),h3,h4,h5⟩
theorem mO.form (h:mO t sz R w D v l):∃a cap,v= .slice a l.length cap:=by
 obtain⟨B,xs,Ds,h1,_⟩:=h;exact cZ h1
theorem wM.start (h:mO t sz R w D v l)(hf:lJ bh cs es D):∃B xs Ds,wM t sz R w bh cs es v l B xs Ds 0∧(∀k g,k<l.length→Ds k g→D g)∧∀g,v.ownBlock=some g→D g:=by
 obtain⟨B,xs,Ds,h1,h2,h3,h4,h5⟩:=h;exact⟨B,xs,Ds,⟨h1,fun j x _ hj=>h2 j x hj,fun j _ hj=>hf.sub (fun g hg=>(h5 g).2 (.inr ⟨j,hj,hg⟩)),hf.sub (fun g hg=>(h5 g).2 (.inl hg)),h3,h4⟩,fun k g hk hg=>(h5 g).2 (.inr ⟨k,hk,hg⟩),fun g hg=>(h5 g).2 (.inl hg)⟩
theorem wM.step (ok:Gy R)(h:wM t sz R wr bh cs es v l B xs Ds k)(s:kC wr w' bh cs cs2 es es2 D1 c)(hD:∀g,D1 g→Ds k g):wM t sz R w' bh cs2 es2 v l B xs Ds (k+1):=by
 have hlt:∀j,k≤j→j<l.length→∀g,Ds j g→g<wr.heap.size:=fun j h1 h2=>ok.lt (h.els j _ h1 (List.getElem?_eq_getElem h2));have hd:∀j,k+1≤j→∀g,Ds j g→¬D1 g:=fun j hj g h1 h2=>h.dj j k g (by omega) h1 (hD g h2);have hdv:∀g,v.ownBlock=some g→¬D1 g:=fun g h1 h2=>h.dv k g (hD g h2) h1
 refine⟨Ba h.row (fun g hg=>s.same h.fg hdv hg (h.row.lt g hg).2),fun j x hj hx=>ok.stay (fun g hg=>s.same (h.fr j (by omega) (List.getElem?_eq_some_iff.1 hx).1) (hd j hj) hg (hlt j (by omega) (List.getElem?_eq_some_iff.1 hx).1 g hg)) (h.els j x (by omega) hx),
  fun j hj hl=>(h.fr j (by omega) hl).step s (hd j hj) (hlt j (by omega) hl),h.fg.step s hdv (fun g hg=>(h.row.lt g hg).2),h.dj,h.dv⟩
end
def qL (w:World)(t:TypeId)(sz:Nat)(v:Value)(L:Nat):Prop:=∃B xs,w.ownsRow B t sz v L xs
theorem qL.lt {w:World}{t:TypeId}{sz L:Nat}{v:Value}(h:qL w t sz v L){g:Nat}(hg:v.ownBlock=some g):g<w.heap.size:=by
 obtain⟨B,xs,h⟩:=h;exact (h.lt g hg).2
theorem qL.stay {w w':World}{t:TypeId}{sz L:Nat}{v:Value}(h:qL w t sz v L)(hk:∀g,v.ownBlock=some g→w'.heap[g]? =w.heap[g]?):qL w' t sz v L:=by
 obtain⟨B,xs,h⟩:=h;exact⟨B,xs,Ba h hk⟩
def Ee:Ew bF:=fun w D c f=>∃vl vs,c= [.int .i64 f.pc,vl,vs]∧qL w 43 1 vl f.locals.length∧qL w 43 1 vs f.stack.length∧(∀g,vl.ownBlock=some g→vs.ownBlock≠some g)∧∀g,(D g↔vl.ownBlock=some g∨vs.ownBlock=some g)
theorem DL:Gy Ee:=by
 refine⟨?_,?_⟩
 ·rintro w D c f ⟨vl,vs,_,h1,h2,_,h4⟩ k hk
  rcases (h4 k).1 hk with x | x
  ·exact h1.lt x
  ·exact h2.lt x
 ·rintro w w' D c f hk ⟨vl,vs,e,h1,h2,h3,h4⟩;exact⟨vl,vs,e,h1.stay (fun g hg=>hk g ((h4 g).2 (.inl hg))),h2.stay (fun g hg=>hk g ((h4 g).2 (.inr hg))),h3,h4⟩
structure Qh (w wr:World)(bh:Nat)(cs:List Value)(n:Nat)(es:Nat→List dF)(D:Nat→Prop)(v:Value)(l:List bF)(B:Nat)(xs:List Value)(Ds:Nat→Nat→Prop)(k:Nat)(cs':List Value)(es':Nat→List dF):Prop where
 inv:gK wr bh cs' (n+2*k) es'
 rem:wM 42 3 Ee wr bh cs' es' v l B xs Ds k
 st:kC w wr bh cs cs' es es' D (2*k)
theorem aa3 (l:List bF)(v:Value)(w:World)(bh:Nat)(cs:List Value)(n:Nat)(es:Nat→List dF)(D:Nat→Prop)(h:gK w bh cs n es)(hv:mO 42 3 Ee w D v l)(hf:lJ bh cs es D)(hl:l.length≤1000)(hn:n≤900000)(hc:∀j,j<6→(es j).length≤16000000)(hz:∀f∈l,f.locals.length≤1000∧f.stack.length≤1000) :
  Calls Tryz.prog 46 #[.pointer (some ⟨bh,0,none⟩),v] w fun e w'=>e= .returned (.tuple #[])∧∃cs' es',gK w' bh cs' (n+(2*l.length+1)) es'∧kC w w' bh cs cs' es es' D (2*l.length+1):=by
 obtain⟨B,xs,Ds,hR0,hDs,CZ⟩:=wM.start hv hf;have yB:Hid (Qh w w bh cs n es D v l B xs Ds 0 cs es):=⟨h,hR0,kC.refl w bh cs es D⟩;obtain⟨a,cap,rfl⟩:=hv.form;have Gl:=hide hDs;have BF:=hide CZ;clear hv hR0 h hf hDs CZ;go_enter Tryz.func46,Tryz.ntmps46
 go_wp2_with fail
 go_loopw [4] (fun s4 wr=>∃(k:Nat) (cs':List Value) (es':Nat→List dF),k≤l.length∧s4= .int .i64 k∧Qh w wr bh cs n es D (.slice a l.length cap) l B xs Ds k cs' es') (fun s4 _=>l.length-(intOf s4).toNat)
 case atStart=>exact ⟨0,cs,es,Nat.zero_le _,rfl,ah yB⟩
 case round=>
  obtain⟨k,cs',es',hk,rfl,hP⟩:=hrel;clear yB
  by_cases hlt:k<l.length
  ·have hlt':(k:Int)<(l.length:Int):=by omega
   obtain⟨vl,vs,hcut,t1,t2,t12,hD⟩:=hP.rem.els k _ (Nat.le_refl _) (List.getElem?_eq_getElem hlt);have Ii:=hz l[k] (List.getElem_mem hlt);generalize l[k]=fr at *;have hx1:xs[k*3+1]? =some vl:=by rw [←CP (by omega),hcut];rfl
   have hx2:xs[k*3+2]? =some vs:=by rw [←CP (by omega),hcut];rfl
   obtain⟨g,rfl⟩:∃g,a=some ⟨g,0,none⟩:=by
    rcases hP.rem.row.2 with ⟨e,e0⟩ | ⟨g,cap',cur,e,_⟩
    ·omega
    ·simp only [Value.slice.injEq] at e;exact⟨g,e.1⟩
   have c1:wr.cell? ⟨g,k*3+1,none⟩=some vl:=by rw [FK hP.rem.row rfl (by omega)];exact hx1
   obtain⟨B1,xs1,o1⟩:=t1;obtain⟨la,fG,rfl⟩:=cZ o1
   obtain⟨sa,scap,rfl⟩:∃a c,vs= .slice a fr.stack.length c:=by
    obtain⟨_,_,o2⟩:=t2;exact cZ o2
   have HP:=hide hP;have T2:=hide t2;have JC:=hide hx2;have Xf:=hide t12;have HD:=hide hD;have fk:=hP.rem.fr k (Nat.le_refl _) hlt;have hf1:=fk.sub (D1:=fun g=>(Value.slice la fr.locals.length fG).ownBlock=some g) (fun g hg=>(hD g).2 (.inl hg));have hf2:=fk.sub (D1:=fun g=>(Value.slice sa fr.stack.length scap).ownBlock=some g) (fun g hg=>(hD g).2 (.inr hg));have HF2:=hide hf2;clear hP t2 hx1 hx2 t12 hD fk hcut hf2;go_wp2_with fail
   refine Calls.mono (OJ fr.locals.length _ wr bh cs' (n+2*k) es' (ah HP).inv B1 xs1 o1 hf1 Ii.1 (by omega) (fun j hj=>by have:=(ah HP).st.cnt j hj;have:=hc j hj;omega)) ?_;rintro e w1 ⟨rfl,cs1,es1,K1,S1⟩;have T2':=hide ((ah T2).stay (w':=w1) (fun g hg=>S1.same (ah HF2) (fun q h1 h2=>ah Xf q h2 h1) hg ((ah T2).lt hg)));have F2':=hide ((ah HF2).step S1 (fun q h1 h2=>ah Xf q h2 h1) (fun q hq=>(ah T2).lt hq));have Bc:=Ba (ah HP).rem.row (w':=w1) (fun q hq=>S1.same (ah HP).rem.fg (fun q h1 h2=>(ah HP).rem.dv k q ((ah HD q).2 (.inl h2)) h1) hq ((ah HP).rem.row.lt q hq).2)
   have c2:w1.cell? ⟨g,k*3+2,none⟩=some (.slice sa fr.stack.length scap):=by rw [FK Bc rfl (by omega)];exact ah JC
   have lV:=hide K1;have zL:=hide S1;clear K1 S1 c1 o1 hf1 Bc;go_wp2_with fail
   obtain⟨B2,xs2,o2⟩:=ah T2';refine Calls.mono (OJ fr.stack.length _ w1 bh cs1 (n+2*k+1) es1 (ah lV) B2 xs2 o2 (ah F2') Ii.2 (by omega) (fun j hj=>by have:=(ah zL).cnt j hj;have:=(ah HP).st.cnt j hj;have:=hc j hj;omega)) ?_;rintro e w2 ⟨rfl,cs2,es2,K2,S2⟩;have yH:kC wr w2 bh cs' cs2 es' es2 (Ds k) (1+1):=((ah zL).mono fun q hq=>(ah HD q).2 (.inl hq)).trans (S2.mono fun q hq=>(ah HD q).2 (.inr hq))
   have HP2:Hid (Qh w w2 bh cs n es D (.slice (some ⟨g,0,none⟩) l.length cap) l B xs Ds (k+1) cs2 es2):=
    ⟨by rw [show n+2*(k+1)=n+2*k+1+1 by omega];exact K2,(ah HP).rem.step DL yH (fun _ h=>h),by rw [show 2*(k+1)=2*k+(1+1) by omega];exact (ah HP).st.trans (yH.mono fun q hq=>ah Gl k q hlt hq)⟩
   clear K2 S2 yH c2 o2;go_wp2_with fail
   refine⟨⟨k+1,cs2,es2,by omega,by go_num,ah HP2⟩,by simp [intOf];omega⟩
  ·have hlt':¬(k:Int)<(l.length:Int):=by omega
   obtain rfl:k=l.length:=by omega
   obtain⟨wo,rfl⟩:∃wo:World,wo=wr:=⟨_,rfl⟩;have hws:=hP.st.mods.size;obtain⟨lo',hi',abo,hhi1,hsp1,hsp2⟩:=LJ hP.rem.row;have yQ:=nC.start hP.rem.row hsp1 (ig 2 (-77000001-((n+2*l.length:Nat):Int)));have HP:=hide hP;have BG:=hide yQ;clear hP yQ;go_wp2_with fail
   refine Calls.mono (Lp (n+2*l.length) wo bh cs' (ah HP).inv.hands (ah HP).inv.c6 (by omega)) ?_;rintro e w1 ⟨rfl,hh1,hm1⟩;generalize -77000001-((n+2*l.length:Nat):Int)=m at *;obtain⟨K1,ho1⟩:=(ah HP).inv.mark (n+2*l.length+1) hh1 hm1;have S1:=hide ((ah HP).st.trans ((jG.mark (es:=es') hm1 ho1 0 0).toS (D:=D) fun k _ h=>by omega));have F1:=hide ((ah BG).mods hm1 (fun g hg e=>(ah HP).rem.fg.hb (e▸hg)));have hF2:=ah F1
   have wY:su bh (cs'.set 6 (.int .i64 ((n+2*l.length+1:Nat):Int))) es' lo' hi':=((ah HP).rem.fg.step ((jG.mark (es:=es') hm1 ho1 0 0).toS (D:=fun _=>False) fun k _ h=>by omega) (fun _ _ f=>f) (fun q hq=>((ah HP).rem.row.lt q hq).2)).free hsp2;have hs1:=hm1.size;have lV:=hide K1;have wG:=hide wY;have HF2:=hide hF2;have hc1:∀j,j<6→(es' j).length≤16777216:=fun j hj=>by have:=(ah S1).cnt j hj;have:=hc j hj;omega
   clear K1 BG HP wY hh1 hm1 ho1 F1 hF2 hc;generalize cs'.set 6 _=cs1 at *;go_wp2_with fail
   go_loopw [6] (fun s6 wr=>∃k:Nat,k≤l.length∧s6= .int .i64 k∧gK wr bh cs1 (n+2*l.length+1) es'∧nC wr 42 3 lo' hi' (.slice a l.length cap) l.length (ig 2 m) k∧ay (fun k=>lo'≤k∧k<hi') w1 wr) (fun s6 _=>l.length-(intOf s6).toNat)
   case atStart=>exact ⟨0,Nat.zero_le _,rfl,ah lV,ah HF2,ay.refl _ _⟩
   case round=>
    obtain⟨k,hk,rfl,hK,og,jg⟩:=hrel;clear HF2 lV
    by_cases hlt:k<l.length
    ·have hlt':(k:Int)<(l.length:Int):=by omega
     have HK:=hide hK;have HM:=hide jg
     rcases og with ⟨_,h0⟩ | ⟨g,cap1,cur,g1,g2,ge,gc,gm,g3,g4,g5⟩
     ·omega
     ·simp only [Value.slice.injEq] at ge;obtain⟨rfl,_,rfl⟩:=ge;obtain⟨u0,c0⟩:∃u,wr.cell? ⟨g,k*3,none⟩=some u:=⟨_,by rw [g3.cell];exact List.getElem?_eq_getElem (by omega)⟩;obtain⟨u1,c1⟩:∃u,wr.cell? ⟨g,k*3+1,none⟩=some u:=⟨_,by rw [g3.cell];exact List.getElem?_eq_getElem (by omega)⟩;obtain⟨u2,c2⟩:∃u,wr.cell? ⟨g,k*3+2,none⟩=some u:=⟨_,by rw [g3.cell];exact List.getElem?_eq_getElem (by omega)⟩;have f0:=g3.frozen (k*3);have f1:=g3.frozen (k*3+1);have f2:=g3.frozen (k*3+2);have G3:=hide (DY (k:=k*3) g3 (.int .i64 m) (.slice none 0 0) (.slice none 0 0));have G5:=hide (SC (a:=.int .i64 m) (b:=.slice none 0 0) (c:=.slice none 0 0) g5 (by omega))
      have M2:=hide ((DZ wr g (k*3) (.int .i64 m) (.slice none 0 0) (.slice none 0 0)).mono (T:=fun k=>lo'≤k∧k<hi') (fun i _ e=>by omega));clear hK jg g3 g5;go_wp2_with fail
      refine⟨⟨k+1,by omega,by go_num,(ah HK).Ld (ah wG) (ah M2),.inr ⟨g,_,_,g1,g2,rfl,gc,gm,ah G3,by rw [uU];exact g4,ah G5⟩,(ah HM).trans (ah M2) (fun _ _ x=>x)⟩,by simp [intOf];omega⟩
    ·have hlt':¬(k:Int)<(l.length:Int):=by omega
     obtain rfl:k=l.length:=by omega
     have P0:=hide (nV.LW (m:=m) aa8 hK (ah wG) og (by have:=jg.size;omega));have ST:=hide ((ah S1).trans ((jG.fill (bh:=bh) (cs:=cs1) (es:=es') jg).toS fun q h1 h2=>ah BF q (hsp2 q h1 h2)));clear hK og jg S1;obtain⟨lI,rfl⟩:∃lI:World,lI=wr:=⟨_,rfl⟩;go_wp2_with fail
     go_loopw [1,7] (fun s1 s7 wr=>∃(kk:Nat) (la:Option Addr) (lc:Nat),kk≤4∧s7= .int .i64 kk∧s1= .slice la (l.length+kk) lc∧∃cs2 es2,nV lI wr bh cs1 (n+2*l.length+1) es' lo' hi' 2 m l.length kk (.slice la (l.length+kk) lc) cs2 es2) (fun _ s7 _=>4-(intOf s7).toNat)
     case atStart=>exact ⟨0,a,cap,by omega,rfl,rfl,cs1,es',ah P0⟩
     case round=>
      obtain⟨kk,la,lc,hkk,rfl,rfl,cs2,es2,hP⟩:=hrel
      by_cases h4:kk<4
      ·have h4':(kk:Int)<4:=by omega
       obtain⟨rn,ra,ma,oH,ma',la',rc,mc,rc',mc',oQ,x1,x3,x5,R⟩:=hP.round aa8 h4 hl hc1;obtain⟨r1,r2,r3,r4,r5,r6,r7,r8,r9,r10⟩:=R;simp only [qy,rM,ig,Nat.reduceMul,Nat.reduceAdd] at r1 r2 r3 r4 r5 r6 r7 r8 r9;have R10:=hide r10;clear hP r10 P0
       go_wp2_with (at_builtin;first
        | refine wpList_append_run rfl (.tmp 49) (.tmp 51) 47 rfl _ _ rfl rfl r2 ?_
        | refine wpList_append_run rfl (.tmp 59) (.tmp 61) 51 rfl _ _ rfl rfl r6 ?_
        | refine wpList_append_run rfl (.tmp 65) (.tmp 68) 36 rfl _ _ rfl rfl r9 ?_)
       obtain⟨oL,es3,h3⟩:=ah R10;refine⟨⟨kk+1,la',oQ,by omega,by go_num,rfl,oL,es3,h3⟩,by simp [intOf];omega⟩
      ·have h4':¬(kk:Int)<4:=by omega
       go_wp2_with fail
       go_end0;have hst:=(ah ST).trans ((hP.fin hkk).toS fun q h1 h2=>ah BF q (hsp2 q h1 h2));exact⟨rfl,cs2,es2,hP.inv,hst⟩
def zX (m:aC):Nat:=2*m.frames.length+3
def gX (l:List aC):Nat:=(l.map zX).sum
theorem ad6 {l:List aC}{k:Nat}(h:k<l.length):gX (l.take (k+1))=gX (l.take k)+zX l[k]:=by
 unfold gX;rw [List.take_add_one,List.getElem?_eq_getElem h,Option.toList_some,List.map_append,List.sum_append];simp only [List.map_cons,List.map_nil,List.sum_cons,List.sum_nil,Nat.add_zero]
theorem X0 (l:List aC)(k:Nat):gX (l.take k)≤gX l:=by
 unfold gX;have:=List.take_append_drop k l;have e:(l.map zX).sum=((l.take k).map zX).sum+((l.drop k).map zX).sum:=by rw [←List.sum_append,←List.map_append,this]
 omega
theorem aa7:Es 1 46 (.agg #[.int .i64 0,.int .i64 0,.int .i64 0]) 24:=
 ⟨by decide,Tryz.underlying46,Tryz.underlying61,info_parts Ug,info_parts Uf,rfl,by decide,by decide,fun _=>rfl,fun m u hu=>by
  simp only [ig,List.mem_cons,List.not_mem_nil,or_false] at hu
  rcases hu with rfl | rfl | rfl <;> rfl⟩
theorem aa9:Es 3 48 (.agg #[.int .i64 0,.slice none 0 0,.int .i64 0,.int .i64 0,.int .i64 0,.slice none 0 0,.slice none 0 0]) 104:=
 ⟨by decide,Tryz.underlying48,Tryz.underlying64,info_parts aaP,info_parts aaO,rfl,by decide,by decide,fun _=>rfl,fun m u hu=>by
  simp only [ig,List.mem_cons,List.not_mem_nil,or_false] at hu
  rcases hu with rfl | rfl | rfl | rfl | rfl | rfl | rfl <;> rfl⟩
def UL (m:aC):Prop:=m.args.length≤1000∧m.code.length≤1000∧m.frames.length≤1000∧∀f∈m.frames,f.locals.length≤1000∧f.stack.length≤1000
section
variable {w wr wr' : World} {bh : Nat} {cs : List Value} {n : Nat} {es : Nat → List dF} {lo hi g : Nat} {cells : List Value} {l : List aC} {k m1 m2 alu c : Nat} {cs' cs2 : List Value} {es' es2 : Nat → List dF}
end

def EL (x:aj):Nat:=gX x.aB+2
def kS (l:List aj):Nat:=(l.map EL).sum
theorem ad4 {l:List aj}{k:Nat}(h:k<l.length):kS (l.take (k+1))=kS (l.take k)+EL l[k]:=by
 unfold kS;rw [List.take_add_one,List.getElem?_eq_getElem h,Option.toList_some,List.map_append,List.sum_append];simp only [List.map_cons,List.map_nil,List.sum_cons,List.sum_nil,Nat.add_zero]
theorem XZ (l:List aj)(k:Nat):kS (l.take k)≤kS l:=Ja EL k l
theorem abb:Es 4 49 (.agg #[.int .i64 0,.slice none 0 0,.slice none 0 0]) 56:=
 ⟨by decide,Tryz.underlying49,Tryz.underlying22,info_parts aaM,info_parts aaL,rfl,by decide,by decide,fun _=>rfl,fun m u hu=>by
  simp only [ig,List.mem_cons,List.not_mem_nil,or_false] at hu
  rcases hu with rfl | rfl | rfl <;> rfl⟩
theorem su.new {w:World}{bh:Nat}{cs:List Value}{n:Nat}{es:Nat→List dF}{rs:Nat→List Value}(h:jr w bh cs n es rs){B:Nat}(hB:w.heap.size≤B)(B':Nat):su bh cs es B B':=by
 refine⟨fun x=>by have:=h.hands.1.lt;omega,fun f k hf x=>by have:=h.own hf;omega,fun j hj e he g hg x=>?_⟩;obtain⟨c,hc,_⟩:=(h.ent j hj e he).2.2 g hg;have:=hc.lt;omega
def UK (x:aj):Prop:=x.fields.length≤1000∧x.aB.length≤1000∧gX x.aB≤100000∧∀m∈x.aB,UL m

end Go.Proofs.YtiiokkllmchohaaGreat
