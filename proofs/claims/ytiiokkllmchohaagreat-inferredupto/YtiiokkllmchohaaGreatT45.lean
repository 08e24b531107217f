/- The law's hands look at what they kept. -/
import Derived.Test.YtiiokkllmchohaaGreatT15
import Derived.Test.YtiiokkllmchohaaGreatT41
import Derived.Test.YtiiokkllmchohaaGreatT43
import Derived.Test.YtiiokkllmchohaaGreatT44
set_option maxHeartbeats 4000000
set_option maxRecDepth 100000
namespace Go.Proofs.YtiiokkllmchohaaGreat
open Go.RowKit
attribute [local go_sem ↓] Go.wp_at_zero Go.wp_at_succ
theorem ahA (i:Nat)(hi:i<6)(m:Int):(ig i m).length=jO i:=by
 match i,hi with
 | 0, _ => rfl
 | 1, _ => rfl
 | 2, _ => rfl
 | 3, _ => rfl
 | 4, _ => rfl
 | 5, _ => rfl
theorem ahB (i:Nat)(hi:i<6):0<jO i:=by
 match i,hi with
 | 0, _ => decide
 | 1, _ => decide
 | 2, _ => decide
 | 3, _ => decide
 | 4, _ => decide
 | 5, _ => decide
theorem abz {w:World}{base:Nat}{e:TypeId}{a:Option Addr}{n cap:Nat}{xs:List Value}(h:w.ownsRow base e 1 (.slice a n cap) n xs){j:Nat}(hj:j<n):∃g,a=some ⟨g,0,none⟩∧w.cell? ⟨g,j,none⟩=xs[j]? :=by
 rcases h.2 with ⟨e0,h0⟩ | ⟨g,cap',cur,e0,_,hg,_,_,_,htk⟩
 ·omega
 ·cases e0
  refine⟨g,rfl,?_⟩;have hB:ak w g e cur.toList:=by unfold ak;simpa using hg
  rw [hB.cell,←htk,List.getElem?_take,if_pos (by omega)]
structure ads (w:World)(bh K i L:Nat)(g gm cap qP:Nat)(a:Option Addr)(len ec:Nat)(m:Int):Prop where
 r:w.cell? ⟨bh,7+2*K,none⟩=some (.slice (some ⟨g,0,none⟩) L cap)
 s:w.cell? ⟨bh,8+2*K,none⟩=some (.slice (some ⟨gm,0,none⟩) L qP)
 e:w.cell? ⟨g,i,none⟩=some (.slice a len ec)
 k:w.cell? ⟨gm,i,none⟩=some (.int .i64 m)
 le:len≤1048576
 lies:0<len→∃ge,a=some ⟨ge,0,none⟩∧∀q,q<len→∀r,r<jO K→w.cell? ⟨ge,q*jO K+r,none⟩=(ig K m)[r]?
theorem jr.look {w:World}{bh:Nat}{cs:List Value}{n:Nat}{es:Nat→List dF}(h:gK w bh cs n es){K i:Nat}(hK:K<6)(hi:i<(es K).length):∃g gm cap qP a len ec m,ads w bh K i (es K).length g gm cap qP a len ec m:=by
 obtain⟨vr,r1,r2⟩:=h.row (7+2*K) (by omega) (by omega);obtain⟨vm,m1,m2⟩:=h.row (8+2*K) (by omega) (by omega);have l7:kJ es (7+2*K)=(es K).map dF.sl:=by unfold kJ;rw [if_pos (by omega),show (7+2*K-7) / 2=K by omega]
 have l8:kJ es (8+2*K)=(es K).map dF.mv:=by unfold kJ;rw [if_neg (by omega),show (8+2*K-8) / 2=K by omega]
 rw [l7,List.length_map] at r2;rw [l8,List.length_map] at m2;obtain⟨ra,rc,rfl⟩:=cZ r2;obtain⟨ma,mc,rfl⟩:=cZ m2;obtain⟨g,rfl,hg⟩:=abz r2 hi;obtain⟨gm,rfl,hgm⟩:=abz m2 hi;have hE:=h.ent K hK (es K)[i] (List.getElem_mem hi);rw [List.getElem?_map,List.getElem?_eq_getElem hi] at hg hgm;generalize (es K)[i]=e at *;refine⟨g,gm,rc,mc,e.a.map fun g=>⟨g,0,none⟩,e.len,e.cap,e.m,⟨by rw [h.hands.1.cell];exact r1,by rw [h.hands.1.cell];exact m1,hg,hgm,hE.2.1,fun h0=>?_⟩⟩
 cases ha:e.a with
 | none => have := hE.1 ha; omega
 | some ge =>
  obtain⟨c,c1,c2⟩:=hE.2.2 ge ha;refine⟨ge,rfl,fun q hq r hr=>?_⟩;have hp:=ahB K hK
  have hlt:q*jO K+r<e.len*jO K:=by
   have:(q+1)*jO K≤e.len*jO K:=Nat.mul_le_mul_right _ hq;rw [Nat.succ_mul] at this;omega
  rw [c1.cell,←afN (ahA K hK e.m) hq hr,←c2,List.getElem?_take,if_pos hlt]
theorem jr.rowAt {w:World}{bh:Nat}{cs:List Value}{n:Nat}{es:Nat→List dF}(h:gK w bh cs n es){K:Nat}(hK:K<6):∃a cap,w.cell? ⟨bh,7+2*K,none⟩=some (.slice a (es K).length cap):=by
 obtain⟨vr,r1,r2⟩:=h.row (7+2*K) (by omega) (by omega);obtain⟨ra,rc,rfl⟩:=cZ r2;have l7:kJ es (7+2*K)=(es K).map dF.sl:=by unfold kJ;rw [if_pos (by omega),show (7+2*K-7) / 2=K by omega]
 rw [l7,List.length_map] at r1;exact⟨ra,rc,by rw [h.hands.1.cell];exact r1⟩
theorem jr.below {w w':World}{bh:Nat}{cs:List Value}{n:Nat}{es:Nat→List dF}{rs:Nat→List Value}(h:jr w bh cs n es rs)(hb:Below w.heap.size w w'):jr w' bh cs n es rs:=h.mods (sJ hb) (fun f=>f) (fun _ _ _ f=>f) (fun _ _ _ _ _ _ f=>f)

theorem abf (w:World)(bh:Nat)(cs:List Value)(n:Nat)(es:Nat→List dF)(h:gK w bh cs n es)(hc:∀j,j<6→(es j).length≤16777216) :
  Calls Tryz.prog 47 #[.pointer (some ⟨bh,0,none⟩)] w fun e w'=>e= .returned (.bool true)∧Below w.heap.size w w':=by
 have H:=hide h;clear h;go_enter Tryz.func47,Tryz.ntmps47
 go_wp2_with fail
 go_loopw [3,4] (fun s3 so wr=>∃i:Nat,i≤(es 0).length∧so= .int .i64 i∧s3= .bool true∧Below w.heap.size w wr) (fun _ so _=>(es 0).length-(intOf so).toNat)
 case atStart=>exact ⟨0,Nat.zero_le _,rfl,rfl,Below.refl _ _⟩
 case round=>
  obtain⟨i,hi,rfl,rfl,hb⟩:=hrel;have hcK:=hc 0 (by omega)
  by_cases hlt:i<(es 0).length
  ·have hlt':(i:Int)<((es 0).length:Int):=by omega
   obtain⟨g,gm,cap,qP,a,len,ec,m,hL⟩:=((ah H).below hb).look (by omega) hlt;obtain⟨r1,r2,r3,r4,r5,r6⟩:=hL;simp only [jO,ig,Nat.reduceMul,Nat.reduceAdd] at r1 r2 r6;have R6:=hide r6;have HB:=hide hb;clear r6 hb;obtain⟨wo,rfl⟩:∃wo:World,wo=wr:=⟨_,rfl⟩;generalize (es 0).length=L at *;go_wp2_with fail
   go_loopw [3,5] (fun s3 sn wr=>∃q:Nat,q≤len∧sn= .int .i64 q∧s3= .bool true∧Below wo.heap.size wo wr) (fun _ sn _=>len-(intOf sn).toNat)
   case atStart=>exact ⟨0,Nat.zero_le _,rfl,rfl,Below.refl _ _⟩
   case round=>
    obtain⟨q,hq,rfl,rfl,hb⟩:=hrel;have kp:=Keeps.of_below hb;have c1:=kp _ _ r1;have c2:=kp _ _ r2;have c3:=kp _ _ r3;have c4:=kp _ _ r4;have HB2:=hide hb
    by_cases lu:q<len
    ·as_aux_lemma=>
      have uP:(q:Int)<(len:Int):=by omega
      obtain⟨ge,rfl,hat⟩:=(ah R6) (by omega);have d0:wr.cell? ⟨ge,q,none⟩=some (.int .i64 m):=kp _ _ (by have:=hat q lu 0 (by omega);simpa using this);clear kp hat r1 r2 r3 r4 hb;go_wp2_with fail
      go_region_held3 (fun w'=>w'.cell? ⟨bh,7,none⟩=some (.slice (some ⟨g,0,none⟩) L cap)∧w'.cell? ⟨bh,8,none⟩=some (.slice (some ⟨gm,0,none⟩) L qP)∧w'.cell? ⟨g,i,none⟩=some (.slice (some ⟨ge,0,none⟩) len ec)∧w'.cell? ⟨gm,i,none⟩=some (.int .i64 m)∧w'.cell? ⟨ge,q,none⟩=some (.int .i64 m))
       (first | (exact⟨c1,c2,c3,c4,d0⟩) | go_keep)
       (fail)
      go_wp2_with fail
      exact⟨⟨q+1,by omega,by go_num,rfl,(ah HB2).drew⟩,by simp [intOf];omega⟩
    ·have uP:¬(q:Int)<(len:Int):=by omega
     go_wp2_with fail
     exact⟨⟨i+1,by omega,by go_num,rfl,(ah HB).trans (hb.mono (ah HB).size)⟩,by simp [intOf];omega⟩
  ·have hlt':¬(i:Int)<((es 0).length:Int):=by omega
   obtain⟨a,cap,r1⟩:=((ah H).below hb).rowAt (K:=0) (by omega);simp only [Nat.reduceMul,Nat.reduceAdd] at r1;have HB0:=hide hb;go_wp2_with fail
   clear r1 hlt' hlt hi;clear hb
   go_loopw [3,6] (fun s3 so wr=>∃i:Nat,i≤(es 5).length∧so= .int .i64 i∧s3= .bool true∧Below w.heap.size w wr) (fun _ so _=>(es 5).length-(intOf so).toNat)
   case atStart=>exact ⟨0,Nat.zero_le _,rfl,rfl,ah HB0⟩
   case round=>
    obtain⟨i,hi,rfl,rfl,hb⟩:=hrel;clear HB0;have hcK:=hc 5 (by omega)
    by_cases hlt:i<(es 5).length
    ·have hlt':(i:Int)<((es 5).length:Int):=by omega
     obtain⟨g,gm,cap,qP,a,len,ec,m,hL⟩:=((ah H).below hb).look (by omega) hlt;obtain⟨r1,r2,r3,r4,r5,r6⟩:=hL;simp only [jO,ig,Nat.reduceMul,Nat.reduceAdd] at r1 r2 r6;have R6:=hide r6;have HB:=hide hb;clear r6 hb;obtain⟨wo,rfl⟩:∃wo:World,wo=wr:=⟨_,rfl⟩;generalize (es 5).length=L at *;go_wp2_with fail
     go_loopw [3,7] (fun s3 sn wr=>∃q:Nat,q≤len∧sn= .int .i64 q∧s3= .bool true∧Below wo.heap.size wo wr) (fun _ sn _=>len-(intOf sn).toNat)
     case atStart=>exact ⟨0,Nat.zero_le _,rfl,rfl,Below.refl _ _⟩
     case round=>
      obtain⟨q,hq,rfl,rfl,hb⟩:=hrel;have kp:=Keeps.of_below hb;have c1:=kp _ _ r1;have c2:=kp _ _ r2;have c3:=kp _ _ r3;have c4:=kp _ _ r4;have HB2:=hide hb
      by_cases lu:q<len
      ·as_aux_lemma=>
        have uP:(q:Int)<(len:Int):=by omega
        obtain⟨ge,rfl,hat⟩:=(ah R6) (by omega);have d0:wr.cell? ⟨ge,q,none⟩=some (.int .i64 m):=kp _ _ (by have:=hat q lu 0 (by omega);simpa using this);clear kp hat r1 r2 r3 r4 hb;go_wp2_with fail
        go_region_held3 (fun w'=>w'.cell? ⟨bh,17,none⟩=some (.slice (some ⟨g,0,none⟩) L cap)∧w'.cell? ⟨bh,18,none⟩=some (.slice (some ⟨gm,0,none⟩) L qP)∧w'.cell? ⟨g,i,none⟩=some (.slice (some ⟨ge,0,none⟩) len ec)∧w'.cell? ⟨gm,i,none⟩=some (.int .i64 m)∧w'.cell? ⟨ge,q,none⟩=some (.int .i64 m))
         (first | (exact⟨c1,c2,c3,c4,d0⟩) | go_keep)
         (fail)
        go_wp2_with fail
        exact⟨⟨q+1,by omega,by go_num,rfl,(ah HB2).drew⟩,by simp [intOf];omega⟩
      ·have uP:¬(q:Int)<(len:Int):=by omega
       go_wp2_with fail
       exact⟨⟨i+1,by omega,by go_num,rfl,(ah HB).trans (hb.mono (ah HB).size)⟩,by simp [intOf];omega⟩
    ·have hlt':¬(i:Int)<((es 5).length:Int):=by omega
     obtain⟨a,cap,r1⟩:=((ah H).below hb).rowAt (K:=5) (by omega);simp only [Nat.reduceMul,Nat.reduceAdd] at r1;have HB0:=hide hb;go_wp2_with fail
     clear r1 hlt' hlt hi;clear hb
     go_loopw [3,8] (fun s3 so wr=>∃i:Nat,i≤(es 1).length∧so= .int .i64 i∧s3= .bool true∧Below w.heap.size w wr) (fun _ so _=>(es 1).length-(intOf so).toNat)
     case atStart=>exact ⟨0,Nat.zero_le _,rfl,rfl,ah HB0⟩
     case round=>
      obtain⟨i,hi,rfl,rfl,hb⟩:=hrel;clear HB0;have hcK:=hc 1 (by omega)
      by_cases hlt:i<(es 1).length
      ·have hlt':(i:Int)<((es 1).length:Int):=by omega
       obtain⟨g,gm,cap,qP,a,len,ec,m,hL⟩:=((ah H).below hb).look (by omega) hlt;obtain⟨r1,r2,r3,r4,r5,r6⟩:=hL;simp only [jO,ig,Nat.reduceMul,Nat.reduceAdd] at r1 r2 r6;have R6:=hide r6;have HB:=hide hb;clear r6 hb;obtain⟨wo,rfl⟩:∃wo:World,wo=wr:=⟨_,rfl⟩;generalize (es 1).length=L at *;go_wp2_with fail
       go_loopw [3,9] (fun s3 sn wr=>∃q:Nat,q≤len∧sn= .int .i64 q∧s3= .bool true∧Below wo.heap.size wo wr) (fun _ sn _=>len-(intOf sn).toNat)
       case atStart=>exact ⟨0,Nat.zero_le _,rfl,rfl,Below.refl _ _⟩
       case round=>
        obtain⟨q,hq,rfl,rfl,hb⟩:=hrel;have kp:=Keeps.of_below hb;have c1:=kp _ _ r1;have c2:=kp _ _ r2;have c3:=kp _ _ r3;have c4:=kp _ _ r4;have HB2:=hide hb
        by_cases lu:q<len
        ·as_aux_lemma=>
          have uP:(q:Int)<(len:Int):=by omega
          obtain⟨ge,rfl,hat⟩:=(ah R6) (by omega);have d0:wr.cell? ⟨ge,q*3,none⟩=some (.int .i64 m):=kp _ _ (by have:=hat q lu 0 (by omega);simpa using this);have d1:wr.cell? ⟨ge,q*3+1,none⟩=some (.int .i64 0):=kp _ _ (by have:=hat q lu 1 (by omega);simpa using this);have d2:wr.cell? ⟨ge,q*3+2,none⟩=some (.int .i64 0):=kp _ _ (by have:=hat q lu 2 (by omega);simpa using this);clear kp hat r1 r2 r3 r4 hb;go_wp2_with fail
          go_region_held3 (fun w'=>w'.cell? ⟨bh,9,none⟩=some (.slice (some ⟨g,0,none⟩) L cap)∧w'.cell? ⟨bh,10,none⟩=some (.slice (some ⟨gm,0,none⟩) L qP)∧w'.cell? ⟨g,i,none⟩=some (.slice (some ⟨ge,0,none⟩) len ec)∧w'.cell? ⟨gm,i,none⟩=some (.int .i64 m)∧w'.cell? ⟨ge,q*3,none⟩=some (.int .i64 m)∧w'.cell? ⟨ge,q*3+1,none⟩=some (.int .i64 0)∧w'.cell? ⟨ge,q*3+2,none⟩=some (.int .i64 0))
           (first | (exact⟨c1,c2,c3,c4,d0,d1,d2⟩) | go_keep)
           (fail)
          go_wp2_with fail
          exact⟨⟨q+1,by omega,by go_num,rfl,(ah HB2).drew⟩,by simp [intOf];omega⟩
        ·have uP:¬(q:Int)<(len:Int):=by omega
         go_wp2_with fail
         exact⟨⟨i+1,by omega,by go_num,rfl,(ah HB).trans (hb.mono (ah HB).size)⟩,by simp [intOf];omega⟩
      ·have hlt':¬(i:Int)<((es 1).length:Int):=by omega
       obtain⟨a,cap,r1⟩:=((ah H).below hb).rowAt (K:=1) (by omega);simp only [Nat.reduceMul,Nat.reduceAdd] at r1;have HB0:=hide hb;go_wp2_with fail
       clear r1 hlt' hlt hi;clear hb
       go_loopw [3,10] (fun s3 so wr=>∃i:Nat,i≤(es 2).length∧so= .int .i64 i∧s3= .bool true∧Below w.heap.size w wr) (fun _ so _=>(es 2).length-(intOf so).toNat)
       case atStart=>exact ⟨0,Nat.zero_le _,rfl,rfl,ah HB0⟩
       case round=>
        obtain⟨i,hi,rfl,rfl,hb⟩:=hrel;clear HB0;have hcK:=hc 2 (by omega)
        by_cases hlt:i<(es 2).length
        ·have hlt':(i:Int)<((es 2).length:Int):=by omega
         obtain⟨g,gm,cap,qP,a,len,ec,m,hL⟩:=((ah H).below hb).look (by omega) hlt;obtain⟨r1,r2,r3,r4,r5,r6⟩:=hL;simp only [jO,ig,Nat.reduceMul,Nat.reduceAdd] at r1 r2 r6;have R6:=hide r6;have HB:=hide hb;clear r6 hb;obtain⟨wo,rfl⟩:∃wo:World,wo=wr:=⟨_,rfl⟩;generalize (es 2).length=L at *;go_wp2_with fail
         go_loopw [3,11] (fun s3 sn wr=>∃q:Nat,q≤len∧sn= .int .i64 q∧s3= .bool true∧Below wo.heap.size wo wr) (fun _ sn _=>len-(intOf sn).toNat)
         case atStart=>exact ⟨0,Nat.zero_le _,rfl,rfl,Below.refl _ _⟩
         case round=>
          obtain⟨q,hq,rfl,rfl,hb⟩:=hrel;have kp:=Keeps.of_below hb;have c1:=kp _ _ r1;have c2:=kp _ _ r2;have c3:=kp _ _ r3;have c4:=kp _ _ r4;have HB2:=hide hb
          by_cases lu:q<len
          ·as_aux_lemma=>
            have uP:(q:Int)<(len:Int):=by omega
            obtain⟨ge,rfl,hat⟩:=(ah R6) (by omega);have d0:wr.cell? ⟨ge,q*3,none⟩=some (.int .i64 m):=kp _ _ (by have:=hat q lu 0 (by omega);simpa using this);have d1:wr.cell? ⟨ge,q*3+1,none⟩=some (.slice none 0 0):=kp _ _ (by have:=hat q lu 1 (by omega);simpa using this);have d2:wr.cell? ⟨ge,q*3+2,none⟩=some (.slice none 0 0):=kp _ _ (by have:=hat q lu 2 (by omega);simpa using this);clear kp hat r1 r2 r3 r4 hb;go_wp2_with fail
            have B:=ak.new wr #[.int .i64 m,.slice none 0 0,.slice none 0 0] 42;have hY:Below wr.heap.size wr (wr.alloc (.cells #[.int .i64 m,.slice none 0 0,.slice none 0 0] 42)):=aS _ _;generalize wr.alloc _=Y at *;have b0:Y.cell? ⟨wr.heap.size,0,none⟩=some (.int .i64 m):=B.cell 0;have b1:Y.cell? ⟨wr.heap.size,1,none⟩=some (.slice none 0 0):=B.cell 1;have b2:Y.cell? ⟨wr.heap.size,2,none⟩=some (.slice none 0 0):=B.cell 2;have x2:=IB c2 hY;have x4:=IB c4 hY;clear c1 c2 c3 c4 d0 d1 d2 B;have HY:=hide hY;clear hY
            go_region_held3 (fun w'=>w'.cell? ⟨bh,12,none⟩=some (.slice (some ⟨gm,0,none⟩) L qP)∧w'.cell? ⟨gm,i,none⟩=some (.int .i64 m)∧w'.cell? ⟨wr.heap.size,0,none⟩=some (.int .i64 m)∧w'.cell? ⟨wr.heap.size,1,none⟩=some (.slice none 0 0)∧w'.cell? ⟨wr.heap.size,2,none⟩=some (.slice none 0 0))
             (first | (exact⟨x2,x4,b0,b1,b2⟩) | go_keep)
             (fail)
            go_wp2_with fail
            exact⟨⟨q+1,by omega,by go_num,rfl,((ah HB2).trans ((ah HY).mono (ah HB2).size)).drew⟩,by simp [intOf];omega⟩
          ·have uP:¬(q:Int)<(len:Int):=by omega
           go_wp2_with fail
           exact⟨⟨i+1,by omega,by go_num,rfl,(ah HB).trans (hb.mono (ah HB).size)⟩,by simp [intOf];omega⟩
        ·have hlt':¬(i:Int)<((es 2).length:Int):=by omega
         obtain⟨a,cap,r1⟩:=((ah H).below hb).rowAt (K:=2) (by omega);simp only [Nat.reduceMul,Nat.reduceAdd] at r1;have HB0:=hide hb;go_wp2_with fail
         clear r1 hlt' hlt hi;clear hb
         go_loopw [3,13] (fun s3 so wr=>∃i:Nat,i≤(es 3).length∧so= .int .i64 i∧s3= .bool true∧Below w.heap.size w wr) (fun _ so _=>(es 3).length-(intOf so).toNat)
         case atStart=>exact ⟨0,Nat.zero_le _,rfl,rfl,ah HB0⟩
         case round=>
          obtain⟨i,hi,rfl,rfl,hb⟩:=hrel;clear HB0;have hcK:=hc 3 (by omega)
          by_cases hlt:i<(es 3).length
          ·have hlt':(i:Int)<((es 3).length:Int):=by omega
           obtain⟨g,gm,cap,qP,a,len,ec,m,hL⟩:=((ah H).below hb).look (by omega) hlt;obtain⟨r1,r2,r3,r4,r5,r6⟩:=hL;simp only [jO,ig,Nat.reduceMul,Nat.reduceAdd] at r1 r2 r6;have R6:=hide r6;have HB:=hide hb;clear r6 hb;obtain⟨wo,rfl⟩:∃wo:World,wo=wr:=⟨_,rfl⟩;generalize (es 3).length=L at *;go_wp2_with fail
           go_loopw [3,14] (fun s3 sn wr=>∃q:Nat,q≤len∧sn= .int .i64 q∧s3= .bool true∧Below wo.heap.size wo wr) (fun _ sn _=>len-(intOf sn).toNat)
           case atStart=>exact ⟨0,Nat.zero_le _,rfl,rfl,Below.refl _ _⟩
           case round=>
            obtain⟨q,hq,rfl,rfl,hb⟩:=hrel;have kp:=Keeps.of_below hb;have c1:=kp _ _ r1;have c2:=kp _ _ r2;have c3:=kp _ _ r3;have c4:=kp _ _ r4;have HB2:=hide hb
            by_cases lu:q<len
            ·as_aux_lemma=>
              have uP:(q:Int)<(len:Int):=by omega
              obtain⟨ge,rfl,hat⟩:=(ah R6) (by omega);have d0:wr.cell? ⟨ge,q*7,none⟩=some (.int .i64 m):=kp _ _ (by have:=hat q lu 0 (by omega);simpa using this);have d1:wr.cell? ⟨ge,q*7+1,none⟩=some (.slice none 0 0):=kp _ _ (by have:=hat q lu 1 (by omega);simpa using this);have d2:wr.cell? ⟨ge,q*7+2,none⟩=some (.int .i64 0):=kp _ _ (by have:=hat q lu 2 (by omega);simpa using this);have d3:wr.cell? ⟨ge,q*7+3,none⟩=some (.int .i64 0):=kp _ _ (by have:=hat q lu 3 (by omega);simpa using this);have d4:wr.cell? ⟨ge,q*7+4,none⟩=some (.int .i64 0):=kp _ _ (by have:=hat q lu 4 (by omega);simpa using this)
              have d5:wr.cell? ⟨ge,q*7+5,none⟩=some (.slice none 0 0):=kp _ _ (by have:=hat q lu 5 (by omega);simpa using this);have d6:wr.cell? ⟨ge,q*7+6,none⟩=some (.slice none 0 0):=kp _ _ (by have:=hat q lu 6 (by omega);simpa using this);clear kp hat r1 r2 r3 r4 hb;go_wp2_with fail
              have B:=ak.new wr #[.int .i64 m,.slice none 0 0,.int .i64 0,.int .i64 0,.int .i64 0,.slice none 0 0,.slice none 0 0] 63;have hY:Below wr.heap.size wr (wr.alloc (.cells #[.int .i64 m,.slice none 0 0,.int .i64 0,.int .i64 0,.int .i64 0,.slice none 0 0,.slice none 0 0] 63)):=aS _ _;generalize wr.alloc _=Y at *;have b0:Y.cell? ⟨wr.heap.size,0,none⟩=some (.int .i64 m):=B.cell 0;have b1:Y.cell? ⟨wr.heap.size,1,none⟩=some (.slice none 0 0):=B.cell 1;have b5:Y.cell? ⟨wr.heap.size,5,none⟩=some (.slice none 0 0):=B.cell 5;have x2:=IB c2 hY;have x4:=IB c4 hY;clear c1 c2 c3 c4 d0 d1 d2 d3 d4 d5 d6 B;have HY:=hide hY;clear hY
              go_region_held3 (fun w'=>w'.cell? ⟨bh,14,none⟩=some (.slice (some ⟨gm,0,none⟩) L qP)∧w'.cell? ⟨gm,i,none⟩=some (.int .i64 m)∧w'.cell? ⟨wr.heap.size,0,none⟩=some (.int .i64 m)∧w'.cell? ⟨wr.heap.size,1,none⟩=some (.slice none 0 0)∧w'.cell? ⟨wr.heap.size,5,none⟩=some (.slice none 0 0))
               (first | (exact⟨x2,x4,b0,b1,b5⟩) | go_keep)
               (fail)
              go_wp2_with fail
              exact⟨⟨q+1,by omega,by go_num,rfl,((ah HB2).trans ((ah HY).mono (ah HB2).size)).drew⟩,by simp [intOf];omega⟩
            ·have uP:¬(q:Int)<(len:Int):=by omega
             go_wp2_with fail
             exact⟨⟨i+1,by omega,by go_num,rfl,(ah HB).trans (hb.mono (ah HB).size)⟩,by simp [intOf];omega⟩
          ·have hlt':¬(i:Int)<((es 3).length:Int):=by omega
           obtain⟨a,cap,r1⟩:=((ah H).below hb).rowAt (K:=3) (by omega);simp only [Nat.reduceMul,Nat.reduceAdd] at r1;have HB0:=hide hb;go_wp2_with fail
           clear r1 hlt' hlt hi;clear hb
           go_loopw [3,16] (fun s3 so wr=>∃i:Nat,i≤(es 4).length∧so= .int .i64 i∧s3= .bool true∧Below w.heap.size w wr) (fun _ so _=>(es 4).length-(intOf so).toNat)
           case atStart=>exact ⟨0,Nat.zero_le _,rfl,rfl,ah HB0⟩
           case round=>
            obtain⟨i,hi,rfl,rfl,hb⟩:=hrel;clear HB0;have hcK:=hc 4 (by omega)
            by_cases hlt:i<(es 4).length
            ·have hlt':(i:Int)<((es 4).length:Int):=by omega
             obtain⟨g,gm,cap,qP,a,len,ec,m,hL⟩:=((ah H).below hb).look (by omega) hlt;obtain⟨r1,r2,r3,r4,r5,r6⟩:=hL;simp only [jO,ig,Nat.reduceMul,Nat.reduceAdd] at r1 r2 r6;have R6:=hide r6;have HB:=hide hb;clear r6 hb;obtain⟨wo,rfl⟩:∃wo:World,wo=wr:=⟨_,rfl⟩;generalize (es 4).length=L at *;go_wp2_with fail
             go_loopw [3,17] (fun s3 sn wr=>∃q:Nat,q≤len∧sn= .int .i64 q∧s3= .bool true∧Below wo.heap.size wo wr) (fun _ sn _=>len-(intOf sn).toNat)
             case atStart=>exact ⟨0,Nat.zero_le _,rfl,rfl,Below.refl _ _⟩
             case round=>
              obtain⟨q,hq,rfl,rfl,hb⟩:=hrel;have kp:=Keeps.of_below hb;have c1:=kp _ _ r1;have c2:=kp _ _ r2;have c3:=kp _ _ r3;have c4:=kp _ _ r4;have HB2:=hide hb
              by_cases lu:q<len
              ·as_aux_lemma=>
                have uP:(q:Int)<(len:Int):=by omega
                obtain⟨ge,rfl,hat⟩:=(ah R6) (by omega);have d0:wr.cell? ⟨ge,q*3,none⟩=some (.int .i64 m):=kp _ _ (by have:=hat q lu 0 (by omega);simpa using this);have d1:wr.cell? ⟨ge,q*3+1,none⟩=some (.slice none 0 0):=kp _ _ (by have:=hat q lu 1 (by omega);simpa using this);have d2:wr.cell? ⟨ge,q*3+2,none⟩=some (.slice none 0 0):=kp _ _ (by have:=hat q lu 2 (by omega);simpa using this);clear kp hat r1 r2 r3 r4 hb;go_wp2_with fail
                have B:=ak.new wr #[.int .i64 m,.slice none 0 0,.slice none 0 0] 66;have hY:Below wr.heap.size wr (wr.alloc (.cells #[.int .i64 m,.slice none 0 0,.slice none 0 0] 66)):=aS _ _;generalize wr.alloc _=Y at *;have b0:Y.cell? ⟨wr.heap.size,0,none⟩=some (.int .i64 m):=B.cell 0;have b1:Y.cell? ⟨wr.heap.size,1,none⟩=some (.slice none 0 0):=B.cell 1;have b2:Y.cell? ⟨wr.heap.size,2,none⟩=some (.slice none 0 0):=B.cell 2;have x2:=IB c2 hY;have x4:=IB c4 hY;clear c1 c2 c3 c4 d0 d1 d2 B;have HY:=hide hY;clear hY
                go_region_held3 (fun w'=>w'.cell? ⟨bh,16,none⟩=some (.slice (some ⟨gm,0,none⟩) L qP)∧w'.cell? ⟨gm,i,none⟩=some (.int .i64 m)∧w'.cell? ⟨wr.heap.size,0,none⟩=some (.int .i64 m)∧w'.cell? ⟨wr.heap.size,1,none⟩=some (.slice none 0 0)∧w'.cell? ⟨wr.heap.size,2,none⟩=some (.slice none 0 0))
                 (first | (exact⟨x2,x4,b0,b1,b2⟩) | go_keep)
                 (fail)
                go_wp2_with fail
                exact⟨⟨q+1,by omega,by go_num,rfl,((ah HB2).trans ((ah HY).mono (ah HB2).size)).drew⟩,by simp [intOf];omega⟩
              ·have uP:¬(q:Int)<(len:Int):=by omega
               go_wp2_with fail
               exact⟨⟨i+1,by omega,by go_num,rfl,(ah HB).trans (hb.mono (ah HB).size)⟩,by simp [intOf];omega⟩
            ·have hlt':¬(i:Int)<((es 4).length:Int):=by omega
             obtain⟨a,cap,r1⟩:=((ah H).below hb).rowAt (K:=4) (by omega);simp only [Nat.reduceMul,Nat.reduceAdd] at r1;have HB0:=hide hb;go_wp2_with fail
             clear r1 hlt' hlt hi;go_ret;exact⟨rfl,hb⟩
theorem acr {m:aC}(h:aco m):UL m∧zX m≤83:=by
 obtain⟨h1,h2,h3,h4,h5⟩:=h;refine⟨⟨by omega,by omega,by omega,fun f hf=>?_⟩,by unfold zX;omega⟩;have:=h5 f hf;unfold LU at this;omega
theorem acp {x:aj}(h:acn x):UK x∧EL x≤3322:=by
 obtain⟨h1,h2,h3⟩:=h;have hs:=FT zX 83 x.aB (fun m hm=>(acr (h3 m hm)).2)
 have hm:gX x.aB≤3320:=by
  have:x.aB.length*83≤40*83:=Nat.mul_le_mul_right _ h2;unfold gX;omega
 exact⟨⟨by omega,by omega,by omega,fun m hm=>(acr (h3 m hm)).1⟩,by unfold EL;omega⟩
theorem ajT {p:List aj}(h:p= []∨bD p=0):p.length≤6∧(∀x∈p,UK x)∧kS p≤20000∧bn p≤1000000:=by
 rcases h with h | h
 ·rw [h];refine⟨by simp,fun x hx=>(by cases hx),by decide,by decide⟩
 ·obtain⟨h1,h2⟩:=Y5 h;have hs:=FT EL 3322 p (fun x hx=>(acp (h2 x hx)).2)
  have hz:=FT gJ 150000 p (fun x hx=>by
   obtain⟨s1,s2,s3⟩:=h2 x hx
   have hm:=FT dN 3600 x.aB (fun m hm=>by
    obtain⟨t1,t2,t3,t4,t5⟩:=s3 m hm
    have hf:=FT iH 84 m.frames (fun f hf=>by
     have:=t5 f hf;unfold LU at this;unfold iH
     omega)
    have:m.frames.length*84≤40*84:=Nat.mul_le_mul_right _ t4;unfold dN
    omega)
   have:x.aB.length*3600≤40*3600:=Nat.mul_le_mul_right _ s2;unfold gJ
   omega)
  refine⟨h1,fun x hx=>(acp (h2 x hx)).1,?_,?_⟩
  ·unfold kS;have:p.length*3322≤6*3322:=Nat.mul_le_mul_right _ h1;omega
  ·unfold bn;have:p.length*150000≤6*150000:=Nat.mul_le_mul_right _ h1;omega
structure Rj (w w':World)(bh:Nat)(cs cs':List Value)(n n':Nat)(es es':Nat→List dF):Prop where
 inv:gK w' bh cs' n' es'
 nle:n'≤n+20001
 cnt:∀j,j<6→(es' j).length≤(es j).length+80004
 mods:ay (fun k=>k=bh∨∃f,OwnAt cs f k) w w'
 rows:∀f k,OwnAt cs' f k→OwnAt cs f k∨w.heap.size≤k

abbrev Aq:List Value:= [.slice none 0 0,.slice none 0 0,.slice none 0 0,.slice none 0 0,.slice none 0 0,.slice none 0 0,.int .i64 0,.slice none 0 0,.slice none 0 0,.slice none 0 0,.slice none 0 0,.slice none 0 0,.slice none 0 0,.slice none 0 0,.slice none 0 0,.slice none 0 0,.slice none 0 0,.slice none 0 0,.slice none 0 0]
theorem ZP (f:Nat)(h7:7≤f)(h19:f<19):Aq[f]? =some (.slice none 0 0):=by
 match f,h7,h19 with
 | 7, _, _ | 8, _, _ | 9, _, _ | 10, _, _ | 11, _, _ | 12, _, _ | 13, _, _ | 14, _, _ | 15, _, _ | 16, _, _ | 17, _, _ | 18, _, _ => rfl
 | n + 19, _, h => omega
theorem ZO (f:Nat)(h6:f<6):Aq[f]? =some (.slice none 0 0):=by
 match f,h6 with
 | 0, _ | 1, _ | 2, _ | 3, _ | 4, _ | 5, _ => rfl
theorem agp (f k:Nat):¬OwnAt Aq f k:=by
 rintro ⟨v,hv,hk⟩;have hf:f<19:=(List.getElem?_eq_some_iff.1 hv).1
 rcases Nat.lt_or_ge f 6 with h | h
 ·rw [ZO f h] at hv;cases hv;cases hk
 ·rcases Nat.eq_or_lt_of_le h with h | h
  ·subst h;cases hv;cases hk
  ·rw [ZP f h hf] at hv;cases hv;cases hk
theorem agn (w:World):gK (w.alloc (.cells Aq.toArray 53)) w.heap.size Aq 0 (fun _=> []):=
 ⟨⟨ak.new w Aq.toArray 53,rfl⟩,ZO,rfl,fun f h7 h19=>⟨.slice none 0 0,ZP f h7 h19,by
   have:kJ (fun _=> []) f= []:=by unfold kJ;split <;> rfl
   rw [this];exact World.ownsRow_nil _ _ _ _⟩,fun f f' k h=>absurd h (agp f k),fun i _ e he=>(by cases he),fun i _ e he=>(by cases he)⟩
end Go.Proofs.YtiiokkllmchohaaGreat
