/- The document's answer: join, states below states. -/
import Derived.Test.YtiiokkllmchohaaGreatT01
import Derived.Test.YtiiokkllmchohaaGreatT10
import Derived.Test.YtiiokkllmchohaaGreatT19
import Derived.Test.YtiiokkllmchohaaGreatT28
import Derived.Test.YtiiokkllmchohaaGreatT29
set_option maxHeartbeats 4000000
set_option maxRecDepth 100000
namespace Go.Proofs.YtiiokkllmchohaaGreat
open Go.RowKit Go.Shelf
attribute [local go_sem ↓] Go.wp_at_zero Go.wp_at_succ
attribute [local go_sem] bW
theorem ab9 (p:List aj)(vc:Value)(a b:Int)(w:World)(hp:aX w vc p)(hs:aU p p.length)(h6:p.length≤6)(ha:bT p.length a)(hb:bT p.length b) :
  Calls Tryz.prog 153 #[.agg #[vc],.int .i64 a,.int .i64 b] w fun e w'=>e= .returned (.int .i64 (dJ p a b))∧Below w.heap.size w w':=by
 have HP:=hide hp;have HJ:=hide (aiH hs h6 ha hb);obtain⟨pa,_,_,aA,rfl,_⟩:=hp;have hbel:=aS w (.cells #[.slice pa p.length aA] 24);have B0:=ak.new w #[.slice pa p.length aA] 24;go_enter Tryz.func153,Tryz.ntmps153
 go_wp2_with fail
 generalize w.alloc _=W at *;have hbox:W.cell? ⟨w.heap.size,0,none⟩=some (.slice pa p.length aA):=B0.cell 0;clear B0
 go_loopw [7,8] (fun s i wr=>∃k:Nat,k≤p.length+3∧i= .int .i64 k∧s= .int .i64 (rJ p a b k)∧bT p.length (rJ p a b k)∧Below W.heap.size W wr) (fun _ i _=>p.length+3-(intOf i).toNat)
 case atStart=>exact ⟨0,by omega,rfl,rfl,⟨by unfold rJ;omega,by unfold rJ;omega⟩,Below.refl _ _⟩
 case round=>
  obtain⟨k,hk,rfl,rfl,hT,hbr⟩:=hrel;have hf:=hbel.trans (hbr.mono hbel.size);have e0:=Keeps.of_below hbr _ _ hbox
  by_cases hlt:k<p.length+3
  ·have HS:Hid (rJ p a b (k+1)=if bf p a (k:Int) && bf p b (k:Int) && bf p (k:Int) (rJ p a b k) then (k:Int) else rJ p a b k):=rfl;generalize rJ p a b k=best at *;have k1:(k:Int)<3+(p.length:Int):=by omega
   have hpl:p.length≤4194304:=by omega
   have hk3:bT p.length (k:Int):=⟨by omega,by omega⟩;go_wp2_with fail
   refine (IL p _ a (k:Int) wr (aP (Keeps.of_below hf) (ah HP)) hs hpl ha hk3).mono ?_;rintro e w1 ⟨rfl,hb1⟩;have hr1:=hbr.trans (hb1.mono hbr.size);have hf1:=hf.trans (hb1.mono hf.size);have e1:=Keeps.of_below hr1 _ _ hbox;generalize bf p a (k:Int)=q1 at *;clear hb1 e0 hbr;go_wp2_with fail
   refine (IL p _ b (k:Int) w1 (aP (Keeps.of_below hf1) (ah HP)) hs hpl hb hk3).mono ?_;rintro e w2 ⟨rfl,hb2⟩;have hr2:=hr1.trans (hb2.mono hr1.size);have hf2:=hf1.trans (hb2.mono hf1.size);have e2:=Keeps.of_below hr2 _ _ hbox;generalize bf p b (k:Int)=q2 at *;clear hb2 e1 hr1;go_wp2_with fail
   refine (IL p _ (k:Int) best w2 (aP (Keeps.of_below hf2) (ah HP)) hs hpl hk3 hT).mono ?_;rintro e w3 ⟨rfl,hb3⟩;have hr3:=hr2.trans (hb3.mono hr2.size);generalize bf p (k:Int) best=q3 at *;clear hb3 e2 hr2
   have hfin:∀z:Int,z=(if q1 && q2 && q3 then (k:Int) else best)→bT p.length (rJ p a b (k+1))∧z=rJ p a b (k+1):=fun z hz=>by
    rw [ah HS,←hz];refine⟨?_,rfl⟩;rw [hz]
    split
    ·exact hk3
    ·exact hT
   have BL:=hide hfin;clear hfin HS
   cases q1 with
   | false =>
    go_wp2_with fail
    exact⟨⟨k+1,by omega,by go_num,congrArg (Value.int .i64) (ah BL _ rfl).2,(ah BL _ rfl).1,hr3⟩,by simp [intOf];omega⟩
   | true =>
    cases q2 with
    | false =>
     go_wp2_with fail
     exact⟨⟨k+1,by omega,by go_num,congrArg (Value.int .i64) (ah BL _ rfl).2,(ah BL _ rfl).1,hr3⟩,by simp [intOf];omega⟩
    | true =>
     cases q3 with
     | false =>
      go_wp2_with fail
      exact⟨⟨k+1,by omega,by go_num,congrArg (Value.int .i64) (ah BL _ rfl).2,(ah BL _ rfl).1,hr3⟩,by simp [intOf];omega⟩
     | true =>
      go_wp2_with fail
      exact⟨⟨k+1,by omega,by go_num,congrArg (Value.int .i64) (ah BL _ rfl).2,(ah BL _ rfl).1,hr3⟩,by simp [intOf];omega⟩
  ·obtain rfl:k=p.length+3:=by omega
   obtain⟨j,hj⟩:∃j,j=rJ p a b (p.length+3):=⟨_,rfl⟩;rw [←hj];have Ei:=hide (hj.trans (ah HJ));have k1:¬((p.length+3:Nat):Int)<3+(p.length:Int):=by omega
   clear hj hT;go_wp2_with fail
   go_ret;exact⟨lN (ah Ei),hf⟩
def uY (p:List aj)(s t:aH):Bool:=(s.stk.length == t.stk.length) && (s.loc.length == t.loc.length) && ((s.stk.zip t.stk).all fun x=>bf p x.1 x.2) && ((s.loc.zip t.loc).all fun x=>bf p x.1 x.2)
def dG (g:Addr→Option Value)(s:aH)(vl vs:Value):Prop:=aV 1 (fE g) vl s.loc∧aV 1 (fE g) vs s.stk
theorem dG.keep {g g':Addr→Option Value}(h:dM g g'){s:aH}{vl vs:Value}(r:dG g s vl vs):dG g' s vl vs:=⟨dA h r.1,dA h r.2⟩
theorem VO (f:Int×Int→Bool){l u:List Int}{k:Nat}(h1:k<l.length)(h2:k<u.length):((l.take (k+1)).zip (u.take (k+1))).all f=(((l.take k).zip (u.take k)).all f && f (l[k],u[k])):=by
 rw [List.take_add_one,List.take_add_one,List.getElem?_eq_getElem h1,List.getElem?_eq_getElem h2,List.zip_append (by simp;omega),List.all_append];simp
theorem Me (f:Int×Int→Bool){l u:List Int}{k:Nat}(h1:k<l.length)(h2:k<u.length)(h:f (l[k],u[k])=false):(l.zip u).all f=false:=by
 rw [List.all_eq_false];exact⟨(l[k],u[k]),by rw [←List.getElem_zip (h:=by simp;omega)];exact List.getElem_mem _,by rw [h];simp⟩
theorem ajn (p:List aj)(vc:Value)(s t:aH)(ia ib:Bool)(val nT mg mD:Value)(w:World)(hp:aX w vc p)(hs:aU p p.length)(hz:p.length≤4194304)(hA:dG w.cell? s val nT)(hB:dG w.cell? t mg mD)(tA:gI p s)(tB:gI p t)(l1:s.loc.length≤4194304)(l2:s.stk.length≤4194304) :
  Calls Tryz.prog 99 #[.agg #[vc],.agg #[.bool ia,val,nT],.agg #[.bool ib,mg,mD]] w fun e w'=>e= .returned (.bool (uY p s t))∧Below w.heap.size w w':=by
 have HP:=hide hp;obtain⟨pa,_,_,aA,rfl,_⟩:=hp;obtain⟨kQ,JK,JL,jU,rfl,_,TF,KH⟩:=jo hA.1;obtain⟨yJ,JM,JO,vN,rfl,_,hash,KJ⟩:=jo hA.2;obtain⟨bla,JQ,JR,vP,rfl,_,TJ,KO⟩:=jo hB.1;obtain⟨wU,GV,GX,vS,rfl,_,Oo,KT⟩:=jo hB.2;have Gi:=hide KH;have HAS:=hide KJ;have Qn:=hide KO;have Qo:=hide KT;clear KH KJ KO KT hA hB;have hbel:Below w.heap.size w (((w.alloc (.cells #[.slice pa p.length aA] 24)).alloc (.cells #[.bool ia,.slice kQ s.loc.length jU,.slice yJ s.stk.length vN] 149)).alloc (.cells #[.bool ib,.slice bla t.loc.length vP,.slice wU t.stk.length vS] 149)):=(dS _ _ _).alloc (by simp;omega) _
 have B0:=((ak.new w #[.slice pa p.length aA] 24).alloc (.cells #[.bool ia,.slice kQ s.loc.length jU,.slice yJ s.stk.length vN] 149)).alloc (.cells #[.bool ib,.slice bla t.loc.length vP,.slice wU t.stk.length vS] 149);have B1:=(ak.new (w.alloc (.cells #[.slice pa p.length aA] 24)) #[.bool ia,.slice kQ s.loc.length jU,.slice yJ s.stk.length vN] 149).alloc (.cells #[.bool ib,.slice bla t.loc.length vP,.slice wU t.stk.length vS] 149);have B2:=ak.new ((w.alloc (.cells #[.slice pa p.length aA] 24)).alloc (.cells #[.bool ia,.slice kQ s.loc.length jU,.slice yJ s.stk.length vN] 149)) #[.bool ib,.slice bla t.loc.length vP,.slice wU t.stk.length vS] 149
 rw [World.size_alloc] at B1;rw [World.size_alloc,World.size_alloc] at B2;go_enter Tryz.func99,Tryz.ntmps99
 by_cases h1:s.stk.length=t.stk.length
 rotate_left
 ·have h1':((s.stk.length:Int) == (t.stk.length:Int))=false:=by simpa using fun h:(s.stk.length:Int)=t.stk.length=>h1 (by omega)
  have HN:Hid (uY p s t=false):=by show _=_;unfold uY;rw [show (s.stk.length == t.stk.length)=false by simpa using h1];rfl
  clear h1;go_wp2_with fail
  go_ret;exact⟨aT (ah HN).symm,hbel⟩
 by_cases h2:s.loc.length=t.loc.length
 rotate_left
 ·have h2':((s.loc.length:Int) == (t.loc.length:Int))=false:=by simpa using fun h:(s.loc.length:Int)=t.loc.length=>h2 (by omega)
  have HN:Hid (uY p s t=false):=by show _=_;unfold uY;rw [show (s.loc.length == t.loc.length)=false by simpa using h2,Bool.and_false];rfl
  rw [←h1] at hbel ⊢;clear h2 h1;go_wp2_with fail
  go_ret;exact⟨aT (ah HN).symm,hbel⟩
 have HU:Hid (uY p s t=(((s.stk.zip t.stk).all fun x=>bf p x.1 x.2) && ((s.loc.zip t.loc).all fun x=>bf p x.1 x.2))):=by show _=_;unfold uY;rw [h1,h2];simp
 have H1:=hide h1;have H2:=hide h2;rw [←h1,←h2] at hbel B0 B1 B2 ⊢;have hash':t.stk≠[]→wU=some ⟨GV,GX,none⟩:=Oo;clear h1 h2;go_wp2_with fail
 generalize ((w.alloc _).alloc _).alloc _=W at *
 have hold:∀U,Below W.heap.size W U→U.cell? ⟨w.heap.size,0,none⟩=some (.slice pa p.length aA)∧U.cell? ⟨w.heap.size+1,1,none⟩=some (.slice kQ s.loc.length jU)∧U.cell? ⟨w.heap.size+1,2,none⟩=some (.slice yJ s.stk.length vN)∧U.cell? ⟨w.heap.size+1+1,1,none⟩=some (.slice bla s.loc.length vP)∧U.cell? ⟨w.heap.size+1+1,2,none⟩=some (.slice wU s.stk.length vS):=fun U hU=>
  ⟨(B0.below hU B0.lt).cell 0,(B1.below hU B1.lt).cell 1,(B1.below hU B1.lt).cell 2,(B2.below hU B2.lt).cell 1,(B2.below hU B2.lt).cell 2⟩
 have HO:=hide hold;clear hold B0 B1 B2
 go_loopw [7] (fun i wr=>∃k:Nat,k≤s.stk.length∧i= .int .i64 k∧(((s.stk.take k).zip (t.stk.take k)).all fun x=>bf p x.1 x.2)=true∧Below W.heap.size W wr) (fun i _=>s.stk.length-(intOf i).toNat)
 case atStart=>exact ⟨0,Nat.zero_le _,rfl,rfl,Below.refl _ _⟩
 case round=>
  obtain⟨k,hk,rfl,hall,hbr⟩:=hrel;have hf:=hbel.trans (hbr.mono hbel.size);obtain⟨q0,q1,q2,q3,q4⟩:=ah HO wr hbr
  by_cases hlt:k<s.stk.length
  ·have hlt':k<t.stk.length:=by rw [←ah H1];exact hlt
   obtain rfl:=hash (bJ hlt);obtain rfl:=Oo (bJ hlt');have x0:=ah HAS k hlt;have y0:=ah Qo k hlt';have hx:=tA.2 _ (List.getElem_mem hlt);have hy:=tB.2 _ (List.getElem_mem hlt');have HS:=hide (VO (fun x=>bf p x.1 x.2) hlt hlt');have fK:=hide (Me (fun x=>bf p x.1 x.2) hlt hlt');generalize s.stk[k]=a at *;generalize t.stk[k]=b at *;have x1:=Keeps.of_below hf _ _ x0;have y1:=Keeps.of_below hf _ _ y0;have k0:(0:Int)≤(k:Int):=by omega
   have k1:(k:Int)<(s.stk.length:Int):=by omega
   go_wp2_with fail
   refine wp_region_noPanic ?_;refine wp_region_held_drew (S:=(fun w'=>w'.cell? ⟨w.heap.size,0,none⟩=some (.slice pa p.length aA)∧w'.cell? ⟨w.heap.size+1,2,none⟩=some (.slice (some ⟨JM,JO,none⟩) s.stk.length vN)∧w'.cell? ⟨w.heap.size+1+1,2,none⟩=some (.slice (some ⟨GV,GX,none⟩) s.stk.length vS)∧w'.cell? ⟨JM,JO+k,none⟩=some (.int .i64 a)∧w'.cell? ⟨GV,GX+k,none⟩=some (.int .i64 b))) (by kernel_rfl) ?_ (fun hHeld=>?_)
   ·exact⟨q0,q2,q4,x1,y1⟩
   refine au 34 0 ?_;refine au 35 1 ?_;refine au 36 2 ?_;refine au 37 3 ?_;refine au 38 4 ?_;refine au 39 5 ?_;refine au 40 6 ?_;refine au 41 7 ?_;refine au 42 8 ?_;refine au 43 9 ?_;refine au 44 10 ?_;refine aW 11 (fun K hK=>?_);go_simp;refine (IL p _ a b wr.drew (aP (Keeps.of_below ((Below.refl _ _).drew)) (aP (Keeps.of_below hf) (ah HP))) hs hz hx hy).mono ?_;rintro e w1 ⟨rfl,hb1⟩;have hb1':Below wr.heap.size wr w1:=⟨hb1.os,hb1.tape,hb1.output,hb1.size,hb1.block⟩;have hr1:=hbr.trans (hb1'.mono hbr.size);have hf1:=hf.trans (hb1'.mono hf.size);obtain⟨r0,r1,r2,r3,r4⟩:=ah HO w1 hr1;have x2:=Keeps.of_below hf1 _ _ x0
   have y2:=Keeps.of_below hf1 _ _ y0;rw [hall,Bool.true_and] at HS;have HS2:=hide (ah HS)
   cases hq:bf p a b with
   | false =>
    have HN:=hide (ah fK hq);clear hb1 x1 y1 q0 q1 q2 q3 q4 hq;go_wp2_with fail
    refine hK.out _ _ ⟨r0,r2,r4,x2,y2⟩ (fun hHeld=>?_);clear hK K;try simp only [Act.put,aK,aO,aN]
    refine au 8 12 ?_;refine wpAnyH_done (by kernel_rfl) ?_ _;refine NoPanic.normal ?_;go_wp2_with fail
    go_ret;exact⟨aT (by rw [ah HU,ah HN,Bool.false_and]),hf1⟩
   | true =>
    have HN:=hide hq;clear hb1 x1 y1 q0 q1 q2 q3 q4 hq;go_wp2_with fail
    refine hK.out _ _ ⟨r0,r2,r4,x2,y2⟩ (fun hHeld=>?_);clear hK K;try simp only [Act.put,aK,aO,aN]
    refine au 8 12 ?_;refine wpAnyH_done (by kernel_rfl) ?_ _;refine NoPanic.normal ?_;go_wp2_with fail
    exact⟨⟨k+1,by omega,by go_num,by rw [ah HS2];exact ah HN,hr1⟩,by simp [intOf];omega⟩
  ·obtain rfl:k=s.stk.length:=by omega
   have hst:((s.stk.zip t.stk).all fun x=>bf p x.1 x.2)=true:=by
    rw [List.take_length,ah H1,List.take_length] at hall;exact hall
   have HST:=hide hst;have k1:¬(s.stk.length:Int)<(s.stk.length:Int):=by omega
   clear hall hst;go_wp2_with fail
   obtain⟨w5,rfl⟩:∃w5:World,w5=wr:=⟨_,rfl⟩;clear q0 q1 q2 q3 q4
   go_loopw [9] (fun i wr=>∃k:Nat,k≤s.loc.length∧i= .int .i64 k∧(((s.loc.take k).zip (t.loc.take k)).all fun x=>bf p x.1 x.2)=true∧Below W.heap.size W wr) (fun i _=>s.loc.length-(intOf i).toNat)
   case atStart=>exact ⟨0,Nat.zero_le _,rfl,rfl,hbr⟩
   case round=>
    clear hbr hf;obtain⟨k,hk,rfl,hall,hbr⟩:=hrel;have hf:=hbel.trans (hbr.mono hbel.size);obtain⟨q0,q1,q2,q3,q4⟩:=ah HO wr hbr
    by_cases hlt:k<s.loc.length
    ·have hlt':k<t.loc.length:=by rw [←ah H2];exact hlt
     obtain rfl:=TF (bJ hlt);obtain rfl:=TJ (bJ hlt');have x0:=ah Gi k hlt;have y0:=ah Qn k hlt';have hx:=tA.1 _ (List.getElem_mem hlt);have hy:=tB.1 _ (List.getElem_mem hlt');have HS:=hide (VO (fun x=>bf p x.1 x.2) hlt hlt');have fK:=hide (Me (fun x=>bf p x.1 x.2) hlt hlt');generalize s.loc[k]=a at *;generalize t.loc[k]=b at *;have x1:=Keeps.of_below hf _ _ x0;have y1:=Keeps.of_below hf _ _ y0;have k0:(0:Int)≤(k:Int):=by omega
     have k1:(k:Int)<(s.loc.length:Int):=by omega
     go_wp2_with fail
     refine wp_region_noPanic ?_;refine wp_region_held_drew (S:=(fun w'=>w'.cell? ⟨w.heap.size,0,none⟩=some (.slice pa p.length aA)∧w'.cell? ⟨w.heap.size+1,1,none⟩=some (.slice (some ⟨JK,JL,none⟩) s.loc.length jU)∧w'.cell? ⟨w.heap.size+1+1,1,none⟩=some (.slice (some ⟨JQ,JR,none⟩) s.loc.length vP)∧w'.cell? ⟨JK,JL+k,none⟩=some (.int .i64 a)∧w'.cell? ⟨JQ,JR+k,none⟩=some (.int .i64 b))) (by kernel_rfl) ?_ (fun hHeld=>?_)
     ·exact⟨q0,q1,q3,x1,y1⟩
     refine au 55 0 ?_;refine au 56 1 ?_;refine au 57 2 ?_;refine au 58 3 ?_;refine au 59 4 ?_;refine au 60 5 ?_;refine au 61 6 ?_;refine au 62 7 ?_;refine au 63 8 ?_;refine au 64 9 ?_;refine au 65 10 ?_;refine aW 11 (fun K hK=>?_);go_simp;refine (IL p _ a b wr.drew (aP (Keeps.of_below ((Below.refl _ _).drew)) (aP (Keeps.of_below hf) (ah HP))) hs hz hx hy).mono ?_;rintro e w1 ⟨rfl,hb1⟩;have hb1':Below wr.heap.size wr w1:=⟨hb1.os,hb1.tape,hb1.output,hb1.size,hb1.block⟩;have hr1:=hbr.trans (hb1'.mono hbr.size);have hf1:=hf.trans (hb1'.mono hf.size);obtain⟨r0,r1,r2,r3,r4⟩:=ah HO w1 hr1;have x2:=Keeps.of_below hf1 _ _ x0
     have y2:=Keeps.of_below hf1 _ _ y0;rw [hall,Bool.true_and] at HS;have HS2:=hide (ah HS)
     cases hq:bf p a b with
     | false =>
      have HN:=hide (ah fK hq);clear hb1 x1 y1 q0 q1 q2 q3 q4 hq;go_wp2_with fail
      refine hK.out _ _ ⟨r0,r1,r3,x2,y2⟩ (fun hHeld=>?_);clear hK K;try simp only [Act.put,aK,aO,aN]
      refine au 10 12 ?_;refine wpAnyH_done (by kernel_rfl) ?_ _;refine NoPanic.normal ?_;go_wp2_with fail
      go_ret;exact⟨aT (by rw [ah HU,ah HN,ah HST,Bool.true_and]),hf1⟩
     | true =>
      have HN:=hide hq;clear hb1 x1 y1 q0 q1 q2 q3 q4 hq;go_wp2_with fail
      refine hK.out _ _ ⟨r0,r1,r3,x2,y2⟩ (fun hHeld=>?_);clear hK K;try simp only [Act.put,aK,aO,aN]
      refine au 10 12 ?_;refine wpAnyH_done (by kernel_rfl) ?_ _;refine NoPanic.normal ?_;go_wp2_with fail
      exact⟨⟨k+1,by omega,by go_num,by rw [ah HS2];exact ah HN,hr1⟩,by simp [intOf];omega⟩
    ·obtain rfl:k=s.loc.length:=by omega
     have hst:((s.loc.zip t.loc).all fun x=>bf p x.1 x.2)=true:=by
      rw [List.take_length,ah H2,List.take_length] at hall;exact hall
     have QH:=hide hst;have k2:¬(s.loc.length:Int)<(s.loc.length:Int):=by omega
     clear hall hst;go_wp2_with fail
     go_ret;exact⟨aT (by rw [ah HU,ah HST,ah QH];rfl),hf⟩
theorem iV:ni Tryz.prog 149 3:=⟨by kernel_rfl,by kernel_rfl⟩
theorem XG {w:World}(base:Nat)(v:Value)(n:Nat)(xs:List Value)(hown:w.ownsRow base 43 1 v n xs)(sa:Option Addr)(m c:Nat)(news:List Value)(hl:news.length=m)(hnil:sa=none→m=0∧c=0)
  (hnews:∀ad,sa=some ad→∀j u,news[j]? =some u→w.cell? (ad.add j)=some u) (h1:∀u∈news,u.oneCell'=true) (hn:n≤4194304) (hm:m≤4194304) (hbase:base≤w.heap.size) :
  ∃v' w',(Builtin.append_ #[40,40] 40 #[v,.slice sa m c]).run Tryz.prog w= .ok v' w'∧w'.ownsRow base 43 1 v' (n+m) (xs++news)∧ay (fun k=>v.ownBlock=some k) w w'∧(v'.ownBlock=v.ownBlock∨v'.ownBlock=some w.heap.size):=by
 obtain⟨iT,hT,hT0,hT1,hT2⟩:=info_parts Uh
 cases sa with
 | none =>
  obtain⟨rfl,rfl⟩:=hnil rfl;obtain rfl:news= []:=List.eq_nil_of_length_eq_zero hl;exact⟨v,w,run_append_owned_none (P:=Tryz.prog) (w:=w) base 40 40 43 iT 1 Tryz.underlying40 hT v n xs hown,by simpa using hown,ay.refl _ _,.inl rfl⟩
 | some ad =>
  obtain⟨v',w',hr,h2,h3,_,h5⟩:=run_append_own_at (P:=Tryz.prog) w base 40 40 43 iT _ 1 8 Tryz.underlying40 hT hT0 hT1 hT2 rfl (by decide) v n xs hown ad m c news (by omega) (hnews ad rfl) h1 (by unfold maxLen;omega) (by omega) hbase;exact⟨v',w',hr,h2,(ay.refl _ w).grown h3 (fun k e _=>e),h5⟩
structure vC (w V:World)(B b k:Nat)(vs:List Value)(v:Value)(l:List Int):Prop where
 bel:Below w.heap.size w V
 box:ak V b 149 vs
 at_:vs[k]? =some v
 row:V.ownsRow B 43 1 v l.length (l.map (Value.int .i64))
theorem UN {V:World}{B b:Nat}{v:Value}{n:Nat}{xs vs:List Value}(h:V.ownsRow B 43 1 v n xs)(hb:ak V b 149 vs):v.ownBlock≠some b:=fun e=>by
 obtain⟨cur,hc⟩:=lD h e;exact absurd (hc.uniq hb) (by decide)
section
variable {w V : World} {B b k : Nat} {vs : List Value} {v : Value} {l : List Int}
theorem vC.one (i:vC w V B b k vs v l)(hB:w.heap.size≤B)(pK:B≤V.heap.size)(hb:w.heap.size≤b)(hbB:b<B)(hl:l.length≤100)(x:Int) :
  ∃a n cap w',(Builtin.append_ #[40,40] 40 #[v,.slice (some ⟨V.heap.size,0,none⟩) 1 1]).run Tryz.prog (V.alloc (.cells #[.int .i64 x] 43))= .ok (.slice a n cap) w'∧
   w'.cell? ⟨b,k,none⟩=some v∧w'.frozen? ⟨b,k,none⟩=false∧ay (fun j=>v.ownBlock=some j) V w'∧(∀g,(Value.slice a n cap).ownBlock=some g→v.ownBlock=some g∨V.heap.size≤g)∧vC w (w'.setCell ⟨b,k,none⟩ (.slice a n cap)) B b k (vs.set k (.slice a n cap)) (.slice a n cap) (l++ [x]):=by
 obtain⟨iT,hT,hT0,hT1,hT2⟩:=info_parts Uh
 obtain⟨v',w',happ,iR,hM,hv⟩:=qN (P:=Tryz.prog) (W:=V) 40 40 43 iT _ 1 8 Tryz.underlying40 hT hT0 hT1 hT2 rfl (by decide) B v l.length _ i.row #[.int .i64 x] rfl
  (fun u hu=>by
    simp only [List.mem_cons,List.not_mem_nil,or_false] at hu
    subst hu;rfl) V.heap.size rfl (by unfold maxLen;omega) (by omega) pK
 obtain⟨a,cap,rfl⟩:=cZ iR;have hbx:=i.box.mods hM (UN i.row i.box);have hM2:ay (fun j=>j=b) w' (w'.setCell ⟨b,k,none⟩ (.slice a (l.length+1) cap)):=(ay.refl (fun j=>j=b) w').setCell (p:=⟨b,k,none⟩) (fun _=>rfl) _;refine⟨a,_,cap,w',happ,(hbx.cell k).trans i.at_,hbx.frozen k,hM,fun g hg=>?_,(i.bel.trans (hM.below i.bel.size (fun j hj e=>by have:=(i.row.lt j e).1;omega))).trans (hM2.below (Nat.le_trans i.bel.size hM.size) (fun j hj e=>by omega)),hbx.setCell k _,?_,?_⟩
 ·rcases hv with h | ⟨k',hk',h⟩
  ·exact .inl (by rw [←h];exact hg)
  ·rw [h] at hg
   cases hg
   exact .inr hk'
 ·rw [List.getElem?_set_self (List.getElem?_eq_some_iff.1 i.at_).1]
 ·have:=eP iR hM2 (fun g hg e=>by have:=(iR.lt g hg).1;omega);simpa using this
theorem vC.more (i:vC w V B b k vs v l)(hB:w.heap.size≤B)(pK:B≤V.heap.size)(hb:w.heap.size≤b)(hbB:b<B)(hl:l.length≤100)(xs:List Int)(hx:xs.length≤4194304)(sa:Option Addr)(sn sc:Nat)(hsn:sn=xs.length)(hnil:sa=none→sn=0∧sc=0)(hsrc:∀ad,sa=some ad→∀j u,(xs.map (Value.int .i64))[j]? =some u→V.cell? (ad.add j)=some u) :
  ∃a n cap w',(Builtin.append_ #[40,40] 40 #[v,.slice sa sn sc]).run Tryz.prog V= .ok (.slice a n cap) w'∧
   w'.cell? ⟨b,k,none⟩=some v∧w'.frozen? ⟨b,k,none⟩=false∧ay (fun j=>v.ownBlock=some j) V w'∧(∀g,(Value.slice a n cap).ownBlock=some g→v.ownBlock=some g∨V.heap.size≤g)∧vC w (w'.setCell ⟨b,k,none⟩ (.slice a n cap)) B b k (vs.set k (.slice a n cap)) (.slice a n cap) (l++xs):=by
 subst hsn;obtain⟨v',w',happ,iR,hM,hv⟩:=XG B v l.length _ i.row sa xs.length sc (xs.map (Value.int .i64)) (by simp) hnil hsrc (wC _) (by omega) hx pK;obtain⟨a,cap,rfl⟩:=cZ iR;have hbx:=i.box.mods hM (UN i.row i.box);have hM2:ay (fun j=>j=b) w' (w'.setCell ⟨b,k,none⟩ (.slice a (l.length+xs.length) cap)):=(ay.refl (fun j=>j=b) w').setCell (p:=⟨b,k,none⟩) (fun _=>rfl) _;refine⟨a,_,cap,w',happ,(hbx.cell k).trans i.at_,hbx.frozen k,hM,fun g hg=>?_,(i.bel.trans (hM.below i.bel.size (fun j hj e=>by have:=(i.row.lt j e).1;omega))).trans (hM2.below (Nat.le_trans i.bel.size hM.size) (fun j hj e=>by omega)),hbx.setCell k _,?_,?_⟩
 ·rcases hv with h | h
  ·exact .inl (by rw [←h];exact hg)
  ·rw [h] at hg
   cases hg
   exact .inr (Nat.le_refl _)
 ·rw [List.getElem?_set_self (List.getElem?_eq_some_iff.1 i.at_).1]
 ·have:=eP iR hM2 (fun g hg e=>by have:=(iR.lt g hg).1;omega);simpa using this
end
def Gx (B:Nat)(w:World)(s:aH)(vl vs:Value):Prop:=dG (sel (fun k=>B≤k) w) s vl vs
theorem yZ {g:Addr→Option Value} :aV 1 (fE g) (.slice none 0 0) []:=⟨none,0,0,0,rfl,Nat.le_refl _,⟨fun e=>absurd rfl e,.inl ⟨rfl,rfl⟩⟩,fun j x hj=>by simp at hj⟩
def oK (c:Int)(m:aC)(k:Nat):List Int:=(c+3)::(m.args++List.replicate k 2)
theorem adP {c:Int}{m:aC}(h1:1+(m.args.length:Int)≤m.locals)(h8:m.locals≤8):oK c m (m.locals.toNat-(1+m.args.length))=(dQ m (dO c m)).loc:=by
 unfold oK dQ dO;dsimp only;obtain⟨n,hn⟩:∃n,m.locals.toNat=n+1:=⟨m.locals.toNat-1,by omega⟩;rw [hn,List.take_succ_cons]
 congr 1
 rw [List.take_append,List.take_of_length_le (by omega),List.take_replicate]
 congr 2
 omega
theorem ajc (c:Int)(m:aC)(va aQ vf:Value)(w:World)(hv:bV w.cell? m va aQ vf)(hc0:0≤c)(hc1:c≤4194304)(h1:1+(m.args.length:Int)≤m.locals)(h8:m.locals≤8) :
  Calls Tryz.prog 95 #[.int .i64 c,bP m va aQ vf] w fun e w'=>∃vl,e= .returned (.agg #[.bool true,vl,.slice none 0 0])∧Gx w.heap.size w' (dQ m (dO c m)) vl (.slice none 0 0)∧Below w.heap.size w w':=by
 unfold bP;obtain⟨aa,aI,rfl,Fa,KL⟩:=rH hv.1;obtain⟨ca,_,_,aF,rfl,_⟩:=hv.2.1;obtain⟨fa,_,_,aG,rfl,_⟩:=hv.2.2;obtain⟨W0,hW0⟩:∃W0,W0=((w.alloc (.cells #[.int .i64 m.slot,.slice aa m.args.length aI,.int .i64 m.ret,.int .i64 m.locals,.int .i64 m.stack,.slice ca m.code.length aF,.slice fa m.frames.length aG] 63)).alloc (.cells #[.bool false,.slice none 0 0,.slice none 0 0] 149)).alloc (.cells #[.bool true,.slice none 0 0,.slice none 0 0] 149):=⟨_,rfl⟩;have hbel:Below w.heap.size w W0:=by rw [hW0];exact (dS _ _ _).alloc (by simp;omega) _
 have B0:ak W0 w.heap.size 63 [.int .i64 m.slot,.slice aa m.args.length aI,.int .i64 m.ret,.int .i64 m.locals,.int .i64 m.stack,.slice ca m.code.length aF,.slice fa m.frames.length aG]:=by rw [hW0];exact ((ak.new w _ _).alloc _).alloc _
 have B1:ak W0 (w.heap.size+1) 149 [.bool false,.slice none 0 0,.slice none 0 0]:=by
  have:=(ak.new (w.alloc (.cells #[.int .i64 m.slot,.slice aa m.args.length aI,.int .i64 m.ret,.int .i64 m.locals,.int .i64 m.stack,.slice ca m.code.length aF,.slice fa m.frames.length aG] 63)) #[.bool false,.slice none 0 0,.slice none 0 0] 149).alloc (.cells #[.bool true,.slice none 0 0,.slice none 0 0] 149);rw [World.size_alloc] at this;rw [hW0];exact this
 have B2:ak W0 (w.heap.size+1+1) 149 [.bool true,.slice none 0 0,.slice none 0 0]:=by
  have:=ak.new ((w.alloc (.cells #[.int .i64 m.slot,.slice aa m.args.length aI,.int .i64 m.ret,.int .i64 m.locals,.int .i64 m.stack,.slice ca m.code.length aF,.slice fa m.frames.length aG] 63)).alloc (.cells #[.bool false,.slice none 0 0,.slice none 0 0] 149)) #[.bool true,.slice none 0 0,.slice none 0 0] 149;rw [World.size_alloc,World.size_alloc] at this;rw [hW0];exact this
 have hWs:W0.heap.size=w.heap.size+1+1+1:=by rw [hW0];simp
 have I0:vC w W0 (w.heap.size+1+1+1) (w.heap.size+1+1) 1 [.bool true,.slice none 0 0,.slice none 0 0] (.slice none 0 0) []:=⟨hbel,B2,rfl,World.ownsRow_nil _ _ _ _⟩;obtain⟨a1,n1,cap1,w1,mW,c1,f1,hM1,_,I1⟩:=I0.one (by omega) (by omega) (by omega) (by omega) (by simp) (3+c);have hS1:ay (fun j=>j=w.heap.size+1+1) w1 (w1.setCell ⟨w.heap.size+1+1,1,none⟩ (.slice a1 n1 cap1)):=(ay.refl (fun j=>j=w.heap.size+1+1) w1).setCell (p:=⟨w.heap.size+1+1,1,none⟩) (fun _=>rfl) _;have C0:=(B0.mods hM1 (fun e=>by cases e)).mods hS1 (by omega);have C1:=(B1.mods hM1 (fun e=>by cases e)).mods hS1 (by omega);have hs1:=Nat.le_trans hM1.size hS1.size
 obtain⟨W1,hW1⟩:∃W1,W1=w1.setCell ⟨w.heap.size+1+1,1,none⟩ (.slice a1 n1 cap1):=⟨_,rfl⟩;rw [←hW1] at I1 C0 C1 hs1;obtain⟨a2,n2,cap2,w2,yR,c2,f2,hM2,_,I2⟩:=I1.more (by omega) (by omega) (by omega) (by omega) (by simp) m.args (by omega) aa m.args.length aI rfl (fun e=>⟨by rw [(Fa e).1];rfl,(Fa e).2⟩) (fun ad e j u h=>Keeps.of_below I1.bel _ _ (KL ad e j u h));have hS2:ay (fun j=>j=w.heap.size+1+1) w2 (w2.setCell ⟨w.heap.size+1+1,1,none⟩ (.slice a2 n2 cap2)):=(ay.refl (fun j=>j=w.heap.size+1+1) w2).setCell (p:=⟨w.heap.size+1+1,1,none⟩) (fun _=>rfl) _;have nb:∀j,j<w.heap.size+1+1+1→¬(Value.slice a1 n1 cap1).ownBlock=some j:=fun j hj e=>by have:=(I1.row.lt j e).1;omega
 have D0:=(C0.mods hM2 (nb _ (by omega))).mods hS2 (by omega);have D1:=(C1.mods hM2 (nb _ (by omega))).mods hS2 (by omega);have d1:W1.cell? ⟨w.heap.size+1+1,1,none⟩=some (.slice a1 n1 cap1):=(I1.box.cell 1).trans I1.at_;have e1:W1.cell? ⟨w.heap.size,1,none⟩=some (.slice aa m.args.length aI):=C0.cell 1;have hs2:=Nat.le_trans hM2.size hS2.size;obtain⟨W2,hW2⟩:∃W2,W2=w2.setCell ⟨w.heap.size+1+1,1,none⟩ (.slice a2 n2 cap2):=⟨_,rfl⟩;rw [←hW2] at I2 D0 D1 hs2;rw [hWs] at mW;rw [hW0] at mW;rw [hW1] at yR d1 e1;clear B0 B1 B2 C0 C1 I1 hM1 hM2 hS1 hS2 nb Fa KL hv;go_enter Tryz.func95,Tryz.ntmps95
 go_wp2_with (at_builtin;first
  | refine wpList_append_run rfl (.tmp 8) (.tmp 11) 40 rfl _ _ rfl rfl mW ?_
  | refine wpList_append_run rfl (.tmp 15) (.tmp 17) 40 rfl _ _ rfl rfl yR ?_)
 rw [←hW2];have hln:∀k,(oK c m k).length=1+m.args.length+k:=fun k=>by unfold oK;simp;omega
 have HI0:Hid (vC w W2 (w.heap.size+1+1+1) (w.heap.size+1+1) 1 [.bool true,.slice a2 n2 cap2,.slice none 0 0] (.slice a2 n2 cap2) (oK c m 0)):=by
  have:oK c m 0= []++ [3+c]++m.args:=by unfold oK;simp;omega
  show vC _ _ _ _ _ _ _ _
  rw [this];exact I2
 clear I0 I2 mW yR hW0 hW1 hW2 c1 f1 c2 f2 d1 e1
 go_loopw [25] (fun _ wr=>∃(k:Nat) (v:Value),(k:Int)≤m.locals-(1+(m.args.length:Int))∧W2.heap.size≤wr.heap.size∧vC w wr (w.heap.size+1+1+1) (w.heap.size+1+1) 1 [.bool true,v,.slice none 0 0] v (oK c m k)∧ak wr w.heap.size 63 [.int .i64 m.slot,.slice aa m.args.length aI,.int .i64 m.ret,.int .i64 m.locals,.int .i64 m.stack,.slice ca m.code.length aF,.slice fa m.frames.length aG]∧ak wr (w.heap.size+1) 149 [.bool false,.slice none 0 0,.slice none 0 0]) (fun _ wr=>match wr.cell? ⟨w.heap.size+1+1,1,none⟩ with
  | some (.slice _ n _) => 100 - n
  | _ => 0)
 case atStart=>exact ⟨0,_,by omega,Nat.le_refl _,ah HI0,D0,D1⟩
 case round=>
  obtain⟨k,v,hk,hsz,hI,hM0,hR0⟩:=hrel;obtain⟨va,fJ,rfl⟩:=cZ hI.row;have g1:wr.cell? ⟨w.heap.size+1+1,1,none⟩=some (.slice va (oK c m k).length fJ):=hI.box.cell 1;have g2:wr.cell? ⟨w.heap.size,3,none⟩=some (.int .i64 m.locals):=hM0.cell 3;have hlen:=hln k
  by_cases hlt:(k:Int)<m.locals-(1+(m.args.length:Int))
  ·obtain⟨na,nn,kH,w5,happ,c5,f5,bU,_,I5⟩:=hI.one (by omega) (by omega) (by omega) (by omega) (by omega) 2;have nb:∀j,j<w.heap.size+1+1+1→¬(Value.slice va (oK c m k).length fJ).ownBlock=some j:=fun j hj e=>by have:=(hI.row.lt j e).1;omega
   have hS5:ay (fun j=>j=w.heap.size+1+1) w5 (w5.setCell ⟨w.heap.size+1+1,1,none⟩ (.slice na nn kH)):=(ay.refl (fun j=>j=w.heap.size+1+1) w5).setCell (p:=⟨w.heap.size+1+1,1,none⟩) (fun _=>rfl) _;have E0:=(hM0.mods bU (nb _ (by omega))).mods hS5 (by omega);have E1:=(hR0.mods bU (nb _ (by omega))).mods hS5 (by omega);have hb:oK c m k++ [2]=oK c m (k+1):=by unfold oK;rw [List.replicate_succ'];simp
   rw [hb] at I5;have g5:(w5.setCell ⟨w.heap.size+1+1,1,none⟩ (.slice na nn kH)).cell? ⟨w.heap.size+1+1,1,none⟩=some (.slice na nn kH):=(I5.box.cell 1).trans I5.at_
   have hnn:nn=(oK c m (k+1)).length:=by
    obtain⟨_,_,h⟩:=cZ I5.row
    injection h
   have hlen':=hln (k+1);have HE:=hide (And.intro I5 (And.intro E0 (And.intro E1 (Nat.le_trans bU.size hS5.size))));clear I5 E0 E1 hI hM0 hR0 bU hS5;generalize (oK c m k).length=bk at *;have q1:(bk:Int)<m.locals:=by omega
   have HL:=hide (And.intro hlen (And.intro hlen' hnn));clear hlen hlen' hnn hln;go_wp2_with (at_builtin;refine wpList_append_run rfl (.tmp 27) (.tmp 28) 40 rfl _ _ rfl rfl happ ?_)
   refine⟨⟨k+1,_,by omega,Nat.le_trans hsz (ah HE).2.2.2,(ah HE).1,(ah HE).2.1,(ah HE).2.2.1⟩,?_⟩;rw [g5,g1];dsimp only;obtain⟨l1,l2,l3⟩:=ah HL;omega
  ·have hkk:k=m.locals.toNat-(1+m.args.length):=by omega
   have HFin:Hid (Gx (w.heap.size+1+1+1) wr (dQ m (dO c m)) (.slice va (oK c m k).length fJ) (.slice none 0 0)):=by
    refine⟨?_,yZ⟩;rw [←adP h1 h8,←hkk];exact rQ hI.row (fun g hg=>(hI.row.lt g hg).1)
   have b0:wr.cell? ⟨w.heap.size+1+1,0,none⟩=some (.bool true):=hI.box.cell 0;have b2:wr.cell? ⟨w.heap.size+1+1,2,none⟩=some (.slice none 0 0):=hI.box.cell 2;have q1:¬((oK c m k).length:Int)<m.locals:=by omega
   have hb:=hI.bel;have hbs:=hb.size;clear hI;generalize (oK c m k).length=bk at *;clear hlen hln hkk;go_wp2_with (refine iZ iV hR0 0 [.bool true,.slice va bk fJ,.slice none 0 0] rfl (by simp) (fun u hu=>by simp only [List.mem_cons,List.not_mem_nil,or_false] at hu;rcases hu with rfl | rfl | rfl <;> rfl) (.tmp 4) (.tmp 31) rfl rfl rfl rfl ?_;intro w6 dP bK hs6;rw [gB (by rfl)] at dP)
   refine bodyPost_ret (IK rfl iV dP rfl rfl) rfl ?_;refine⟨_,rfl,?_,hb.trans (bK.below hb.size (fun j hj e=>by omega))⟩;exact dG.keep (dR bK fun j _ hj=>⟨fun e=>by omega,by omega⟩) (ah HFin)
theorem U8 (p:List aj)(vc:Value)(t o:Int)(w:World)(hp:aX w vc p)(hs:aU p p.length)(hz:p.length≤4194304)(ht:bT p.length t)(ho:o= -1∨o= -2∨bT p.length o) :
  Calls Tryz.prog 152 #[.agg #[vc],.int .i64 t,.int .i64 o] w fun e w'=>e= .returned (.bool (iD p t o))∧Below w.heap.size w w':=by
 have HP:=hide hp;obtain⟨a,b,off,cap,rfl,_,_,_⟩:=aZ hp;clear hp;have hbel:Below w.heap.size w (w.alloc (.cells #[.slice a p.length cap] 24)):=aS _ _;go_enter Tryz.func152,Tryz.ntmps152
 by_cases h1:o= -1
 ·subst h1;have HR:Hid (iD p t (-1)=qC t):=by show _=_;unfold iD;rw [if_pos rfl]
  by_cases h2:t=1
  ·subst h2;go_wp2_with fail
   go_ret;exact⟨aT (by rw [ah HR];rfl),hbel⟩
  ·have h2':(t == 1)=false:=by simpa using h2
   have HM:Hid (qC t=decide (3≤t)):=by show _=_;unfold qC;rw [h2'];rfl
   go_wp2_with fail
   all_goals go_ret
   all_goals exact⟨aT (by rw [ah HR,ah HM]),hbel⟩
 have h1':(o == -1)=false:=by simpa using h1
 by_cases h2:o= -2
 ·subst h2;have HR:Hid (iD p t (-2)= !(t == 2)):=by show _=_;unfold iD;rw [if_neg (by omega),if_pos rfl]
  go_wp2_with fail
  all_goals go_ret
  all_goals exact⟨aT (by rw [ah HR];rfl),hbel⟩
 have h2':(o == -2)=false:=by simpa using h2
 have ho':bT p.length o:=by
  rcases ho with h | h | h
  ·exact absurd h h1
  ·exact absurd h h2
  ·exact h
 have HR:Hid (iD p t o=bf p t o):=by show _=_;unfold iD;rw [if_neg h1,if_neg h2]
 go_wp2_with fail
 refine (IL p _ t o _ (aP (Keeps.of_below hbel) (ah HP)) hs hz ht ho').mono ?_;rintro e w1 ⟨rfl,hb1⟩;rw [←ah HR];go_wp2_with fail
 go_ret;exact⟨rfl,hbel.trans (hb1.mono hbel.size)⟩
def qZ (x:eF)(i:Nat):List Int:=(if qW x then [(i:Int)+1] else [])++(if gU x then [x.a] else [])
theorem agh (x : eF) (i : Nat) : qZ x i = (gy x i).reverse.map (·.1) := by
 unfold qZ gy
 cases qW x <;> cases gU x <;> rfl
theorem aho:(Tryz.prog.info? 3).map (fun i=>(i.zero,i.size,i.bytes))=some (some (.int .i64 0),1,8):=by kernel_rfl
theorem GK {W:World}(base:Nat)(v:Value)(l:List Int)(h:W.ownsRow base 3 1 v l.length (l.map (Value.int .i64)))(x:Int)(H:Nat)(hH:W.heap.size=H)(hl:l.length≤100)(hb:base≤W.heap.size) :
  ∃a n cap W',(Builtin.append_ #[51,51] 51 #[v,.slice (some ⟨H,0,none⟩) 1 1]).run Tryz.prog (W.alloc (.cells #[.int .i64 x] 3))= .ok (.slice a n cap) W'∧W'.ownsRow base 3 1 (.slice a n cap) (l++ [x]).length ((l++ [x]).map (Value.int .i64))∧ay (fun k=>v.ownBlock=some k) W W':=by
 obtain⟨iT,hT,hT0,hT1,hT2⟩:=info_parts aho
 obtain⟨v',W',hr,hO,hM,_⟩:=qN (P:=Tryz.prog) (W:=W) 51 51 3 iT _ 1 8 Tryz.underlying51 hT hT0 hT1 hT2 rfl (by decide) base v l.length _ h #[.int .i64 x] rfl
  (fun u hu=>by
    simp only [List.mem_cons,List.not_mem_nil,or_false] at hu
    subst hu;rfl) H hH (by unfold maxLen;omega) (by omega) hb
 obtain⟨a,cap,rfl⟩:=cZ hO;exact⟨a,_,cap,W',hr,by simpa using hO,hM⟩
theorem ajd (m:aC)(va aQ vf:Value)(i:Nat)(w:World)(hv:bV w.cell? m va aQ vf)(hi:i<m.code.length)(dD:m.code.length≤40) :
  Calls Tryz.prog 97 #[bP m va aQ vf,.int .i64 (i:Int)] w fun e w'=>∃v,e= .returned v∧aV 1 (fE (sel (fun k=>w.heap.size≤k) w')) v (qZ (bH m i) i)∧Below w.heap.size w w':=by
 unfold bP;obtain⟨aa,_,_,aI,rfl,_⟩:=hv.1;obtain⟨ca,cb,off,aF,rfl,_,hca,hcr⟩:=aZ hv.2.1;obtain⟨fa,_,_,aG,rfl,_⟩:=hv.2.2;obtain rfl:=hca (bJ hi);obtain⟨x0,x1,x2⟩:=hcr i hi;have oM:bH m i=m.code[i]:=by unfold bH;rw [List.getElem?_eq_getElem hi];rfl
 rw [oM];generalize m.code[i]=x at *;clear hcr hv;have hbel:Below w.heap.size w ((w.alloc (.cells #[.int .i64 m.slot,.slice aa m.args.length aI,.int .i64 m.ret,.int .i64 m.locals,.int .i64 m.stack,.slice (some ⟨cb,off,none⟩) m.code.length aF,.slice fa m.frames.length aG] 63)).alloc (.cells #[.int .i64 x.op,.int .i64 x.a,.int .i64 x.b] 60)):=dS _ _ _;have B1:=ak.new (w.alloc (.cells #[.int .i64 m.slot,.slice aa m.args.length aI,.int .i64 m.ret,.int .i64 m.locals,.int .i64 m.stack,.slice (some ⟨cb,off,none⟩) m.code.length aF,.slice fa m.frames.length aG] 63)) #[.int .i64 x.op,.int .i64 x.a,.int .i64 x.b] 60
 have hsz:((w.alloc (.cells #[.int .i64 m.slot,.slice aa m.args.length aI,.int .i64 m.ret,.int .i64 m.locals,.int .i64 m.stack,.slice (some ⟨cb,off,none⟩) m.code.length aF,.slice fa m.frames.length aG] 63)).alloc (.cells #[.int .i64 x.op,.int .i64 x.a,.int .i64 x.b] 60)).heap.size=w.heap.size+1+1:=by simp
 rw [World.size_alloc] at B1;have y0:=Keeps.of_below (aS w (.cells #[.int .i64 m.slot,.slice aa m.args.length aI,.int .i64 m.ret,.int .i64 m.locals,.int .i64 m.stack,.slice (some ⟨cb,off,none⟩) m.code.length aF,.slice fa m.frames.length aG] 63)) _ _ x0;have y1:=Keeps.of_below (aS w (.cells #[.int .i64 m.slot,.slice aa m.args.length aI,.int .i64 m.ret,.int .i64 m.locals,.int .i64 m.stack,.slice (some ⟨cb,off,none⟩) m.code.length aF,.slice fa m.frames.length aG] 63)) _ _ x1
 have y2:=Keeps.of_below (aS w (.cells #[.int .i64 m.slot,.slice aa m.args.length aI,.int .i64 m.ret,.int .i64 m.locals,.int .i64 m.stack,.slice (some ⟨cb,off,none⟩) m.code.length aF,.slice fa m.frames.length aG] 63)) _ _ x2;have i0:(0:Int)≤(i:Int):=by omega
 have i1:(i:Int)<(m.code.length:Int):=by omega
 have hcl:=cell_lt x0;obtain⟨op,xa,xb⟩:=x;dsimp only at *;go_enter Tryz.func97,Tryz.ntmps97
 by_cases h13:op=13
 ·subst h13;have hg:qZ ⟨13,xa,xb⟩ i= []:=rfl;rw [hg];go_wp2_with fail
  go_ret;exact⟨_,rfl,yZ,hbel⟩
 by_cases h7:op=7
 ·subst h7;have hg:qZ ⟨7,xa,xb⟩ i= [xa]:=rfl;rw [hg];obtain⟨a1,n1,c1,w1,mW,rC,hM1⟩:=GK (W:=(w.alloc (.cells #[.int .i64 m.slot,.slice aa m.args.length aI,.int .i64 m.ret,.int .i64 m.locals,.int .i64 m.stack,.slice (some ⟨cb,off,none⟩) m.code.length aF,.slice fa m.frames.length aG] 63)).alloc (.cells #[.int .i64 7,.int .i64 xa,.int .i64 xb] 60)) w.heap.size (.slice none 0 0) [] (World.ownsRow_nil _ _ _ _) xa (w.heap.size+1+1) hsz (by simp) (by omega);have hb1:=hbel.trans (hM1.below hbel.size (fun k hk e=>by cases e));have HF:=hide (And.intro (rQ (S:=fun k=>w.heap.size≤k) rC (fun g hg=>(rC.lt g hg).1)) hb1);clear rC hM1 B1 hbel hb1 hsz
  go_wp2_with (at_builtin;refine wpList_append_run rfl (.tmp 38) (.tmp 41) 51 rfl _ _ rfl rfl mW ?_)
  go_ret;exact⟨_,rfl,(ah HF).1,(ah HF).2⟩
 by_cases h8:op=8
 ·subst h8;have hg:qZ ⟨8,xa,xb⟩ i= [(i:Int)+1,xa]:=rfl;rw [hg];obtain⟨a1,n1,c1,w1,mW,rC,hM1⟩:=GK (W:=(w.alloc (.cells #[.int .i64 m.slot,.slice aa m.args.length aI,.int .i64 m.ret,.int .i64 m.locals,.int .i64 m.stack,.slice (some ⟨cb,off,none⟩) m.code.length aF,.slice fa m.frames.length aG] 63)).alloc (.cells #[.int .i64 8,.int .i64 xa,.int .i64 xb] 60)) w.heap.size (.slice none 0 0) [] (World.ownsRow_nil _ _ _ _) ((i:Int)+1) (w.heap.size+1+1) hsz (by simp) (by omega);have C1:=B1.mods hM1 (fun e=>by cases e);have hs1:=hM1.size;obtain⟨a2,n2,c2,w2,yR,hO2,hM2⟩:=GK (W:=w1) w.heap.size _ _ rC xa w1.heap.size rfl (by simp) (by omega)
  have z0:w1.cell? ⟨w.heap.size+1,0,none⟩=some (.int .i64 8):=C1.cell 0;have z1:w1.cell? ⟨w.heap.size+1,1,none⟩=some (.int .i64 xa):=C1.cell 1;have hb2:=(hbel.trans (hM1.below hbel.size (fun k hk e=>by cases e))).trans (hM2.below (Nat.le_trans hbel.size hs1) (fun k hk e=>by have:=(rC.lt k e).1;omega));have HF:=hide (And.intro (rQ (S:=fun k=>w.heap.size≤k) hO2 (fun g hg=>(hO2.lt g hg).1)) hb2);clear rC hO2 hM1 hM2 C1 B1 hbel hb2 hsz
  go_wp2_with (at_builtin;first
   | refine wpList_append_run rfl (.tmp 20) (.tmp 23) 51 rfl _ _ rfl rfl mW ?_
   | refine wpList_append_run rfl (.tmp 38) (.tmp 41) 51 rfl _ _ rfl rfl yR ?_)
  go_ret;exact⟨_,rfl,(ah HF).1,(ah HF).2⟩
 by_cases h18:op=18
 ·subst h18;have hg:qZ ⟨18,xa,xb⟩ i= [(i:Int)+1,xa]:=rfl;rw [hg];obtain⟨a1,n1,c1,w1,mW,rC,hM1⟩:=GK (W:=(w.alloc (.cells #[.int .i64 m.slot,.slice aa m.args.length aI,.int .i64 m.ret,.int .i64 m.locals,.int .i64 m.stack,.slice (some ⟨cb,off,none⟩) m.code.length aF,.slice fa m.frames.length aG] 63)).alloc (.cells #[.int .i64 18,.int .i64 xa,.int .i64 xb] 60)) w.heap.size (.slice none 0 0) [] (World.ownsRow_nil _ _ _ _) ((i:Int)+1) (w.heap.size+1+1) hsz (by simp) (by omega);have C1:=B1.mods hM1 (fun e=>by cases e);have hs1:=hM1.size;obtain⟨a2,n2,c2,w2,yR,hO2,hM2⟩:=GK (W:=w1) w.heap.size _ _ rC xa w1.heap.size rfl (by simp) (by omega)
  have z0:w1.cell? ⟨w.heap.size+1,0,none⟩=some (.int .i64 18):=C1.cell 0;have z1:w1.cell? ⟨w.heap.size+1,1,none⟩=some (.int .i64 xa):=C1.cell 1;have hb2:=(hbel.trans (hM1.below hbel.size (fun k hk e=>by cases e))).trans (hM2.below (Nat.le_trans hbel.size hs1) (fun k hk e=>by have:=(rC.lt k e).1;omega));have HF:=hide (And.intro (rQ (S:=fun k=>w.heap.size≤k) hO2 (fun g hg=>(hO2.lt g hg).1)) hb2);clear rC hO2 hM1 hM2 C1 B1 hbel hb2 hsz
  go_wp2_with (at_builtin;first
   | refine wpList_append_run rfl (.tmp 20) (.tmp 23) 51 rfl _ _ rfl rfl mW ?_
   | refine wpList_append_run rfl (.tmp 38) (.tmp 41) 51 rfl _ _ rfl rfl yR ?_)
  go_ret;exact⟨_,rfl,(ah HF).1,(ah HF).2⟩
 have e7:(op == 7)=false:=by simpa using h7
 have e8:(op == 8)=false:=by simpa using h8
 have e13:(op == 13)=false:=by simpa using h13
 have e18:(op == 18)=false:=by simpa using h18
 have n7:(op != 7)=true:=by simpa using h7
 have n13:(op != 13)=true:=by simpa using h13
 have hg:qZ ⟨op,xa,xb⟩ i= [(i:Int)+1]:=by unfold qZ qW gU;dsimp only;rw [e7,e8,e13,e18];rfl
 rw [hg];obtain⟨a1,n1,c1,w1,mW,rC,hM1⟩:=GK (W:=(w.alloc (.cells #[.int .i64 m.slot,.slice aa m.args.length aI,.int .i64 m.ret,.int .i64 m.locals,.int .i64 m.stack,.slice (some ⟨cb,off,none⟩) m.code.length aF,.slice fa m.frames.length aG] 63)).alloc (.cells #[.int .i64 op,.int .i64 xa,.int .i64 xb] 60)) w.heap.size (.slice none 0 0) [] (World.ownsRow_nil _ _ _ _) ((i:Int)+1) (w.heap.size+1+1) hsz (by simp) (by omega);have C1:=B1.mods hM1 (fun e=>by cases e);have z0:w1.cell? ⟨w.heap.size+1,0,none⟩=some (.int .i64 op):=C1.cell 0;have hb1:=hbel.trans (hM1.below hbel.size (fun k hk e=>by cases e))
 have HF:=hide (And.intro (rQ (S:=fun k=>w.heap.size≤k) rC (fun g hg=>(rC.lt g hg).1)) hb1);clear rC hM1 B1 C1 hbel hb1 hsz;go_wp2_with (at_builtin;refine wpList_append_run rfl (.tmp 20) (.tmp 23) 51 rfl _ _ rfl rfl mW ?_)
 go_ret;exact⟨_,rfl,(ah HF).1,(ah HF).2⟩
theorem Cm {S:Nat→Prop} [DecidablePred S] {V:World}{b:Nat}{t:TypeId}{l:List Int}(h:ak V b t (l.map (Value.int .i64)))(hS:S b)(n:Nat)(hn:n=l.length):aV 1 (fE (sel S V)) (.slice (some ⟨b,0,none⟩) n n) l:=by
 subst hn;refine⟨some ⟨b,0,none⟩,b,0,l.length,rfl,Nat.le_refl _,⟨fun _=>rfl,.inr (.inl rfl)⟩,fun j x hj=>?_⟩;unfold fE;rw [Bd (show S (⟨b,0+j*1,none⟩:Addr).block from hS),show 0+j*1=j by omega,h.cell,List.getElem?_map,hj];rfl
def jl (tk lv:List Int)(w w':World)(e:Ending):Prop:=∃vt vl,e= .returned (.tuple #[vt,vl])∧aV 1 (fE (sel (fun k=>w.heap.size≤k) w')) vt tk∧aV 1 (fE (sel (fun k=>w.heap.size≤k) w')) vl lv∧Below w.heap.size w w'
section
variable {w W : World}
theorem zi (hb:Below w.heap.size w W)(tk lv:List Int)(n k H:Nat)(hH:W.heap.size=H)(hn:n=tk.length)(hk:k=lv.length) :
  jl tk lv w ((W.alloc (.cells (tk.map (Value.int .i64)).toArray 43)).alloc (.cells (lv.map (Value.int .i64)).toArray 43)) (.returned (.tuple #[.slice (some ⟨H,0,none⟩) n n,.slice (some ⟨H+1,0,none⟩) k k])):=by
 subst hH;have A:=(ak.new W (tk.map (Value.int .i64)).toArray 43).alloc (.cells (lv.map (Value.int .i64)).toArray 43);have C:=ak.new (W.alloc (.cells (tk.map (Value.int .i64)).toArray 43)) (lv.map (Value.int .i64)).toArray 43;rw [World.size_alloc] at C;have:=hb.size;exact⟨_,_,rfl,Cm (S:=fun k=>w.heap.size≤k) A (by omega) n hn,Cm (S:=fun k=>w.heap.size≤k) C (by omega) k hk,(hb.alloc hb.size _).alloc (by simp;omega) _⟩
theorem acQ (hb:Below w.heap.size w W)(tk lv:List Int)(n k H:Nat)(hH:W.heap.size=H)(hn:n=tk.length)(hk:k=lv.length) :
  jl tk lv w ((W.alloc (.cells (lv.map (Value.int .i64)).toArray 43)).alloc (.cells (tk.map (Value.int .i64)).toArray 43)) (.returned (.tuple #[.slice (some ⟨H+1,0,none⟩) n n,.slice (some ⟨H,0,none⟩) k k])):=by
 obtain⟨vt,vl,he,h1,h2,h3⟩:=zi hb lv tk k n H hH hk hn
 cases he
 exact⟨_,_,rfl,h2,h1,h3⟩
theorem F6 (hb:Below w.heap.size w W)(tk:List Int)(n H:Nat)(hH:W.heap.size=H)(hn:n=tk.length) :
  jl tk [] w (W.alloc (.cells (tk.map (Value.int .i64)).toArray 43)) (.returned (.tuple #[.slice (some ⟨H,0,none⟩) n n,.slice none 0 0])):=by
 subst hH;have:=hb.size;exact⟨_,_,rfl,Cm (S:=fun k=>w.heap.size≤k) (ak.new W (tk.map (Value.int .i64)).toArray 43) (by omega) n hn,yZ,hb.alloc hb.size _⟩
theorem VG (hb:Below w.heap.size w W)(lv:List Int)(n H:Nat)(hH:W.heap.size=H)(hn:n=lv.length) :
  jl [] lv w (W.alloc (.cells (lv.map (Value.int .i64)).toArray 43)) (.returned (.tuple #[.slice none 0 0,.slice (some ⟨H,0,none⟩) n n])):=by
 subst hH;have:=hb.size;exact⟨_,_,rfl,yZ,Cm (S:=fun k=>w.heap.size≤k) (ak.new W (lv.map (Value.int .i64)).toArray 43) (by omega) n hn,hb.alloc hb.size _⟩
end
theorem ajo (p:List aj)(vc:Value)(m:aC)(va aQ vf:Value)(xa xb:Int)(w:World)(hp:aX w vc p)(hv:bV w.cell? m va aQ vf) :
  Calls Tryz.prog 151 #[.agg #[vc],bP m va aQ vf,.agg #[.int .i64 0,.int .i64 xa,.int .i64 xb]] w fun e w'=>jl [] [0] w w' e:=by
 unfold bP;obtain⟨pa,_,_,aA,rfl,_⟩:=hp;obtain⟨aa,_,_,aI,rfl,_⟩:=hv.1;obtain⟨ca,_,_,aF,rfl,_⟩:=hv.2.1;obtain⟨fa,_,_,aG,rfl,_⟩:=hv.2.2;have hbel:Below w.heap.size w (((w.alloc (.cells #[.slice pa p.length aA] 24)).alloc (.cells #[.int .i64 m.slot,.slice aa m.args.length aI,.int .i64 m.ret,.int .i64 m.locals,.int .i64 m.stack,.slice ca m.code.length aF,.slice fa m.frames.length aG] 63)).alloc (.cells #[.int .i64 0,.int .i64 xa,.int .i64 xb] 60)):=(dS _ _ _).alloc (by simp;omega) _
 have hsz:(((w.alloc (.cells #[.slice pa p.length aA] 24)).alloc (.cells #[.int .i64 m.slot,.slice aa m.args.length aI,.int .i64 m.ret,.int .i64 m.locals,.int .i64 m.stack,.slice ca m.code.length aF,.slice fa m.frames.length aG] 63)).alloc (.cells #[.int .i64 0,.int .i64 xa,.int .i64 xb] 60)).heap.size=w.heap.size+1+1+1:=by simp
 go_enter Tryz.func151,Tryz.ntmps151
 go_wp2_with fail
 go_ret2
 exact VG hbel [0] 1 _ hsz rfl
theorem ajA (p:List aj)(vc:Value)(m:aC)(va aQ vf:Value)(xa xb:Int)(w:World)(hp:aX w vc p)(hv:bV w.cell? m va aQ vf) :
  Calls Tryz.prog 151 #[.agg #[vc],bP m va aQ vf,.agg #[.int .i64 2,.int .i64 xa,.int .i64 xb]] w fun e w'=>jl [-2] [] w w' e:=by
 unfold bP;obtain⟨pa,_,_,aA,rfl,_⟩:=hp;obtain⟨aa,_,_,aI,rfl,_⟩:=hv.1;obtain⟨ca,_,_,aF,rfl,_⟩:=hv.2.1;obtain⟨fa,_,_,aG,rfl,_⟩:=hv.2.2;have hbel:Below w.heap.size w (((w.alloc (.cells #[.slice pa p.length aA] 24)).alloc (.cells #[.int .i64 m.slot,.slice aa m.args.length aI,.int .i64 m.ret,.int .i64 m.locals,.int .i64 m.stack,.slice ca m.code.length aF,.slice fa m.frames.length aG] 63)).alloc (.cells #[.int .i64 2,.int .i64 xa,.int .i64 xb] 60)):=(dS _ _ _).alloc (by simp;omega) _
 have hsz:(((w.alloc (.cells #[.slice pa p.length aA] 24)).alloc (.cells #[.int .i64 m.slot,.slice aa m.args.length aI,.int .i64 m.ret,.int .i64 m.locals,.int .i64 m.stack,.slice ca m.code.length aF,.slice fa m.frames.length aG] 63)).alloc (.cells #[.int .i64 2,.int .i64 xa,.int .i64 xb] 60)).heap.size=w.heap.size+1+1+1:=by simp
 go_enter Tryz.func151,Tryz.ntmps151
 go_wp2_with fail
 go_ret2
 exact F6 hbel [-2] 1 _ hsz rfl
theorem ajC (p:List aj)(vc:Value)(m:aC)(va aQ vf:Value)(xa xb:Int)(w:World)(hp:aX w vc p)(hv:bV w.cell? m va aQ vf) :
  Calls Tryz.prog 151 #[.agg #[vc],bP m va aQ vf,.agg #[.int .i64 3,.int .i64 xa,.int .i64 xb]] w fun e w'=>jl [0,0] [0] w w' e:=by
 unfold bP;obtain⟨pa,_,_,aA,rfl,_⟩:=hp;obtain⟨aa,_,_,aI,rfl,_⟩:=hv.1;obtain⟨ca,_,_,aF,rfl,_⟩:=hv.2.1;obtain⟨fa,_,_,aG,rfl,_⟩:=hv.2.2;have hbel:Below w.heap.size w (((w.alloc (.cells #[.slice pa p.length aA] 24)).alloc (.cells #[.int .i64 m.slot,.slice aa m.args.length aI,.int .i64 m.ret,.int .i64 m.locals,.int .i64 m.stack,.slice ca m.code.length aF,.slice fa m.frames.length aG] 63)).alloc (.cells #[.int .i64 3,.int .i64 xa,.int .i64 xb] 60)):=(dS _ _ _).alloc (by simp;omega) _
 have hsz:(((w.alloc (.cells #[.slice pa p.length aA] 24)).alloc (.cells #[.int .i64 m.slot,.slice aa m.args.length aI,.int .i64 m.ret,.int .i64 m.locals,.int .i64 m.stack,.slice ca m.code.length aF,.slice fa m.frames.length aG] 63)).alloc (.cells #[.int .i64 3,.int .i64 xa,.int .i64 xb] 60)).heap.size=w.heap.size+1+1+1:=by simp
 go_enter Tryz.func151,Tryz.ntmps151
 go_wp2_with fail
 go_ret2
 exact zi hbel [0,0] [0] 2 1 _ hsz rfl rfl
theorem ajD (p:List aj)(vc:Value)(m:aC)(va aQ vf:Value)(xa xb:Int)(w:World)(hp:aX w vc p)(hv:bV w.cell? m va aQ vf) :
  Calls Tryz.prog 151 #[.agg #[vc],bP m va aQ vf,.agg #[.int .i64 4,.int .i64 xa,.int .i64 xb]] w fun e w'=>jl [0,0] [0] w w' e:=by
 unfold bP;obtain⟨pa,_,_,aA,rfl,_⟩:=hp;obtain⟨aa,_,_,aI,rfl,_⟩:=hv.1;obtain⟨ca,_,_,aF,rfl,_⟩:=hv.2.1;obtain⟨fa,_,_,aG,rfl,_⟩:=hv.2.2;have hbel:Below w.heap.size w (((w.alloc (.cells #[.slice pa p.length aA] 24)).alloc (.cells #[.int .i64 m.slot,.slice aa m.args.length aI,.int .i64 m.ret,.int .i64 m.locals,.int .i64 m.stack,.slice ca m.code.length aF,.slice fa m.frames.length aG] 63)).alloc (.cells #[.int .i64 4,.int .i64 xa,.int .i64 xb] 60)):=(dS _ _ _).alloc (by simp;omega) _
 have hsz:(((w.alloc (.cells #[.slice pa p.length aA] 24)).alloc (.cells #[.int .i64 m.slot,.slice aa m.args.length aI,.int .i64 m.ret,.int .i64 m.locals,.int .i64 m.stack,.slice ca m.code.length aF,.slice fa m.frames.length aG] 63)).alloc (.cells #[.int .i64 4,.int .i64 xa,.int .i64 xb] 60)).heap.size=w.heap.size+1+1+1:=by simp
 go_enter Tryz.func151,Tryz.ntmps151
 go_wp2_with fail
 go_ret2
 exact zi hbel [0,0] [0] 2 1 _ hsz rfl rfl
theorem ajE (p:List aj)(vc:Value)(m:aC)(va aQ vf:Value)(xa xb:Int)(w:World)(hp:aX w vc p)(hv:bV w.cell? m va aQ vf) :
  Calls Tryz.prog 151 #[.agg #[vc],bP m va aQ vf,.agg #[.int .i64 5,.int .i64 xa,.int .i64 xb]] w fun e w'=>jl [0,0] [0] w w' e:=by
 unfold bP;obtain⟨pa,_,_,aA,rfl,_⟩:=hp;obtain⟨aa,_,_,aI,rfl,_⟩:=hv.1;obtain⟨ca,_,_,aF,rfl,_⟩:=hv.2.1;obtain⟨fa,_,_,aG,rfl,_⟩:=hv.2.2;have hbel:Below w.heap.size w (((w.alloc (.cells #[.slice pa p.length aA] 24)).alloc (.cells #[.int .i64 m.slot,.slice aa m.args.length aI,.int .i64 m.ret,.int .i64 m.locals,.int .i64 m.stack,.slice ca m.code.length aF,.slice fa m.frames.length aG] 63)).alloc (.cells #[.int .i64 5,.int .i64 xa,.int .i64 xb] 60)):=(dS _ _ _).alloc (by simp;omega) _
 have hsz:(((w.alloc (.cells #[.slice pa p.length aA] 24)).alloc (.cells #[.int .i64 m.slot,.slice aa m.args.length aI,.int .i64 m.ret,.int .i64 m.locals,.int .i64 m.stack,.slice ca m.code.length aF,.slice fa m.frames.length aG] 63)).alloc (.cells #[.int .i64 5,.int .i64 xa,.int .i64 xb] 60)).heap.size=w.heap.size+1+1+1:=by simp
 go_enter Tryz.func151,Tryz.ntmps151
 go_wp2_with fail
 go_ret2
 exact zi hbel [0,0] [0] 2 1 _ hsz rfl rfl
theorem ajF (p:List aj)(vc:Value)(m:aC)(va aQ vf:Value)(xa xb:Int)(w:World)(hp:aX w vc p)(hv:bV w.cell? m va aQ vf) :
  Calls Tryz.prog 151 #[.agg #[vc],bP m va aQ vf,.agg #[.int .i64 6,.int .i64 xa,.int .i64 xb]] w fun e w'=>jl [0,0] [0] w w' e:=by
 unfold bP;obtain⟨pa,_,_,aA,rfl,_⟩:=hp;obtain⟨aa,_,_,aI,rfl,_⟩:=hv.1;obtain⟨ca,_,_,aF,rfl,_⟩:=hv.2.1;obtain⟨fa,_,_,aG,rfl,_⟩:=hv.2.2;have hbel:Below w.heap.size w (((w.alloc (.cells #[.slice pa p.length aA] 24)).alloc (.cells #[.int .i64 m.slot,.slice aa m.args.length aI,.int .i64 m.ret,.int .i64 m.locals,.int .i64 m.stack,.slice ca m.code.length aF,.slice fa m.frames.length aG] 63)).alloc (.cells #[.int .i64 6,.int .i64 xa,.int .i64 xb] 60)):=(dS _ _ _).alloc (by simp;omega) _
 have hsz:(((w.alloc (.cells #[.slice pa p.length aA] 24)).alloc (.cells #[.int .i64 m.slot,.slice aa m.args.length aI,.int .i64 m.ret,.int .i64 m.locals,.int .i64 m.stack,.slice ca m.code.length aF,.slice fa m.frames.length aG] 63)).alloc (.cells #[.int .i64 6,.int .i64 xa,.int .i64 xb] 60)).heap.size=w.heap.size+1+1+1:=by simp
 go_enter Tryz.func151,Tryz.ntmps151
 go_wp2_with fail
 go_ret2
 exact zi hbel [0,0] [0] 2 1 _ hsz rfl rfl
theorem ajH (p:List aj)(vc:Value)(m:aC)(va aQ vf:Value)(xa xb:Int)(w:World)(hp:aX w vc p)(hv:bV w.cell? m va aQ vf) :
  Calls Tryz.prog 151 #[.agg #[vc],bP m va aQ vf,.agg #[.int .i64 8,.int .i64 xa,.int .i64 xb]] w fun e w'=>jl [0] [] w w' e:=by
 unfold bP;obtain⟨pa,_,_,aA,rfl,_⟩:=hp;obtain⟨aa,_,_,aI,rfl,_⟩:=hv.1;obtain⟨ca,_,_,aF,rfl,_⟩:=hv.2.1;obtain⟨fa,_,_,aG,rfl,_⟩:=hv.2.2;have hbel:Below w.heap.size w (((w.alloc (.cells #[.slice pa p.length aA] 24)).alloc (.cells #[.int .i64 m.slot,.slice aa m.args.length aI,.int .i64 m.ret,.int .i64 m.locals,.int .i64 m.stack,.slice ca m.code.length aF,.slice fa m.frames.length aG] 63)).alloc (.cells #[.int .i64 8,.int .i64 xa,.int .i64 xb] 60)):=(dS _ _ _).alloc (by simp;omega) _
 have hsz:(((w.alloc (.cells #[.slice pa p.length aA] 24)).alloc (.cells #[.int .i64 m.slot,.slice aa m.args.length aI,.int .i64 m.ret,.int .i64 m.locals,.int .i64 m.stack,.slice ca m.code.length aF,.slice fa m.frames.length aG] 63)).alloc (.cells #[.int .i64 8,.int .i64 xa,.int .i64 xb] 60)).heap.size=w.heap.size+1+1+1:=by simp
 go_enter Tryz.func151,Tryz.ntmps151
 go_wp2_with fail
 go_ret2
 exact F6 hbel [0] 1 _ hsz rfl
theorem ajz (p:List aj)(vc:Value)(m:aC)(va aQ vf:Value)(xa xb:Int)(w:World)(hp:aX w vc p)(hv:bV w.cell? m va aQ vf) :
  Calls Tryz.prog 151 #[.agg #[vc],bP m va aQ vf,.agg #[.int .i64 19,.int .i64 xa,.int .i64 xb]] w fun e w'=>jl [0] [] w w' e:=by
 unfold bP;obtain⟨pa,_,_,aA,rfl,_⟩:=hp;obtain⟨aa,_,_,aI,rfl,_⟩:=hv.1;obtain⟨ca,_,_,aF,rfl,_⟩:=hv.2.1;obtain⟨fa,_,_,aG,rfl,_⟩:=hv.2.2;have hbel:Below w.heap.size w (((w.alloc (.cells #[.slice pa p.length aA] 24)).alloc (.cells #[.int .i64 m.slot,.slice aa m.args.length aI,.int .i64 m.ret,.int .i64 m.locals,.int .i64 m.stack,.slice ca m.code.length aF,.slice fa m.frames.length aG] 63)).alloc (.cells #[.int .i64 19,.int .i64 xa,.int .i64 xb] 60)):=(dS _ _ _).alloc (by simp;omega) _
 have hsz:(((w.alloc (.cells #[.slice pa p.length aA] 24)).alloc (.cells #[.int .i64 m.slot,.slice aa m.args.length aI,.int .i64 m.ret,.int .i64 m.locals,.int .i64 m.stack,.slice ca m.code.length aF,.slice fa m.frames.length aG] 63)).alloc (.cells #[.int .i64 19,.int .i64 xa,.int .i64 xb] 60)).heap.size=w.heap.size+1+1+1:=by simp
 go_enter Tryz.func151,Tryz.ntmps151
 go_wp2_with fail
 go_ret2
 exact F6 hbel [0] 1 _ hsz rfl
theorem ajt (p:List aj)(vc:Value)(m:aC)(va aQ vf:Value)(xa xb:Int)(w:World)(hp:aX w vc p)(hv:bV w.cell? m va aQ vf) :
  Calls Tryz.prog 151 #[.agg #[vc],bP m va aQ vf,.agg #[.int .i64 13,.int .i64 xa,.int .i64 xb]] w fun e w'=>jl [m.ret] [] w w' e:=by
 unfold bP;obtain⟨pa,_,_,aA,rfl,_⟩:=hp;obtain⟨aa,_,_,aI,rfl,_⟩:=hv.1;obtain⟨ca,_,_,aF,rfl,_⟩:=hv.2.1;obtain⟨fa,_,_,aG,rfl,_⟩:=hv.2.2;have hbel:Below w.heap.size w (((w.alloc (.cells #[.slice pa p.length aA] 24)).alloc (.cells #[.int .i64 m.slot,.slice aa m.args.length aI,.int .i64 m.ret,.int .i64 m.locals,.int .i64 m.stack,.slice ca m.code.length aF,.slice fa m.frames.length aG] 63)).alloc (.cells #[.int .i64 13,.int .i64 xa,.int .i64 xb] 60)):=(dS _ _ _).alloc (by simp;omega) _
 have hsz:(((w.alloc (.cells #[.slice pa p.length aA] 24)).alloc (.cells #[.int .i64 m.slot,.slice aa m.args.length aI,.int .i64 m.ret,.int .i64 m.locals,.int .i64 m.stack,.slice ca m.code.length aF,.slice fa m.frames.length aG] 63)).alloc (.cells #[.int .i64 13,.int .i64 xa,.int .i64 xb] 60)).heap.size=w.heap.size+1+1+1:=by simp
 go_enter Tryz.func151,Tryz.ntmps151
 go_wp2_with fail
 go_ret2
 exact F6 hbel [m.ret] 1 _ hsz rfl
theorem aju (p:List aj)(vc:Value)(m:aC)(va aQ vf:Value)(xa xb:Int)(w:World)(hp:aX w vc p)(hv:bV w.cell? m va aQ vf) :
  Calls Tryz.prog 151 #[.agg #[vc],bP m va aQ vf,.agg #[.int .i64 14,.int .i64 xa,.int .i64 xb]] w fun e w'=>jl [2] [] w w' e:=by
 unfold bP;obtain⟨pa,_,_,aA,rfl,_⟩:=hp;obtain⟨aa,_,_,aI,rfl,_⟩:=hv.1;obtain⟨ca,_,_,aF,rfl,_⟩:=hv.2.1;obtain⟨fa,_,_,aG,rfl,_⟩:=hv.2.2;have hbel:Below w.heap.size w (((w.alloc (.cells #[.slice pa p.length aA] 24)).alloc (.cells #[.int .i64 m.slot,.slice aa m.args.length aI,.int .i64 m.ret,.int .i64 m.locals,.int .i64 m.stack,.slice ca m.code.length aF,.slice fa m.frames.length aG] 63)).alloc (.cells #[.int .i64 14,.int .i64 xa,.int .i64 xb] 60)):=(dS _ _ _).alloc (by simp;omega) _
 have hsz:(((w.alloc (.cells #[.slice pa p.length aA] 24)).alloc (.cells #[.int .i64 m.slot,.slice aa m.args.length aI,.int .i64 m.ret,.int .i64 m.locals,.int .i64 m.stack,.slice ca m.code.length aF,.slice fa m.frames.length aG] 63)).alloc (.cells #[.int .i64 14,.int .i64 xa,.int .i64 xb] 60)).heap.size=w.heap.size+1+1+1:=by simp
 go_enter Tryz.func151,Tryz.ntmps151
 go_wp2_with fail
 go_ret2
 exact F6 hbel [2] 1 _ hsz rfl
theorem ajv (p:List aj)(vc:Value)(m:aC)(va aQ vf:Value)(xa xb:Int)(w:World)(hp:aX w vc p)(hv:bV w.cell? m va aQ vf) :
  Calls Tryz.prog 151 #[.agg #[vc],bP m va aQ vf,.agg #[.int .i64 15,.int .i64 xa,.int .i64 xb]] w fun e w'=>jl [2] [-1,-1] w w' e:=by
 unfold bP;obtain⟨pa,_,_,aA,rfl,_⟩:=hp;obtain⟨aa,_,_,aI,rfl,_⟩:=hv.1;obtain⟨ca,_,_,aF,rfl,_⟩:=hv.2.1;obtain⟨fa,_,_,aG,rfl,_⟩:=hv.2.2;have hbel:Below w.heap.size w (((w.alloc (.cells #[.slice pa p.length aA] 24)).alloc (.cells #[.int .i64 m.slot,.slice aa m.args.length aI,.int .i64 m.ret,.int .i64 m.locals,.int .i64 m.stack,.slice ca m.code.length aF,.slice fa m.frames.length aG] 63)).alloc (.cells #[.int .i64 15,.int .i64 xa,.int .i64 xb] 60)):=(dS _ _ _).alloc (by simp;omega) _
 have hsz:(((w.alloc (.cells #[.slice pa p.length aA] 24)).alloc (.cells #[.int .i64 m.slot,.slice aa m.args.length aI,.int .i64 m.ret,.int .i64 m.locals,.int .i64 m.stack,.slice ca m.code.length aF,.slice fa m.frames.length aG] 63)).alloc (.cells #[.int .i64 15,.int .i64 xa,.int .i64 xb] 60)).heap.size=w.heap.size+1+1+1:=by simp
 go_enter Tryz.func151,Tryz.ntmps151
 go_wp2_with fail
 go_ret2
 exact zi hbel [2] [-1,-1] 1 2 _ hsz rfl rfl
theorem ajw (p:List aj)(vc:Value)(m:aC)(va aQ vf:Value)(xa xb:Int)(w:World)(hp:aX w vc p)(hv:bV w.cell? m va aQ vf) :
  Calls Tryz.prog 151 #[.agg #[vc],bP m va aQ vf,.agg #[.int .i64 16,.int .i64 xa,.int .i64 xb]] w fun e w'=>jl [] [1] w w' e:=by
 unfold bP;obtain⟨pa,_,_,aA,rfl,_⟩:=hp;obtain⟨aa,_,_,aI,rfl,_⟩:=hv.1;obtain⟨ca,_,_,aF,rfl,_⟩:=hv.2.1;obtain⟨fa,_,_,aG,rfl,_⟩:=hv.2.2;have hbel:Below w.heap.size w (((w.alloc (.cells #[.slice pa p.length aA] 24)).alloc (.cells #[.int .i64 m.slot,.slice aa m.args.length aI,.int .i64 m.ret,.int .i64 m.locals,.int .i64 m.stack,.slice ca m.code.length aF,.slice fa m.frames.length aG] 63)).alloc (.cells #[.int .i64 16,.int .i64 xa,.int .i64 xb] 60)):=(dS _ _ _).alloc (by simp;omega) _
 have hsz:(((w.alloc (.cells #[.slice pa p.length aA] 24)).alloc (.cells #[.int .i64 m.slot,.slice aa m.args.length aI,.int .i64 m.ret,.int .i64 m.locals,.int .i64 m.stack,.slice ca m.code.length aF,.slice fa m.frames.length aG] 63)).alloc (.cells #[.int .i64 16,.int .i64 xa,.int .i64 xb] 60)).heap.size=w.heap.size+1+1+1:=by simp
 go_enter Tryz.func151,Tryz.ntmps151
 go_wp2_with fail
 go_ret2
 exact VG hbel [1] 1 _ hsz rfl
theorem ajy (p:List aj)(vc:Value)(m:aC)(va aQ vf:Value)(xa xb:Int)(w:World)(hp:aX w vc p)(hv:bV w.cell? m va aQ vf) :
  Calls Tryz.prog 151 #[.agg #[vc],bP m va aQ vf,.agg #[.int .i64 18,.int .i64 xa,.int .i64 xb]] w fun e w'=>jl [-1] [] w w' e:=by
 unfold bP;obtain⟨pa,_,_,aA,rfl,_⟩:=hp;obtain⟨aa,_,_,aI,rfl,_⟩:=hv.1;obtain⟨ca,_,_,aF,rfl,_⟩:=hv.2.1;obtain⟨fa,_,_,aG,rfl,_⟩:=hv.2.2;have hbel:Below w.heap.size w (((w.alloc (.cells #[.slice pa p.length aA] 24)).alloc (.cells #[.int .i64 m.slot,.slice aa m.args.length aI,.int .i64 m.ret,.int .i64 m.locals,.int .i64 m.stack,.slice ca m.code.length aF,.slice fa m.frames.length aG] 63)).alloc (.cells #[.int .i64 18,.int .i64 xa,.int .i64 xb] 60)):=(dS _ _ _).alloc (by simp;omega) _
 have hsz:(((w.alloc (.cells #[.slice pa p.length aA] 24)).alloc (.cells #[.int .i64 m.slot,.slice aa m.args.length aI,.int .i64 m.ret,.int .i64 m.locals,.int .i64 m.stack,.slice ca m.code.length aF,.slice fa m.frames.length aG] 63)).alloc (.cells #[.int .i64 18,.int .i64 xa,.int .i64 xb] 60)).heap.size=w.heap.size+1+1+1:=by simp
 go_enter Tryz.func151,Tryz.ntmps151
 go_wp2_with fail
 go_ret2
 exact F6 hbel [-1] 1 _ hsz rfl
theorem ajB (p:List aj)(vc:Value)(m:aC)(va aQ vf:Value)(xa xb:Int)(w:World)(hp:aX w vc p)(hv:bV w.cell? m va aQ vf) :
  Calls Tryz.prog 151 #[.agg #[vc],bP m va aQ vf,.agg #[.int .i64 20,.int .i64 xa,.int .i64 xb]] w fun e w'=>jl [2,2] [-2,-1] w w' e:=by
 unfold bP;obtain⟨pa,_,_,aA,rfl,_⟩:=hp;obtain⟨aa,_,_,aI,rfl,_⟩:=hv.1;obtain⟨ca,_,_,aF,rfl,_⟩:=hv.2.1;obtain⟨fa,_,_,aG,rfl,_⟩:=hv.2.2;have hbel:Below w.heap.size w (((w.alloc (.cells #[.slice pa p.length aA] 24)).alloc (.cells #[.int .i64 m.slot,.slice aa m.args.length aI,.int .i64 m.ret,.int .i64 m.locals,.int .i64 m.stack,.slice ca m.code.length aF,.slice fa m.frames.length aG] 63)).alloc (.cells #[.int .i64 20,.int .i64 xa,.int .i64 xb] 60)):=(dS _ _ _).alloc (by simp;omega) _
 have hsz:(((w.alloc (.cells #[.slice pa p.length aA] 24)).alloc (.cells #[.int .i64 m.slot,.slice aa m.args.length aI,.int .i64 m.ret,.int .i64 m.locals,.int .i64 m.stack,.slice ca m.code.length aF,.slice fa m.frames.length aG] 63)).alloc (.cells #[.int .i64 20,.int .i64 xa,.int .i64 xb] 60)).heap.size=w.heap.size+1+1+1:=by simp
 go_enter Tryz.func151,Tryz.ntmps151
 go_wp2_with fail
 go_ret2
 exact zi hbel [2,2] [-2,-1] 2 2 _ hsz rfl rfl
end Go.Proofs.YtiiokkllmchohaaGreat
