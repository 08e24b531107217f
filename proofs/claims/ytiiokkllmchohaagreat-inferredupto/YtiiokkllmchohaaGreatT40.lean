/- Certify: the program. -/
import Derived.Test.YtiiokkllmchohaaGreatT38
set_option maxHeartbeats 4000000
set_option maxRecDepth 100000
namespace Go.Proofs.YtiiokkllmchohaaGreat
open Go.RowKit Go.Shelf
attribute [local go_sem ↓] Go.wp_at_zero Go.wp_at_succ
attribute [local go_sem] bW
theorem EH:ni Tryz.prog 24 1:=⟨by kernel_rfl,by kernel_rfl⟩
def MB (p:List aj)(Q:Nat→Nat→Option aJ)(w w':World)(e:Ending):Prop:=
 ((∃v,e= .returned (.agg #[v])∧sF w.heap.size w' v (gQ p (iQ Q))∧(∃D,mO 66 3 yu w' D v (gQ p (iQ Q))∧∀g,D g→w.heap.size≤g)∧o7 p Q)∨(e= .panicked (jB 5)∧¬o7 p Q))∧Below w.heap.size w w'
theorem aer {p:List aj}{R:Nat→Nat→aJ}{c:Nat}(h:c<p.length):(gQ p R).take (c+1)=(gQ p R).take c++ [{ p[c] with aB:=p[c].aB.mapIdx fun k m=>jf m (R c k) }]:=by
 rw [List.take_add_one,J7,List.getElem?_eq_getElem h];rfl
theorem aep {p:List aj}{R:Nat→Nat→aJ} :(gQ p R).length=p.length:=by unfold gQ;simp
theorem adF {p:List aj}{Q:Nat→Nat→Option aJ}(h:∀(c:Nat) (hc:c<p.length) (k:Nat) (m:aC),p[c].aB[k]? =some m→Q c k≠none):o7 p Q:=fun c k m hm=>by
 unfold bQ at hm;rw [if_pos ⟨by omega,by omega⟩,Int.toNat_natCast,Int.toNat_natCast] at hm
 cases hx:p[c]? with
 | none => rw [hx] at hm; cases hm
 | some x =>
  rw [hx,Option.bind_some] at hm;have hc:=(List.getElem?_eq_some_iff.1 hx).1;obtain rfl:p[c]=x:=(List.getElem?_eq_some_iff.1 hx).2;exact h c hc k m hm
theorem adE {p:List aj}{Q:Nat→Nat→Option aJ}(h:o7 p Q){c:Nat}(hc:c<p.length){k:Nat}{m:aC}(hm:p[c].aB[k]? =some m):Q c k≠none:=h c k m (by
 unfold bQ;rw [if_pos ⟨by omega,by omega⟩,Int.toNat_natCast,Int.toNat_natCast,List.getElem?_eq_getElem hc]
 exact hm)
theorem aeg (p:List aj)(vp:Value)(w:World)(hp:aX w vp p)(hF:bD p=0)(hz:bn p≤4194304)(Q:Nat→Nat→Option aJ)(hQ:Ends p Q) :
  Calls Tryz.prog 58 #[.agg #[vp]] w fun e w'=>MB p Q w w' e:=by
 have hpl:p.length≤4194304:=Nat.le_trans (eG p) hz;have HP:=hide hp;have HF:=hide hF;have HQ:=hide hQ;obtain⟨pa,pb,dB,aA,rfl,_,hpa,hpr⟩:=aZ hp;have kP:=hide hpr;clear hp hpr hF hQ;have hbel:Below w.heap.size w (((w.alloc (.cells #[.slice pa p.length aA] 24)).alloc (.cells #[.slice none 0 0] 24)).alloc (.cells #[.slice none 0 0] 24)):=(dS _ _ _).alloc (by simp;omega) _;have A0:ak (((w.alloc (.cells #[.slice pa p.length aA] 24)).alloc (.cells #[.slice none 0 0] 24)).alloc (.cells #[.slice none 0 0] 24)) w.heap.size 24 [.slice pa p.length aA]:=((ak.new w _ _).alloc _).alloc _
 have A1:ak (((w.alloc (.cells #[.slice pa p.length aA] 24)).alloc (.cells #[.slice none 0 0] 24)).alloc (.cells #[.slice none 0 0] 24)) (w.heap.size+1) 24 [.slice none 0 0]:=by
  have:=(ak.new (w.alloc (.cells #[.slice pa p.length aA] 24)) #[.slice none 0 0] 24).alloc (.cells #[.slice none 0 0] 24);rw [World.size_alloc] at this;exact this
 have A2:ak (((w.alloc (.cells #[.slice pa p.length aA] 24)).alloc (.cells #[.slice none 0 0] 24)).alloc (.cells #[.slice none 0 0] 24)) (w.heap.size+2) 24 [.slice none 0 0]:=by
  have:=ak.new ((w.alloc (.cells #[.slice pa p.length aA] 24)).alloc (.cells #[.slice none 0 0] 24)) #[.slice none 0 0] 24;rw [World.size_alloc,World.size_alloc] at this;exact this
 have HI0:Hid (tZ w (((w.alloc (.cells #[.slice pa p.length aA] 24)).alloc (.cells #[.slice none 0 0] 24)).alloc (.cells #[.slice none 0 0] 24)) (.slice pa p.length aA) (.slice none 0 0) []):=
  ⟨hbel,A0,A1,A2,[],World.ownsRow_nil _ _ _ _,iU.nil⟩
 go_enter Tryz.func58,Tryz.ntmps58
 go_wp2_with fail
 generalize ((w.alloc _).alloc _).alloc _=W at *;have a0:W.cell? ⟨w.heap.size,0,none⟩=some (.slice pa p.length aA):=A0.cell 0;clear A0 A1 A2 hbel;go_wp2_with fail
 clear a0
 go_loopw [9] (fun i wr=>∃(c:Nat) (v:Value),c≤p.length∧i= .int .i64 c∧(∀(j:Nat) (hj:j<p.length) (k:Nat) (m:aC),j<c→p[j].aB[k]? =some m→Q j k≠none)∧tZ w wr (.slice pa p.length aA) v ((gQ p (iQ Q)).take c)∧vg w wr v ((gQ p (iQ Q)).take c)) (fun i _=>p.length-(intOf i).toNat)
 case atStart=>exact ⟨0,_,Nat.zero_le _,rfl,fun _ _ _ _ h=>(by omega),ah HI0,vg.start (ah HI0).b2.lt⟩
 case round=>
  obtain⟨c,v,hc,rfl,hall,hI,hW⟩:=hrel;have HW:=hide hW;clear hW;have HA:=hide hall;have HI:=hide hI;clear hall HI0
  by_cases hlt:c<p.length
  ·obtain rfl:=hpa (bJ hlt);have hx:=ah kP c hlt;have hfl:p[c].fields.length≤4194304:=Nat.le_trans (Bh _) (Nat.le_trans (nR (List.getElem_mem hlt)) hz);have HS:=hide (aer (R:=iQ Q) hlt);have HM:=hide (fun w (hp:aX w (.slice (some ⟨pb,dB,none⟩) p.length aA) p)=>aek p (.slice (some ⟨pb,dB,none⟩) p.length aA) c w hp (ah HF) hz Q (ah HQ) hlt);have Qk:=hide (fun h:o7 p Q=>fun (k:Nat) (m:aC) (hm:p[c].aB[k]? =some m)=>adE h hlt hm)
   have HAS:Hid ((∀(k:Nat) (m:aC),p[c].aB[k]? =some m→Q c k≠none)→∀(j:Nat) (hj:j<p.length) (k:Nat) (m:aC),j<c+1→p[j].aB[k]? =some m→Q j k≠none):=fun h j hj k m hlt' hm=>by
    by_cases e:j=c
    ·subst e;exact h k m hm
    ·exact ah HA j hj k m (by omega) hm
   generalize p[c]=x at *;obtain⟨vf,vm,c0,c1,c2,hf,hmt⟩:=hx;obtain⟨fa,aG,rfl,Ou,aal⟩:=rH hf;obtain⟨ma,_,_,dW,rfl,_⟩:=hmt;have k0:(0:Int)≤(c:Int):=by omega
   have k1:(c:Int)<(p.length:Int):=by omega
   have d0:=Keeps.of_below hI.bel _ _ c0;have d1:=Keeps.of_below hI.bel _ _ c1;have d2:=Keeps.of_below hI.bel _ _ c2;have hbx:=aS wr (.cells #[.int .i64 x.sup,.slice fa x.fields.length aG,.slice ma x.aB.length dW] 66);have BX:=ak.new wr #[.int .i64 x.sup,.slice fa x.fields.length aG,.slice ma x.aB.length dW] 66;have hI1:=hI.below hbx;clear hI c0 c1 c2 hf;go_wp2_with fail
   generalize wr.alloc _=Z at *;clear d0 d1 d2
   obtain⟨va,vn,fJ,rfl⟩:∃a n cap,v= .slice a n cap:=by
    obtain⟨cs,hO,_⟩:=hI1.row;obtain⟨a,cap,h⟩:=cZ hO;exact⟨a,_,cap,h⟩
   have hw3:w.heap.size+3≤wr.heap.size:=(ah HI).b2.lt
   have hvl:∀g,(Value.slice va vn fJ).ownBlock=some g→w.heap.size+3≤g∧g<wr.heap.size:=fun g hg=>by
    obtain⟨cs,hO,_⟩:=(ah HI).row;exact hO.lt g hg
   have hzz:=hbx.size;have TY:∀g,(Value.slice va vn fJ).ownBlock=some g→g<Z.heap.size:=fun g hg=>by have:=(hvl g hg).2;omega
   have hZ3:w.heap.size+3≤Z.heap.size:=by omega
   have Ib:((gQ p (iQ Q)).take c).length≤4194304:=by rw [List.length_take];omega
   have hold:∀w',Below Z.heap.size Z w'→(w'.cell? ⟨wr.heap.size,0,none⟩=some (.int .i64 x.sup)∧w'.cell? ⟨wr.heap.size,1,none⟩=some (.slice fa x.fields.length aG)∧w'.cell? ⟨w.heap.size,0,none⟩=some (.slice (some ⟨pb,dB,none⟩) p.length aA)):=fun U hU=>
    have kk:=BX.below hU BX.lt
    ⟨kk.cell 0,kk.cell 1,(hI1.b0.below hU hI1.b0.lt).cell 0⟩
   have ku:=hide hold
   have aaz:∀U w',Below Z.heap.size Z U→ay (fun k=>(Value.slice va vn fJ).ownBlock=some k∨k=w.heap.size+1+1) U w'→(w'.cell? ⟨wr.heap.size,0,none⟩=some (.int .i64 x.sup)∧w'.cell? ⟨wr.heap.size,1,none⟩=some (.slice fa x.fields.length aG)∧w'.cell? ⟨w.heap.size,0,none⟩=some (.slice (some ⟨pb,dB,none⟩) p.length aA)):=fun U U' hU hM=>
    have kk:=(BX.below hU BX.lt).mods hM (fun h=>by
     rcases h with h | h
     ·have:=(hvl _ h).2;omega
     ·omega)
    have k0:=(hI1.b0.below hU hI1.b0.lt).mods hM (fun h=>by
     rcases h with h | h
     ·have:=(hvl _ h).1;omega
     ·omega)
    ⟨kk.cell 0,kk.cell 1,k0.cell 0⟩
   have wK:=hide aaz;have e1:Z.cell? ⟨w.heap.size+1+1,0,none⟩=some (.slice va vn fJ):=hI1.b2.cell 0;clear hold aaz hvl;refine wp_region_held_drew (S:=(fun w'=>w'.cell? ⟨wr.heap.size,0,none⟩=some (.int .i64 x.sup)∧w'.cell? ⟨wr.heap.size,1,none⟩=some (.slice fa x.fields.length aG)∧w'.cell? ⟨w.heap.size,0,none⟩=some (.slice (some ⟨pb,dB,none⟩) p.length aA))) (by kernel_rfl) ?_ (fun hHeld=>?_)
   ·exact (ah ku) _ ((Below.refl _ _).drew)
   refine au 14 0 ?_;refine au 16 2 ?_;refine au 17 3 ?_;refine au 18 4 ?_;refine au 19 5 ?_;refine au 21 7 ?_;refine au 22 8 ?_;refine wpAnyH_ready (rs:= [1,6]) (by kernel_rfl) (by simp) ?_;refine AllReadyH.cons rfl (fun K hK=>?_) (AllReadyH.cons rfl (fun K hK=>?_) AllReadyH.nil)
   ·go_simp;refine hK.out _ _ ((ah ku) _ ((Below.refl _ _).drew)) (fun hHeld=>?_);clear hK K;try simp only [Act.put,aK,aO,aN]
    refine aW 6 (fun K hK=>?_);go_simp;refine (RP fa _ aG (x.fields.map (Value.int .i64)) Z.drew (by simp) (fun e=>⟨by rw [(Ou e).1];rfl,(Ou e).2⟩) (fun ad e j u h=>Keeps.of_below ((Below.refl _ _).drew) _ _ (Keeps.of_below hI1.bel _ _ (aal ad e j u h))) (wC _) hfl).mono ?_;rintro e w2 ⟨mF,rfl,nK,hb2⟩;have hb2':Below Z.heap.size Z w2:=⟨hb2.os,hb2.tape,hb2.output,hb2.size,hb2.block⟩;have Gn:=hide (show aV 1 (fE (sel (fun j=>Z.heap.size≤j) w2)) mF x.fields from rQ nK (fun g hg=>(nK.lt g hg).1));have e2:w2.cell? ⟨w.heap.size+1+1,0,none⟩=some (.slice va vn fJ):=(hI1.b2.below hb2' hI1.b2.lt).cell 0
    have Gt:Hid (qL w2 43 1 mF x.fields.length∧∀q,mF.ownBlock=some q→Z.heap.size≤q):=⟨⟨_,_,nK⟩,fun q hq=>(nK.lt q hq).1⟩;obtain⟨yN,yO,rfl⟩:=cZ nK;clear nK hb2;go_wp2_with fail
    refine hK.out _ _ ((ah ku) _ hb2') (fun hHeld=>?_);clear hK K;try simp only [Act.put,aK,aO,aN]
    refine aW 9 (fun K hK=>?_);go_simp;refine ((ah HM) w2 (aP (Keeps.of_below (hI1.bel.trans (hb2'.mono hI1.bel.size))) (ah HP))).mono ?_;rintro e w3 ⟨h3,hb3⟩;have dY:Below Z.heap.size Z w3:=hb2'.trans (hb3.mono hb2'.size);have I3:=hI1.below dY
    rcases h3 with ⟨Jd,rfl,C9,Dc,hal⟩ | ⟨rfl,k',m',hm',hq'⟩
    rotate_left
    ·have HR:Hid (MB p Q w w3 (.panicked (jB 5))):=⟨.inr ⟨rfl,fun h=>ah Qk h k' m' hm' hq'⟩,I3.bel⟩;clear hm' hq' I3 hb3 e2;go_wp2_with fail
     exact⟨rfl,ah HR⟩
    obtain⟨na,nn,kH,w6,happ,c6,f6,bK,sO⟩:=I3.next (x:= { x with aB:=x.aB.mapIdx fun k m=>jf m ((Q c k).getD sv0) }) Ib (B:=Z.heap.size) TY hZ3 (dA (dR (ay.of_below hb3) fun k hk hS=>⟨fun e=>by omega,hS⟩) (ah Gn)) (sW (dR (ay.refl (fun _=>False) w3) fun k _ hk=>⟨fun f=>f,Nat.le_trans hb2'.size hk⟩) C9);replace sO:tZ w (w6.setCell ⟨w.heap.size+2,0,none⟩ (.slice na nn kH)) (.slice (some ⟨pb,dB,none⟩) p.length aA) (.slice na nn kH) ((gQ p (iQ Q)).take (c+1)):=by rw [ah HS];exact sO
    have Di:vg w (w6.setCell ⟨w.heap.size+2,0,none⟩ (.slice na nn kH)) (.slice na nn kH) ((gQ p (iQ Q)).take (c+1)):=by
     rw [ah HS];refine (ah HW).next (hbx.trans (dY.mono hbx.size)) Ib (x:= { x with aB:=x.aB.mapIdx fun k m=>jf m ((Q c k).getD sv0) }) ?_ happ;obtain⟨Dm,m1,m2⟩:=Dc;obtain⟨o1,o2⟩:=ah Gt;have hz2:=hb2'.size;refine⟨fun q=>(Value.slice yN x.fields.length yO).ownBlock=some q∨Dm q,⟨_,_,Dm,rfl,o1.stay (fun q hq=>hb3.block q (o1.lt hq)),m1,fun q hq e=>by have:=o1.lt hq;have:=m2 q e;omega,fun q=>Iff.rfl⟩,fun q hq=>?_⟩
     rcases hq with x | x
     ·have:=o2 q x;omega
     ·have:=m2 q x;omega
    have pq:=hide (And.intro sO (And.intro (ah HAS hal) Di));clear Di Dc;have e3:w3.cell? ⟨w.heap.size+1+1,0,none⟩=some (.slice va vn fJ):=I3.b2.cell 0;have jF:=hide (And.intro dY bK);obtain⟨ma',_,_,oD,rfl,_⟩:=C9;generalize (x.aB.mapIdx fun k m=>jf m ((Q c k).getD sv0)).length=ml at *;have Hl:(w3.alloc (.cells #[.int .i64 x.sup,.slice yN x.fields.length yO,.slice ma' ml oD] 66)).cell? ⟨w.heap.size+1+1,0,none⟩=some (.slice va vn fJ):=(I3.b2.alloc _).cell 0;clear sO hal I3 e2;go_wp2_with fail
    refine hK.out _ _ ((ah ku) _ dY) (fun hHeld=>?_);clear hK K;try simp only [Act.put,aK,aO,aN]
    refine au 24 10 ?_;refine aW 11 (fun K hK=>?_);go_simp;refine hK.out _ _ ((ah ku) _ ((ah jF).1.alloc (ah jF).1.size _)) (fun hHeld=>?_);clear hK K;try simp only [Act.put,aK,aO,aN]
    refine aW 12 (fun K hK=>?_);refine wp_append_run (.tmp 15) (.tmp 25) 22 rfl _ _ rfl rfl happ ?_;go_simp;refine hK.out _ _ ((ah wK) _ _ (ah jF).1 ((ah jF).2.mono fun _ _ h=>.inl h)) (fun hHeld=>?_);clear hK K;try simp only [Act.put,aK,aO,aN]
    refine au 27 13 ?_;refine aW 14 (fun K hK=>?_);go_simp;refine hK.out _ _ ((ah wK) _ _ (ah jF).1 (((ah jF).2.mono fun _ _ h=>.inl h).setCell (p:=⟨w.heap.size+1+1,0,none⟩) (fun _=>.inr rfl) _)) (fun hHeld=>?_);clear hK K;try simp only [Act.put,aK,aO,aN]
    refine wpAnyH_done (by kernel_rfl) ?_ _;clear happ c6 f6 e3 Hl;go_wp2_with fail
    exact⟨⟨c+1,_,by omega,by go_num,(ah pq).2.1,(ah pq).1,(ah pq).2.2⟩,by simp [intOf];omega⟩
   ·go_simp;refine (RP fa _ aG (x.fields.map (Value.int .i64)) Z.drew (by simp) (fun e=>⟨by rw [(Ou e).1];rfl,(Ou e).2⟩) (fun ad e j u h=>Keeps.of_below ((Below.refl _ _).drew) _ _ (Keeps.of_below hI1.bel _ _ (aal ad e j u h))) (wC _) hfl).mono ?_;rintro e w2 ⟨mF,rfl,nK,hb2⟩;have hb2':Below Z.heap.size Z w2:=⟨hb2.os,hb2.tape,hb2.output,hb2.size,hb2.block⟩;have Gn:=hide (show aV 1 (fE (sel (fun j=>Z.heap.size≤j) w2)) mF x.fields from rQ nK (fun g hg=>(nK.lt g hg).1));have e2:w2.cell? ⟨w.heap.size+1+1,0,none⟩=some (.slice va vn fJ):=(hI1.b2.below hb2' hI1.b2.lt).cell 0
    have Gt:Hid (qL w2 43 1 mF x.fields.length∧∀q,mF.ownBlock=some q→Z.heap.size≤q):=⟨⟨_,_,nK⟩,fun q hq=>(nK.lt q hq).1⟩;obtain⟨yN,yO,rfl⟩:=cZ nK;clear nK hb2;go_wp2_with fail
    refine hK.out _ _ ((ah ku) _ hb2') (fun hHeld=>?_);clear hK K;try simp only [Act.put,aK,aO,aN]
    refine wpAnyH_ready (rs:= [1,9]) (by kernel_rfl) (by simp) ?_;refine AllReadyH.cons rfl (fun K hK=>?_) (AllReadyH.cons rfl (fun K hK=>?_) AllReadyH.nil)
    ·go_simp;refine hK.out _ _ ((ah ku) _ hb2') (fun hHeld=>?_);clear hK K;try simp only [Act.put,aK,aO,aN]
     refine aW 9 (fun K hK=>?_);go_simp;refine ((ah HM) w2 (aP (Keeps.of_below (hI1.bel.trans (hb2'.mono hI1.bel.size))) (ah HP))).mono ?_;rintro e w3 ⟨h3,hb3⟩;have dY:Below Z.heap.size Z w3:=hb2'.trans (hb3.mono hb2'.size);have I3:=hI1.below dY
     rcases h3 with ⟨Jd,rfl,C9,Dc,hal⟩ | ⟨rfl,k',m',hm',hq'⟩
     rotate_left
     ·have HR:Hid (MB p Q w w3 (.panicked (jB 5))):=⟨.inr ⟨rfl,fun h=>ah Qk h k' m' hm' hq'⟩,I3.bel⟩;clear hm' hq' I3 hb3 e2;go_wp2_with fail
      exact⟨rfl,ah HR⟩
     obtain⟨na,nn,kH,w6,happ,c6,f6,bK,sO⟩:=I3.next (x:= { x with aB:=x.aB.mapIdx fun k m=>jf m ((Q c k).getD sv0) }) Ib (B:=Z.heap.size) TY hZ3 (dA (dR (ay.of_below hb3) fun k hk hS=>⟨fun e=>by omega,hS⟩) (ah Gn)) (sW (dR (ay.refl (fun _=>False) w3) fun k _ hk=>⟨fun f=>f,Nat.le_trans hb2'.size hk⟩) C9);replace sO:tZ w (w6.setCell ⟨w.heap.size+2,0,none⟩ (.slice na nn kH)) (.slice (some ⟨pb,dB,none⟩) p.length aA) (.slice na nn kH) ((gQ p (iQ Q)).take (c+1)):=by rw [ah HS];exact sO
     have Di:vg w (w6.setCell ⟨w.heap.size+2,0,none⟩ (.slice na nn kH)) (.slice na nn kH) ((gQ p (iQ Q)).take (c+1)):=by
      rw [ah HS];refine (ah HW).next (hbx.trans (dY.mono hbx.size)) Ib (x:= { x with aB:=x.aB.mapIdx fun k m=>jf m ((Q c k).getD sv0) }) ?_ happ;obtain⟨Dm,m1,m2⟩:=Dc;obtain⟨o1,o2⟩:=ah Gt;have hz2:=hb2'.size;refine⟨fun q=>(Value.slice yN x.fields.length yO).ownBlock=some q∨Dm q,⟨_,_,Dm,rfl,o1.stay (fun q hq=>hb3.block q (o1.lt hq)),m1,fun q hq e=>by have:=o1.lt hq;have:=m2 q e;omega,fun q=>Iff.rfl⟩,fun q hq=>?_⟩
      rcases hq with x | x
      ·have:=o2 q x;omega
      ·have:=m2 q x;omega
     have pq:=hide (And.intro sO (And.intro (ah HAS hal) Di));clear Di Dc;have e3:w3.cell? ⟨w.heap.size+1+1,0,none⟩=some (.slice va vn fJ):=I3.b2.cell 0;have jF:=hide (And.intro dY bK);obtain⟨ma',_,_,oD,rfl,_⟩:=C9;generalize (x.aB.mapIdx fun k m=>jf m ((Q c k).getD sv0)).length=ml at *;have Hl:(w3.alloc (.cells #[.int .i64 x.sup,.slice yN x.fields.length yO,.slice ma' ml oD] 66)).cell? ⟨w.heap.size+1+1,0,none⟩=some (.slice va vn fJ):=(I3.b2.alloc _).cell 0;clear sO hal I3 e2;go_wp2_with fail
     refine hK.out _ _ ((ah ku) _ dY) (fun hHeld=>?_);clear hK K;try simp only [Act.put,aK,aO,aN]
     refine au 24 10 ?_;refine aW 11 (fun K hK=>?_);go_simp;refine hK.out _ _ ((ah ku) _ ((ah jF).1.alloc (ah jF).1.size _)) (fun hHeld=>?_);clear hK K;try simp only [Act.put,aK,aO,aN]
     refine aW 12 (fun K hK=>?_);refine wp_append_run (.tmp 15) (.tmp 25) 22 rfl _ _ rfl rfl happ ?_;go_simp;refine hK.out _ _ ((ah wK) _ _ (ah jF).1 ((ah jF).2.mono fun _ _ h=>.inl h)) (fun hHeld=>?_);clear hK K;try simp only [Act.put,aK,aO,aN]
     refine au 27 13 ?_;refine aW 14 (fun K hK=>?_);go_simp;refine hK.out _ _ ((ah wK) _ _ (ah jF).1 (((ah jF).2.mono fun _ _ h=>.inl h).setCell (p:=⟨w.heap.size+1+1,0,none⟩) (fun _=>.inr rfl) _)) (fun hHeld=>?_);clear hK K;try simp only [Act.put,aK,aO,aN]
     refine wpAnyH_done (by kernel_rfl) ?_ _;clear happ c6 f6 e3 Hl;go_wp2_with fail
     exact⟨⟨c+1,_,by omega,by go_num,(ah pq).2.1,(ah pq).1,(ah pq).2.2⟩,by simp [intOf];omega⟩
    ·go_simp;refine ((ah HM) w2 (aP (Keeps.of_below (hI1.bel.trans (hb2'.mono hI1.bel.size))) (ah HP))).mono ?_;rintro e w3 ⟨h3,hb3⟩;have dY:Below Z.heap.size Z w3:=hb2'.trans (hb3.mono hb2'.size);have I3:=hI1.below dY
     rcases h3 with ⟨Jd,rfl,C9,Dc,hal⟩ | ⟨rfl,k',m',hm',hq'⟩
     rotate_left
     ·have HR:Hid (MB p Q w w3 (.panicked (jB 5))):=⟨.inr ⟨rfl,fun h=>ah Qk h k' m' hm' hq'⟩,I3.bel⟩;clear hm' hq' I3 hb3 e2;go_wp2_with fail
      exact⟨rfl,ah HR⟩
     obtain⟨na,nn,kH,w6,happ,c6,f6,bK,sO⟩:=I3.next (x:= { x with aB:=x.aB.mapIdx fun k m=>jf m ((Q c k).getD sv0) }) Ib (B:=Z.heap.size) TY hZ3 (dA (dR (ay.of_below hb3) fun k hk hS=>⟨fun e=>by omega,hS⟩) (ah Gn)) (sW (dR (ay.refl (fun _=>False) w3) fun k _ hk=>⟨fun f=>f,Nat.le_trans hb2'.size hk⟩) C9);replace sO:tZ w (w6.setCell ⟨w.heap.size+2,0,none⟩ (.slice na nn kH)) (.slice (some ⟨pb,dB,none⟩) p.length aA) (.slice na nn kH) ((gQ p (iQ Q)).take (c+1)):=by rw [ah HS];exact sO
     have Di:vg w (w6.setCell ⟨w.heap.size+2,0,none⟩ (.slice na nn kH)) (.slice na nn kH) ((gQ p (iQ Q)).take (c+1)):=by
      rw [ah HS];refine (ah HW).next (hbx.trans (dY.mono hbx.size)) Ib (x:= { x with aB:=x.aB.mapIdx fun k m=>jf m ((Q c k).getD sv0) }) ?_ happ;obtain⟨Dm,m1,m2⟩:=Dc;obtain⟨o1,o2⟩:=ah Gt;have hz2:=hb2'.size;refine⟨fun q=>(Value.slice yN x.fields.length yO).ownBlock=some q∨Dm q,⟨_,_,Dm,rfl,o1.stay (fun q hq=>hb3.block q (o1.lt hq)),m1,fun q hq e=>by have:=o1.lt hq;have:=m2 q e;omega,fun q=>Iff.rfl⟩,fun q hq=>?_⟩
      rcases hq with x | x
      ·have:=o2 q x;omega
      ·have:=m2 q x;omega
     have pq:=hide (And.intro sO (And.intro (ah HAS hal) Di));clear Di Dc;have e3:w3.cell? ⟨w.heap.size+1+1,0,none⟩=some (.slice va vn fJ):=I3.b2.cell 0;have jF:=hide (And.intro dY bK);obtain⟨ma',_,_,oD,rfl,_⟩:=C9;generalize (x.aB.mapIdx fun k m=>jf m ((Q c k).getD sv0)).length=ml at *;have Hl:(w3.alloc (.cells #[.int .i64 x.sup,.slice yN x.fields.length yO,.slice ma' ml oD] 66)).cell? ⟨w.heap.size+1+1,0,none⟩=some (.slice va vn fJ):=(I3.b2.alloc _).cell 0;clear sO hal I3 e2;go_wp2_with fail
     refine hK.out _ _ ((ah ku) _ dY) (fun hHeld=>?_);clear hK K;try simp only [Act.put,aK,aO,aN]
     refine au 24 10 ?_;refine wpAnyH_ready (rs:= [1,11]) (by kernel_rfl) (by simp) ?_;refine AllReadyH.cons rfl (fun K hK=>?_) (AllReadyH.cons rfl (fun K hK=>?_) AllReadyH.nil)
     ·go_simp;refine hK.out _ _ ((ah ku) _ (ah jF).1) (fun hHeld=>?_);clear hK K;try simp only [Act.put,aK,aO,aN]
      refine aW 11 (fun K hK=>?_);go_simp;refine hK.out _ _ ((ah ku) _ ((ah jF).1.alloc (ah jF).1.size _)) (fun hHeld=>?_);clear hK K;try simp only [Act.put,aK,aO,aN]
      refine aW 12 (fun K hK=>?_);refine wp_append_run (.tmp 15) (.tmp 25) 22 rfl _ _ rfl rfl happ ?_;go_simp;refine hK.out _ _ ((ah wK) _ _ (ah jF).1 ((ah jF).2.mono fun _ _ h=>.inl h)) (fun hHeld=>?_);clear hK K;try simp only [Act.put,aK,aO,aN]
      refine au 27 13 ?_;refine aW 14 (fun K hK=>?_);go_simp;refine hK.out _ _ ((ah wK) _ _ (ah jF).1 (((ah jF).2.mono fun _ _ h=>.inl h).setCell (p:=⟨w.heap.size+1+1,0,none⟩) (fun _=>.inr rfl) _)) (fun hHeld=>?_);clear hK K;try simp only [Act.put,aK,aO,aN]
      refine wpAnyH_done (by kernel_rfl) ?_ _;clear happ c6 f6 e3 Hl;go_wp2_with fail
      exact⟨⟨c+1,_,by omega,by go_num,(ah pq).2.1,(ah pq).1,(ah pq).2.2⟩,by simp [intOf];omega⟩
     ·go_simp;refine hK.out _ _ ((ah ku) _ ((ah jF).1.alloc (ah jF).1.size _)) (fun hHeld=>?_);clear hK K;try simp only [Act.put,aK,aO,aN]
      refine aW 1 (fun K hK=>?_);go_simp;refine hK.out _ _ ((ah ku) _ ((ah jF).1.alloc (ah jF).1.size _)) (fun hHeld=>?_);clear hK K;try simp only [Act.put,aK,aO,aN]
      refine aW 12 (fun K hK=>?_);refine wp_append_run (.tmp 15) (.tmp 25) 22 rfl _ _ rfl rfl happ ?_;go_simp;refine hK.out _ _ ((ah wK) _ _ (ah jF).1 ((ah jF).2.mono fun _ _ h=>.inl h)) (fun hHeld=>?_);clear hK K;try simp only [Act.put,aK,aO,aN]
      refine au 27 13 ?_;refine aW 14 (fun K hK=>?_);go_simp;refine hK.out _ _ ((ah wK) _ _ (ah jF).1 (((ah jF).2.mono fun _ _ h=>.inl h).setCell (p:=⟨w.heap.size+1+1,0,none⟩) (fun _=>.inr rfl) _)) (fun hHeld=>?_);clear hK K;try simp only [Act.put,aK,aO,aN]
      refine wpAnyH_done (by kernel_rfl) ?_ _;clear happ c6 f6 e3 Hl;go_wp2_with fail
      exact⟨⟨c+1,_,by omega,by go_num,(ah pq).2.1,(ah pq).1,(ah pq).2.2⟩,by simp [intOf];omega⟩
  ·obtain rfl:c=p.length:=by omega
   have a2:wr.cell? ⟨w.heap.size+2,0,none⟩=some v:=hI.b2.cell 0;have a1:wr.cell? ⟨w.heap.size+1,0,none⟩=some (.slice none 0 0):=hI.b1.cell 0;have f1:=hI.b1.frozen 0;have hfin:=hI.fin;have hown:=(ah HW).own (V':=wr.setCell ⟨w.heap.size+1,0,none⟩ v) ((ay.refl (fun k=>k=w.heap.size+1) wr).setCell (p:=⟨w.heap.size+1,0,none⟩) (fun _=>rfl) _);rw [List.take_of_length_le (by rw [aep];exact Nat.le_refl _)] at hfin hown;have HOWN:=hide hown;clear hown;have hb1:=hI.b1.setCell 0 v;have hbl:=hI.bel.setCell (p:=⟨w.heap.size+1,0,none⟩) (by dsimp only;omega) v;have Qw:=hide (And.intro hfin (And.intro hb1 hbl))
   obtain⟨va,vn,fJ,rfl⟩:∃a n cap,v= .slice a n cap:=by
    obtain⟨cs,hO,_⟩:=hI.row;obtain⟨a,cap,h⟩:=cZ hO;exact⟨a,_,cap,h⟩
   clear hI hfin hb1 hbl;go_wp2_with fail
   refine bodyPost_ret (IK rfl EH (ah Qw).2.1 rfl rfl) rfl ?_;exact⟨.inl ⟨_,rfl,(ah Qw).1,ah HOWN,adF fun c hc k m hm=>ah HA c hc k m hc hm⟩,(ah Qw).2.2⟩
def sG (B:Nat)(w:World)(v:Value)(q:List aj):Prop:=∃D,mO 66 3 yu w D v q∧∀g,D g→B≤g
theorem sG.mods {S:Nat→Prop}{B B':Nat}{w w':World}{v:Value}{q:List aj}(h:sG B w v q)(m:ay S w w')(hS:∀k,B≤k→¬S k)(hB:B'≤B):sG B' w' v q:=by
 obtain⟨D,h1,h2⟩:=h;exact⟨D,h1.stay y8 (fun k hk=>m.block k (h1.lt y8 k hk) (hS k (h2 k hk))),fun g hg=>Nat.le_trans hB (h2 g hg)⟩
def VR (p:List aj)(Q:Nat→Nat→Option aJ)(b3:Nat)(w w':World)(e:Ending):Prop:=
 ((∃v,e= .returned (.tuple #[])∧ak w' b3 24 [v]∧sF w.heap.size w' v (gQ p (iQ Q))∧sG w.heap.size w' v (gQ p (iQ Q))∧o7 p Q)∨(e= .panicked (jB 5)∧ak w' b3 24 [.slice none 0 0]∧¬o7 p Q))∧ay (fun k=>k=b3) w w'
theorem aee (p:List aj)(vc:Value)(b0 b3:Nat)(w:World)(h0:ak w b0 24 [vc])(hp:aX w vc p)(hb3:ak w b3 24 [.slice none 0 0])(hF:bD p=0)(hz:bn p≤4194304)(Q:Nat→Nat→Option aJ)(hQ:Ends p Q) :
  Calls Tryz.prog 57 #[.pointer (some ⟨b0,0,none⟩),.pointer (some ⟨b3,0,none⟩)] w fun e w'=>VR p Q b3 w w' e:=by
 have HP:=hide hp;have HF:=hide hF;have HQ:=hide hQ;obtain⟨pa,_,_,aA,rfl,_⟩:=hp;have q0:w.cell? ⟨b0,0,none⟩=some (.slice pa p.length aA):=h0.cell 0;clear hQ hF h0;go_enter Tryz.func57,Tryz.ntmps57
 go_wp2_with fail
 refine (aeg p _ w (ah HP) (ah HF) hz Q (ah HQ)).mono ?_;rintro e w1 ⟨h1,hb⟩;have B3:=hb3.below hb hb3.lt;have l3:=hb3.lt;clear q0 HQ
 rcases h1 with ⟨v,rfl,hN,hO,hA⟩ | ⟨rfl,hA⟩
 ·obtain⟨ra,rb,ro,jA,rfl,_⟩:=id hN;have c3:w1.cell? ⟨b3,0,none⟩=some (.slice none 0 0):=B3.cell 0;have f3:=B3.frozen 0;have hM:ay (fun k=>k=b3) w1 (w1.setCell ⟨b3,0,none⟩ (.slice ra (gQ p (iQ Q)).length jA)):=(ay.refl (fun k=>k=b3) w1).setCell (p:=⟨b3,0,none⟩) (fun _=>rfl) _
  have HF:Hid (VR p Q b3 w (w1.setCell ⟨b3,0,none⟩ (.slice ra (gQ p (iQ Q)).length jA)) (.returned (.tuple #[]))):=by
   refine⟨.inl ⟨_,rfl,B3.setCell 0 _,sF.mods hN hM (fun k hk e=>by omega) (Nat.le_refl _),sG.mods hO hM (fun k hk e=>by omega) (Nat.le_refl _),hA⟩,(fB hb).trans hM (fun _ _ e=>e)⟩
  clear hN hM hA hO;generalize (gQ p (iQ Q)).length=nq at *;go_wp2_with fail
  go_end0;exact ah HF
 ·have HA:=hide hA;clear hA;go_wp2_with fail
  exact⟨rfl,.inr ⟨rfl,B3,ah HA⟩,fB hb⟩
def Qd (p:List aj)(Q:Nat→Nat→Option aJ)(b3:Nat)(w w':World)(e:Ending):Prop:=
 ((∃v,e= .returned (.int .i64 0)∧ak w' b3 24 [v]∧sF w.heap.size w' v (gQ p (iQ Q))∧sG w.heap.size w' v (gQ p (iQ Q))∧o7 p Q)∨(e= .returned (.int .i64 5)∧ak w' b3 24 [.slice none 0 0]∧¬o7 p Q))∧ay (fun k=>k=b3) w w'
theorem aef (p:List aj)(vc:Value)(b0 b3:Nat)(w:World)(h0:ak w b0 24 [vc])(hp:aX w vc p)(hb3:ak w b3 24 [.slice none 0 0])(hF:bD p=0)(hz:bn p≤4194304)(Q:Nat→Nat→Option aJ)(hQ:Ends p Q) :
  Calls Tryz.prog 36 #[.func (.func 57) #[] #[.pointer (some ⟨b0,0,none⟩),.pointer (some ⟨b3,0,none⟩)]] w fun e w'=>Qd p Q b3 w w' e:=by
 have hmf:∀(fn:Fn) (first cap:Array Value) (w:World),(Instr.makeFunc fn first cap).run Tryz.prog w= .ok (.func fn first cap) w:=fun _ _ _ _=>rfl;have hbw:=aS w (.cells #[.int .i64 0] 26);have H1:=hide (And.intro (h0.below hbw h0.lt) (aP (Keeps.of_below hbw) hp));have HB3:=hide (hb3.alloc (.cells #[.int .i64 0] 26));have be:=ak.new w #[.int .i64 0] 26;have HQ:=hide hQ;have HF:=hide hF;have l3:=hb3.lt;clear h0 hp hb3 hQ hF
 go_enter_defers Tryz.func36,Tryz.ntmps36
 go_wp2_with fail
 generalize w.alloc _=W at *;refine Calls.mono (aee p vc b0 b3 _ (ah H1).1 (ah H1).2 (ah HB3) (ah HF) hz Q (ah HQ)) ?_;rintro e w1 ⟨h1,hM⟩;have zQ:=be.mods hM (by omega);have c0:w1.cell? ⟨w.heap.size,0,none⟩=some (.int .i64 0):=zQ.cell 0;have f0:=zQ.frozen 0;have HM:=hide ((fB (S:=fun k=>k=b3) hbw).trans hM (fun _ _ e=>e));have hsz:=hbw.size;have hWs:=be.lt;clear HQ
 rcases h1 with ⟨v,rfl,B3,hN,hO,hA⟩ | ⟨rfl,B3,hA⟩
 ·have HN:=hide (And.intro hN (And.intro hO hA));clear hN hA hM hO;go_wp2_with fail
  have Z0:=(zQ.setCell 0 (.int .i64 0)).cell 0;have Z2:=(ah HM).setCell (p:=⟨w.heap.size,0,none⟩) (fun h=>absurd h (Nat.lt_irrefl _)) (.int .i64 0);have Z3:=B3.iq (p:=⟨w.heap.size,0,none⟩) (by dsimp only;omega) (.int .i64 0);have EY:ay (fun k=>k=w.heap.size) w1 (w1.setCell ⟨w.heap.size,0,none⟩ (.int .i64 0)):=(ay.refl (fun k=>k=w.heap.size) w1).setCell (p:=⟨w.heap.size,0,none⟩) (fun _=>rfl) _;generalize World.setCell _ _ _=Z at Z0 Z2 Z3 EY ⊢;replace Z0:Z.cell? ⟨w.heap.size,0,none⟩=some (.int .i64 0):=Z0
  have HF:Hid (Qd p Q b3 w Z (.returned (.int .i64 0))):=⟨.inl ⟨v,rfl,Z3,sF.mods (ah HN).1 EY (fun k hk e=>by omega) hsz,sG.mods (ah HN).2.1 EY (fun k hk e=>by omega) hsz,(ah HN).2.2⟩,Z2⟩;clear c0 f0;refine leaves_cons (f:=72) (args:= #[.pointer (some ⟨w.heap.size,0,none⟩)]) (by simp) (by simp [go_sem]) ?_;refine (catch_idle ⟨w.heap.size,0,none⟩ _).mono ?_;rintro e u' w2 ⟨rfl,rfl,rfl⟩;simp [Leaves,settle,results,Tryz.results36,go_sem,Z0];exact ah HF
 ·have HA:=hide hA;clear hA hM;go_wp2_with fail
  refine leaves_cons (f:=72) (args:= #[.pointer (some ⟨w.heap.size,0,none⟩)]) (by simp) (by simp [go_sem]) ?_;refine (X8 ⟨w.heap.size,0,none⟩ 5 0 _ c0 f0).mono ?_;rintro e u' w2 ⟨rfl,rfl,rfl⟩;have Z0:=((zQ.alloc (.cells #[.int .i64 5] 119)).setCell 0 (.int .i64 5)).cell 0;have Z2:=((ah HM).alloc (.cells #[.int .i64 5] 119)).setCell (p:=⟨w.heap.size,0,none⟩) (fun h=>absurd h (Nat.lt_irrefl _)) (.int .i64 5);have Z3:=(B3.alloc (.cells #[.int .i64 5] 119)).iq (p:=⟨w.heap.size,0,none⟩) (by dsimp only;omega) (.int .i64 5);generalize World.setCell _ _ _=Z at Z0 Z2 Z3 ⊢;replace Z0:Z.cell? ⟨w.heap.size,0,none⟩=some (.int .i64 5):=Z0
  have HF:Hid (Qd p Q b3 w Z (.returned (.int .i64 5))):=⟨.inr ⟨rfl,Z3,ah HA⟩,Z2⟩;clear c0 f0;simp [Leaves,settle,results,Tryz.results36,go_sem,Z0];exact ah HF
def MC (p:List aj)(Q:Nat→Nat→Option aJ)(w w':World)(e:Ending):Prop:=
 (bD p≠0→e= .returned (.tuple #[.agg #[.slice none 0 0],.int .i64 (bD p)]))∧(bD p=0→(o7 p Q∧∃v,e= .returned (.tuple #[.agg #[v],.int .i64 0])∧sF w.heap.size w' v (gQ p (iQ Q))∧sG w.heap.size w' v (gQ p (iQ Q)))∨(¬o7 p Q∧e= .returned (.tuple #[.agg #[.slice none 0 0],.int .i64 5])))∧Below w.heap.size w w'
theorem aeD (p:List aj)(vc:Value)(w:World)(hp:aX w vc p)(hwf:jq p)(hz:bn p≤4194304)(Q:Nat→Nat→Option aJ)(hQ:bD p=0→Ends p Q) :
  Calls Tryz.prog 25 #[.agg #[vc]] w fun e w'=>MC p Q w w' e:=by
 have hmf:∀(fn:Fn) (first cap:Array Value) (w:World),(Instr.makeFunc fn first cap).run Tryz.prog w= .ok (.func fn first cap) w:=fun _ _ _ _=>rfl;have HP:=hide hp;have HQ:=hide hQ;obtain⟨pa,_,_,aA,rfl,_⟩:=hp;have hbel:Below w.heap.size w ((w.alloc (.cells #[.slice pa p.length aA] 24)).alloc (.cells #[.slice none 0 0] 24)):=dS _ _ _;have B0:=(ak.new w #[.slice pa p.length aA] 24).alloc (.cells #[.slice none 0 0] 24);have B1:=ak.new (w.alloc (.cells #[.slice pa p.length aA] 24)) #[.slice none 0 0] 24;rw [World.size_alloc] at B1;clear hQ;go_enter Tryz.func25,Tryz.ntmps25
 go_wp2_with fail
 generalize (w.alloc _).alloc _=W at *;refine (Yo p _ W (aP (Keeps.of_below hbel) (ah HP)) hwf hz).mono ?_;rintro e w1 ⟨rfl,hb1⟩;have gu:=hbel.trans (hb1.mono hbel.size);have C0:=B0.below hb1 (by have:=B0.lt;omega);have C1:=B1.below hb1 (by have:=B1.lt;omega);have c1:w1.cell? ⟨w.heap.size+1,0,none⟩=some (.slice none 0 0):=C1.cell 0;have f1:=C1.frozen 0
 by_cases hF:bD p=0
 ·have HF:=hide hF;rw [hF];clear hF;have l1:=C1.lt;have hb2:=aS w1 (.cells #[.slice none 0 0] 24);have hbw2:=gu.trans (hb2.mono gu.size);have D0:=C0.below hb2 C0.lt;have D1:=C1.below hb2 C1.lt;have D2:=ak.new w1 #[.slice none 0 0] 24;go_wp2_with fail
  generalize w1.alloc _=w2 at *;have hw1:=gu.size;refine (aef p _ w.heap.size w1.heap.size w2 D0 (aP (Keeps.of_below hbw2) (ah HP)) D2 (ah HF) hz Q (ah HQ (ah HF))).mono ?_;rintro e w5 ⟨h5,bU⟩;have qw:Below w.heap.size w w5:=hbw2.trans (bU.below hbw2.size (fun k hk e=>by omega));have E1:=D1.mods bU (by omega);have e1:w5.cell? ⟨w.heap.size+1,0,none⟩=some (.slice none 0 0):=E1.cell 0;have g1:=E1.frozen 0;have hz2:=hb2.size;clear c1 f1 HQ
  rcases h5 with ⟨v,rfl,E3,hN,hO,hA⟩ | ⟨rfl,E3,hA⟩
  ·obtain⟨va,vn,fJ,hv⟩:∃a n cap,v= .slice a n cap:=by
    obtain⟨a,_,_,cap,h,_⟩:=hN;exact⟨a,_,cap,h⟩
   subst hv;have e3:w5.cell? ⟨w1.heap.size,0,none⟩=some (.slice va vn fJ):=E3.cell 0;have R1:=E1.setCell 0 (.slice va vn fJ);have bK:ay (fun k=>k=w.heap.size+1) w5 (w5.setCell ⟨w.heap.size+1,0,none⟩ (.slice va vn fJ)):=(ay.refl (fun k=>k=w.heap.size+1) w5).setCell (p:=⟨w.heap.size+1,0,none⟩) (fun _=>rfl) _
   have HFin:Hid (MC p Q w (w5.setCell ⟨w.heap.size+1,0,none⟩ (.slice va vn fJ)) (.returned (.tuple #[.agg #[.slice va vn fJ],.int .i64 0]))):=
    ⟨fun e=>absurd (ah HF) e,fun _=>.inl ⟨hA,_,rfl,sF.mods hN bK (fun k hk e=>by omega) (by omega),sG.mods hO bK (fun k hk e=>by omega) (by omega)⟩,qw.trans (bK.below qw.size (fun k hk e=>by omega))⟩
   clear hN hA bK hO;go_wp2_with fail
   refine bodyPost_ret (jQ rfl EH R1 rfl rfl) rfl ?_;exact ah HFin
  ·have e3:w5.cell? ⟨w1.heap.size,0,none⟩=some (.slice none 0 0):=E3.cell 0;have R1:=E1.setCell 0 (.slice none 0 0);have bK:ay (fun k=>k=w.heap.size+1) w5 (w5.setCell ⟨w.heap.size+1,0,none⟩ (.slice none 0 0)):=(ay.refl (fun k=>k=w.heap.size+1) w5).setCell (p:=⟨w.heap.size+1,0,none⟩) (fun _=>rfl) _
   have HFin:Hid (MC p Q w (w5.setCell ⟨w.heap.size+1,0,none⟩ (.slice none 0 0)) (.returned (.tuple #[.agg #[.slice none 0 0],.int .i64 5]))):=
    ⟨fun e=>absurd (ah HF) e,fun _=>.inr ⟨hA,rfl⟩,qw.trans (bK.below qw.size (fun k hk e=>by omega))⟩
   clear hA bK;go_wp2_with fail
   refine bodyPost_ret (jQ rfl EH R1 rfl rfl) rfl ?_;exact ah HFin
 ·have yA:=hide hF;have hF':(bD p != 0)=true:=by simpa using hF
  have R1:=C1.setCell 0 (.slice none 0 0);have HB:=hide (gu.setCell (p:=⟨w.heap.size+1,0,none⟩) (by dsimp only;omega) (.slice none 0 0));clear hF;go_wp2_with fail
  refine bodyPost_ret (jQ rfl EH R1 rfl rfl) rfl ?_;exact⟨fun _=>rfl,fun e=>absurd e (ah yA),ah HB⟩
end Go.Proofs.YtiiokkllmchohaaGreat
