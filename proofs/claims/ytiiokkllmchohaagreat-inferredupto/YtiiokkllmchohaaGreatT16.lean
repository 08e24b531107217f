/- The law's hands keep a list of methods, wherever its lists lie. -/
import Derived.Test.YtiiokkllmchohaaGreatT15
set_option maxHeartbeats 4000000
set_option maxRecDepth 100000
namespace Go.Proofs.YtiiokkllmchohaaGreat
open Go.RowKit
attribute [local go_sem ↓] Go.wp_at_zero Go.wp_at_succ
def yw:Ew aC:=fun w D c m=>∃va vc vf Df,c= [.int .i64 m.slot,va,.int .i64 m.ret,.int .i64 m.locals,.int .i64 m.stack,vc,vf]∧qL w 43 1 va m.args.length∧qL w 60 3 vc m.code.length∧mO 42 3 Ee w Df vf m.frames∧(∀g,va.ownBlock=some g→vc.ownBlock≠some g∧¬Df g)∧(∀g,vc.ownBlock=some g→¬Df g)∧∀g,(D g↔va.ownBlock=some g∨vc.ownBlock=some g∨Df g)
theorem DN:Gy yw:=by
 refine⟨?_,?_⟩
 ·rintro w D c f ⟨va,vc,vf,Df,_,h1,h2,h3,_,_,h6⟩ k hk
  rcases (h6 k).1 hk with x | x | x
  ·exact h1.lt x
  ·exact h2.lt x
  ·exact h3.lt DL k x
 ·rintro w w' D c f hk ⟨va,vc,vf,Df,e,h1,h2,h3,h4,h5,h6⟩;exact⟨va,vc,vf,Df,e,h1.stay (fun g hg=>hk g ((h6 g).2 (.inl hg))),h2.stay (fun g hg=>hk g ((h6 g).2 (.inr (.inl hg)))),h3.stay DL (fun g hg=>hk g ((h6 g).2 (.inr (.inr hg)))),h4,h5,h6⟩
structure Rk (w wr:World)(bh:Nat)(cs:List Value)(n:Nat)(es:Nat→List dF)(D:Nat→Prop)(v:Value)(l:List aC)(B:Nat)(xs:List Value)(Ds:Nat→Nat→Prop)(k:Nat)(cs':List Value)(es':Nat→List dF):Prop where
 inv:gK wr bh cs' (n+gX (l.take k)) es'
 rem:wM 63 7 yw wr bh cs' es' v l B xs Ds k
 st:kC w wr bh cs cs' es es' D (gX (l.take k))
structure adu (wr w2:World)(bh:Nat)(cs' cs2:List Value)(es' es2:Nat→List dF)(n:Nat)(v vc:Value)(L cL B:Nat)(xs:List Value)(Dk:Nat→Prop)(c:Nat):Prop where
 inv:gK w2 bh cs2 (n+c) es2
 st:kC wr w2 bh cs' cs2 es' es2 Dk c
 tc:qL w2 60 3 vc cL
 fc:lJ bh cs2 es2 fun g=>vc.ownBlock=some g
 row:w2.ownsRow B 63 7 v L xs
 fg:lJ bh cs2 es2 fun g=>v.ownBlock=some g
theorem ahD (l:List aC)(v:Value)(w:World)(bh:Nat)(cs:List Value)(n:Nat)(es:Nat→List dF)(D:Nat→Prop)(h:gK w bh cs n es)(hv:mO 63 7 yw w D v l)(hf:lJ bh cs es D)(hl:l.length≤1000)(hn:n≤500000)(hc:∀j,j<6→(es j).length≤8000000)(hz:∀m∈l,UL m)(hcm:gX l≤100000) :
  Calls Tryz.prog 90 #[.pointer (some ⟨bh,0,none⟩),v] w fun e w'=>e= .returned (.tuple #[])∧∃cs' es',gK w' bh cs' (n+(gX l+1)) es'∧kC w w' bh cs cs' es es' D (gX l+1):=by
 obtain⟨B,xs,Ds,hR0,hDs,CZ⟩:=wM.start hv hf;have yB:Hid (Rk w w bh cs n es D v l B xs Ds 0 cs es):=⟨h,hR0,kC.refl w bh cs es D⟩;obtain⟨a,cap,rfl⟩:=hv.form;have Gl:=hide hDs;have BF:=hide CZ;clear hv hR0 h hf hDs CZ;go_enter Tryz.func90,Tryz.ntmps90
 go_wp2_with fail
 go_loopw [4] (fun s4 wr=>∃(k:Nat) (cs':List Value) (es':Nat→List dF),k≤l.length∧s4= .int .i64 k∧Rk w wr bh cs n es D (.slice a l.length cap) l B xs Ds k cs' es') (fun s4 _=>l.length-(intOf s4).toNat)
 case atStart=>exact ⟨0,cs,es,Nat.zero_le _,rfl,ah yB⟩
 case round=>
  obtain⟨k,cs',es',hk,rfl,hP⟩:=hrel;clear yB
  by_cases hlt:k<l.length
  ·have hlt':(k:Int)<(l.length:Int):=by omega
   have agB:=X0 l (k+1);have hct:=ad6 hlt;obtain⟨va,vc,vf,Df,hcut,t1,t2,t3,d1,d2,hD⟩:=hP.rem.els k _ (Nat.le_refl _) (List.getElem?_eq_getElem hlt);have Ii:=hz l[k] (List.getElem_mem hlt);generalize l[k]=me at *;unfold zX at hct;have hx1:xs[k*7+1]? =some va:=by rw [←CP (by omega),hcut];rfl
   have hx5:xs[k*7+5]? =some vc:=by rw [←CP (by omega),hcut];rfl
   have hx6:xs[k*7+6]? =some vf:=by rw [←CP (by omega),hcut];rfl
   obtain⟨g,rfl⟩:∃g,a=some ⟨g,0,none⟩:=by
    rcases hP.rem.row.2 with ⟨e,e0⟩ | ⟨g,cap',cur,e,_⟩
    ·omega
    ·simp only [Value.slice.injEq] at e;exact⟨g,e.1⟩
   have c1:wr.cell? ⟨g,k*7+1,none⟩=some va:=by rw [FK hP.rem.row rfl (by omega)];exact hx1
   obtain⟨B1,xs1,o1⟩:=t1;obtain⟨aa,aI,rfl⟩:=cZ o1
   obtain⟨ca,aF,rfl⟩:∃a c,vc= .slice a me.code.length c:=by
    obtain⟨_,_,o2⟩:=t2;exact cZ o2
   obtain⟨fa,aG,rfl⟩:=t3.form;have HP:=hide hP;have T2:=hide t2;have T3:=hide t3;have Nj:=hide hx5;have Xh:=hide hx6;have HD1:=hide d1;have HD2:=hide d2;have HD:=hide hD;have Qu:=hide hct;obtain⟨hz1,hz2,hz3,xQ⟩:=Ii;have fk:=hP.rem.fr k (Nat.le_refl _) hlt;have hf1:=fk.sub (D1:=fun g=>(Value.slice aa me.args.length aI).ownBlock=some g) (fun g hg=>(hD g).2 (.inl hg));have Gm:=hide (fk.sub (D1:=fun g=>(Value.slice ca me.code.length aF).ownBlock=some g) (fun g hg=>(hD g).2 (.inr (.inl hg))));have yA:=hide (fk.sub (D1:=Df) (fun g hg=>(hD g).2 (.inr (.inr hg))));clear hP t2 t3 hx1 hx5 hx6 d1 d2 hD fk hcut hct;have hcl0:=X0 l k;go_wp2_with fail
   refine Calls.mono (OJ me.args.length _ wr bh cs' (n+gX (l.take k)) es' (ah HP).inv B1 xs1 o1 hf1 hz1 (by omega) (fun j hj=>by have:=(ah HP).st.cnt j hj;have:=hc j hj;omega)) ?_;rintro e w1 ⟨rfl,cs1,es1,K1,S1⟩;have T2':=hide ((ah T2).stay (w':=w1) (fun q hq=>S1.same (ah Gm) (fun q h1 h2=>(ah HD1 q h2).1 h1) hq ((ah T2).lt hq)));have Xz:=hide ((ah T3).stay DL (w':=w1) (fun q hq=>S1.same (ah yA) (fun q h1 h2=>(ah HD1 q h2).2 h1) hq ((ah T3).lt DL q hq)));have Qg:=hide ((ah Gm).step S1 (fun q h1 h2=>(ah HD1 q h2).1 h1) (fun q hq=>(ah T2).lt hq))
   have VU:=hide ((ah yA).step S1 (fun q h1 h2=>(ah HD1 q h2).2 h1) (fun q hq=>(ah T3).lt DL q hq));have hdv:∀q,(Value.slice (some ⟨g,0,none⟩) l.length cap).ownBlock=some q→¬Ds k q:=fun q h1 h2=>(ah HP).rem.dv k q h2 h1;have Bc:=Ba (ah HP).rem.row (w':=w1) (fun q hq=>S1.same (ah HP).rem.fg (fun q h1 h2=>hdv q h1 ((ah HD q).2 (.inl h2))) hq ((ah HP).rem.row.lt q hq).2);have YT:=(ah HP).rem.fg.step S1 (fun q h1 h2=>hdv q h1 ((ah HD q).2 (.inl h2))) (fun q hq=>((ah HP).rem.row.lt q hq).2);have c6:w1.cell? ⟨g,k*7+6,none⟩=some (.slice fa me.frames.length aG):=by rw [FK Bc rfl (by omega)];exact ah Xh
   have lV:=hide K1;have zL:=hide S1;have HR1:=hide Bc;have QA:=hide YT;have MQ:=hide hdv;clear K1 S1 c1 o1 hf1 Bc YT hdv;go_wp2_with fail
   refine Calls.mono (aa3 me.frames _ w1 bh cs1 (n+gX (l.take k)+1) es1 Df (ah lV) (ah Xz) (ah VU) hz3 (by omega) (fun j hj=>by have:=(ah zL).cnt j hj;have:=(ah HP).st.cnt j hj;have:=hc j hj;omega) xQ) ?_;rintro e w2 ⟨rfl,cs2,es2,K2,S2⟩;have U7:=Ba (ah HR1) (w':=w2) (fun q hq=>S2.same (ah QA) (fun q h1 h2=>ah MQ q h1 ((ah HD q).2 (.inr (.inr h2)))) hq ((ah HR1).lt q hq).2);have c5:w2.cell? ⟨g,k*7+5,none⟩=some (.slice ca me.code.length aF):=by rw [FK U7 rfl (by omega)];exact ah Nj
   have yH:kC wr w2 bh cs' cs2 es' es2 (Ds k) (1+(2*me.frames.length+1)):=((ah zL).mono fun q hq=>(ah HD q).2 (.inl hq)).trans (S2.mono fun q hq=>(ah HD q).2 (.inr (.inr hq)))
   have HI2:Hid (adu wr w2 bh cs' cs2 es' es2 (n+gX (l.take k)) (.slice (some ⟨g,0,none⟩) l.length cap) (.slice ca me.code.length aF) l.length me.code.length B xs (Ds k) (2*me.frames.length+2)):=
    ⟨by rw [show n+gX (l.take k)+(2*me.frames.length+2)=n+gX (l.take k)+1+(2*me.frames.length+1) by omega];exact K2,by rw [show 2*me.frames.length+2=1+(2*me.frames.length+1) by omega];exact yH,(ah T2').stay (fun q hq=>S2.same (ah Qg) (fun q h1 h2=>ah HD2 q h1 h2) hq ((ah T2').lt hq)),(ah Qg).step S2 (fun q h1 h2=>ah HD2 q h1 h2) (fun q hq=>(ah T2').lt hq),U7,(ah QA).step S2 (fun q h1 h2=>ah MQ q h1 ((ah HD q).2 (.inr (.inr h2)))) (fun q hq=>((ah HR1).lt q hq).2)⟩
   clear K2 S2 yH U7 c6 lV zL T2' Xz Qg VU HR1 QA T2 T3 Gm yA Nj Xh;go_wp2_with fail
   refine Calls.mono (Lp (n+gX (l.take k)+(2*me.frames.length+2)) w2 bh cs2 (ah HI2).inv.hands (ah HI2).inv.c6 (by omega)) ?_;rintro e w3 ⟨rfl,hh3,oO⟩;generalize -77000001-((n+gX (l.take k)+(2*me.frames.length+2):Nat):Int)=m at *;obtain⟨K3,ho3⟩:=(ah HI2).inv.mark (n+gX (l.take k)+(2*me.frames.length+2)+1) hh3 oO;have hs3:=oO.size;obtain⟨B5,xs5,o5⟩:=(ah HI2).tc;obtain⟨m1,m2,ak1,ak2,hsp1,hsp2⟩:=LJ o5;have S3:=hide ((ah HI2).st.trans ((jG.mark (es:=es2) oO ho3 0 0).toS (D:=Ds k) fun q _ h=>by omega));have F3:=hide ((nC.start o5 hsp1 (ig 1 m)).mods oO (fun g hg e=>(ah HI2).fc.hb (e▸hg)))
   have VW:=hide (((ah HI2).fc.step ((jG.mark (es:=es2) oO ho3 0 0).toS (D:=fun _=>False) fun q _ h=>by omega) (fun _ _ f=>f) (fun q hq=>(o5.lt q hq).2)).free hsp2);have d5:w3.cell? ⟨g,k*7+5,none⟩=some (.slice ca me.code.length aF):=oO.cell c5 (fun e=>(ah HI2).fg.hb (by show some g=some bh;simp only at e;rw [e]));have hc3:∀j,j<6→(es2 j).length≤16777216:=fun j hj=>by have:=(ah HI2).st.cnt j hj;have:=(ah HP).st.cnt j hj;have:=hc j hj;omega
   have WC:=hide K3;clear K3 hh3 oO ho3 c5 o5;generalize cs2.set 6 _=oL at *;go_wp2_with fail
   go_loopw [7] (fun s7 wr=>∃q:Nat,q≤me.code.length∧s7= .int .i64 q∧gK wr bh oL (n+gX (l.take k)+(2*me.frames.length+2)+1) es2∧nC wr 60 3 m1 m2 (.slice ca me.code.length aF) me.code.length (ig 1 m) q∧ay (fun k=>m1≤k∧k<m2) w3 wr) (fun s7 _=>me.code.length-(intOf s7).toNat)
   case atStart=>exact ⟨0,Nat.zero_le _,rfl,ah WC,ah F3,ay.refl _ _⟩
   case round=>
    obtain⟨q,hq,rfl,hK,og,jg⟩:=hrel;clear F3 WC d5
    by_cases lu:q<me.code.length
    ·have uP:(q:Int)<(me.code.length:Int):=by omega
     have HK:=hide hK;have HM:=hide jg
     rcases og with ⟨_,h0⟩ | ⟨gc,cap1,cur,q1,q2,qe,qc,qm,q3,q4,q5⟩
     ·omega
     ·simp only [Value.slice.injEq] at qe;obtain⟨rfl,_,rfl⟩:=qe;obtain⟨u0,c0⟩:∃u,wr.cell? ⟨gc,q*3,none⟩=some u:=⟨_,by rw [q3.cell];exact List.getElem?_eq_getElem (by omega)⟩;obtain⟨u1,c1⟩:∃u,wr.cell? ⟨gc,q*3+1,none⟩=some u:=⟨_,by rw [q3.cell];exact List.getElem?_eq_getElem (by omega)⟩;obtain⟨u2,c2⟩:∃u,wr.cell? ⟨gc,q*3+2,none⟩=some u:=⟨_,by rw [q3.cell];exact List.getElem?_eq_getElem (by omega)⟩;have f0:=q3.frozen (q*3);have f1:=q3.frozen (q*3+1);have f2:=q3.frozen (q*3+2);have G3:=hide (DY (k:=q*3) q3 (.int .i64 m) (.int .i64 0) (.int .i64 0));have G5:=hide (SC (a:=.int .i64 m) (b:=.int .i64 0) (c:=.int .i64 0) q5 (by omega))
      have M2:=hide ((DZ wr gc (q*3) (.int .i64 m) (.int .i64 0) (.int .i64 0)).mono (T:=fun k=>m1≤k∧k<m2) (fun i _ e=>by omega));clear hK jg q3 q5;go_wp2_with fail
      refine⟨⟨q+1,by omega,by go_num,(ah HK).Ld (ah VW) (ah M2),.inr ⟨gc,_,_,q1,q2,rfl,qc,qm,ah G3,by rw [uU];exact q4,ah G5⟩,(ah HM).trans (ah M2) (fun _ _ x=>x)⟩,by simp [intOf];omega⟩
    ·have uP:¬(q:Int)<(me.code.length:Int):=by omega
     obtain rfl:q=me.code.length:=by omega
     have P0:=hide (nV.LW (m:=m) aa7 hK (ah VW) og (by have:=jg.size;omega));have ST:=hide ((ah S3).trans ((jG.fill (bh:=bh) (cs:=oL) (es:=es2) jg).toS fun q h1 h2=>(ah HD q).2 (.inr (.inl (hsp2 q h1 h2)))));clear hK og jg S3;obtain⟨lI,rfl⟩:∃lI:World,lI=wr:=⟨_,rfl⟩;go_wp2_with fail
     go_loopw [6,8] (fun s6 s8 wr=>∃(kk:Nat) (la:Option Addr) (lc:Nat),kk≤4∧s8= .int .i64 kk∧s6= .slice la (me.code.length+kk) lc∧∃G9 Hq,nV lI wr bh oL (n+gX (l.take k)+(2*me.frames.length+2)+1) es2 m1 m2 1 m me.code.length kk (.slice la (me.code.length+kk) lc) G9 Hq) (fun _ s8 _=>4-(intOf s8).toNat)
     case atStart=>exact ⟨0,ca,aF,by omega,rfl,rfl,oL,es2,ah P0⟩
     case round=>
      obtain⟨kk,la,lc,hkk,rfl,rfl,G9,Hq,hP⟩:=hrel
      by_cases h4:kk<4
      ·have h4':(kk:Int)<4:=by omega
       obtain⟨rn,ra,ma,oH,ma',la',rc,mc,rc',mc',oQ,x1,x3,x5,R⟩:=hP.round aa7 h4 hz2 hc3;obtain⟨r1,r2,r3,r4,r5,r6,r7,r8,r9,r10⟩:=R;simp only [qy,rM,ig,Nat.reduceMul,Nat.reduceAdd] at r1 r2 r3 r4 r5 r6 r7 r8 r9;have R10:=hide r10;clear hP r10 P0
       go_wp2_with (at_builtin;first
        | refine wpList_append_run rfl (.tmp 58) (.tmp 60) 46 rfl _ _ rfl rfl r2 ?_
        | refine wpList_append_run rfl (.tmp 68) (.tmp 70) 51 rfl _ _ rfl rfl r6 ?_
        | refine wpList_append_run rfl (.tmp 74) (.tmp 77) 61 rfl _ _ rfl rfl r9 ?_)
       obtain⟨Sj,es5,h5⟩:=ah R10;refine⟨⟨kk+1,la',oQ,by omega,by go_num,rfl,Sj,es5,h5⟩,by simp [intOf];omega⟩
      ·have h4':¬(kk:Int)<4:=by omega
       have hst:=(ah ST).trans ((hP.fin hkk).toS fun q h1 h2=>(ah HD q).2 (.inr (.inl (hsp2 q h1 h2))));have hct:=ah Qu
       have HZ:Hid (Rk w wr bh cs n es D (.slice (some ⟨g,0,none⟩) l.length cap) l B xs Ds (k+1) G9 Hq):=
        ⟨by rw [hct,show n+(gX (l.take k)+(2*me.frames.length+3))=n+gX (l.take k)+(2*me.frames.length+2)+1 by omega];exact hP.inv,(ah HP).rem.step DN hst (fun _ h=>h),by rw [hct];exact (ah HP).st.trans (hst.mono fun q hq=>ah Gl k q hlt hq)⟩
       clear hst hct hP P0 ST;go_wp2_with fail
       refine⟨⟨k+1,G9,Hq,by omega,by go_num,ah HZ⟩,by simp [intOf];omega⟩
  ·have hlt':¬(k:Int)<(l.length:Int):=by omega
   obtain rfl:k=l.length:=by omega
   obtain⟨wo,rfl⟩:∃wo:World,wo=wr:=⟨_,rfl⟩;have hws:=hP.st.mods.size;have hinv:=hP.inv;have hst:=hP.st;rw [List.take_length] at hinv hst;obtain⟨lo',hi',abo,hhi1,hsp1,hsp2⟩:=LJ hP.rem.row;have yQ:=nC.start hP.rem.row hsp1 (ig 3 (-77000001-((n+gX l:Nat):Int)));have HP:=hide hP;have BG:=hide yQ;have zH:=hide hinv;have HST:=hide hst;clear hP yQ hinv hst;go_wp2_with fail
   refine Calls.mono (Lp (n+gX l) wo bh cs' (ah zH).hands (ah zH).c6 (by omega)) ?_;rintro e w1 ⟨rfl,hh1,hm1⟩;generalize -77000001-((n+gX l:Nat):Int)=m at *;obtain⟨K1,ho1⟩:=(ah zH).mark (n+gX l+1) hh1 hm1;have S1:=hide ((ah HST).trans ((jG.mark (es:=es') hm1 ho1 0 0).toS (D:=D) fun k _ h=>by omega));have F1:=hide ((ah BG).mods hm1 (fun g hg e=>(ah HP).rem.fg.hb (e▸hg)));have hF2:=ah F1;have wY:su bh (cs'.set 6 (.int .i64 ((n+gX l+1:Nat):Int))) es' lo' hi':=((ah HP).rem.fg.step ((jG.mark (es:=es') hm1 ho1 0 0).toS (D:=fun _=>False) fun k _ h=>by omega) (fun _ _ f=>f) (fun q hq=>((ah HP).rem.row.lt q hq).2)).free hsp2
   have hs1:=hm1.size;have lV:=hide K1;have wG:=hide wY;have HF2:=hide hF2;have hc1:∀j,j<6→(es' j).length≤16777216:=fun j hj=>by have:=(ah S1).cnt j hj;have:=hc j hj;omega
   clear K1 BG HP wY hh1 hm1 ho1 F1 hF2 hc zH HST;generalize cs'.set 6 _=cs1 at *;go_wp2_with fail
   go_loopw [10] (fun s10 wr=>∃k:Nat,k≤l.length∧s10= .int .i64 k∧gK wr bh cs1 (n+gX l+1) es'∧nC wr 63 7 lo' hi' (.slice a l.length cap) l.length (ig 3 m) k∧ay (fun k=>lo'≤k∧k<hi') w1 wr) (fun s10 _=>l.length-(intOf s10).toNat)
   case atStart=>exact ⟨0,Nat.zero_le _,rfl,ah lV,ah HF2,ay.refl _ _⟩
   case round=>
    obtain⟨k,hk,rfl,hK,og,jg⟩:=hrel;clear HF2 lV
    by_cases hlt:k<l.length
    ·have hlt':(k:Int)<(l.length:Int):=by omega
     have HK:=hide hK;have HM:=hide jg
     rcases og with ⟨_,h0⟩ | ⟨g,cap1,cur,g1,g2,ge,gc,gm,g3,g4,g5⟩
     ·omega
     ·simp only [Value.slice.injEq] at ge;obtain⟨rfl,_,rfl⟩:=ge;obtain⟨u0,c0⟩:∃u,wr.cell? ⟨g,k*7,none⟩=some u:=⟨_,by rw [g3.cell];exact List.getElem?_eq_getElem (by omega)⟩;obtain⟨u1,c1⟩:∃u,wr.cell? ⟨g,k*7+1,none⟩=some u:=⟨_,by rw [g3.cell];exact List.getElem?_eq_getElem (by omega)⟩;obtain⟨u2,c2⟩:∃u,wr.cell? ⟨g,k*7+2,none⟩=some u:=⟨_,by rw [g3.cell];exact List.getElem?_eq_getElem (by omega)⟩;obtain⟨u3,c3⟩:∃u,wr.cell? ⟨g,k*7+3,none⟩=some u:=⟨_,by rw [g3.cell];exact List.getElem?_eq_getElem (by omega)⟩;obtain⟨u4,c4⟩:∃u,wr.cell? ⟨g,k*7+4,none⟩=some u:=⟨_,by rw [g3.cell];exact List.getElem?_eq_getElem (by omega)⟩
      obtain⟨u5,c5⟩:∃u,wr.cell? ⟨g,k*7+5,none⟩=some u:=⟨_,by rw [g3.cell];exact List.getElem?_eq_getElem (by omega)⟩;obtain⟨u6,c6⟩:∃u,wr.cell? ⟨g,k*7+6,none⟩=some u:=⟨_,by rw [g3.cell];exact List.getElem?_eq_getElem (by omega)⟩;have ff:=g3.frozen;have G3:=hide (Pv (k:=k*7) g3 (.int .i64 m) (.slice none 0 0) (.int .i64 0) (.int .i64 0) (.int .i64 0) (.slice none 0 0) (.slice none 0 0));have G5:=hide (afQ (a:=.int .i64 m) (b:=.slice none 0 0) (c:=.int .i64 0) (d:=.int .i64 0) (e:=.int .i64 0) (f:=.slice none 0 0) (g:=.slice none 0 0) g5 (by omega))
      have M2:=hide ((Px wr g (k*7) (.int .i64 m) (.slice none 0 0) (.int .i64 0) (.int .i64 0) (.int .i64 0) (.slice none 0 0) (.slice none 0 0)).mono (T:=fun k=>lo'≤k∧k<hi') (fun i _ e=>by omega));clear hK jg g3 g5;go_wp2_with fail
      refine⟨⟨k+1,by omega,by go_num,(ah HK).Ld (ah wG) (ah M2),.inr ⟨g,_,_,g1,g2,rfl,gc,gm,ah G3,by rw [LQ];exact g4,ah G5⟩,(ah HM).trans (ah M2) (fun _ _ x=>x)⟩,by simp [intOf];omega⟩
    ·have hlt':¬(k:Int)<(l.length:Int):=by omega
     obtain rfl:k=l.length:=by omega
     have P0:=hide (nV.LW (m:=m) aa9 hK (ah wG) og (by have:=jg.size;omega));have ST:=hide ((ah S1).trans ((jG.fill (bh:=bh) (cs:=cs1) (es:=es') jg).toS fun q h1 h2=>ah BF q (hsp2 q h1 h2)));clear hK og jg S1;obtain⟨lI,rfl⟩:∃lI:World,lI=wr:=⟨_,rfl⟩;go_wp2_with fail
     go_loopw [1,11] (fun s1 s11 wr=>∃(kk:Nat) (la:Option Addr) (lc:Nat),kk≤4∧s11= .int .i64 kk∧s1= .slice la (l.length+kk) lc∧∃cs2 es2,nV lI wr bh cs1 (n+gX l+1) es' lo' hi' 3 m l.length kk (.slice la (l.length+kk) lc) cs2 es2) (fun _ s11 _=>4-(intOf s11).toNat)
     case atStart=>exact ⟨0,a,cap,by omega,rfl,rfl,cs1,es',ah P0⟩
     case round=>
      obtain⟨kk,la,lc,hkk,rfl,rfl,cs2,es2,hP⟩:=hrel
      by_cases h4:kk<4
      ·have h4':(kk:Int)<4:=by omega
       obtain⟨rn,ra,ma,oH,ma',la',rc,mc,rc',mc',oQ,x1,x3,x5,R⟩:=hP.round aa9 h4 hl hc1;obtain⟨r1,r2,r3,r4,r5,r6,r7,r8,r9,r10⟩:=R;simp only [qy,rM,ig,Nat.reduceMul,Nat.reduceAdd] at r1 r2 r3 r4 r5 r6 r7 r8 r9;have R10:=hide r10;clear hP r10 P0
       go_wp2_with (at_builtin;first
        | refine wpList_append_run rfl (.tmp 100) (.tmp 102) 48 rfl _ _ rfl rfl r2 ?_
        | refine wpList_append_run rfl (.tmp 110) (.tmp 112) 51 rfl _ _ rfl rfl r6 ?_
        | refine wpList_append_run rfl (.tmp 116) (.tmp 119) 64 rfl _ _ rfl rfl r9 ?_)
       obtain⟨oL,es3,h3⟩:=ah R10;refine⟨⟨kk+1,la',oQ,by omega,by go_num,rfl,oL,es3,h3⟩,by simp [intOf];omega⟩
      ·have h4':¬(kk:Int)<4:=by omega
       go_wp2_with fail
       go_end0;have hst:=(ah ST).trans ((hP.fin hkk).toS fun q h1 h2=>ah BF q (hsp2 q h1 h2));exact⟨rfl,cs2,es2,hP.inv,hst⟩
end Go.Proofs.YtiiokkllmchohaaGreat
