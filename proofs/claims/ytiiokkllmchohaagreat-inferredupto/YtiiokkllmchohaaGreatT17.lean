/- The law's hands keep a program, wherever its lists lie. -/
import Derived.Test.YtiiokkllmchohaaGreatT15
import Derived.Test.YtiiokkllmchohaaGreatT16
set_option maxHeartbeats 4000000
set_option maxRecDepth 100000
namespace Go.Proofs.YtiiokkllmchohaaGreat
open Go.RowKit
attribute [local go_sem ↓] Go.wp_at_zero Go.wp_at_succ
def yu:Ew aj:=fun w D c x=>∃vf vm Dm,c= [.int .i64 x.sup,vf,vm]∧qL w 43 1 vf x.fields.length∧mO 63 7 yw w Dm vm x.aB∧(∀g,vf.ownBlock=some g→¬Dm g)∧∀g,(D g↔vf.ownBlock=some g∨Dm g)
theorem y8:Gy yu:=by
 refine⟨?_,?_⟩
 ·rintro w D c f ⟨vf,vm,Dm,_,h1,h2,_,h4⟩ k hk
  rcases (h4 k).1 hk with x | x
  ·exact h1.lt x
  ·exact h2.lt DN k x
 ·rintro w w' D c f hk ⟨vf,vm,Dm,e,h1,h2,h3,h4⟩;exact⟨vf,vm,Dm,e,h1.stay (fun g hg=>hk g ((h4 g).2 (.inl hg))),h2.stay DN (fun g hg=>hk g ((h4 g).2 (.inr hg))),h3,h4⟩
structure Qc (w wr:World)(bh:Nat)(cs:List Value)(n:Nat)(es:Nat→List dF)(D:Nat→Prop)(v:Value)(l:List aj)(B:Nat)(xs:List Value)(Ds:Nat→Nat→Prop)(k:Nat)(cs':List Value)(es':Nat→List dF):Prop where
 inv:gK wr bh cs' (n+kS (l.take k)) es'
 rem:wM 66 3 yu wr bh cs' es' v l B xs Ds k
 st:kC w wr bh cs cs' es es' D (kS (l.take k))
 bx:ak wr w.heap.size 24 [v]
 fb:lJ bh cs' es' fun g=>g=w.heap.size
theorem lJ.new {w:World}{bh:Nat}{cs:List Value}{n:Nat}{es:Nat→List dF}(h:gK w bh cs n es):lJ bh cs es fun g=>g=w.heap.size:=by
 have f:=su.new h (Nat.le_refl _) (w.heap.size+1);exact⟨fun x=>f.hb (by omega),fun i k hk x=>f.rows i k hk (by omega),fun j hj e he g hg x=>f.ents j hj e he g hg (by omega)⟩
theorem ahE (l:List aj)(v:Value)(w:World)(bh:Nat)(cs:List Value)(n:Nat)(es:Nat→List dF)(D:Nat→Prop)(h:gK w bh cs n es)(hv:mO 66 3 yu w D v l)(hf:lJ bh cs es D)(hl:l.length≤1000)(hn:n≤300000)(hc:∀j,j<6→(es j).length≤4000000)(hz:∀x∈l,UK x)(hcm:kS l≤100000) :
  Calls Tryz.prog 50 #[.pointer (some ⟨bh,0,none⟩),.agg #[v]] w fun e w'=>e= .returned (.tuple #[])∧∃cs' es',gK w' bh cs' (n+(kS l+1)) es'∧kC w w' bh cs cs' es es' D (kS l+1):=by
 have hW:=(ay.refl (fun _=>False) w).alloc (.cells #[v] 24);have hlt0:=hv.lt y8;have hv1:=hv.stay y8 (w':=w.alloc (.cells #[v] 24)) (fun k hk=>hW.block k (hlt0 k hk) (fun f=>f));obtain⟨B,xs,Ds,hR0,hDs,CZ⟩:=wM.start hv1 hf
 have yB:Hid (Qc w (w.alloc (.cells #[v] 24)) bh cs n es D v l B xs Ds 0 cs es):=
  ⟨h.mods hW (fun f=>f) (fun _ _ _ f=>f) (fun _ _ _ _ _ _ f=>f),hR0,(jG.fill (lo:=0) (hi:=0) (hW.mono (fun _ _ f=>f.elim))).toS (fun k _ h=>by omega),ak.new w #[v] 24,lJ.new h⟩
 obtain⟨a,cap,rfl⟩:=hv.form;have Gl:=hide hDs;have BF:=hide CZ;have HLT:=hide hlt0;clear hv hR0 h hf hW hDs CZ hv1 hlt0;go_enter Tryz.func50,Tryz.ntmps50
 go_wp2_with fail
 generalize w.alloc _=W0 at *
 go_loopw [4] (fun s4 wr=>∃(k:Nat) (cs':List Value) (es':Nat→List dF),k≤l.length∧s4= .int .i64 k∧Qc w wr bh cs n es D (.slice a l.length cap) l B xs Ds k cs' es') (fun s4 _=>l.length-(intOf s4).toNat)
 case atStart=>exact ⟨0,cs,es,Nat.zero_le _,rfl,ah yB⟩
 case round=>
  obtain⟨k,cs',es',hk,rfl,hP⟩:=hrel;clear yB;have b0:wr.cell? ⟨w.heap.size,0,none⟩=some (.slice a l.length cap):=hP.bx.cell 0
  by_cases hlt:k<l.length
  ·have hlt':(k:Int)<(l.length:Int):=by omega
   have agB:=XZ l (k+1);have hcl0:=XZ l k;have hct:=ad4 hlt;obtain⟨vf,vm,Dm,hcut,t1,t2,d1,hD⟩:=hP.rem.els k _ (Nat.le_refl _) (List.getElem?_eq_getElem hlt);have Ii:=hz l[k] (List.getElem_mem hlt);generalize l[k]=x at *;unfold EL at hct;obtain⟨hz1,hz2,hz3,xQ⟩:=Ii;have hx1:xs[k*3+1]? =some vf:=by rw [←CP (by omega),hcut];rfl
   have hx2:xs[k*3+2]? =some vm:=by rw [←CP (by omega),hcut];rfl
   obtain⟨g,rfl⟩:∃g,a=some ⟨g,0,none⟩:=by
    rcases hP.rem.row.2 with ⟨e,e0⟩ | ⟨g,cap',cur,e,_⟩
    ·omega
    ·simp only [Value.slice.injEq] at e;exact⟨g,e.1⟩
   have c1:wr.cell? ⟨g,k*3+1,none⟩=some vf:=by rw [FK hP.rem.row rfl (by omega)];exact hx1
   obtain⟨B1,xs1,o1⟩:=t1;obtain⟨fa,aG,rfl⟩:=cZ o1;obtain⟨ma,dW,rfl⟩:=t2.form;have HP:=hide hP;have T2:=hide t2;have JC:=hide hx2;have HD1:=hide d1;have HD:=hide hD;have Qu:=hide hct;have fk:=hP.rem.fr k (Nat.le_refl _) hlt;have hf1:=fk.sub (D1:=fun g=>(Value.slice fa x.fields.length aG).ownBlock=some g) (fun g hg=>(hD g).2 (.inl hg));have kN:=hide (fk.sub (D1:=Dm) (fun g hg=>(hD g).2 (.inr hg)));clear hP t2 hx1 hx2 d1 hD fk hcut hct;have hdb:∀q,q=w.heap.size→¬Ds k q:=fun q h1 h2=>by have:=ah HLT q (ah Gl k q hlt h2);omega
   have hdv:∀q,(Value.slice (some ⟨g,0,none⟩) l.length cap).ownBlock=some q→¬Ds k q:=fun q h1 h2=>(ah HP).rem.dv k q h2 h1;have MP:=hide hdb;have MQ:=hide hdv;clear hdb hdv;go_wp2_with fail
   refine Calls.mono (OJ x.fields.length _ wr bh cs' (n+kS (l.take k)) es' (ah HP).inv B1 xs1 o1 hf1 hz1 (by omega) (fun j hj=>by have:=(ah HP).st.cnt j hj;have:=hc j hj;omega)) ?_;rintro e w1 ⟨rfl,cs1,es1,K1,S1⟩;have JI:=S1.mono (D:=Ds k) fun q hq=>(ah HD q).2 (.inl hq);have T2':=hide ((ah T2).stay DN (w':=w1) (fun q hq=>S1.same (ah kN) (fun q h1 h2=>ah HD1 q h2 h1) hq ((ah T2).lt DN q hq)));have FM':=hide ((ah kN).step S1 (fun q h1 h2=>ah HD1 q h2 h1) (fun q hq=>(ah T2).lt DN q hq));have Bc:=Ba (ah HP).rem.row (w':=w1) (fun q hq=>JI.same (ah HP).rem.fg (ah MQ) hq ((ah HP).rem.row.lt q hq).2)
   have bx1:ak w1 w.heap.size 24 [.slice (some ⟨g,0,none⟩) l.length cap]:=(ah HP).bx.same (JI.same (ah HP).fb (ah MP) rfl (ah HP).bx.lt);have c2:w1.cell? ⟨g,k*3+2,none⟩=some (.slice ma x.aB.length dW):=by rw [FK Bc rfl (by omega)];exact ah JC
   have b1:w1.cell? ⟨w.heap.size,0,none⟩=some (.slice (some ⟨g,0,none⟩) l.length cap):=bx1.cell 0;have YS:=(ah HP).fb.step JI (ah MP) (fun q hq=>by rw [hq];exact (ah HP).bx.lt);have lV:=hide K1;have zL:=hide JI;have P9:=hide bx1;have VT:=hide YS;clear K1 S1 JI c1 o1 hf1 Bc bx1 YS b0;go_wp2_with fail
   refine Calls.mono (ahD x.aB _ w1 bh cs1 (n+kS (l.take k)+1) es1 Dm (ah lV) (ah T2') (ah FM') hz2 (by omega) (fun j hj=>by have:=(ah zL).cnt j hj;have:=(ah HP).st.cnt j hj;have:=hc j hj;omega) xQ hz3) ?_;rintro e w2 ⟨rfl,cs2,es2,K2,S2⟩;have S2':=S2.mono (D:=Ds k) fun q hq=>(ah HD q).2 (.inr hq);have yH:=(ah zL).trans S2'
   have HP2:Hid (Qc w w2 bh cs n es D (.slice (some ⟨g,0,none⟩) l.length cap) l B xs Ds (k+1) cs2 es2):=by
    have hct:=ah Qu;refine⟨by rw [hct,show n+(kS (l.take k)+(gX x.aB+2))=n+kS (l.take k)+1+(gX x.aB+1) by omega];exact K2,(ah HP).rem.step y8 yH (fun _ h=>h),?_,(ah P9).same (S2'.same (ah VT) (ah MP) rfl (ah P9).lt),(ah VT).step S2' (ah MP) (fun q hq=>by rw [hq];exact (ah P9).lt)⟩;rw [hct,show kS (l.take k)+(gX x.aB+2)=kS (l.take k)+(1+(gX x.aB+1)) by omega];exact (ah HP).st.trans (yH.mono fun q hq=>ah Gl k q hlt hq)
   clear K2 S2 S2' yH c2 b1;go_wp2_with fail
   refine⟨⟨k+1,cs2,es2,by omega,by go_num,ah HP2⟩,by simp [intOf];omega⟩
  ·have hlt':¬(k:Int)<(l.length:Int):=by omega
   obtain rfl:k=l.length:=by omega
   obtain⟨wo,rfl⟩:∃wo:World,wo=wr:=⟨_,rfl⟩;have hws:=hP.st.mods.size;have hinv:=hP.inv;have hst:=hP.st;rw [List.take_length] at hinv hst;obtain⟨lo',hi',abo,hhi1,hsp1,hsp2⟩:=LJ hP.rem.row;have yQ:=nC.start hP.rem.row hsp1 (ig 4 (-77000001-((n+kS l:Nat):Int)));have HP:=hide hP;have BG:=hide yQ;have zH:=hide hinv;have HST:=hide hst;clear hP yQ hinv hst;go_wp2_with fail
   refine Calls.mono (Lp (n+kS l) wo bh cs' (ah zH).hands (ah zH).c6 (by omega)) ?_;rintro e w1 ⟨rfl,hh1,hm1⟩;generalize -77000001-((n+kS l:Nat):Int)=m at *;have b1:w1.cell? ⟨w.heap.size,0,none⟩=some (.slice a l.length cap):=hm1.cell b0 (fun e=>(ah HP).fb.hb (by simp only at e;omega));obtain⟨K1,ho1⟩:=(ah zH).mark (n+kS l+1) hh1 hm1;have S1:=hide ((ah HST).trans ((jG.mark (es:=es') hm1 ho1 0 0).toS (D:=D) fun k _ h=>by omega));have F1:=hide ((ah BG).mods hm1 (fun g hg e=>(ah HP).rem.fg.hb (e▸hg)));have hF2:=ah F1
   have wY:su bh (cs'.set 6 (.int .i64 ((n+kS l+1:Nat):Int))) es' lo' hi':=((ah HP).rem.fg.step ((jG.mark (es:=es') hm1 ho1 0 0).toS (D:=fun _=>False) fun k _ h=>by omega) (fun _ _ f=>f) (fun q hq=>((ah HP).rem.row.lt q hq).2)).free hsp2;have hs1:=hm1.size;have lV:=hide K1;have wG:=hide wY;have HF2:=hide hF2;have hc1:∀j,j<6→(es' j).length≤16777216:=fun j hj=>by have:=(ah S1).cnt j hj;have:=hc j hj;omega
   clear K1 BG HP wY hh1 hm1 ho1 F1 hF2 hc zH HST;generalize cs'.set 6 _=cs1 at *;go_wp2_with fail
   go_loopw [7] (fun s7 wr=>∃k:Nat,k≤l.length∧s7= .int .i64 k∧gK wr bh cs1 (n+kS l+1) es'∧nC wr 66 3 lo' hi' (.slice a l.length cap) l.length (ig 4 m) k∧ay (fun k=>lo'≤k∧k<hi') w1 wr) (fun s7 _=>l.length-(intOf s7).toNat)
   case atStart=>exact ⟨0,Nat.zero_le _,rfl,ah lV,ah HF2,ay.refl _ _⟩
   case round=>
    obtain⟨k,hk,rfl,hK,og,jg⟩:=hrel;clear HF2 lV
    by_cases hlt:k<l.length
    ·have hlt':(k:Int)<(l.length:Int):=by omega
     have HK:=hide hK;have HM:=hide jg
     rcases og with ⟨_,h0⟩ | ⟨g,cap1,cur,g1,g2,ge,gc,gm,g3,g4,g5⟩
     ·omega
     ·simp only [Value.slice.injEq] at ge;obtain⟨rfl,_,rfl⟩:=ge;obtain⟨u0,c0⟩:∃u,wr.cell? ⟨g,k*3,none⟩=some u:=⟨_,by rw [g3.cell];exact List.getElem?_eq_getElem (by omega)⟩;obtain⟨u1,c1⟩:∃u,wr.cell? ⟨g,k*3+1,none⟩=some u:=⟨_,by rw [g3.cell];exact List.getElem?_eq_getElem (by omega)⟩;obtain⟨u2,c2⟩:∃u,wr.cell? ⟨g,k*3+2,none⟩=some u:=⟨_,by rw [g3.cell];exact List.getElem?_eq_getElem (by omega)⟩;have f0:=g3.frozen (k*3);have f1:=g3.frozen (k*3+1);have f2:=g3.frozen (k*3+2);have G3:=hide (DY (k:=k*3) g3 (.int .i64 m) (.slice none 0 0) (.slice none 0 0));have G5:=hide (SC (a:=.int .i64 m) (b:=.slice none 0 0) (c:=.slice none 0 0) g5 (by omega))
      have M2:=hide ((DZ wr g (k*3) (.int .i64 m) (.slice none 0 0) (.slice none 0 0)).mono (T:=fun k=>lo'≤k∧k<hi') (fun i _ e=>by omega));clear hK jg g3 g5;go_wp2_with fail
      refine⟨⟨k+1,by omega,by go_num,(ah HK).Ld (ah wG) (ah M2),.inr ⟨g,_,_,g1,g2,rfl,gc,gm,ah G3,by rw [uU];exact g4,ah G5⟩,(ah HM).trans (ah M2) (fun _ _ x=>x)⟩,by simp [intOf];omega⟩
    ·have hlt':¬(k:Int)<(l.length:Int):=by omega
     obtain rfl:k=l.length:=by omega
     have P0:=hide (nV.LW (m:=m) abb hK (ah wG) og (by have:=jg.size;omega));have ST:=hide ((ah S1).trans ((jG.fill (bh:=bh) (cs:=cs1) (es:=es') jg).toS fun q h1 h2=>ah BF q (hsp2 q h1 h2)));clear hK og jg S1;obtain⟨lI,rfl⟩:∃lI:World,lI=wr:=⟨_,rfl⟩;go_wp2_with fail
     go_loopw [6,8] (fun s6 s8 wr=>∃(kk:Nat) (la:Option Addr) (lc:Nat),kk≤4∧s8= .int .i64 kk∧s6= .slice la (l.length+kk) lc∧∃cs2 es2,nV lI wr bh cs1 (n+kS l+1) es' lo' hi' 4 m l.length kk (.slice la (l.length+kk) lc) cs2 es2) (fun _ s8 _=>4-(intOf s8).toNat)
     case atStart=>exact ⟨0,a,cap,by omega,rfl,rfl,cs1,es',ah P0⟩
     case round=>
      obtain⟨kk,la,lc,hkk,rfl,rfl,cs2,es2,hP⟩:=hrel
      by_cases h4:kk<4
      ·have h4':(kk:Int)<4:=by omega
       obtain⟨rn,ra,ma,oH,ma',la',rc,mc,rc',mc',oQ,x1,x3,x5,R⟩:=hP.round abb h4 hl hc1;obtain⟨r1,r2,r3,r4,r5,r6,r7,r8,r9,r10⟩:=R;simp only [qy,rM,ig,Nat.reduceMul,Nat.reduceAdd] at r1 r2 r3 r4 r5 r6 r7 r8 r9;have R10:=hide r10;clear hP r10 P0
       go_wp2_with (at_builtin;first
        | refine wpList_append_run rfl (.tmp 55) (.tmp 57) 49 rfl _ _ rfl rfl r2 ?_
        | refine wpList_append_run rfl (.tmp 65) (.tmp 67) 51 rfl _ _ rfl rfl r6 ?_
        | refine wpList_append_run rfl (.tmp 71) (.tmp 74) 22 rfl _ _ rfl rfl r9 ?_)
       obtain⟨oL,es3,h3⟩:=ah R10;refine⟨⟨kk+1,la',oQ,by omega,by go_num,rfl,oL,es3,h3⟩,by simp [intOf];omega⟩
      ·have h4':¬(kk:Int)<4:=by omega
       go_wp2_with fail
       go_end0;have hst:=(ah ST).trans ((hP.fin hkk).toS fun q h1 h2=>ah BF q (hsp2 q h1 h2));exact⟨rfl,cs2,es2,hP.inv,hst⟩
end Go.Proofs.YtiiokkllmchohaaGreat
