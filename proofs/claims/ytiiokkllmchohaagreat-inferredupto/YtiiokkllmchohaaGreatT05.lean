/- Walks of the law's own helpers: methods and programs that are the same, where both hold the same. -/
import Derived.Test.YtiiokkllmchohaaGreatT01
set_option maxHeartbeats 4000000
set_option maxRecDepth 100000
namespace Go.Proofs.YtiiokkllmchohaaGreat
open Go.RowKit
attribute [local go_sem ↓] Go.wp_at_zero Go.wp_at_succ
abbrev UH (m:aC)(va vc vf:Value):Value:=.agg #[.int .i64 m.slot,va,.int .i64 m.ret,.int .i64 m.locals,.int .i64 m.stack,vc,vf]

theorem ajK (m:aC)(va vc vf zh Bo mF:Value)(w:World)(hm:qg w m va vc vf)(hm':qg w m zh Bo mF)(hs:dN m≤4194304) :
  Calls Tryz.prog 89 #[UH m va vc vf,UH m zh Bo mF] w fun e w'=>e= .returned (.bool true)∧Below w.heap.size w w':=by
 have hal:m.args.length≤8388608:=by unfold dN at hs;omega
 have hcl:m.code.length≤4194304:=by unfold dN at hs;omega
 have hfl:(m.frames.map iH).sum≤4194304:=by unfold dN at hs;omega
 obtain⟨h1,h2,h3⟩:=hm;obtain⟨h1',h2',h3'⟩:=hm';have H1:=hide h1;have H3:=hide h3;have MI:=hide h1';have Qj:=hide h3';obtain⟨aa,_,_,aI,rfl,_⟩:=aZ h1;obtain⟨ca,cb,nZ,aF,rfl,_,hca,hcr⟩:=aZ h2;obtain⟨fa,_,_,aG,rfl,_⟩:=aZ h3;obtain⟨Ci,_,_,Cj,rfl,_⟩:=aZ h1';obtain⟨ca',cb',akE,CB,rfl,_,agw,aae⟩:=aZ h2';have zC:=hide hcr;have ac7:=hide aae;clear hcr aae;obtain⟨yN,_,_,yO,rfl,_⟩:=aZ h3';clear h1 h2 h3 h1' h2' h3';unfold UH;go_enter Tryz.func89,Tryz.ntmps89
 go_wp2_with fail
 generalize hW:(w.alloc _).alloc _=W;have hbel:Below w.heap.size w W:=by rw [←hW];exact dS _ _ _
 have l0:W.cell? ⟨w.heap.size,0,none⟩=some (.int .i64 m.slot):=by rw [←hW];exact lZ _ _ _ _ 0
 have l2:W.cell? ⟨w.heap.size,2,none⟩=some (.int .i64 m.ret):=by rw [←hW];exact lZ _ _ _ _ 2
 have l3:W.cell? ⟨w.heap.size,3,none⟩=some (.int .i64 m.locals):=by rw [←hW];exact lZ _ _ _ _ 3
 have l4:W.cell? ⟨w.heap.size,4,none⟩=some (.int .i64 m.stack):=by rw [←hW];exact lZ _ _ _ _ 4
 have l5:W.cell? ⟨w.heap.size,5,none⟩=some (.slice ca m.code.length aF):=by rw [←hW];exact lZ _ _ _ _ 5
 have l6:W.cell? ⟨w.heap.size,6,none⟩=some (.slice fa m.frames.length aG):=by rw [←hW];exact lZ _ _ _ _ 6
 have r0:W.cell? ⟨w.heap.size+1,0,none⟩=some (.int .i64 m.slot):=by rw [←hW];exact fC _ _ _ _ 0
 have r2:W.cell? ⟨w.heap.size+1,2,none⟩=some (.int .i64 m.ret):=by rw [←hW];exact fC _ _ _ _ 2
 have r3:W.cell? ⟨w.heap.size+1,3,none⟩=some (.int .i64 m.locals):=by rw [←hW];exact fC _ _ _ _ 3
 have r4:W.cell? ⟨w.heap.size+1,4,none⟩=some (.int .i64 m.stack):=by rw [←hW];exact fC _ _ _ _ 4
 have r5:W.cell? ⟨w.heap.size+1,5,none⟩=some (.slice ca' m.code.length CB):=by rw [←hW];exact fC _ _ _ _ 5
 have r6:W.cell? ⟨w.heap.size+1,6,none⟩=some (.slice yN m.frames.length yO):=by rw [←hW];exact fC _ _ _ _ 6
 clear hW;have KP:=hide (Keeps.of_below hbel);refine (Pq m.args _ _ _ (dA (ah KP) (ah H1)) (dA (ah KP) (ah MI)) hal).mono ?_;rintro e w1 ⟨rfl,n1,rfl⟩;go_wp2_with fail
 refine (acf m.frames _ _ _ (Hz ((ah KP).trans (pR _ _)) (ah H3)) (Hz ((ah KP).trans (pR _ _)) (ah Qj)) hfl).mono ?_;rintro e w2 ⟨rfl,n2,rfl⟩;have hd2:uf W ((W.drewN n1).drewN n2):=((uf.refl W).step n1).step n2;generalize (W.drewN n1).drewN n2=W2 at *;have hk2:=Keeps.of_below (hd2.below _);have s0:=hk2 _ _ l0;have s2:=hk2 _ _ l2;have s3:=hk2 _ _ l3;have s4:=hk2 _ _ l4;have s5:=hk2 _ _ l5;have t0:=hk2 _ _ r0;have t2:=hk2 _ _ r2;have t3:=hk2 _ _ r3;have t4:=hk2 _ _ r4;have t5:=hk2 _ _ r5;clear l0 l2 l3 l4 l6 r0 r2 r3 r4 r6;have K2:=hide hk2;clear hk2;go_wp2_with fail
 go_loopw [7] (fun i wr=>∃k:Nat,k≤m.code.length∧i= .int .i64 k∧uf W2 wr) (fun i _=>m.code.length-(intOf i).toNat)
 case atStart=>exact ⟨0,Nat.zero_le _,rfl,uf.refl _⟩
 case round=>
  obtain⟨k,hk,rfl,hdr⟩:=hrel;have hkp:=Keeps.of_below (hdr.below _);have u5:=hkp _ _ s5;have v5:=hkp _ _ t5
  by_cases hlt:k<m.code.length
  ·obtain rfl:=hca (bJ hlt);obtain rfl:=agw (bJ hlt);obtain⟨c0,c1,c2⟩:=(ah zC k hlt).keep (((ah KP).trans (ah K2)).trans hkp);obtain⟨c0',c1',c2'⟩:=(ah ac7 k hlt).keep (((ah KP).trans (ah K2)).trans hkp);clear hkp s0 s2 s3 s4 s5 t0 t2 t3 t4 t5;generalize m.code[k]=i at *
   go_wp2
   go_quiet (fail)
   go_wp2
   exact⟨⟨k+1,by omega,by go_num,hdr.step _⟩,by simp [intOf];omega⟩
  ·go_wp2
   go_ret;exact⟨rfl,hbel.trans ((hd2.below _).trans (hdr.below _))⟩

theorem acg (p:List aj)(vc Bo:Value)(w:World)(hp:aX w vc p)(hp':aX w Bo p)(hz:bn p≤4194304) :
  Calls Tryz.prog 49 #[.agg #[vc],.agg #[Bo]] w fun e w'=>e= .returned (.bool true)∧Below w.heap.size w w':=by
 have hpl:p.length≤4194304:=Nat.le_trans (eG p) hz;obtain⟨pa,pb,dB,aA,rfl,Dy,hpa,hpr⟩:=aZ hp;obtain⟨pa',pb',alz,aiA,rfl,ak7,agY,aaB⟩:=aZ hp';have kP:=hide hpr;have adp:=hide aaB;clear hp hp' hpr aaB;go_enter Tryz.func49,Tryz.ntmps49
 go_wp2_with fail
 generalize hW:(w.alloc _).alloc _=W;have hbel:Below w.heap.size w W:=by rw [←hW];exact dS _ _ _
 have l0:W.cell? ⟨w.heap.size,0,none⟩=some (.slice pa p.length aA):=by rw [←hW];exact lZ _ _ _ _ 0
 have r0:W.cell? ⟨w.heap.size+1,0,none⟩=some (.slice pa' p.length aiA):=by rw [←hW];exact fC _ _ _ _ 0
 clear hW;have KP:=hide (Keeps.of_below hbel);have hsz:=hbel.size
 go_loopw [5] (fun s wr=>∃c:Nat,c≤p.length∧s= .int .i64 c∧Below W.heap.size W wr) (fun s _=>p.length-(intOf s).toNat)
 case atStart=>exact ⟨0,Nat.zero_le _,rfl,Below.refl _ _⟩
 case round=>
  obtain⟨c,hc,rfl,hbr⟩:=hrel;have KR:=hide (Keeps.of_below hbr);have rE:=hbr.size;have q0:=ah KR _ _ l0;have q0':=ah KR _ _ r0
  by_cases hlt:c<p.length
  ·obtain rfl:=hpa (bJ hlt);obtain rfl:=agY (bJ hlt);obtain⟨vf,vm,c0,c1,c2,hf,hmt⟩:=(ah kP c hlt).keep ((ah KP).trans (ah KR));obtain⟨mF,Jd,c0',c1',c2',hf',hmt'⟩:=(ah adp c hlt).keep ((ah KP).trans (ah KR));have hxl:gJ p[c]≤4194304:=Nat.le_trans (nR (List.getElem_mem hlt)) hz;generalize p[c]=x at *;have hfl:x.fields.length≤8388608:=by have:=Bh x;omega
   have hms:x.aB.length≤4194304:=Nat.le_trans (tC x) hxl;have HF:=hide hf;have HF':=hide hf';have QM:=hide hmt;have aky:=hide hmt';obtain⟨fa,_,_,aG,rfl,_⟩:=aZ hf;obtain⟨yN,_,_,yO,rfl,_⟩:=aZ hf';obtain⟨ma,mb,fH,dW,rfl,_,hma,hmr⟩:=aZ hmt;obtain⟨ma',mb',DK,oD,rfl,_,agS,aas⟩:=aZ hmt';have pY:=hide hmr;have adg:=hide aas;have hlt1:=cell_lt c0;have hlt2:=cell_lt q0';have hlt3:=cell_lt c0';clear hf hmt hf' hmt' hmr aas;obtain⟨wo,rfl⟩:∃wo:World,wo=wr:=⟨_,rfl⟩;go_wp2_with fail
   generalize hW2:(wo.alloc _).alloc _=W2;have hb2:Below wo.heap.size wo W2:=by rw [←hW2];exact dS _ _ _
   have s0:W2.cell? ⟨wo.heap.size,0,none⟩=some (.int .i64 x.sup):=by rw [←hW2];exact lZ _ _ _ _ 0
   have s2:W2.cell? ⟨wo.heap.size,2,none⟩=some (.slice ma x.aB.length dW):=by rw [←hW2];exact lZ _ _ _ _ 2
   have s0':W2.cell? ⟨wo.heap.size+1,0,none⟩=some (.int .i64 x.sup):=by rw [←hW2];exact fC _ _ _ _ 0
   have s2':W2.cell? ⟨wo.heap.size+1,2,none⟩=some (.slice ma' x.aB.length oD):=by rw [←hW2];exact fC _ _ _ _ 2
   clear hW2 c0 c1 c2 c0' c1' c2' q0 q0';have hnext:Below W.heap.size W W2:=hbr.trans (hb2.mono rE);have K2:=hide (Keeps.of_below hb2);refine (Pq x.fields _ _ _ (dA (ah K2) (ah HF)) (dA (ah K2) (ah HF')) hfl).mono ?_;rintro e w3 ⟨rfl,n3,rfl⟩;have u0:=pR W2 n3 _ _ s0;have u2:=pR W2 n3 _ _ s2;have u0':=pR W2 n3 _ _ s0';have u2':=pR W2 n3 _ _ s2';have hn3:Below W.heap.size W (W2.drewN n3):=below_drewN hnext _;have K3:=hide ((ah K2).trans (pR W2 n3));generalize W2.drewN n3=W3 at *;clear s0 s2 s0' s2' K2 hb2;go_wp2_with fail
   go_loopw [9] (fun s wi=>∃k:Nat,k≤x.aB.length∧s= .int .i64 k∧Below W3.heap.size W3 wi) (fun s _=>x.aB.length-(intOf s).toNat)
   case atStart=>exact ⟨0,Nat.zero_le _,rfl,Below.refl _ _⟩
   case round=>
    obtain⟨k,hk,rfl,hbi⟩:=hrel;have KI:=hide (Keeps.of_below hbi);have yY:=hbi.size;have v2:=ah KI _ _ u2;have v2':=ah KI _ _ u2'
    by_cases hk2:k<x.aB.length
    ·obtain rfl:=hma (bJ hk2);obtain rfl:=agS (bJ hk2);obtain⟨va,eU,dH,hmv,m0,m1,m2,m3,m4,m5,m6⟩:=(ah pY k hk2).keep ((ah K3).trans (ah KI));obtain⟨zh,alC,alE,aav,m0',qB,m2',m3',m4',LC,m6'⟩:=(ah adg k hk2).keep ((ah K3).trans (ah KI));have hml:dN x.aB[k]≤4194304:=Nat.le_trans (Bj (List.getElem_mem hk2)) hxl;generalize x.aB[k]=m at *;have um:=hide hmv;have adh:=hide aav;obtain⟨ha1,hc1,hf1⟩:=hmv;obtain⟨ZL,hc1',aai⟩:=aav;obtain⟨aa,_,_,aI,rfl,_⟩:=aZ ha1;obtain⟨ca,_,_,aF,rfl,_⟩:=aZ hc1;obtain⟨vV,_,_,Zc,rfl,_⟩:=aZ hf1;obtain⟨Ci,_,_,Cj,rfl,_⟩:=aZ ZL
     obtain⟨ca',_,_,CB,rfl,_⟩:=aZ hc1';obtain⟨af7,_,_,agb,rfl,_⟩:=aZ aai;have hki:(k:Int)<(x.aB.length:Int):=by omega
     have hkz:(0:Int)≤(k:Int):=by omega
     clear ha1 hc1 hf1 ZL hc1' aai u0 u2 u0' u2';go_wp2_with fail
     go_region_held3 (fun w'=>w'.cell? ⟨wo.heap.size,2,none⟩=some (.slice (some ⟨mb,fH,none⟩) x.aB.length dW)∧w'.cell? ⟨wo.heap.size+1,2,none⟩=some (.slice (some ⟨mb',DK,none⟩) x.aB.length oD)∧
       w'.cell? ⟨mb,fH+k*7,none⟩=some (.int .i64 m.slot)∧w'.cell? ⟨mb,fH+k*7+1,none⟩=some (.slice aa m.args.length aI)∧w'.cell? ⟨mb,fH+k*7+2,none⟩=some (.int .i64 m.ret)∧w'.cell? ⟨mb,fH+k*7+3,none⟩=some (.int .i64 m.locals)∧
       w'.cell? ⟨mb,fH+k*7+4,none⟩=some (.int .i64 m.stack)∧w'.cell? ⟨mb,fH+k*7+5,none⟩=some (.slice ca m.code.length aF)∧w'.cell? ⟨mb,fH+k*7+6,none⟩=some (.slice vV m.frames.length Zc)∧
       w'.cell? ⟨mb',DK+k*7,none⟩=some (.int .i64 m.slot)∧w'.cell? ⟨mb',DK+k*7+1,none⟩=some (.slice Ci m.args.length Cj)∧w'.cell? ⟨mb',DK+k*7+2,none⟩=some (.int .i64 m.ret)∧w'.cell? ⟨mb',DK+k*7+3,none⟩=some (.int .i64 m.locals)∧
       w'.cell? ⟨mb',DK+k*7+4,none⟩=some (.int .i64 m.stack)∧w'.cell? ⟨mb',DK+k*7+5,none⟩=some (.slice ca' m.code.length CB)∧w'.cell? ⟨mb',DK+k*7+6,none⟩=some (.slice af7 m.frames.length agb))
      (first | go_keep | (exact⟨Keeps.of_below hb5 _ _ (by simpa using v2),Keeps.of_below hb5 _ _ (by simpa using v2'),Keeps.of_below hb5 _ _ (by simpa using m0),Keeps.of_below hb5 _ _ (by simpa using m1),Keeps.of_below hb5 _ _ (by simpa using m2),Keeps.of_below hb5 _ _ (by simpa using m3),Keeps.of_below hb5 _ _ (by simpa using m4),Keeps.of_below hb5 _ _ (by simpa using m5),Keeps.of_below hb5 _ _ (by simpa using m6),
         Keeps.of_below hb5 _ _ (by simpa using m0'),Keeps.of_below hb5 _ _ (by simpa using qB),Keeps.of_below hb5 _ _ (by simpa using m2'),Keeps.of_below hb5 _ _ (by simpa using m3'),Keeps.of_below hb5 _ _ (by simpa using m4'),Keeps.of_below hb5 _ _ (by simpa using LC),Keeps.of_below hb5 _ _ (by simpa using m6')⟩))
      (first | ((go_at_call 89;refine (ajK m _ _ _ _ _ _ _ ((ah um).keep (Keeps.of_below ((Below.refl _ _).drew))) ((ah adh).keep (Keeps.of_below ((Below.refl _ _).drew))) hml).mono ?_);rintro e w5 ⟨rfl,hb5⟩))
     have hnx:Below W3.heap.size W3 w5:=hbi.drew.trans (hb5.mono (by simpa using yY));go_wp2_with fail
     exact⟨⟨k+1,by omega,by go_num,hnx⟩,by simp [intOf];omega⟩
    ·go_wp2_with fail
     exact⟨⟨c+1,by omega,by go_num,hn3.trans (hbi.mono hn3.size)⟩,by simp [intOf];omega⟩
  ·go_wp2_with fail
   go_ret;exact⟨rfl,hbel.trans (hbr.mono hsz)⟩
end Go.Proofs.YtiiokkllmchohaaGreat
