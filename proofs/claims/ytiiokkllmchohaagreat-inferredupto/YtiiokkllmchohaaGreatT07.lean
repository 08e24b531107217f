/- Walk of the law's back: what was lent is looked at, and written over. -/
import Derived.Test.YtiiokkllmchohaaGreatT04
import Derived.Test.YtiiokkllmchohaaGreatT05
import Derived.Test.YtiiokkllmchohaaGreatT06
set_option maxHeartbeats 4000000
set_option maxRecDepth 100000
namespace Go.Proofs.YtiiokkllmchohaaGreat
open Go.RowKit
theorem abd (w:World)(B E bh:Nat)(cs:List Value)(vt vi vf vm vc:Value)(ts is fs ms ks:List (Nat×Nat))(p:List aj)(vl vp:Value)(H:HS w B bh cs vt vi vf ts is fs)(hM:Ep w B vm ms)(hC:Rf w B vc ks)(c3:cs[3]? =some vm)(c4:cs[4]? =some vc)(c5:cs[5]? =some (.slice none 0 0))
  (hl:aX w vl p) (hp:aX w vp p) (hz:bn p≤1048576) (hts:ts.length≤16777216) (his:is.length≤16777216) (hfs:fs.length≤16777216) (hms:ms.length≤16777216) (hks:ks.length≤16777216) (YQ:∀e∈ts,e.1<E) (YO:∀e∈is,e.1<E) (NM:∀e∈fs,e.1<E) (NQ:∀e∈ms,e.1<E) (NP:∀e∈ks,e.1<E) :
  Calls Tryz.prog 43 #[.pointer (some ⟨bh,0,none⟩),.agg #[vl],.agg #[vp],.slice none 0 0,.slice none 0 0] w fun e w'=>e= .returned (.bool true)∧
   ug w' bh ((((((cs.set 0 (.slice none 0 0)).set 1 (.slice none 0 0)).set 2 (.slice none 0 0)).set 3 (.slice none 0 0)).set 4 (.slice none 0 0)).set 5 (.slice none 0 0))∧ay (fun k=>k=bh∨(B≤k∧k<E)) w w':=by
 have agQ:=H.lt;have hle:=H.le;obtain⟨tta,akl,hvt⟩:=cZ H.t.row;obtain⟨iia,ahe,Ua⟩:=cZ H.i.row;subst hvt Ua;obtain⟨pla,_,_,aly,hvl,_⟩:=aZ hl;obtain⟨ppa,_,_,alA,hvp,_⟩:=aZ hp;subst hvl hvp;have HL:=hide hl;have HP:=hide hp;have HH:=hide H;have HM:=hide hM;have HC:=hide hC;clear hl hp H hM hC;go_enter Tryz.func43,Tryz.ntmps43
 go_wp2_with fail
 generalize hW:(w.alloc _).alloc _=W;have hmW:ay (fun _=>False) w W:=by rw [←hW];exact ((ay.refl _ w).alloc _).alloc _
 have hbW:Below w.heap.size w W:=by rw [←hW];exact dS _ _ _
 clear hW;refine (acg p _ _ W (aP (Keeps.of_below hbW) (ah HL)) (aP (Keeps.of_below hbW) (ah HP)) (Nat.le_trans hz (by decide))).mono ?_;rintro e W1 ⟨rfl,hb1⟩;have hm1:ay (fun _=>False) w W1:=hmW.trans (S:=fun _=>False) (T:=fun k=>W.heap.size≤k) (ay.of_below hb1) (fun k hk h=>by have:=hmW.size;omega);have H1:=hide ((ah HH).stay hm1 (fun _ _ _ _ f=>f.elim));have vG:=hide ((ah HM).mods hm1 (fun _ _ _ f=>f) (fun _ _ _ f=>f));have HC1:=hide ((ah HC).mods hm1 (fun _ _ _ f=>f) (fun _ _ _ f=>f));have HMW:=hide hm1;have HT:=hide (ah H1).t
 have k0:W1.cell? ⟨bh,0,none⟩=some (.slice tta ts.length akl):=by rw [(ah H1).hands.1.cell];exact (ah H1).c0
 have k1:W1.cell? ⟨bh,1,none⟩=some (.slice iia is.length ahe):=by rw [(ah H1).hands.1.cell];exact (ah H1).c1
 clear hb1 hm1 hmW hbW;go_wp2_with fail
 go_loopw [11,12] (fun q s wr=>s= .int .i64 0∧q= .bool true∧wr=W1) (fun _ _ _=>0)
 case atStart=>exact ⟨rfl,rfl,rfl⟩
 case round=>
  obtain⟨rfl,rfl,rfl⟩:=hrel;go_wp2_with fail
  obtain⟨P7,rfl⟩:∃P7:World,P7=wr:=⟨_,rfl⟩
  go_loopw [11,13] (fun s3 s4 wr=>∃i:Nat,i≤ts.length∧s4= .int .i64 i∧s3= .bool true∧ay (fV ts i) P7 wr) (fun _ s4 _=>ts.length-(intOf s4).toNat)
  case atStart=>exact ⟨0,Nat.zero_le _,rfl,rfl,ay.refl _ _⟩
  case round=>
   obtain⟨i,hi,rfl,rfl,hmo⟩:=hrel
   have hbne:∀i,¬fV ts i bh:=fun i h=>by
    obtain⟨e,he,hk⟩:=h.mem;have:=((ah HT).ent e he).1;have:=YQ e he;omega
   have q2:=hmo.cell k0 (hbne i)
   by_cases hlt:i<ts.length
   ·obtain⟨g,cap,hv,hg,⟨cg,hgb⟩,hrow⟩:=(ah HT).at hlt;obtain⟨b,m,ce,lg,hb,hm,hbe,hce,hdr⟩:=(ah HT).Kr hlt
    injection hv with hv1 _ hv2
    subst hv1 hv2
    have Az:¬fV ts i g:=fun h=>by
     obtain⟨e,he,hk⟩:=h.mem;obtain⟨_,_,_,c,h4,_⟩:=(ah HT).ent e he;rw [hk] at h4;exact absurd (h4.uniq hgb) (by decide)
    have Ar:¬fV ts i b:=by
     have:=fV.LH (ah HT).nodup hlt
     rwa [lg] at this
    have q3:=hmo.cell hrow Az;rw [lg] at q3;unfold rW at q3;simp only at q3;have hbw:=hbe.mods hmo Ar;have l0:wr.cell? ⟨b,m,none⟩=some (.int .i64 (-77000000)):=by rw [hbw.cell];have:=pI (j:=0) hdr;simpa using this
    have zD:=hide lg;have zy:=hide hbw;have zA:=hide hce;have lX:=hide hmo;have hbl:=hbw.lt;clear lg hbw hmo hrow hgb hbe hdr hce;obtain⟨wo,rfl⟩:∃wo:World,wo=wr:=⟨_,rfl⟩;go_wp2_with fail
    go_loopw [15] (fun s wi=>∃k:Nat,k≤m+1∧s= .int .i64 k∧(∃c,ak wi b 43 c∧c.length=(m+1)*1)∧ay (fun k=>k=b) wo wi) (fun s _=>m+1-(intOf s).toNat)
    case atStart=>exact ⟨0,Nat.zero_le _,rfl,⟨_,ah zy,ah zA⟩,ay.refl _ _⟩
    case round=>
     obtain⟨k,hk,rfl,⟨cc,hcc,hcl⟩,rD⟩:=hrel;have rY:=hide hcc;have rZ:=hide rD;have zB:=hide hcl
     by_cases hk2:k<m+1
     ·obtain⟨u0,y0⟩:=lK hcc (i:=k) (by omega);have yf:=hcc.frozen;clear hcc rD l0 q2 q3 hcl;go_wp2_with fail
      exact⟨⟨k+1,by omega,by go_num,⟨_,(ah rY).setCell k _,by rw [List.length_set];exact ah zB⟩,(ah rZ).trans ((ay.refl (fun i=>i=b) _).setCell (p:=⟨b,k,none⟩) (fun _=>rfl) _) (fun _ _ e=>e)⟩,by simp [intOf];omega⟩
     ·go_wp2_with fail
      have hlast:=fV.last hlt;rw [ah zD] at hlast;exact⟨⟨i+1,by omega,by go_num,rfl,((ah lX).mono (fun _ _ e=>e.succ)).trans (ah rZ) (fun _ _ e=>e▸hlast)⟩,by simp [intOf];omega⟩
   ·obtain rfl:i=ts.length:=by omega
    have lX:=hide hmo;go_wp2_with fail
    clear q2
    have hnot:∀ {k t c},ak P7 k t c→t≠43→¬fV ts ts.length k:=fun hb ht h=>by
     obtain⟨e,he,hk⟩:=h.mem;obtain⟨_,_,_,c,h4,_⟩:=(ah HT).ent e he;rw [hk] at h4;exact ht (hb.uniq h4)
    have HI2:=hide ((ah H1).i.mods hmo (fun k c hb=>hnot hb (by decide)) (fun k c hb=>hnot hb (by decide)));have HF2:=hide ((ah H1).f.mods hmo (fun k c hb=>hnot hb (by decide)) (fun k c hb=>hnot hb (by decide)));have lW:=hide ((ah vG).mods hmo (fun k c hb=>hnot hb (by decide)) (fun k c hb=>hnot hb (by decide)));have HC2:=hide ((ah HC1).mods hmo (fun k c hb=>hnot hb (by decide)) (fun k c hb=>hnot hb (by decide)));have HB2:=hide ((ah H1).hands.1.mods hmo (hbne _));have k1b:=hmo.cell k1 (hbne _)
    have Em:Hid (ay (fun k=>B≤k∧k<E) w wr):=((ah HMW).mono (fun _ _ f=>f.elim)).trans hmo (fun k _ h=>by
     obtain⟨e,he,hk⟩:=h.mem;have:=((ah HT).ent e he).1;have:=YQ e he
     omega)
    clear hmo hnot lX hbne k0 k1;obtain⟨W2,rfl⟩:∃W2:World,W2=wr:=⟨_,rfl⟩
    go_loopw [11,16] (fun s3 s4 wr=>∃i:Nat,i≤is.length∧s4= .int .i64 i∧s3= .bool true∧ay (fV is i) W2 wr) (fun _ s4 _=>is.length-(intOf s4).toNat)
    case atStart=>exact ⟨0,Nat.zero_le _,rfl,rfl,ay.refl _ _⟩
    case round=>
     obtain⟨i,hi,rfl,rfl,hmo⟩:=hrel
     have hbne:∀i,¬fV is i bh:=fun i h=>by
      obtain⟨e,he,hk⟩:=h.mem;have:=((ah HI2).ent e he).1;have:=YO e he;omega
     have q2:=hmo.cell k1b (hbne i)
     by_cases hlt:i<is.length
     ·obtain⟨g,cap,hv,hg,⟨cg,hgb⟩,hrow⟩:=(ah HI2).at hlt;obtain⟨b,m,ce,lg,hb,hm,hbe,hce,hdr⟩:=(ah HI2).Kr hlt
      injection hv with hv1 _ hv2
      subst hv1 hv2
      have Az:¬fV is i g:=fun h=>by
       obtain⟨e,he,hk⟩:=h.mem;obtain⟨_,_,_,c,h4,_⟩:=(ah HI2).ent e he;rw [hk] at h4;exact absurd (h4.uniq hgb) (by decide)
      have Ar:¬fV is i b:=by
       have:=fV.LH (ah HI2).nodup hlt
       rwa [lg] at this
      have q3:=hmo.cell hrow Az;rw [lg] at q3;unfold rW at q3;simp only at q3;have hbw:=hbe.mods hmo Ar;have l0:wr.cell? ⟨b,m*3,none⟩=some (.int .i64 (-77000000)):=by rw [hbw.cell];exact (pI (j:=0) hdr)
      have l1:wr.cell? ⟨b,m*3+1,none⟩=some (.int .i64 0):=by rw [hbw.cell];exact (pI (j:=1) hdr)
      have l2:wr.cell? ⟨b,m*3+2,none⟩=some (.int .i64 0):=by rw [hbw.cell];exact (pI (j:=2) hdr)
      have zD:=hide lg;have zy:=hide hbw;have zA:=hide hce;have lX:=hide hmo;have hbl:=hbw.lt;clear lg hbw hmo hrow hgb hbe hdr hce;obtain⟨wo,rfl⟩:∃wo:World,wo=wr:=⟨_,rfl⟩;go_wp2_with fail
      go_loopw [18] (fun s wi=>∃k:Nat,k≤m+1∧s= .int .i64 k∧(∃c,ak wi b 60 c∧c.length=(m+1)*3)∧ay (fun k=>k=b) wo wi) (fun s _=>m+1-(intOf s).toNat)
      case atStart=>exact ⟨0,Nat.zero_le _,rfl,⟨_,ah zy,ah zA⟩,ay.refl _ _⟩
      case round=>
       obtain⟨k,hk,rfl,⟨cc,hcc,hcl⟩,rD⟩:=hrel;have rY:=hide hcc;have rZ:=hide rD;have zB:=hide hcl
       by_cases hk2:k<m+1
       ·obtain⟨u0,y0⟩:=lK hcc (i:=k*3) (by omega);obtain⟨u1,y1⟩:=lK hcc (i:=k*3+1) (by omega);obtain⟨u2,y2⟩:=lK hcc (i:=k*3+2) (by omega);have yf:=hcc.frozen;clear hcc rD l0 l1 l2 q2 q3 hcl;go_wp2_with fail
        exact⟨⟨k+1,by omega,by go_num,⟨_,DY (ah rY) _ _ _,by rw [uU];exact ah zB⟩,(ah rZ).trans (DZ _ _ _ _ _ _) (fun _ _ e=>e)⟩,by simp [intOf];omega⟩
       ·go_wp2_with fail
        have hlast:=fV.last hlt;rw [ah zD] at hlast;exact⟨⟨i+1,by omega,by go_num,rfl,((ah lX).mono (fun _ _ e=>e.succ)).trans (ah rZ) (fun _ _ e=>e▸hlast)⟩,by simp [intOf];omega⟩
     ·obtain rfl:i=is.length:=by omega
      have lX:=hide hmo;go_wp2_with fail
      clear q2
      have hnot:∀ {k t c},ak W2 k t c→t≠60→¬fV is is.length k:=fun hb ht h=>by
       obtain⟨e,he,hk⟩:=h.mem;obtain⟨_,_,_,c,h4,_⟩:=(ah HI2).ent e he;rw [hk] at h4;exact ht (hb.uniq h4)
      have HF3:=hide ((ah HF2).mods hmo (fun k c hb=>hnot hb (by decide)) (fun k c hb=>hnot hb (by decide)));have BN:=hide ((ah lW).mods hmo (fun k c hb=>hnot hb (by decide)) (fun k c hb=>hnot hb (by decide)));have BD:=hide ((ah HC2).mods hmo (fun k c hb=>hnot hb (by decide)) (fun k c hb=>hnot hb (by decide)));have HB3:=hide ((ah HB2).mods hmo (hbne _))
      have QL:Hid (ay (fun k=>B≤k∧k<E) w wr):=(ah Em).trans hmo (fun k _ h=>by
       obtain⟨e,he,hk⟩:=h.mem;have:=((ah HI2).ent e he).1;have:=YO e he
       omega)
      have k5:wr.cell? ⟨bh,5,none⟩=some (.slice none 0 0):=by rw [(ah HB3).cell];exact c5
      clear hmo hnot lX hbne k1b;obtain⟨W3,rfl⟩:∃W3:World,W3=wr:=⟨_,rfl⟩
      go_loopw [11,19] (fun q s wr=>s= .int .i64 0∧q= .bool true∧wr=W3) (fun _ _ _=>0)
      case atStart=>exact ⟨rfl,rfl,rfl⟩
      case round=>
       obtain⟨rfl,rfl,rfl⟩:=hrel;go_wp2_with fail
       refine (ahM wr B E bh cs vf vm vc fs ms ks ⟨ah HB3,(ah HH).hands.2⟩ agQ (ah HH).c2 c3 c4 (ah HF3) (ah BN) (ah BD) hfs hms hks NM NQ NP).mono ?_;rintro e w4 ⟨rfl,hm4⟩;have hb4:=(ah HB3).mods hm4 (by omega);have agI:=(ah HH).hands.2;obtain⟨u0,y0⟩:=lK hb4 (i:=0) (by omega);obtain⟨u1,y1⟩:=lK hb4 (i:=1) (by omega);obtain⟨u2,y2⟩:=lK hb4 (i:=2) (by omega);obtain⟨u3,y3⟩:=lK hb4 (i:=3) (by omega);obtain⟨u4,y4⟩:=lK hb4 (i:=4) (by omega);obtain⟨u5,y5⟩:=lK hb4 (i:=5) (by omega);have yf:=hb4.frozen;have HB4:=hide hb4
       have Gq:=hide (((ah QL).trans hm4 (fun _ _ e=>e)).mono (T:=fun k=>k=bh∨(B≤k∧k<E)) (fun _ _ e=>.inr e));clear hb4 hm4 k5;go_wp2_with fail
       go_ret;exact⟨rfl,⟨((((((ah HB4).setCell 0 _).setCell 1 _).setCell 2 _).setCell 3 _).setCell 4 _).setCell 5 _,by simp only [List.length_set];exact agI⟩,((((((ah Gq).setCell (p:=⟨bh,0,none⟩) (fun _=>.inl rfl) _).setCell (p:=⟨bh,1,none⟩) (fun _=>.inl rfl) _).setCell (p:=⟨bh,2,none⟩) (fun _=>.inl rfl) _).setCell (p:=⟨bh,3,none⟩) (fun _=>.inl rfl) _).setCell (p:=⟨bh,4,none⟩) (fun _=>.inl rfl) _).setCell (p:=⟨bh,5,none⟩) (fun _=>.inl rfl) _⟩
theorem jS.under {w:World}{B:Nat}{eo ei:TypeId}{sz:Nat}{nN:List Value}{v:Value}{es:List (Nat×Nat)}(h:jS w B eo ei sz nN v es):∀e∈es,e.1<w.heap.size:=fun e he=>by
 obtain⟨_,_,_,cs,hb,_⟩:=h.ent e he;exact hb.lt
end Go.Proofs.YtiiokkllmchohaaGreat
namespace Go.Proofs.YtiiokkllmchohaaGreat
open Go.RowKit
attribute [local go_sem ↓] Go.wp_at_zero Go.wp_at_succ
theorem abg (e:Int)(w:World):Calls Tryz.prog 48 #[.int .i64 e] w fun x w'=>x= .returned (.int .i64 e)∧w'=w:=by
 go_enter Tryz.func48,Tryz.ntmps48
 go_wp2
 go_ret;exact⟨rfl,rfl⟩

theorem Lp (n:Nat)(w:World)(bh:Nat)(cs:List Value)(h:ug w bh cs)(h6:cs[6]? =some (.int .i64 (n:Int)))(hn:n≤1073741824) :
  Calls Tryz.prog 88 #[.pointer (some ⟨bh,0,none⟩)] w fun e w'=>e= .returned (.int .i64 (-77000001-(n:Int)))∧ug w' bh (cs.set 6 (.int .i64 ((n+1:Nat):Int)))∧ay (fun k=>k=bh) w w':=by
 have c6:w.cell? ⟨bh,6,none⟩=some (.int .i64 (n:Int)):=by rw [h.1.cell];exact h6
 have f6:=h.1.frozen 6;go_enter Tryz.func88,Tryz.ntmps88
 go_wp2_with fail
 go_ret;refine⟨lN (by omega),⟨?_,by rw [List.length_set];exact h.2⟩,(ay.refl (fun k=>k=bh) w).setCell (p:=⟨bh,6,none⟩) (fun _=>rfl) _⟩;have:=h.1.setCell 6 (.int .i64 ((n+1:Nat):Int));simpa using this

theorem EJ {W:World}{cs:Array Value}{t:TypeId}{b:Nat}(h:b=W.heap.size):ak (W.alloc (.cells cs t)) b t cs.toList:=h▸ak.new W cs t
theorem ahJ (w:World):Calls Tryz.prog 19 #[] w fun e w'=>∃v,e= .returned (.agg #[v])∧aX w' v Ad∧Below w.heap.size w w':=by
 go_enter Tryz.func19,Tryz.ntmps19
 go_wp2_with fail
 have hbel:Below w.heap.size w (((((((((w.alloc (.cells #[.slice (some ⟨w.heap.size+1+1+1+1+1+1+1+1,0,none⟩) 1 1] 24)).alloc (.cells #[.int .i64 1,.int .i64 0,.int .i64 0,.int .i64 10,.int .i64 0,.int .i64 0,.int .i64 13,.int .i64 0,.int .i64 0] 60)).alloc (.cells #[.int .i64 0,.slice none 0 0,.int .i64 0,.int .i64 1,.int .i64 2,.slice (some ⟨w.heap.size+1,0,none⟩) 3 3,.slice none 0 0] 63)).alloc (.cells #[.int .i64 0] 43)).alloc (.cells #[.int .i64 1,.int .i64 0,.int .i64 0,.int .i64 1,.int .i64 1,.int .i64 0,.int .i64 11,.int .i64 0,.int .i64 0,.int .i64 1,.int .i64 0,.int .i64 0,.int .i64 12,.int .i64 0,.int .i64 0,.int .i64 13,.int .i64 0,.int .i64 0] 60)).alloc (.cells #[.int .i64 1,.slice (some ⟨w.heap.size+1+1+1,0,none⟩) 1 1,.int .i64 0,.int .i64 2,.int .i64 3,.slice (some ⟨w.heap.size+1+1+1+1,0,none⟩) 6 6,.slice none 0 0] 63)).alloc (.cells #[.int .i64 0] 43)).alloc (.cells #[.int .i64 0,.slice none 0 0,.int .i64 0,.int .i64 1,.int .i64 2,.slice (some ⟨w.heap.size+1,0,none⟩) 3 3,.slice none 0 0,.int .i64 1,.slice (some ⟨w.heap.size+1+1+1,0,none⟩) 1 1,.int .i64 0,.int .i64 2,.int .i64 3,.slice (some ⟨w.heap.size+1+1+1+1,0,none⟩) 6 6,.slice none 0 0] 63)).alloc (.cells #[.int .i64 (-1),.slice (some ⟨w.heap.size+1+1+1+1+1+1,0,none⟩) 1 1,.slice (some ⟨w.heap.size+1+1+1+1+1+1+1,0,none⟩) 2 2] 66)):=by
  repeat' (first | exact Below.refl _ _ | (refine Below.alloc ?_ (by simp;try omega) _))
 generalize hF:World.alloc _ _=F at hbel ⊢;have B0:ak F w.heap.size 24 [.slice (some ⟨w.heap.size+1+1+1+1+1+1+1+1,0,none⟩) 1 1]:=by rw [←hF];exact ak.alloc (ak.alloc (ak.alloc (ak.alloc (ak.alloc (ak.alloc (ak.alloc (ak.alloc (EJ (by simp)) _) _) _) _) _) _) _) _
 have B1:ak F (w.heap.size+1) 60 (codeCells [⟨1,0,0⟩,⟨10,0,0⟩,⟨13,0,0⟩]++ []):=by rw [←hF];exact ak.alloc (ak.alloc (ak.alloc (ak.alloc (ak.alloc (ak.alloc (ak.alloc (EJ (by simp)) _) _) _) _) _) _) _
 have B3:ak F (w.heap.size+1+1+1) 43 (([0]:List Int).map (Value.int .i64)++ []):=by rw [←hF];exact ak.alloc (ak.alloc (ak.alloc (ak.alloc (ak.alloc (EJ (by simp)) _) _) _) _) _
 have B4:ak F (w.heap.size+1+1+1+1) 60 (codeCells [⟨1,0,0⟩,⟨1,1,0⟩,⟨11,0,0⟩,⟨1,0,0⟩,⟨12,0,0⟩,⟨13,0,0⟩]++ []):=by rw [←hF];exact ak.alloc (ak.alloc (ak.alloc (ak.alloc (EJ (by simp)) _) _) _) _
 have B6:ak F (w.heap.size+1+1+1+1+1+1) 43 (([0]:List Int).map (Value.int .i64)++ []):=by rw [←hF];exact ak.alloc (ak.alloc (EJ (by simp)) _) _
 have B7:ak F (w.heap.size+1+1+1+1+1+1+1) 63 [.int .i64 0,.slice none 0 0,.int .i64 0,.int .i64 1,.int .i64 2,.slice (some ⟨w.heap.size+1,0,none⟩) 3 3,.slice none 0 0,.int .i64 1,.slice (some ⟨w.heap.size+1+1+1,0,none⟩) 1 1,.int .i64 0,.int .i64 2,.int .i64 3,.slice (some ⟨w.heap.size+1+1+1+1,0,none⟩) 6 6,.slice none 0 0]:=by rw [←hF];exact ak.alloc (EJ (by simp)) _
 have B8:ak F (w.heap.size+1+1+1+1+1+1+1+1) 66 [.int .i64 (-1),.slice (some ⟨w.heap.size+1+1+1+1+1+1,0,none⟩) 1 1,.slice (some ⟨w.heap.size+1+1+1+1+1+1+1,0,none⟩) 2 2]:=by rw [←hF];exact EJ (by simp)
 clear hF;have UJ:∀ {α :Type} (sz:Nat) (R: α→Nat→Nat→Prop),aV sz R (.slice none 0 0) []:=fun sz R=>⟨none,0,0,0,rfl,Nat.le_refl _,⟨fun e=>absurd rfl e,.inl ⟨rfl,rfl⟩⟩,fun j x hj=>by simp at hj⟩;have s1:aV 3 (zO F) (.slice (some ⟨w.heap.size+1,0,none⟩) 3 3) [⟨1,0,0⟩,⟨10,0,0⟩,⟨13,0,0⟩]:=G8 (EN [60] F) (Si (cap:=3) B1 (by simp) (by decide));have s3:aV 1 (jL F) (.slice (some ⟨w.heap.size+1+1+1,0,none⟩) 1 1) [0]:=dA (EN tT F) (Ij (cap:=1) B3 (by simp) (by decide))
 have s4:aV 3 (zO F) (.slice (some ⟨w.heap.size+1+1+1+1,0,none⟩) 6 6) [⟨1,0,0⟩,⟨1,1,0⟩,⟨11,0,0⟩,⟨1,0,0⟩,⟨12,0,0⟩,⟨13,0,0⟩]:=G8 (EN [60] F) (Si (cap:=6) B4 (by simp) (by decide));have s6:aV 1 (jL F) (.slice (some ⟨w.heap.size+1+1+1+1+1+1,0,none⟩) 1 1) [0]:=dA (EN tT F) (Ij (cap:=1) B6 (by simp) (by decide))
 have s7:aV 7 (Ey F) (.slice (some ⟨w.heap.size+1+1+1+1+1+1+1,0,none⟩) 2 2) [⟨0,[],0,1,2,[⟨1,0,0⟩,⟨10,0,0⟩,⟨13,0,0⟩],[]⟩,⟨1,[0],0,2,3,[⟨1,0,0⟩,⟨1,1,0⟩,⟨11,0,0⟩,⟨1,0,0⟩,⟨12,0,0⟩,⟨13,0,0⟩],[]⟩]:=by
  refine⟨some ⟨_,0,none⟩,_,0,2,rfl,by decide,⟨fun _=>rfl,.inr (.inl rfl)⟩,fun j x hj=>?_⟩
  match j,hj with
  | 0, hj =>
   simp at hj;subst hj;exact⟨.slice none 0 0,_,.slice none 0 0,⟨UJ 1 _,s1,UJ 3 _⟩,B7.cell 0,B7.cell 1,B7.cell 2,B7.cell 3,B7.cell 4,B7.cell 5,B7.cell 6⟩
  | 1, hj =>
   simp at hj;subst hj;exact⟨_,_,.slice none 0 0,⟨s3,s4,UJ 3 _⟩,B7.cell 7,B7.cell 8,B7.cell 9,B7.cell 10,B7.cell 11,B7.cell 12,B7.cell 13⟩
  | n + 2, hj => simp at hj
 have c0:F.cell? ⟨w.heap.size,0,none⟩=some (.slice (some ⟨w.heap.size+1+1+1+1+1+1+1+1,0,none⟩) 1 1):=B0.cell 0;refine bodyPost_ret (v:=.agg #[.slice (some ⟨w.heap.size+1+1+1+1+1+1+1+1,0,none⟩) 1 1]) (by simp [results,Tryz.results19,go_sem,c0]) rfl ⟨_,rfl,?_,hbel⟩;refine⟨some ⟨_,0,none⟩,_,0,1,rfl,by decide,⟨fun _=>rfl,.inr (.inl rfl)⟩,fun j x hj=>?_⟩
 match j,hj with
 | 0, hj =>
  simp [Ad] at hj;subst hj;exact⟨_,_,B8.cell 0,B8.cell 1,B8.cell 2,s6,s7⟩
 | n + 1, hj => simp [Ad] at hj
end Go.Proofs.YtiiokkllmchohaaGreat
