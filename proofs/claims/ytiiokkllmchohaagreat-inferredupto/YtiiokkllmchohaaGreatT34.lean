/- The document's step, walked. -/
import Derived.Deep.LoopGhost
import Derived.Deep.DeepCutAuto
import Derived.Test.YtiiokkllmchohaaGreatT32
import Derived.Test.YtiiokkllmchohaaGreatT33
set_option maxHeartbeats 4000000
set_option maxRecDepth 100000
namespace Go.Proofs.YtiiokkllmchohaaGreat
open Go.RowKit Go.Shelf
attribute [local go_sem ↓] Go.wp_at_zero Go.wp_at_succ
attribute [local go_sem] bW
theorem ajk (p:List aj)(vc:Value)(m:aC)(va aQ vf:Value)(xa xb:Int)(s:aH)(ib:Bool)(vl vs:Value)(w:World)(hp:aX w vc p)(hv:bV w.cell? m va aQ vf)(hs:aU p p.length)(hz:bn p≤4194304)(J:Gu p m 1 xa xb)(hS:dG w.cell? s vl vs)(tS:gI p s)(AA:s.loc.length≤8)(hk8:s.stk.length≤8)(hloc:xa<(s.loc.length:Int))
  (hty:∀t∈(bZ p m ⟨1,xa,xb⟩).1,t= -1∨t= -2∨bT p.length t) (xM:∀t∈(bZ p m ⟨1,xa,xb⟩).2,t<0→(-1-t).toNat<(bZ p m ⟨1,xa,xb⟩).1.length) (hlt4:(bZ p m ⟨1,xa,xb⟩).1.length≤100) (Oz:(bZ p m ⟨1,xa,xb⟩).2.length≤2) :
  Calls Tryz.prog 96 #[.agg #[vc],bP m va aQ vf,.agg #[.int .i64 1,.int .i64 xa,.int .i64 xb],.agg #[.bool ib,vl,vs]] w fun e w'=>GH p m ⟨1,xa,xb⟩ s w w' e:=by
 have HP:=hide hp;have HV:=hide hv;have BO:=hide hS;have BP:=hide (U9 p vc m va aQ vf ⟨1,xa,xb⟩);unfold bP at BP ⊢;obtain⟨pa,_,_,aA,rfl,_⟩:=hp;obtain⟨aa,_,_,aI,rfl,_⟩:=hv.1;obtain⟨ca,_,_,aF,rfl,_⟩:=hv.2.1;obtain⟨fa,_,_,aG,rfl,_⟩:=hv.2.2;obtain⟨la,lb,lo,fG,rfl,_,hla,hlr⟩:=jo hS.1;obtain⟨sa,sb,so,scap,rfl,hsc,hsa,hsr⟩:=jo hS.2;have QI:=hide hlr;have vI:=hide hsr;clear hlr hsr;have hpl:p.length≤4194304:=Nat.le_trans (eG p) hz;have I0:=pF.new w p m s 1 xa xb (.slice pa p.length aA) (.slice aa m.args.length aI) (.slice ca m.code.length aF) (.slice fa m.frames.length aG) (.slice la s.loc.length fG) (.slice sa s.stk.length scap) ib
 go_enter Tryz.func96,Tryz.ntmps96
 go_wp2_with fail
 generalize ((((w.alloc _).alloc _).alloc _).alloc _).alloc _=W at *;refine (ah BP W (aP (Keeps.of_below I0.bel) (ah HP)) (bV.keep (Keeps.of_below I0.bel) (ah HV)) hs hz J (fun h=>absurd h (by decide))).mono ?_;rintro e U ⟨vt,VE,rfl,ht,hl,hb1⟩;have IU:=I0.below hb1;have ZK:=hb1.size;have ZJ:=I0.b4.lt;obtain⟨hx0,_⟩:=J.loc (.inl rfl);have hx1:=hloc;obtain⟨xn,rfl⟩:=Int.eq_ofNat_of_zero_le hx0;have hxn:xn<s.loc.length:=by omega
 obtain rfl:=hla (bJ hxn);have y1:=Keeps.of_below IU.bel _ _ (ah QI xn hxn);have htt:=tS.1 _ (List.getElem_mem hxn);have hgd:s.loc.getD xn 0=s.loc[xn]:=by rw [List.getD_eq_getElem?_getD,List.getElem?_eq_getElem hxn];rfl
 have HK:=hide (fun h=>UW (p:=p) (m:=m) (op:=1) (xa:=(xn:Int)) (xb:=xb) (s:=s) h);rw [if_pos rfl,Int.toNat_natCast,hgd] at HK;have HQN:=hide (show s.loc[xn]=2→fP p m ⟨1,(xn:Int),xb⟩ s=none from fun h=>by unfold fP;rw [if_pos ⟨rfl,by rw [Int.toNat_natCast,hgd];exact h⟩]);generalize s.loc[xn]=t1 at *;have o0:U.cell? ⟨w.heap.size+1+1,0,none⟩=some (.int .i64 1):=IU.b2.cell 0;have o1:U.cell? ⟨w.heap.size+1+1,1,none⟩=some (.int .i64 (xn:Int)):=IU.b2.cell 1;have o2:U.cell? ⟨w.heap.size+1+1+1,1,none⟩=some (.slice (some ⟨lb,lo,none⟩) s.loc.length fG):=IU.b3.cell 1;have i0:(0:Int)≤(xn:Int):=by omega
 have agM:=hl;have ag9:∃a n c,VE= .slice a n c:=by obtain⟨a,_,_,c,rfl,_⟩:=hl;exact⟨a,_,c,rfl⟩
 obtain⟨va0,vn0,vc0,rfl⟩:=ag9;have hvt:∃a n c,vt= .slice a n c:=by obtain⟨a,_,_,c,rfl,_⟩:=ht;exact⟨a,_,c,rfl⟩
 by_cases h2:t1=2
 ·subst h2;obtain⟨vta,vtn,vtc,rfl⟩:=hvt;have fK:=hide (ah HQN rfl);have QB:=IU;clear ht hl;go_wp2_with (refine iZ iV QB.b4 0 [.bool false,.slice none 0 0,.slice none 0 0] rfl (by simp) Ec (.tmp 8) (.tmp 35) rfl rfl rfl rfl ?_;intro w6 dP bK hs6;rw [gB (by rfl)] at dP)
  refine bodyPost_ret (jQ rfl iV dP rfl rfl) rfl ?_;exact⟨fun s' e=>(by rw [ah fK] at e;cases e),fun _=>⟨_,_,_,_,_,_,_,rfl⟩,QB.bel.trans (bK.below QB.bel.size (fun k hk e=>by omega))⟩
 have h2':(t1 == 2)=false:=by simpa using h2
 have HR:=hide (ah HK (fun h=>h2 h.2));clear HK;have xC:=aS U (.cells #[.int .i64 t1] 43);have Xi:=IU.below xC;have ht2:=dA (dR (S':=fun k=>W.heap.size≤k) (ay.of_below xC) fun k hk hS=>⟨fun e=>by omega,hS⟩) ht;have hl2:aV 1 (fE (sel (fun k=>W.heap.size≤k) (U.alloc (.cells #[.int .i64 t1] 43)))) (.slice (some ⟨U.heap.size,0,none⟩) 1 1) [t1]:=Cm (l:= [t1]) (ak.new U #[.int .i64 t1] 43) (by omega) 1 rfl
 have aaw:∀t∈[t1],t<0→(-1-t).toNat<(bZ p m ⟨1,(xn:Int),xb⟩).1.length:=fun t h1 h2=>by
  simp only [List.mem_singleton] at h1;subst h1;have:=htt.1;omega
 clear xM hl ht IU Oz agM hvt;have xM:=aaw;have IU:=Xi;have ht:=ht2;have hl:=hl2;have Oz: [t1].length≤2:=by simp
 clear aaw Xi ht2 hl2;generalize (bZ p m ⟨1,(xn:Int),xb⟩).1=tk at *;have u0:(U.alloc (.cells #[.int .i64 t1] 43)).cell? ⟨w.heap.size+1+1+1,2,none⟩=some (.slice sa s.stk.length scap):=IU.b3.cell 2;obtain⟨ta,tb,L9,D8,rfl,_,hta,htr⟩:=jo (dA jk ht);have Jz:=hide htr;clear htr
 by_cases hlen:s.stk.length<tk.length
 ·have fK:Hid (fP p m ⟨1,(xn:Int),xb⟩ s=none):=by show _=_;rw [ah HR];unfold x9;rw [if_pos hlen]
  have hn0:((s.stk.length:Int)-(tk.length:Int))<0:=by omega
  have QB:=IU;go_wp2_with (refine iZ iV QB.b4 0 [.bool false,.slice none 0 0,.slice none 0 0] rfl (by simp) Ec (.tmp 8) (.tmp 51) rfl rfl rfl rfl ?_;intro w6 dP bK hs6;rw [gB (by rfl)] at dP)
  refine bodyPost_ret (jQ rfl iV dP rfl rfl) rfl ?_;exact⟨fun s' e=>(by rw [ah fK] at e;cases e),fun _=>⟨_,_,_,_,_,_,_,rfl⟩,QB.bel.trans (bK.below QB.bel.size (fun k hk e=>by omega))⟩
 obtain⟨n,hn⟩:∃n:Nat,s.stk.length=n+tk.length:=⟨s.stk.length-tk.length,by omega⟩;have hn0:¬((s.stk.length:Int)-(tk.length:Int))<0:=by omega
 have hnn:((s.stk.length:Int)-(tk.length:Int))=(n:Int):=by omega
 have hdl:(s.stk.drop n).length=tk.length:=by rw [List.length_drop];omega
 have HN:=hide (show s.stk.length-tk.length=n by omega);rw [hnn] at hn0;have oI:=hide (And.intro hn hdl);clear hn hdl;go_wp2_with fail
 go_loopw [13] (fun i wr=>∃k:Nat,k≤tk.length∧i= .int .i64 k∧((((s.stk.drop n).take k).zip (tk.take k)).all fun x=>iD p x.1 x.2)=true∧Below (U.alloc (.cells #[.int .i64 t1] 43)).heap.size (U.alloc (.cells #[.int .i64 t1] 43)) wr) (fun i _=>tk.length-(intOf i).toNat)
 case atStart=>exact ⟨0,Nat.zero_le _,rfl,rfl,Below.refl _ _⟩
 case round=>
  obtain⟨k,hk,rfl,hall,hbr⟩:=hrel;have IV:=IU.below hbr
  by_cases hlt:k<tk.length
  ·have hnk:n+k<s.stk.length:=by have:=(ah oI).1;omega
   obtain rfl:=hsa (bJ hnk);obtain rfl:=hta (bJ hlt);have x0:=Keeps.of_below IV.bel _ _ (ah vI (n+k) hnk);have y0:=Keeps.of_below hbr _ _ (ah Jz k hlt);have hx:=tS.2 _ (List.getElem_mem hnk);have hy:=hty _ (List.getElem_mem hlt);have hlt2:k<(s.stk.drop n).length:=by rw [(ah oI).2];exact hlt
   have xA:=SE (p:=p) hlt2 hlt;have hNo:=Me (fun x=>iD p x.1 x.2) hlt2 hlt;rw [List.getElem_drop] at xA hNo;have Jy:=hide xA;have Js:=hide hNo;generalize s.stk[n+k]=a at *;generalize tk[k]=t at *;clear xA hNo;have hwr:IntKind.i64.wrap ((n:Int)+(k:Int))=(n:Int)+(k:Int):=by rw [IntKind.wrap_i64];omega
   have htn:((n:Int)+(k:Int)).toNat=n+k:=by omega
   have k0:(0:Int)≤(k:Int):=by omega
   have k1:(k:Int)<(tk.length:Int):=by omega
   have k2:(0:Int)≤(n:Int)+(k:Int):=by omega
   have k3:(n:Int)+(k:Int)<(s.stk.length:Int):=by omega
   go_wp2_with fail
   have HO:=hide (fun Y (hY:Below wr.heap.size wr Y)=>And.intro ((IV.below hY).b0.cell 0) (And.intro ((IV.below hY).b3.cell 2) (And.intro (Keeps.of_below hY _ _ x0) (Keeps.of_below hY _ _ y0))));refine wp_region_noPanic ?_;refine wp_region_held_drew (S:=(fun w'=>w'.cell? ⟨w.heap.size,0,none⟩=some (.slice pa p.length aA)∧w'.cell? ⟨w.heap.size+1+1+1,2,none⟩=some (.slice (some ⟨sb,so,none⟩) s.stk.length scap)∧w'.cell? ⟨sb,so+(n+k),none⟩=some (.int .i64 a)∧w'.cell? ⟨tb,L9+k,none⟩=some (.int .i64 t))) (by kernel_rfl) ?_ (fun hHeld=>?_)
   ·exact (ah HO) _ gq
   refine au 58 0 ?_;refine au 59 1 ?_;refine au 60 2 ?_;refine au 61 3 ?_;refine au 62 4 ?_;refine au 63 5 ?_;refine au 64 6 ?_;refine au 65 7 ?_;refine au 66 8 ?_;refine au 67 9 ?_;refine au 68 10 ?_;refine au 69 11 ?_;refine aW 12 (fun K hK=>?_);go_simp;refine (U8 p _ a t wr.drew (aP (Keeps.of_below gq) (aP (Keeps.of_below IV.bel) (ah HP))) hs hpl hx hy).mono ?_;rintro e w1 ⟨rfl,hb1'⟩;have hb1:Below wr.heap.size wr w1:=⟨hb1'.os,hb1'.tape,hb1'.output,hb1'.size,hb1'.block⟩;have hr1:=hbr.trans (hb1.mono hbr.size);have I1:=IV.below hb1;have Jv:=hide hall;clear hb1' hall
   cases hq:iD p a t with
   | false =>
    have fK:Hid (fP p m ⟨1,(xn:Int),xb⟩ s=none):=by
     show _=_
     rw [ah HR];unfold x9;rw [if_neg hlen,ah HN,ah Js hq]
     rfl
    have QB:=I1;clear hq;go_wp2_with fail
    refine hK.out _ _ ((ah HO) _ hb1) (fun hHeld=>?_);clear hK K;try simp only [Act.put,aK,aO,aN]
    refine au 14 13 ?_;refine wpAnyH_done (by kernel_rfl) ?_ _;refine NoPanic.normal ?_;go_wp2_with (refine iZ iV QB.b4 0 [.bool false,.slice none 0 0,.slice none 0 0] rfl (by simp) Ec (.tmp 8) (.tmp 73) rfl rfl rfl rfl ?_;intro w6 dP bK hs6;rw [gB (by rfl)] at dP)
    refine bodyPost_ret (jQ rfl iV dP rfl rfl) rfl ?_;exact⟨fun s' e=>(by rw [ah fK] at e;cases e),fun _=>⟨_,_,_,_,_,_,_,rfl⟩,QB.bel.trans (bK.below QB.bel.size (fun k hk e=>by omega))⟩
   | true =>
    have HQ:Hid (((((s.stk.drop n).take (k+1)).zip (tk.take (k+1))).all fun x=>iD p x.1 x.2)=true):=by
     show _=_
     rw [ah Jy,ah Jv,hq]
     rfl
    clear hq;go_wp2_with fail
    refine hK.out _ _ ((ah HO) _ hb1) (fun hHeld=>?_);clear hK K;try simp only [Act.put,aK,aO,aN]
    refine au 14 13 ?_;refine wpAnyH_done (by kernel_rfl) ?_ _;refine NoPanic.normal ?_;go_wp2_with fail
    exact⟨⟨k+1,by omega,by go_num,ah HQ,hr1⟩,by simp [intOf];omega⟩
  ·obtain rfl:k=tk.length:=by omega
   have hfit:(((s.stk.drop n).zip tk).all fun x=>iD p x.1 x.2)=true:=by
    rw [List.take_length,List.take_of_length_le (by rw [(ah oI).2];exact Nat.le_refl _)] at hall;exact hall
   have HR2:Hid (fP p m ⟨1,(xn:Int),xb⟩ s=if (((s.stk.take n++ [t1].map (fD (s.stk.drop n))).length:Nat):Int)≤m.stack then some ⟨if 1=2 then s.loc.set (xn:Int).toNat (s.stk.getD n 0) else s.loc,s.stk.take n++ [t1].map (fD (s.stk.drop n))⟩ else none):=by
    show _=_
    rw [ah HR];unfold x9;rw [if_neg hlen,ah HN,hfit]
    rfl
   have ke:¬(tk.length:Int)<(tk.length:Int):=by omega
   clear hall hfit;have hi0:=IV.bel;have aaH:=IV.b4.lt;have J0:=gW.start (V:=wr) (B:=wr.heap.size+1) hi0;have hbx:=aS wr (.cells #[.bool true,.slice none 0 0,.slice none 0 0] 149);obtain⟨la',abh,hle,xH,Du⟩:=rH (ah BO).1
   cases hle
   obtain⟨a1,n1,cap1,w1,mW,c1,f1,gu,J1⟩:=J0.locals (by omega) (by simp) (by omega) (by omega) s.loc (by omega) (some ⟨lb,lo,none⟩) s.loc.length fG rfl (fun e=>⟨by rw [(xH e).1];rfl,(xH e).2⟩) (fun ad e j u h=>Keeps.of_below hbx _ _ (Keeps.of_below hi0 _ _ (Du ad e j u h)));have hS1:ay (fun j=>j=wr.heap.size) w1 (w1.setCell ⟨wr.heap.size,1,none⟩ (.slice a1 n1 cap1)):=(ay.refl (fun j=>j=wr.heap.size) w1).setCell (p:=⟨wr.heap.size,1,none⟩) (fun _=>rfl) _;have mX:Below wr.heap.size wr (w1.setCell ⟨wr.heap.size,1,none⟩ (.slice a1 n1 cap1)):=(hbx.trans (gu.mono hbx.size)).trans (hS1.below (Nat.le_trans hbx.size gu.size) (fun k hk e=>by omega));have K1:=IV.below mX
   have JW:(wr.alloc (.cells #[.bool true,.slice none 0 0,.slice none 0 0] 149)).cell? ⟨w.heap.size+1+1+1,1,none⟩=some (.slice (some ⟨lb,lo,none⟩) s.loc.length fG):=(IV.below hbx).b3.cell 1;have hs1:=Nat.le_trans hbx.size (Nat.le_trans gu.size hS1.size);have hs1':=Nat.le_trans gu.size hS1.size;rw [World.size_alloc] at hs1';have uj:=hide (And.intro J1 K1);have cop:(w1.setCell ⟨wr.heap.size,1,none⟩ (.slice a1 n1 cap1)).cell? ⟨w.heap.size+1+1,0,none⟩=some (.int .i64 1):=K1.b2.cell 0;clear J0 J1 gu hS1 K1 xH Du;go_wp2_with (at_builtin;refine wpList_append_run rfl (.tmp 76) (.tmp 78) 40 rfl _ _ rfl rfl mW ?_)
   generalize w1.setCell _ _=W1 at *;clear mW c1 f1 JW cop;obtain⟨W2,loc',hW2,hloc',HJ2⟩:∃W2 loc',W2=W1∧loc'=s.loc∧Hid (gW w W2 (wr.heap.size+1) wr.heap.size (.slice a1 n1 cap1) loc' (.slice none 0 0) []∧pF w W2 p m s 1 (xn:Int) xb (.slice pa p.length aA) (.slice aa m.args.length aI) (.slice ca m.code.length aF) (.slice fa m.frames.length aG) (.slice (some ⟨lb,lo,none⟩) s.loc.length fG) (.slice sa s.stk.length scap) ib):=⟨W1,s.loc,rfl,rfl,uj⟩;rw [←hW2] at mX hs1' ⊢;clear uj hW2;have z2:W2.cell? ⟨w.heap.size+1+1+1,2,none⟩=some (.slice sa s.stk.length scap):=(ah HJ2).2.b3.cell 2;have z3:W2.cell? ⟨wr.heap.size,2,none⟩=some (.slice none 0 0):=(ah HJ2).1.box.cell 2
   obtain⟨sa',ach,hse,xP,Dz⟩:=rH (ah BO).2
   cases hse
   have Dx:n≤s.stk.length:=by have:=(ah oI).1;omega
   have n0:(0:Int)≤(n:Int):=by omega
   have n1':(n:Int)≤(s.stk.length:Int):=by omega
   have n2':(n:Int)≤(scap:Int):=by omega
   refine wp_region_noPanic ?_;refine wp_region_held_drew (S:=(fun w'=>w'.cell? ⟨w.heap.size+1+1+1,2,none⟩=some (.slice sa s.stk.length scap))) (by kernel_rfl) ?_ (fun hHeld=>?_)
   ·exact z2
   refine au 94 0 ?_;refine au 96 2 ?_;refine au 97 3 ?_;refine au 98 4 ?_;refine dL (some 99) (i:=5) (v:=.slice sa n scap) rfl rfl (by kernel_rfl) (by kernel_rfl) (by kernel_rfl) (fun _ _ _ h=>h) (Or.inl ⟨by rfl,fun w' hSw=>by (try dsimp only at hSw);go_simp⟩) (by assumption) ?_;try simp only [Act.put,aK,aO,aN]
   have BR:=(ah HJ2).1.below gq;have BU:=(ah HJ2).2.below gq;have hsz2:W2.drew.heap.size=W2.heap.size:=rfl
   obtain⟨a3,n3,cap3,w3,Dj,c3,f3,dh,J3⟩:=BR.more (by omega) (by omega) (by omega) (by omega) (by simp) (s.stk.take n) (by rw [List.length_take];omega) sa n scap (by rw [List.length_take];omega) (fun e=>⟨by have:=(xP e).1;rw [this] at Dx;simpa using Dx,(xP e).2⟩) (fun ad e j u h=>Keeps.of_below BU.bel _ _ (Dz ad e j u (by
    rw [List.map_take,List.getElem?_take] at h
    split at h
    ·exact h
    ·cases h)))
   have hS3:ay (fun j=>j=wr.heap.size) w3 (w3.setCell ⟨wr.heap.size,2,none⟩ (.slice a3 n3 cap3)):=(ay.refl (fun j=>j=wr.heap.size) w3).setCell (p:=⟨wr.heap.size,2,none⟩) (fun _=>rfl) _;have xw:Below wr.heap.size W2 w3:=(gq.mono (by omega)).trans (dh.below (by omega) (fun k hk e=>by cases e));have Dl:Below wr.heap.size wr (w3.setCell ⟨wr.heap.size,2,none⟩ (.slice a3 n3 cap3)):=mX.trans (xw.trans (hS3.below (by have:=dh.size;omega) (fun k hk e=>by omega)));have K3:=IV.below Dl;have z4:w3.cell? ⟨w.heap.size+1+1+1,2,none⟩=some (.slice sa s.stk.length scap):=(IV.below (mX.trans xw)).b3.cell 2
   have z5:(w3.setCell ⟨wr.heap.size,2,none⟩ (.slice a3 n3 cap3)).cell? ⟨w.heap.size+1+1+1,2,none⟩=some (.slice sa s.stk.length scap):=K3.b3.cell 2;have Lc:wr.heap.size+1≤(w3.setCell ⟨wr.heap.size,2,none⟩ (.slice a3 n3 cap3)).heap.size:=by have:=dh.size;have:=hS3.size;omega
   have pz:=hide (And.intro J3 K3);clear BR BU J3 K3 dh xw hS3 xP Dz;refine aW 1 (fun K hK=>?_);go_simp;refine hK.out _ _ z2 (fun hHeld=>?_);clear hK K;try simp only [Act.put,aK,aO,aN]
   refine aW 6 (fun K hK=>?_);refine wp_append_run (.tmp 95) (.tmp 99) 40 rfl _ _ rfl rfl Dj ?_;go_simp;refine hK.out _ _ z4 (fun hHeld=>?_);clear hK K;try simp only [Act.put,aK,aO,aN]
   refine au 101 7 ?_;refine aW 8 (fun K hK=>?_);go_simp;refine hK.out _ _ z5 (fun hHeld=>?_);clear hK K;try simp only [Act.put,aK,aO,aN]
   refine wpAnyH_done (by kernel_rfl) ?_ _;refine NoPanic.normal ?_;generalize w3.setCell _ _=W3 at *;clear Dj c3 f3 z2 z3 z4 z5 HJ2 mX;rw [List.nil_append] at pz;obtain⟨zh,vb,vo,fJ,hv1,_,hva,DC⟩:=jo (dA jk hl)
   cases hv1
   have JA:=hide DC;clear DC;have Dq:=hbr;have hkw:=IV;go_wp2_with fail
   obtain⟨w9,rfl⟩:∃w9:World,w9=wr:=⟨_,rfl⟩
   go_loopw [16] (fun i V=>∃(k:Nat) (vs':Value),k≤[t1].length∧i= .int .i64 k∧gW w V (w9.heap.size+1) w9.heap.size (.slice a1 n1 cap1) loc' vs' (s.stk.take n++([t1].take k).map (fD (s.stk.drop n)))∧pF w V p m s 1 (xn:Int) xb (.slice pa p.length aA) (.slice aa m.args.length aI) (.slice ca m.code.length aF) (.slice fa m.frames.length aG) (.slice (some ⟨lb,lo,none⟩) s.loc.length fG) (.slice sa s.stk.length scap) ib∧Below w9.heap.size w9 V∧w9.heap.size+1≤V.heap.size) (fun i _=> [t1].length-(intOf i).toNat)
   case atStart=>exact ⟨0,_,Nat.zero_le _,rfl,by simpa using (ah pz).1,(ah pz).2,Dl,Lc⟩
   case round=>
    obtain⟨k,vs',hk,rfl,JJ,KK,eY,Ie⟩:=hrel;obtain⟨D6,D7,rfl⟩:=cZ JJ.rs;obtain⟨sl,hsl⟩:∃sl,sl=(s.stk.take n++([t1].take k).map (fD (s.stk.drop n))).length:=⟨_,rfl⟩;rw [←hsl] at JJ;have HSL:=hide hsl;clear hsl;have z6:wr.cell? ⟨w9.heap.size,2,none⟩=some _:=JJ.box.cell 2;have z7:wr.cell? ⟨w.heap.size+1+1+1,2,none⟩=some (.slice sa s.stk.length scap):=KK.b3.cell 2
    by_cases hlt:k< [t1].length
    ·cases hva (bJ hlt)
     have y0:=Keeps.of_below (Dq.trans (eY.mono Dq.size)) _ _ (ah JA k hlt);rw [Nat.zero_add] at y0;have hlk:=List.getElem?_eq_getElem hlt;have hneg:=xM _ (List.getElem_mem hlt);generalize [t1][k]=t at *;have k0:(0:Int)≤(k:Int):=by omega
     have k1:(k:Int)<1:=by have h:k<1:=hlt;omega
     by_cases ht0:t<0
     ·obtain⟨j,hj⟩:∃j:Nat,t= -1-(j:Int):=⟨(-1-t).toNat,by omega⟩;have hjt:j<tk.length:=by have:=hneg ht0;omega
      have yX:n+j<s.stk.length:=by have:=(ah oI).1;omega
      obtain rfl:=hsa (bJ yX);have x0:=Keeps.of_below KK.bel _ _ (ah vI (n+j) yX)
      have hrl:fD (s.stk.drop n) t=s.stk[n+j]:=by
       unfold fD;rw [if_pos ht0,show (-1-t).toNat=j by omega,List.getD_eq_getElem?_getD,List.getElem?_drop,List.getElem?_eq_getElem yX]
       rfl
      generalize s.stk[n+j]=a at *;have q1:(n:Int)-1-t=(n:Int)+(j:Int):=by omega
      have q2:((n:Int)+(j:Int)).toNat=n+j:=by omega
      have q3:(0:Int)≤(n:Int)+(j:Int):=by omega
      have q4:(n:Int)+(j:Int)<(s.stk.length:Int):=by omega
      have q5: -200≤t:=by omega
      have WB:=hide hj;clear hj;obtain⟨a5,n5,cap5,w5,oq,c5,f5,bU,J5⟩:=JJ.one (by omega) (by omega) (by omega) (by omega) (by rw [List.length_append,List.length_take,List.length_map,List.length_take];omega) a;have hS5:ay (fun j=>j=w9.heap.size) w5 (w5.setCell ⟨w9.heap.size,2,none⟩ (.slice a5 n5 cap5)):=(ay.refl (fun j=>j=w9.heap.size) w5).setCell (p:=⟨w9.heap.size,2,none⟩) (fun _=>rfl) _;have jJ:Below w9.heap.size w9 (w5.setCell ⟨w9.heap.size,2,none⟩ (.slice a5 n5 cap5)):=eY.trans ((bU.below eY.size (fun k hk e=>by have:=(JJ.rs.lt k e).1;omega)).trans (hS5.below (Nat.le_trans eY.size bU.size) (fun k hk e=>by omega)))
      have hs5:w9.heap.size+1≤(w5.setCell ⟨w9.heap.size,2,none⟩ (.slice a5 n5 cap5)).heap.size:=by have:=bU.size;have:=hS5.size;omega
      have HE:=hide (And.intro J5 (And.intro (IV.below jJ) (And.intro jJ hs5)));have pX:=hide (show s.stk.take n++([t1].take (k+1)).map (fD (s.stk.drop n))=s.stk.take n++([t1].take k).map (fD (s.stk.drop n))++ [a] by rw [List.take_add_one,hlk,List.map_append,List.append_assoc];simp only [Option.toList_some,List.map_cons,List.map_nil];rw [hrl]);clear J5 bU hS5 jJ;go_wp2_with (at_builtin;refine wpList_append_run rfl (.tmp 123) (.tmp 125) 40 rfl _ _ rfl rfl oq ?_)
      refine⟨⟨k+1,.slice a5 n5 cap5,by omega,by go_num,?_,(ah HE).2.1,(ah HE).2.2.1,(ah HE).2.2.2⟩,by simp [intOf];omega⟩;rw [ah pX];exact (ah HE).1
     ·have hrl:fD (s.stk.drop n) t=t:=by unfold fD;rw [if_neg ht0]
      obtain⟨a5,n5,cap5,w5,oq,c5,f5,bU,J5⟩:=JJ.one (by omega) (by omega) (by omega) (by omega) (by rw [List.length_append,List.length_take,List.length_map,List.length_take];omega) t;have hS5:ay (fun j=>j=w9.heap.size) w5 (w5.setCell ⟨w9.heap.size,2,none⟩ (.slice a5 n5 cap5)):=(ay.refl (fun j=>j=w9.heap.size) w5).setCell (p:=⟨w9.heap.size,2,none⟩) (fun _=>rfl) _;have jJ:Below w9.heap.size w9 (w5.setCell ⟨w9.heap.size,2,none⟩ (.slice a5 n5 cap5)):=eY.trans ((bU.below eY.size (fun k hk e=>by have:=(JJ.rs.lt k e).1;omega)).trans (hS5.below (Nat.le_trans eY.size bU.size) (fun k hk e=>by omega)))
      have hs5:w9.heap.size+1≤(w5.setCell ⟨w9.heap.size,2,none⟩ (.slice a5 n5 cap5)).heap.size:=by have:=bU.size;have:=hS5.size;omega
      have HE:=hide (And.intro J5 (And.intro (IV.below jJ) (And.intro jJ hs5)));have pX:=hide (show s.stk.take n++([t1].take (k+1)).map (fD (s.stk.drop n))=s.stk.take n++([t1].take k).map (fD (s.stk.drop n))++ [t] by rw [List.take_add_one,hlk,List.map_append,List.append_assoc];simp only [Option.toList_some,List.map_cons,List.map_nil];rw [hrl]);clear J5 bU hS5 jJ;go_wp2_with (at_builtin;refine wpList_append_run rfl (.tmp 123) (.tmp 125) 40 rfl _ _ rfl rfl oq ?_)
      refine⟨⟨k+1,.slice a5 n5 cap5,by omega,by go_num,?_,(ah HE).2.1,(ah HE).2.2.1,(ah HE).2.2.2⟩,by simp [intOf];omega⟩;rw [ah pX];exact (ah HE).1
    ·obtain rfl:k= [t1].length:=by omega
     have Us:¬([t1].length:Int)<1:=by simp
     rw [List.take_length] at JJ HSL;have hbW:=KK.bel;go_wp2_with fail
     have g0:wr.cell? ⟨w9.heap.size,0,none⟩=some (.bool true):=JJ.box.cell 0;have g1:wr.cell? ⟨w9.heap.size,1,none⟩=some (.slice a1 n1 cap1):=JJ.box.cell 1;have g3:wr.cell? ⟨w.heap.size+1,4,none⟩=some (.int .i64 m.stack):=KK.b1.cell 4;have Ei:=hide (And.intro JJ KK);have b4:=KK.b4;have hl5:=IV.b4.lt;have Ju:=hide (fun Y (hY:ay (fun k=>k=w.heap.size+1+1+1+1) wr Y)=>And.intro ((JJ.box.mods hY (by omega)).cell 0) (And.intro ((JJ.box.mods hY (by omega)).cell 1) (And.intro ((JJ.box.mods hY (by omega)).cell 2) ((KK.b1.mods hY (by omega)).cell 4))));clear JJ KK;refine wp_region_noPanic ?_
     refine wp_region_held_drew (S:=(fun w'=>w'.cell? ⟨w9.heap.size,0,none⟩=some (.bool true)∧w'.cell? ⟨w9.heap.size,1,none⟩=some (.slice a1 n1 cap1)∧w'.cell? ⟨w9.heap.size,2,none⟩=some (.slice D6 sl D7)∧w'.cell? ⟨w.heap.size+1,4,none⟩=some (.int .i64 m.stack))) (by kernel_rfl) ?_ (fun hHeld=>?_)
     ·exact⟨g0,g1,z6,g3⟩
     refine au 128 0 ?_;refine au 129 1 ?_;refine au 130 2 ?_;refine au 131 3 ?_;refine au 132 4 ?_;refine au 133 5 ?_;refine au 134 6 ?_;refine aW 7 (fun K hK=>?_);refine oZ iV b4.drew 0 [.bool true,.slice a1 n1 cap1,.slice D6 sl D7] rfl (by simp) (fun u hu=>by simp only [List.mem_cons,List.not_mem_nil,or_false] at hu;rcases hu with rfl | rfl | rfl <;> rfl) (.tmp 8) (.tmp 128) rfl rfl rfl ?_;intro w6 dP bK hs6;rw [gB (by rfl)] at dP;have pO:ay (fun k=>k=w.heap.size+1+1+1+1) wr w6:=⟨bK.os,bK.tape,bK.output,bK.size,bK.block⟩;refine hK.out _ _ ((ah Ju) _ pO) (fun hHeld=>?_);clear hK K;try simp only [Act.put]
     refine au 9 8 ?_;refine wpAnyH_done (by kernel_rfl) ?_ _;refine NoPanic.normal ?_;go_wp2_with fail
     refine bodyPost_ret (jQ rfl iV dP rfl rfl) rfl ?_;have hrd:=(ah Ei).1.read;have hfb:=hbW.trans (pO.below hbW.size (fun k hk e=>by omega))
     by_cases sU:(sl:Int)≤m.stack
     ·have oh:fP p m ⟨1,(xn:Int),xb⟩ s=some ⟨loc',s.stk.take n++ [t1].map (fD (s.stk.drop n))⟩:=by
       rw [ah HR2,if_pos (by rw [←ah HSL];exact sU),hloc',if_neg (by omega)]
      refine⟨fun s' e=>?_,fun e=>(by rw [oh] at e;cases e),hfb⟩;rw [oh] at e
      cases e
      refine⟨_,_,(by show Ending.returned (.tuple #[_,.bool (decide _)])=_;rw [decide_eq_true sU]),dG.keep (dR pO fun k _ hk=>⟨fun e=>by omega,by omega⟩) hrd⟩
     ·have oh:fP p m ⟨1,(xn:Int),xb⟩ s=none:=by
       rw [ah HR2,if_neg (by rw [←ah HSL];exact sU)]
      refine⟨fun s' e=>(by rw [oh] at e;cases e),fun _=>⟨_,_,_,_,_,_,_,(by show Ending.returned (.tuple #[_,.bool (decide _)])=_;rw [decide_eq_false sU])⟩,hfb⟩
theorem ajl (p:List aj)(vc:Value)(m:aC)(va aQ vf:Value)(xa xb:Int)(s:aH)(ib:Bool)(vl vs:Value)(w:World)(hp:aX w vc p)(hv:bV w.cell? m va aQ vf)(hs:aU p p.length)(hz:bn p≤4194304)(J:Gu p m 2 xa xb)(hS:dG w.cell? s vl vs)(tS:gI p s)(AA:s.loc.length≤8)(hk8:s.stk.length≤8)(hloc:xa<(s.loc.length:Int))
  (hty:∀t∈(bZ p m ⟨2,xa,xb⟩).1,t= -1∨t= -2∨bT p.length t) (xM:∀t∈(bZ p m ⟨2,xa,xb⟩).2,t<0→(-1-t).toNat<(bZ p m ⟨2,xa,xb⟩).1.length) (hlt4:(bZ p m ⟨2,xa,xb⟩).1.length≤100) (Oz:(bZ p m ⟨2,xa,xb⟩).2.length≤2) :
  Calls Tryz.prog 96 #[.agg #[vc],bP m va aQ vf,.agg #[.int .i64 2,.int .i64 xa,.int .i64 xb],.agg #[.bool ib,vl,vs]] w fun e w'=>GH p m ⟨2,xa,xb⟩ s w w' e:=by
 have HP:=hide hp;have HV:=hide hv;have BO:=hide hS;have BP:=hide (U9 p vc m va aQ vf ⟨2,xa,xb⟩);unfold bP at BP ⊢;obtain⟨pa,_,_,aA,rfl,_⟩:=hp;obtain⟨aa,_,_,aI,rfl,_⟩:=hv.1;obtain⟨ca,_,_,aF,rfl,_⟩:=hv.2.1;obtain⟨fa,_,_,aG,rfl,_⟩:=hv.2.2;obtain⟨la,lb,lo,fG,rfl,_,hla,hlr⟩:=jo hS.1;obtain⟨sa,sb,so,scap,rfl,hsc,hsa,hsr⟩:=jo hS.2;have QI:=hide hlr;have vI:=hide hsr;clear hlr hsr;have hpl:p.length≤4194304:=Nat.le_trans (eG p) hz;have I0:=pF.new w p m s 2 xa xb (.slice pa p.length aA) (.slice aa m.args.length aI) (.slice ca m.code.length aF) (.slice fa m.frames.length aG) (.slice la s.loc.length fG) (.slice sa s.stk.length scap) ib
 go_enter Tryz.func96,Tryz.ntmps96
 go_wp2_with fail
 generalize ((((w.alloc _).alloc _).alloc _).alloc _).alloc _=W at *;refine (ah BP W (aP (Keeps.of_below I0.bel) (ah HP)) (bV.keep (Keeps.of_below I0.bel) (ah HV)) hs hz J (fun h=>absurd h (by decide))).mono ?_;rintro e U ⟨vt,VE,rfl,ht,hl,hb1⟩;have IU:=I0.below hb1;have ZK:=hb1.size;have ZJ:=I0.b4.lt;have HR:=hide (UW (p:=p) (m:=m) (op:=2) (xa:=xa) (xb:=xb) (s:=s) (fun h=>by omega));rw [if_neg (by omega)] at HR;have ahd:=(J.loc (.inr rfl)).1;have als:=hloc;have HTK:=hide (show (bZ p m ⟨2,xa,xb⟩).1.length=1 from rfl);generalize (bZ p m ⟨2,xa,xb⟩).1=tk at *;generalize (bZ p m ⟨2,xa,xb⟩).2=lv at *
 have o0:U.cell? ⟨w.heap.size+1+1,0,none⟩=some (.int .i64 2):=IU.b2.cell 0;have u0:U.cell? ⟨w.heap.size+1+1+1,2,none⟩=some (.slice sa s.stk.length scap):=IU.b3.cell 2;obtain⟨ta,tb,L9,D8,rfl,_,hta,htr⟩:=jo (dA jk ht);have Jz:=hide htr;clear htr
 by_cases hlen:s.stk.length<tk.length
 ·have fK:Hid (fP p m ⟨2,xa,xb⟩ s=none):=by show _=_;rw [ah HR];unfold x9;rw [if_pos hlen]
  have hn0:((s.stk.length:Int)-(tk.length:Int))<0:=by omega
  have QB:=IU;go_wp2_with (refine iZ iV QB.b4 0 [.bool false,.slice none 0 0,.slice none 0 0] rfl (by simp) Ec (.tmp 8) (.tmp 51) rfl rfl rfl rfl ?_;intro w6 dP bK hs6;rw [gB (by rfl)] at dP)
  refine bodyPost_ret (jQ rfl iV dP rfl rfl) rfl ?_;exact⟨fun s' e=>(by rw [ah fK] at e;cases e),fun _=>⟨_,_,_,_,_,_,_,rfl⟩,QB.bel.trans (bK.below QB.bel.size (fun k hk e=>by omega))⟩
 obtain⟨n,hn⟩:∃n:Nat,s.stk.length=n+tk.length:=⟨s.stk.length-tk.length,by omega⟩;have hn0:¬((s.stk.length:Int)-(tk.length:Int))<0:=by omega
 have hnn:((s.stk.length:Int)-(tk.length:Int))=(n:Int):=by omega
 have hdl:(s.stk.drop n).length=tk.length:=by rw [List.length_drop];omega
 have HN:=hide (show s.stk.length-tk.length=n by omega);rw [hnn] at hn0;have oI:=hide (And.intro hn hdl);clear hn hdl;go_wp2_with fail
 go_loopw [13] (fun i wr=>∃k:Nat,k≤tk.length∧i= .int .i64 k∧((((s.stk.drop n).take k).zip (tk.take k)).all fun x=>iD p x.1 x.2)=true∧Below U.heap.size U wr) (fun i _=>tk.length-(intOf i).toNat)
 case atStart=>exact ⟨0,Nat.zero_le _,rfl,rfl,Below.refl _ _⟩
 case round=>
  obtain⟨k,hk,rfl,hall,hbr⟩:=hrel;have IV:=IU.below hbr
  by_cases hlt:k<tk.length
  ·have hnk:n+k<s.stk.length:=by have:=(ah oI).1;omega
   obtain rfl:=hsa (bJ hnk);obtain rfl:=hta (bJ hlt);have x0:=Keeps.of_below IV.bel _ _ (ah vI (n+k) hnk);have y0:=Keeps.of_below hbr _ _ (ah Jz k hlt);have hx:=tS.2 _ (List.getElem_mem hnk);have hy:=hty _ (List.getElem_mem hlt);have hlt2:k<(s.stk.drop n).length:=by rw [(ah oI).2];exact hlt
   have xA:=SE (p:=p) hlt2 hlt;have hNo:=Me (fun x=>iD p x.1 x.2) hlt2 hlt;rw [List.getElem_drop] at xA hNo;have Jy:=hide xA;have Js:=hide hNo;generalize s.stk[n+k]=a at *;generalize tk[k]=t at *;clear xA hNo;have hwr:IntKind.i64.wrap ((n:Int)+(k:Int))=(n:Int)+(k:Int):=by rw [IntKind.wrap_i64];omega
   have htn:((n:Int)+(k:Int)).toNat=n+k:=by omega
   have k0:(0:Int)≤(k:Int):=by omega
   have k1:(k:Int)<(tk.length:Int):=by omega
   have k2:(0:Int)≤(n:Int)+(k:Int):=by omega
   have k3:(n:Int)+(k:Int)<(s.stk.length:Int):=by omega
   go_wp2_with fail
   have HO:=hide (fun Y (hY:Below wr.heap.size wr Y)=>And.intro ((IV.below hY).b0.cell 0) (And.intro ((IV.below hY).b3.cell 2) (And.intro (Keeps.of_below hY _ _ x0) (Keeps.of_below hY _ _ y0))));refine wp_region_noPanic ?_;refine wp_region_held_drew (S:=(fun w'=>w'.cell? ⟨w.heap.size,0,none⟩=some (.slice pa p.length aA)∧w'.cell? ⟨w.heap.size+1+1+1,2,none⟩=some (.slice (some ⟨sb,so,none⟩) s.stk.length scap)∧w'.cell? ⟨sb,so+(n+k),none⟩=some (.int .i64 a)∧w'.cell? ⟨tb,L9+k,none⟩=some (.int .i64 t))) (by kernel_rfl) ?_ (fun hHeld=>?_)
   ·exact (ah HO) _ gq
   refine au 58 0 ?_;refine au 59 1 ?_;refine au 60 2 ?_;refine au 61 3 ?_;refine au 62 4 ?_;refine au 63 5 ?_;refine au 64 6 ?_;refine au 65 7 ?_;refine au 66 8 ?_;refine au 67 9 ?_;refine au 68 10 ?_;refine au 69 11 ?_;refine aW 12 (fun K hK=>?_);go_simp;refine (U8 p _ a t wr.drew (aP (Keeps.of_below gq) (aP (Keeps.of_below IV.bel) (ah HP))) hs hpl hx hy).mono ?_;rintro e w1 ⟨rfl,hb1'⟩;have hb1:Below wr.heap.size wr w1:=⟨hb1'.os,hb1'.tape,hb1'.output,hb1'.size,hb1'.block⟩;have hr1:=hbr.trans (hb1.mono hbr.size);have I1:=IV.below hb1;have Jv:=hide hall;clear hb1' hall
   cases hq:iD p a t with
   | false =>
    have fK:Hid (fP p m ⟨2,xa,xb⟩ s=none):=by
     show _=_
     rw [ah HR];unfold x9;rw [if_neg hlen,ah HN,ah Js hq]
     rfl
    have QB:=I1;clear hq;go_wp2_with fail
    refine hK.out _ _ ((ah HO) _ hb1) (fun hHeld=>?_);clear hK K;try simp only [Act.put,aK,aO,aN]
    refine au 14 13 ?_;refine wpAnyH_done (by kernel_rfl) ?_ _;refine NoPanic.normal ?_;go_wp2_with (refine iZ iV QB.b4 0 [.bool false,.slice none 0 0,.slice none 0 0] rfl (by simp) Ec (.tmp 8) (.tmp 73) rfl rfl rfl rfl ?_;intro w6 dP bK hs6;rw [gB (by rfl)] at dP)
    refine bodyPost_ret (jQ rfl iV dP rfl rfl) rfl ?_;exact⟨fun s' e=>(by rw [ah fK] at e;cases e),fun _=>⟨_,_,_,_,_,_,_,rfl⟩,QB.bel.trans (bK.below QB.bel.size (fun k hk e=>by omega))⟩
   | true =>
    have HQ:Hid (((((s.stk.drop n).take (k+1)).zip (tk.take (k+1))).all fun x=>iD p x.1 x.2)=true):=by
     show _=_
     rw [ah Jy,ah Jv,hq]
     rfl
    clear hq;go_wp2_with fail
    refine hK.out _ _ ((ah HO) _ hb1) (fun hHeld=>?_);clear hK K;try simp only [Act.put,aK,aO,aN]
    refine au 14 13 ?_;refine wpAnyH_done (by kernel_rfl) ?_ _;refine NoPanic.normal ?_;go_wp2_with fail
    exact⟨⟨k+1,by omega,by go_num,ah HQ,hr1⟩,by simp [intOf];omega⟩
  ·obtain rfl:k=tk.length:=by omega
   have hfit:(((s.stk.drop n).zip tk).all fun x=>iD p x.1 x.2)=true:=by
    rw [List.take_length,List.take_of_length_le (by rw [(ah oI).2];exact Nat.le_refl _)] at hall;exact hall
   have HR2:Hid (fP p m ⟨2,xa,xb⟩ s=if (((s.stk.take n++lv.map (fD (s.stk.drop n))).length:Nat):Int)≤m.stack then some ⟨if 2=2 then s.loc.set xa.toNat (s.stk.getD n 0) else s.loc,s.stk.take n++lv.map (fD (s.stk.drop n))⟩ else none):=by
    show _=_
    rw [ah HR];unfold x9;rw [if_neg hlen,ah HN,hfit]
    rfl
   have ke:¬(tk.length:Int)<(tk.length:Int):=by omega
   clear hall hfit;have hi0:=IV.bel;have aaH:=IV.b4.lt;have J0:=gW.start (V:=wr) (B:=wr.heap.size+1) hi0;have hbx:=aS wr (.cells #[.bool true,.slice none 0 0,.slice none 0 0] 149);obtain⟨la',abh,hle,xH,Du⟩:=rH (ah BO).1
   cases hle
   obtain⟨a1,n1,cap1,w1,mW,c1,f1,gu,J1⟩:=J0.locals (by omega) (by simp) (by omega) (by omega) s.loc (by omega) la s.loc.length fG rfl (fun e=>⟨by rw [(xH e).1];rfl,(xH e).2⟩) (fun ad e j u h=>Keeps.of_below hbx _ _ (Keeps.of_below hi0 _ _ (Du ad e j u h)));have hS1:ay (fun j=>j=wr.heap.size) w1 (w1.setCell ⟨wr.heap.size,1,none⟩ (.slice a1 n1 cap1)):=(ay.refl (fun j=>j=wr.heap.size) w1).setCell (p:=⟨wr.heap.size,1,none⟩) (fun _=>rfl) _;have mX:Below wr.heap.size wr (w1.setCell ⟨wr.heap.size,1,none⟩ (.slice a1 n1 cap1)):=(hbx.trans (gu.mono hbx.size)).trans (hS1.below (Nat.le_trans hbx.size gu.size) (fun k hk e=>by omega));have K1:=IV.below mX
   have JW:(wr.alloc (.cells #[.bool true,.slice none 0 0,.slice none 0 0] 149)).cell? ⟨w.heap.size+1+1+1,1,none⟩=some (.slice la s.loc.length fG):=(IV.below hbx).b3.cell 1;have hs1:=Nat.le_trans hbx.size (Nat.le_trans gu.size hS1.size);have hs1':=Nat.le_trans gu.size hS1.size;rw [World.size_alloc] at hs1';have uj:=hide (And.intro J1 K1);have cop:(w1.setCell ⟨wr.heap.size,1,none⟩ (.slice a1 n1 cap1)).cell? ⟨w.heap.size+1+1,0,none⟩=some (.int .i64 2):=K1.b2.cell 0;clear J0 J1 gu hS1 K1 xH Du;go_wp2_with (at_builtin;refine wpList_append_run rfl (.tmp 76) (.tmp 78) 40 rfl _ _ rfl rfl mW ?_)
   generalize w1.setCell _ _=W1 at *;clear mW c1 f1 JW cop;have hl2:=(ah uj).1.rl;obtain⟨g,ES,hge,_,hgb,hgc⟩:=O6 hl2 (by omega)
   injection hge with e1 e2 e3
   subst e1 e2 e3;obtain⟨xn,rfl⟩:=Int.eq_ofNat_of_zero_le ahd;have hn1:n<s.stk.length:=by have:=(ah oI).1;have:=ah HTK;omega
   obtain rfl:=hsa (bJ hn1);have x0:=Keeps.of_below (ah uj).2.bel _ _ (ah vI n hn1);have hgd:s.stk.getD n 0=s.stk[n]:=by rw [List.getD_eq_getElem?_getD,List.getElem?_eq_getElem hn1];rfl
   have HGD:=hide hgd;clear hgd;generalize s.stk[n]=a at *;obtain⟨J2,hM2⟩:=(ah uj).1.set (by omega) hgb xn a;have hgw:=(hl2.lt g hgb).1;have ZV:Below wr.heap.size wr (W1.setCell ⟨g,xn,none⟩ (.int .i64 a)):=mX.trans (hM2.below mX.size (fun k hk e=>by omega));have K2:=IV.below ZV;have r1:W1.cell? ⟨wr.heap.size,1,none⟩=some (.slice (some ⟨g,0,none⟩) s.loc.length cap1):=(ah uj).1.box.cell 1;have r2:W1.cell? ⟨w.heap.size+1+1,1,none⟩=some (.int .i64 (xn:Int)):=(ah uj).2.b2.cell 1;have r3:W1.cell? ⟨w.heap.size+1+1+1,2,none⟩=some (.slice (some ⟨sb,so,none⟩) s.stk.length scap):=(ah uj).2.b3.cell 2
   have r4:(W1.setCell ⟨g,xn,none⟩ (.int .i64 a)).cell? ⟨wr.heap.size,1,none⟩=some (.slice (some ⟨g,0,none⟩) s.loc.length cap1):=J2.box.cell 1;have r5:(W1.setCell ⟨g,xn,none⟩ (.int .i64 a)).cell? ⟨w.heap.size+1+1,1,none⟩=some (.int .i64 (xn:Int)):=K2.b2.cell 1;have r6:(W1.setCell ⟨g,xn,none⟩ (.int .i64 a)).cell? ⟨w.heap.size+1+1+1,2,none⟩=some (.slice (some ⟨sb,so,none⟩) s.stk.length scap):=K2.b3.cell 2;have ag6:=cell_lt (ah vI n hn1);have r7:=hM2.cell x0 (by dsimp only;dsimp only at ag6;omega);have fzg:W1.frozen? ⟨g,xn,none⟩=false:=(by obtain⟨cur,hcb⟩:=lD hl2 hgb;exact hcb.frozen xn)
   have cg:∃u,W1.cell? ⟨g,xn,none⟩=some u:=⟨_,(hgc xn (by omega)).trans (List.getElem?_eq_getElem (by simp;omega))⟩;obtain⟨cu,cg⟩:=cg;have n0':(0:Int)≤(n:Int):=by omega
   have alx:(n:Int)<(s.stk.length:Int):=by omega
   have xn1:(xn:Int)<(s.loc.length:Int):=by omega
   have xn0:(0:Int)≤(xn:Int):=by omega
   refine wp_region_noPanic ?_;refine wp_region_held_drew (S:=(fun w'=>w'.cell? ⟨wr.heap.size,1,none⟩=some (.slice (some ⟨g,0,none⟩) s.loc.length cap1)∧w'.cell? ⟨w.heap.size+1+1,1,none⟩=some (.int .i64 (xn:Int))∧w'.cell? ⟨w.heap.size+1+1+1,2,none⟩=some (.slice (some ⟨sb,so,none⟩) s.stk.length scap)∧w'.cell? ⟨sb,so+n,none⟩=some (.int .i64 a))) (by kernel_rfl) ?_ (fun hHeld=>?_)
   ·exact⟨r1,r2,r3,x0⟩
   refine au 84 0 ?_;refine au 85 1 ?_;refine au 86 2 ?_;refine au 87 3 ?_;refine au 88 4 ?_;refine au 89 5 ?_;refine au 90 6 ?_;refine au 91 7 ?_;refine au 92 8 ?_;refine au 93 9 ?_;refine aW 10 (fun K hK=>?_);go_simp;refine hK.out _ _ ⟨r4,r5,r6,r7⟩ (fun hHeld=>?_);clear hK K;try simp only [Act.put]
   refine wpAnyH_done (by kernel_rfl) ?_ _;refine NoPanic.normal ?_;go_wp2_with fail
   obtain⟨W2,loc',hW2,hloc',HJ2⟩:∃W2 loc',W2=(W1.setCell ⟨g,xn,none⟩ (.int .i64 a)).drew∧loc'=s.loc.set xn a∧Hid (gW w W2 (wr.heap.size+1) wr.heap.size (.slice (some ⟨g,0,none⟩) s.loc.length cap1) loc' (.slice none 0 0) []∧pF w W2 p m s 2 (xn:Int) xb (.slice pa p.length aA) (.slice aa m.args.length aI) (.slice ca m.code.length aF) (.slice fa m.frames.length aG) (.slice la s.loc.length fG) (.slice (some ⟨sb,so,none⟩) s.stk.length scap) ib):=⟨_,_,rfl,rfl,J2.below gq,K2.below gq⟩;have agr:=ZV.drew;have ak8:=Nat.le_trans hs1' hM2.size;clear mX hs1';have mX:=agr;clear r1 r2 r3 r4 r5 r6 r7 x0 cg fzg hM2 J2 K2 hgc;rw [←hW2] at mX ⊢
   have hs1':wr.heap.size+1≤W2.heap.size:=by rw [hW2];show _≤(W1.setCell _ _).heap.size;omega
   clear uj hW2;have z2:W2.cell? ⟨w.heap.size+1+1+1,2,none⟩=some (.slice (some ⟨sb,so,none⟩) s.stk.length scap):=(ah HJ2).2.b3.cell 2;have z3:W2.cell? ⟨wr.heap.size,2,none⟩=some (.slice none 0 0):=(ah HJ2).1.box.cell 2;obtain⟨sa',ach,hse,xP,Dz⟩:=rH (ah BO).2
   cases hse
   have Dx:n≤s.stk.length:=by have:=(ah oI).1;omega
   have n0:(0:Int)≤(n:Int):=by omega
   have n1':(n:Int)≤(s.stk.length:Int):=by omega
   have n2':(n:Int)≤(scap:Int):=by omega
   refine wp_region_noPanic ?_;refine wp_region_held_drew (S:=(fun w'=>w'.cell? ⟨w.heap.size+1+1+1,2,none⟩=some (.slice (some ⟨sb,so,none⟩) s.stk.length scap))) (by kernel_rfl) ?_ (fun hHeld=>?_)
   ·exact z2
   refine au 94 0 ?_;refine au 96 2 ?_;refine au 97 3 ?_;refine au 98 4 ?_;refine dL (some 99) (i:=5) (v:=.slice (some ⟨sb,so,none⟩) n scap) rfl rfl (by kernel_rfl) (by kernel_rfl) (by kernel_rfl) (fun _ _ _ h=>h) (Or.inl ⟨by rfl,fun w' hSw=>by (try dsimp only at hSw);go_simp⟩) (by assumption) ?_;try simp only [Act.put,aK,aO,aN]
   have BR:=(ah HJ2).1.below gq;have BU:=(ah HJ2).2.below gq;have hsz2:W2.drew.heap.size=W2.heap.size:=rfl
   obtain⟨a3,n3,cap3,w3,Dj,c3,f3,dh,J3⟩:=BR.more (by omega) (by omega) (by omega) (by omega) (by simp) (s.stk.take n) (by rw [List.length_take];omega) (some ⟨sb,so,none⟩) n scap (by rw [List.length_take];omega) (fun e=>⟨by have:=(xP e).1;rw [this] at Dx;simpa using Dx,(xP e).2⟩) (fun ad e j u h=>Keeps.of_below BU.bel _ _ (Dz ad e j u (by
    rw [List.map_take,List.getElem?_take] at h
    split at h
    ·exact h
    ·cases h)))
   have hS3:ay (fun j=>j=wr.heap.size) w3 (w3.setCell ⟨wr.heap.size,2,none⟩ (.slice a3 n3 cap3)):=(ay.refl (fun j=>j=wr.heap.size) w3).setCell (p:=⟨wr.heap.size,2,none⟩) (fun _=>rfl) _;have xw:Below wr.heap.size W2 w3:=(gq.mono (by omega)).trans (dh.below (by omega) (fun k hk e=>by cases e));have Dl:Below wr.heap.size wr (w3.setCell ⟨wr.heap.size,2,none⟩ (.slice a3 n3 cap3)):=mX.trans (xw.trans (hS3.below (by have:=dh.size;omega) (fun k hk e=>by omega)));have K3:=IV.below Dl;have z4:w3.cell? ⟨w.heap.size+1+1+1,2,none⟩=some (.slice (some ⟨sb,so,none⟩) s.stk.length scap):=(IV.below (mX.trans xw)).b3.cell 2
   have z5:(w3.setCell ⟨wr.heap.size,2,none⟩ (.slice a3 n3 cap3)).cell? ⟨w.heap.size+1+1+1,2,none⟩=some (.slice (some ⟨sb,so,none⟩) s.stk.length scap):=K3.b3.cell 2;have Lc:wr.heap.size+1≤(w3.setCell ⟨wr.heap.size,2,none⟩ (.slice a3 n3 cap3)).heap.size:=by have:=dh.size;have:=hS3.size;omega
   have pz:=hide (And.intro J3 K3);clear BR BU J3 K3 dh xw hS3 xP Dz;refine aW 1 (fun K hK=>?_);go_simp;refine hK.out _ _ z2 (fun hHeld=>?_);clear hK K;try simp only [Act.put,aK,aO,aN]
   refine aW 6 (fun K hK=>?_);refine wp_append_run (.tmp 95) (.tmp 99) 40 rfl _ _ rfl rfl Dj ?_;go_simp;refine hK.out _ _ z4 (fun hHeld=>?_);clear hK K;try simp only [Act.put,aK,aO,aN]
   refine au 101 7 ?_;refine aW 8 (fun K hK=>?_);go_simp;refine hK.out _ _ z5 (fun hHeld=>?_);clear hK K;try simp only [Act.put,aK,aO,aN]
   refine wpAnyH_done (by kernel_rfl) ?_ _;refine NoPanic.normal ?_;generalize w3.setCell _ _=W3 at *;clear Dj c3 f3 z2 z3 z4 z5 HJ2 mX;rw [List.nil_append] at pz;obtain⟨zh,vb,vo,fJ,rfl,_,hva,DC⟩:=jo (dA jk hl);have JA:=hide DC;clear DC;have Dq:=hbr;have hkw:=IV;go_wp2_with fail
   obtain⟨w9,rfl⟩:∃w9:World,w9=wr:=⟨_,rfl⟩
   go_loopw [16] (fun i V=>∃(k:Nat) (vs':Value),k≤lv.length∧i= .int .i64 k∧gW w V (w9.heap.size+1) w9.heap.size (.slice (some ⟨g,0,none⟩) s.loc.length cap1) loc' vs' (s.stk.take n++(lv.take k).map (fD (s.stk.drop n)))∧pF w V p m s 2 (xn:Int) xb (.slice pa p.length aA) (.slice aa m.args.length aI) (.slice ca m.code.length aF) (.slice fa m.frames.length aG) (.slice la s.loc.length fG) (.slice (some ⟨sb,so,none⟩) s.stk.length scap) ib∧Below w9.heap.size w9 V∧w9.heap.size+1≤V.heap.size) (fun i _=>lv.length-(intOf i).toNat)
   case atStart=>exact ⟨0,_,Nat.zero_le _,rfl,by simpa using (ah pz).1,(ah pz).2,Dl,Lc⟩
   case round=>
    obtain⟨k,vs',hk,rfl,JJ,KK,eY,Ie⟩:=hrel;obtain⟨D6,D7,rfl⟩:=cZ JJ.rs;obtain⟨sl,hsl⟩:∃sl,sl=(s.stk.take n++(lv.take k).map (fD (s.stk.drop n))).length:=⟨_,rfl⟩;rw [←hsl] at JJ;have HSL:=hide hsl;clear hsl;have z6:wr.cell? ⟨w9.heap.size,2,none⟩=some _:=JJ.box.cell 2;have z7:wr.cell? ⟨w.heap.size+1+1+1,2,none⟩=some (.slice (some ⟨sb,so,none⟩) s.stk.length scap):=KK.b3.cell 2
    by_cases hlt:k<lv.length
    ·obtain rfl:=hva (bJ hlt);have y0:=Keeps.of_below (Dq.trans (eY.mono Dq.size)) _ _ (ah JA k hlt);have hlk:=List.getElem?_eq_getElem hlt;have hneg:=xM _ (List.getElem_mem hlt);generalize lv[k]=t at *;have k0:(0:Int)≤(k:Int):=by omega
     have k1:(k:Int)<(lv.length:Int):=by omega
     by_cases ht0:t<0
     ·obtain⟨j,hj⟩:∃j:Nat,t= -1-(j:Int):=⟨(-1-t).toNat,by omega⟩;have hjt:j<tk.length:=by have:=hneg ht0;omega
      have yX:n+j<s.stk.length:=by have:=(ah oI).1;omega
      have x0:=Keeps.of_below KK.bel _ _ (ah vI (n+j) yX)
      have hrl:fD (s.stk.drop n) t=s.stk[n+j]:=by
       unfold fD;rw [if_pos ht0,show (-1-t).toNat=j by omega,List.getD_eq_getElem?_getD,List.getElem?_drop,List.getElem?_eq_getElem yX]
       rfl
      generalize s.stk[n+j]=a at *;have q1:(n:Int)-1-t=(n:Int)+(j:Int):=by omega
      have q2:((n:Int)+(j:Int)).toNat=n+j:=by omega
      have q3:(0:Int)≤(n:Int)+(j:Int):=by omega
      have q4:(n:Int)+(j:Int)<(s.stk.length:Int):=by omega
      have q5: -200≤t:=by omega
      have WB:=hide hj;clear hj;obtain⟨a5,n5,cap5,w5,oq,c5,f5,bU,J5⟩:=JJ.one (by omega) (by omega) (by omega) (by omega) (by rw [List.length_append,List.length_take,List.length_map,List.length_take];omega) a;have hS5:ay (fun j=>j=w9.heap.size) w5 (w5.setCell ⟨w9.heap.size,2,none⟩ (.slice a5 n5 cap5)):=(ay.refl (fun j=>j=w9.heap.size) w5).setCell (p:=⟨w9.heap.size,2,none⟩) (fun _=>rfl) _;have jJ:Below w9.heap.size w9 (w5.setCell ⟨w9.heap.size,2,none⟩ (.slice a5 n5 cap5)):=eY.trans ((bU.below eY.size (fun k hk e=>by have:=(JJ.rs.lt k e).1;omega)).trans (hS5.below (Nat.le_trans eY.size bU.size) (fun k hk e=>by omega)))
      have hs5:w9.heap.size+1≤(w5.setCell ⟨w9.heap.size,2,none⟩ (.slice a5 n5 cap5)).heap.size:=by have:=bU.size;have:=hS5.size;omega
      have HE:=hide (And.intro J5 (And.intro (IV.below jJ) (And.intro jJ hs5)));have pX:=hide (show s.stk.take n++(lv.take (k+1)).map (fD (s.stk.drop n))=s.stk.take n++(lv.take k).map (fD (s.stk.drop n))++ [a] by rw [List.take_add_one,hlk,List.map_append,List.append_assoc];simp only [Option.toList_some,List.map_cons,List.map_nil];rw [hrl]);clear J5 bU hS5 jJ;go_wp2_with (at_builtin;refine wpList_append_run rfl (.tmp 123) (.tmp 125) 40 rfl _ _ rfl rfl oq ?_)
      refine⟨⟨k+1,.slice a5 n5 cap5,by omega,by go_num,?_,(ah HE).2.1,(ah HE).2.2.1,(ah HE).2.2.2⟩,by simp [intOf];omega⟩;rw [ah pX];exact (ah HE).1
     ·have hrl:fD (s.stk.drop n) t=t:=by unfold fD;rw [if_neg ht0]
      obtain⟨a5,n5,cap5,w5,oq,c5,f5,bU,J5⟩:=JJ.one (by omega) (by omega) (by omega) (by omega) (by rw [List.length_append,List.length_take,List.length_map,List.length_take];omega) t;have hS5:ay (fun j=>j=w9.heap.size) w5 (w5.setCell ⟨w9.heap.size,2,none⟩ (.slice a5 n5 cap5)):=(ay.refl (fun j=>j=w9.heap.size) w5).setCell (p:=⟨w9.heap.size,2,none⟩) (fun _=>rfl) _;have jJ:Below w9.heap.size w9 (w5.setCell ⟨w9.heap.size,2,none⟩ (.slice a5 n5 cap5)):=eY.trans ((bU.below eY.size (fun k hk e=>by have:=(JJ.rs.lt k e).1;omega)).trans (hS5.below (Nat.le_trans eY.size bU.size) (fun k hk e=>by omega)))
      have hs5:w9.heap.size+1≤(w5.setCell ⟨w9.heap.size,2,none⟩ (.slice a5 n5 cap5)).heap.size:=by have:=bU.size;have:=hS5.size;omega
      have HE:=hide (And.intro J5 (And.intro (IV.below jJ) (And.intro jJ hs5)));have pX:=hide (show s.stk.take n++(lv.take (k+1)).map (fD (s.stk.drop n))=s.stk.take n++(lv.take k).map (fD (s.stk.drop n))++ [t] by rw [List.take_add_one,hlk,List.map_append,List.append_assoc];simp only [Option.toList_some,List.map_cons,List.map_nil];rw [hrl]);clear J5 bU hS5 jJ;go_wp2_with (at_builtin;refine wpList_append_run rfl (.tmp 123) (.tmp 125) 40 rfl _ _ rfl rfl oq ?_)
      refine⟨⟨k+1,.slice a5 n5 cap5,by omega,by go_num,?_,(ah HE).2.1,(ah HE).2.2.1,(ah HE).2.2.2⟩,by simp [intOf];omega⟩;rw [ah pX];exact (ah HE).1
    ·obtain rfl:k=lv.length:=by omega
     have Us:¬(lv.length:Int)<(lv.length:Int):=by omega
     rw [List.take_length] at JJ HSL;have hbW:=KK.bel;go_wp2_with fail
     have g0:wr.cell? ⟨w9.heap.size,0,none⟩=some (.bool true):=JJ.box.cell 0;have g1:wr.cell? ⟨w9.heap.size,1,none⟩=some (.slice (some ⟨g,0,none⟩) s.loc.length cap1):=JJ.box.cell 1;have g3:wr.cell? ⟨w.heap.size+1,4,none⟩=some (.int .i64 m.stack):=KK.b1.cell 4;have Ei:=hide (And.intro JJ KK);have b4:=KK.b4;have hl5:=IV.b4.lt;have Ju:=hide (fun Y (hY:ay (fun k=>k=w.heap.size+1+1+1+1) wr Y)=>And.intro ((JJ.box.mods hY (by omega)).cell 0) (And.intro ((JJ.box.mods hY (by omega)).cell 1) (And.intro ((JJ.box.mods hY (by omega)).cell 2) ((KK.b1.mods hY (by omega)).cell 4))));clear JJ KK;refine wp_region_noPanic ?_
     refine wp_region_held_drew (S:=(fun w'=>w'.cell? ⟨w9.heap.size,0,none⟩=some (.bool true)∧w'.cell? ⟨w9.heap.size,1,none⟩=some (.slice (some ⟨g,0,none⟩) s.loc.length cap1)∧w'.cell? ⟨w9.heap.size,2,none⟩=some (.slice D6 sl D7)∧w'.cell? ⟨w.heap.size+1,4,none⟩=some (.int .i64 m.stack))) (by kernel_rfl) ?_ (fun hHeld=>?_)
     ·exact⟨g0,g1,z6,g3⟩
     refine au 128 0 ?_;refine au 129 1 ?_;refine au 130 2 ?_;refine au 131 3 ?_;refine au 132 4 ?_;refine au 133 5 ?_;refine au 134 6 ?_;refine aW 7 (fun K hK=>?_);refine oZ iV b4.drew 0 [.bool true,.slice (some ⟨g,0,none⟩) s.loc.length cap1,.slice D6 sl D7] rfl (by simp) (fun u hu=>by simp only [List.mem_cons,List.not_mem_nil,or_false] at hu;rcases hu with rfl | rfl | rfl <;> rfl) (.tmp 8) (.tmp 128) rfl rfl rfl ?_;intro w6 dP bK hs6;rw [gB (by rfl)] at dP;have pO:ay (fun k=>k=w.heap.size+1+1+1+1) wr w6:=⟨bK.os,bK.tape,bK.output,bK.size,bK.block⟩;refine hK.out _ _ ((ah Ju) _ pO) (fun hHeld=>?_);clear hK K
     try simp only [Act.put]
     refine au 9 8 ?_;refine wpAnyH_done (by kernel_rfl) ?_ _;refine NoPanic.normal ?_;go_wp2_with fail
     refine bodyPost_ret (jQ rfl iV dP rfl rfl) rfl ?_;have hrd:=(ah Ei).1.read;have hfb:=hbW.trans (pO.below hbW.size (fun k hk e=>by omega))
     by_cases sU:(sl:Int)≤m.stack
     ·have oh:fP p m ⟨2,(xn:Int),xb⟩ s=some ⟨loc',s.stk.take n++lv.map (fD (s.stk.drop n))⟩:=by
       rw [ah HR2,if_pos (by rw [←ah HSL];exact sU),hloc'];simp only [if_true,Int.toNat_natCast,ah HGD]
      refine⟨fun s' e=>?_,fun e=>(by rw [oh] at e;cases e),hfb⟩;rw [oh] at e
      cases e
      refine⟨_,_,(by show Ending.returned (.tuple #[_,.bool (decide _)])=_;rw [decide_eq_true sU]),dG.keep (dR pO fun k _ hk=>⟨fun e=>by omega,by omega⟩) hrd⟩
     ·have oh:fP p m ⟨2,(xn:Int),xb⟩ s=none:=by
       rw [ah HR2,if_neg (by rw [←ah HSL];exact sU)]
      refine⟨fun s' e=>(by rw [oh] at e;cases e),fun _=>⟨_,_,_,_,_,_,_,(by show Ending.returned (.tuple #[_,.bool (decide _)])=_;rw [decide_eq_false sU])⟩,hfb⟩
theorem ajj (p:List aj)(vc:Value)(m:aC)(va aQ vf:Value)(x:eF)(s:aH)(ib:Bool)(vl vs:Value)(w:World)(hp:aX w vc p)(hv:bV w.cell? m va aQ vf)(hF:bD p=0)(hz:bn p≤4194304)(M:vJ p m)(hi:bC p m x=true)(hS:dG w.cell? s vl vs)(tS:gI p s)(hl:(s.loc.length:Int)=m.locals)(hk:(s.stk.length:Int)≤m.stack) :
  Calls Tryz.prog 96 #[.agg #[vc],bP m va aQ vf,.agg #[.int .i64 x.op,.int .i64 x.a,.int .i64 x.b],.agg #[.bool ib,vl,vs]] w fun e w'=>GH p m x s w w' e:=by
 have G:=CW hF hz;obtain⟨op,xa,xb⟩:=x;have J:=AO hi;have hml:=M.loc;have hms:=M.stk
 have ZM:op=12→(cO p xa xb).args.length≤3:=fun h=>by
  have hc:=J.cls (by omega);have:=(vO.1 (af0 hF (J.call h))).2.2.1;omega
 have hty:=aiL (p:=p) (m:=m) (x:=⟨op,xa,xb⟩) (fun h=>J.cls (by dsimp only at h;omega)) (fun h=>by
  have hc:=J.cls (by dsimp only at h;omega);have hf:=J.pJ (by dsimp only at h;omega);obtain⟨j,hj⟩:=Int.eq_ofNat_of_zero_le hf.1
  show bT p.length (jm p xa xb)
  rw [hj];exact G.pJ xa j hc.1 hc.2 (by omega)) (fun h=>by
  have hc:=J.cls (by dsimp only at h;omega)
  exact (G.arg xa xb hc.1 hc.2 (J.call h)).1) M.ret
 have xM:=aiK (p:=p) (m:=m) (x:=⟨op,xa,xb⟩) (fun h=>(J.cls (by dsimp only at h;omega)).1) (fun h=>by
  have hc:=J.cls (by dsimp only at h;omega);have hf:=J.pJ (by dsimp only at h;omega);obtain⟨j,hj⟩:=Int.eq_ofNat_of_zero_le hf.1
  show 0≤jm p xa xb
  rw [hj];exact (G.pJ xa j hc.1 hc.2 (by omega)).1) (fun h=>by
  have hc:=J.cls (by dsimp only at h;omega)
  exact (G.arg xa xb hc.1 hc.2 (J.call h)).2.1)
 obtain⟨n1,n2⟩:=aiJ (p:=p) (m:=m) (x:=⟨op,xa,xb⟩) (N:=100) (by omega) (fun h=>by have:=ZM h;show 1+(cO p xa xb).args.length≤100;omega)
 by_cases h1:op=1
 ·subst h1;have hx:=J.loc (.inl rfl);exact ajk p vc m va aQ vf xa xb s ib vl vs w hp hv G.sup hz J hS tS (by omega) (by omega) (by omega) hty xM n1 n2
 by_cases h2:op=2
 ·subst h2;have hx:=J.loc (.inr rfl);exact ajl p vc m va aQ vf xa xb s ib vl vs w hp hv G.sup hz J hS tS (by omega) (by omega) (by omega) hty xM n1 n2
 exact ajm p vc m va aQ vf op xa xb s ib vl vs w hp hv G.sup hz J (fun h=>by have:=ZM h;omega) hS tS (by omega) (by omega) hty xM n1 n2 h1 h2
end Go.Proofs.YtiiokkllmchohaaGreat
namespace Go.Proofs.YtiiokkllmchohaaGreat
open Go.RowKit Go.Shelf
def qM (p:List aj)(m:aC)(s:aH):Prop:=gI p s∧(s.loc.length:Int)=m.locals∧(s.stk.length:Int)≤m.stack
theorem abP {p:List aj}{m:aC}{x:eF}{s s':aH}(G:Good p)(M:vJ p m)(hi:bC p m x=true)(h:qM p m s)(e:fP p m x s=some s'):qM p m s':=by
 obtain⟨h1,h2,h3⟩:=h;have J:=AO (p:=p) (m:=m) (op:=x.op) (a:=x.a) (b:=x.b) hi
 have hd:aY p m x s=some s':=by
  rw [←abO h3 (fun t ht=>(h1.1 t ht).1) (fun h=>(J.cls (by omega)).1) (fun h=>by
   have hc:=J.cls (by omega);have hf:=J.pJ (by omega);obtain⟨j,hj⟩:=Int.eq_ofNat_of_zero_le hf.1;rw [hj];exact (G.pJ x.a j hc.1 hc.2 (by omega)).1) (fun h=>by
   have hc:=J.cls (by omega);obtain⟨a1,a2⟩:=G.arg x.a x.b hc.1 hc.2 (J.call h)
   exact⟨fun t ht=>(a1 t ht).1,a2.1⟩) M.ret.1]
  exact e
 refine⟨YN G J h1 hd,?_,?_⟩
 ·rcases YM hd h3 with h | ⟨_,t,h⟩
  ·rw [h];exact h2
  ·rw [h,List.length_set];exact h2
 ·unfold fP at e
  by_cases c1:x.op=1∧s.loc.getD x.a.toNat 0=2
  ·rw [if_pos c1] at e;cases e
  rw [if_neg c1] at e
  by_cases c2:s.stk.length<(bZ p m x).1.length
  ·rw [if_pos c2] at e;cases e
  rw [if_neg c2] at e
  by_cases c3:(((s.stk.drop (s.stk.length-(bZ p m x).1.length)).zip (bZ p m x).1).all fun x=>iD p x.1 x.2)=true
  ·rw [if_pos c3] at e
   by_cases c4:(((s.stk.take (s.stk.length-(bZ p m x).1.length)++(if x.op=1 then [s.loc.getD x.a.toNat 0] else (bZ p m x).2).map (fD (s.stk.drop (s.stk.length-(bZ p m x).1.length)))).length:Nat):Int)≤m.stack
   ·rw [if_pos c4] at e
    cases e
    exact c4
   ·rw [if_neg c4] at e;cases e
  ·rw [if_neg c3] at e;cases e
section
variable {w V V' : World} {p : List aj} {m : aC} {bh : Nat} {vp mJ mM lS : Value} {h : Option aH} {vl vs : Value}
def xE (h:Option aH):aH:=h.getD ⟨[],[]⟩
end
section
variable {p : List aj} {m : aC} {c : Int}
def wF (p:List aj)(m:aC)(s:aH):Prop:=s.loc.length=8∧Hi m s∧(s.stk.length:Int)≤m.stack∧gI p s
theorem Sm (h0:0≤m.locals)(h8:m.locals≤8){s:aH}(hs:s.loc.length=8):((dQ m s).loc.length:Int)=m.locals:=by
 unfold dQ;simp [hs];omega
theorem ako (h0:0≤m.locals)(h8:m.locals≤8){s t:aH}(hs:s.loc.length=8)(ht:t.loc.length=8)(hi:Hi m t):uY p (dQ m s) (dQ m t)=jw p s t:=by
 rw [←afa (p:=p) hs ht hi h0 h8];unfold uY jw
 have e:((dQ m s).loc.length == (dQ m t).loc.length)=true:=by
  have a:=Sm h0 h8 hs;have b:=Sm h0 h8 ht;simp;omega
 rw [e,Bool.and_true,Bool.and_assoc,Bool.and_assoc,Bool.and_comm (((dQ m s).stk.zip _).all _)]
end
end Go.Proofs.YtiiokkllmchohaaGreat
namespace Go.Proofs.YtiiokkllmchohaaGreat
open Go.RowKit Go.Shelf
attribute [local go_sem ↓] Go.wp_at_zero Go.wp_at_succ
attribute [local go_sem] bW
theorem GH.form {p:List aj}{m:aC}{x:eF}{s:aH}{w w':World}{e:Ending}(h:GH p m x s w w' e):∃q a n c a' n' c' ok,e= .returned (.tuple #[.agg #[.bool q,.slice a n c,.slice a' n' c'],.bool ok])∧(∀s',fP p m x s=some s'→q=true∧ok=true∧Gx w.heap.size w' s' (.slice a n c) (.slice a' n' c'))∧(fP p m x s=none→ok=false)∧Below w.heap.size w w':=by
 obtain⟨h1,h2,h3⟩:=h
 cases hr:fP p m x s with
 | none =>
  obtain⟨q,a,n,c,a',n',c',rfl⟩:=h2 hr;exact⟨q,a,n,c,a',n',c',false,rfl,fun s' e=>(by cases e),fun _=>rfl,h3⟩
 | some s' =>
  obtain⟨vl,vs,rfl,hS⟩:=h1 s' hr;obtain⟨a,_,_,c,rfl,_⟩:=hS.1;obtain⟨a',_,_,c',rfl,_⟩:=hS.2;exact⟨true,_,_,_,_,_,_,true,rfl,fun s e=>(by cases e;exact⟨rfl,rfl,hS⟩),fun e=>(by cases e),h3⟩
theorem aht {g:Addr→Option Value}{v:Value}{l:List Int}(h:aV 1 (fE g) v l):∃a b o c,v= .slice a l.length c∧l.length≤c∧(l≠[]→a=some ⟨b,o,none⟩)∧∀(j:Nat) (hj:j<l.length),g ⟨b,o+j,none⟩=some (.int .i64 l[j]):=by
 obtain⟨a,b,o,c,e,h1,h2,h3⟩:=aZ h;refine⟨a,b,o,c,e,h1,h2,fun j hj=>?_⟩;have h9:g ⟨b,o+j*1,none⟩=some (.int .i64 l[j]):=h3 j hj;rw [Nat.mul_one] at h9;exact h9
theorem Iz {q:Bool}{a a':Option Addr}{n c n' c':Nat} :∀u∈[Value.bool q,.slice a n c,.slice a' n' c'],u.oneCell'=true:=fun u hu=>by
 simp only [List.mem_cons,List.not_mem_nil,or_false] at hu
 rcases hu with rfl | rfl | rfl <;> rfl
end Go.Proofs.YtiiokkllmchohaaGreat
