/- The document's Certify: rows that grow in a box. -/
import Derived.Test.YtiiokkllmchohaaGreatT26
import Derived.Test.YtiiokkllmchohaaGreatT37
import Derived.Test.YtiiokkllmchohaaGreatT38
import Derived.Test.YtiiokkllmchohaaGreatT39
import Derived.Test.YtiiokkllmchohaaGreatT40
import Derived.Test.YtiiokkllmchohaaGreatT42
import Derived.Test.YtiiokkllmchohaaGreatT45
import Derived.Test.YtiiokkllmchohaaGreatT46
set_option maxHeartbeats 4000000
set_option maxRecDepth 100000
namespace Go.Proofs.YtiiokkllmchohaaGreat
open Go.RowKit Go.Shelf
abbrev Eu (n bx:Nat)(v:Value):Nat→Prop:=fun g=>(g<n∨bx<g)∧v.ownBlock≠some g
def zx {α :Type}(E:TypeId)(sz:Nat)(C:(Addr→Option Value)→α→List Value→Prop)(n:Nat)(V:World)(bx:Nat)(v:Value)(q:List α):Prop:=
 ∃cs,V.ownsRow (bx+1) E sz v q.length cs∧iU sz (C (sel (Eu n bx v) V)) cs q
section
variable {α : Type} {E : TypeId} {sz n : Nat} {C : (Addr → Option Value) → α → List Value → Prop} {V V' : World} {bx : Nat} {v v' : Value} {q : List α}
theorem zx.below (hK:∀g g' x c,dM g g'→C g x c→C g' x c)(i:zx E sz C n V bx v q)(b:Below V.heap.size V V'):zx E sz C n V' bx v q:=by
 obtain⟨cs,hO,hR⟩:=i;exact⟨cs,eP hO (ay.of_below b) (fun g hg e=>by have:=(hO.lt g hg).2;omega),hR.mono fun x c hc=>hK _ _ _ _ (dR (ay.of_below b) fun k hk hS=>⟨fun e=>by omega,hS⟩) hc⟩
theorem zx.next (hK:∀g g' x c,dM g g'→C g x c→C g' x c){cs:List Value}(hR:iU sz (C (sel (Eu n bx v) V)) cs q)(hlt:∀g,v.ownBlock=some g→bx+1≤g)(hn:n≤bx){B:Nat}(Ai:∀g,v.ownBlock=some g→g<B)(hB:bx<B){x: α}{c:List Value}(hc:C (sel (fun k=>k<n∨B≤k) V) x c)(hl:c.length=sz)
  (iR:V'.ownsRow (bx+1) E sz v' (q.length+1) (cs++c)) (hM:ay (fun k=>v.ownBlock=some k) V V') (hv:v'.ownBlock=v.ownBlock∨∃k,V.heap.size≤k∧v'.ownBlock=some k) (i:Nat):zx E sz C n (V'.setCell ⟨bx,i,none⟩ v') bx v' (q++ [x]):=by
 have hM2:ay (fun k=>k=bx) V' (V'.setCell ⟨bx,i,none⟩ v'):=(ay.refl (fun k=>k=bx) V').setCell (p:=⟨bx,i,none⟩) (fun _=>rfl) _
 have hold:dM (sel (Eu n bx v) V) (sel (Eu n bx v') (V'.setCell ⟨bx,i,none⟩ v')):=
  (dR (S':=Eu n bx v') hM fun k hk hS=>⟨hS.2,hS.1,fun e=>by
    rcases hv with hv | ⟨k',hk',hv⟩
    ·exact hS.2 (by rw [←hv];exact e)
    ·rw [hv] at e
     cases e
     omega⟩).trans (dR hM2 fun k hk hS=>⟨fun e=>by have:=hS.1;omega,hS⟩)
 have hnew:dM (sel (fun k=>k<n∨B≤k) V) (sel (Eu n bx v') (V'.setCell ⟨bx,i,none⟩ v')):=
  (dR (S':=Eu n bx v') hM fun k hk hS=>⟨fun e=>by have:=Ai k e;have:=hlt k e;omega,by omega,fun e=>by
    rcases hv with hv | ⟨k',hk',hv⟩
    ·have:=Ai k (by rw [←hv];exact e);have:=hlt k (by rw [←hv];exact e);omega
    ·rw [hv] at e
     cases e
     omega⟩).trans (dR hM2 fun k hk hS=>⟨fun e=>by have:=hS.1;omega,hS⟩)
 exact⟨_,by simpa using eP iR hM2 (fun g hg e=>by have:=(iR.lt g hg).1;omega),(hR.mono fun y c hc=>hK _ _ _ _ hold hc).snoc (hK _ _ _ _ hnew hc) hl⟩
end
theorem Yl:∀(g g':Addr→Option Value) (x:aj) (c:List Value),dM g g'→tY g x c→tY g' x c:=fun _ _ _ _ h r=>tY.keep h r
theorem abr:∀(g g':Addr→Option Value) (x:aC) (c:List Value),dM g g'→qK g x c→qK g' x c:=fun _ _ _ _ h r=>qK.keep h r
theorem ahp:(Tryz.prog.info? 63).map (fun i=>(i.zero,i.size,i.bytes))=some (some (.agg #[.int .i64 0,.slice none 0 0,.int .i64 0,.int .i64 0,.int .i64 0,.slice none 0 0,.slice none 0 0]),7,104):=by kernel_rfl
structure yG (n:Nat)(Vc V:World)(kR:Nat)(vp vf vm:Value)(sup:Int)(q:List aC):Prop where
 bel:Below Vc.heap.size Vc V
 blk:ak V kR 66 [.int .i64 sup,vf,vm]
 row:zx 63 7 qK n V kR vm q
 lo:Vc.heap.size<kR
theorem yG.below {n:Nat}{Vc V V':World}{kR:Nat}{vp vf vm:Value}{sup:Int}{q:List aC}(i:yG n Vc V kR vp vf vm sup q)(b:Below V.heap.size V V'):yG n Vc V' kR vp vf vm sup q:=
 ⟨i.bel.trans (b.mono i.bel.size),i.blk.below b i.blk.lt,i.row.below abr b,i.lo⟩
theorem yG.next {n:Nat}{Vc V:World}{kR:Nat}{vp vf vm:Value}{sup:Int}{q:List aC}(i:yG n Vc V kR vp vf vm sup q)(hn:n≤Vc.heap.size)(hq:q.length≤4194304){B:Nat}(Ai:∀g,vm.ownBlock=some g→g<B)(hB:kR<B){x:aC}{va vc dH:Value}(hx:bV (sel (fun k=>k<n∨B≤k) V) x va vc dH) :
  ∃a m cap w',(Builtin.append_ #[64,64] 64 #[vm,.slice (some ⟨V.heap.size,0,none⟩) 1 1]).run Tryz.prog (V.alloc (.cells #[.int .i64 x.slot,va,.int .i64 x.ret,.int .i64 x.locals,.int .i64 x.stack,vc,dH] 63))= .ok (.slice a m cap) w'∧
   w'.cell? ⟨kR,2,none⟩=some vm∧w'.frozen? ⟨kR,2,none⟩=false∧yG n Vc (w'.setCell ⟨kR,2,none⟩ (.slice a m cap)) kR vp vf (.slice a m cap) sup (q++ [x])∧ay (fun k=>vm.ownBlock=some k∨k=kR) V (w'.setCell ⟨kR,2,none⟩ (.slice a m cap))∧∀g,vm.ownBlock=some g→kR<g:=by
 obtain⟨iM,hM0,hM1,hM2,dh⟩:=info_parts ahp;obtain⟨cs,hO,hR⟩:=i.row;have hlt:=hO.lt;have hsz:=i.bel.size;have hby:=i.blk.lt;have hlo:=i.lo
 obtain⟨v',w',happ,iR,hM,hv⟩:=qN (P:=Tryz.prog) (W:=V) 64 64 63 iM _ 7 104 Tryz.underlying64 hM0 hM1 hM2 dh rfl (by decide) (kR+1) vm q.length cs hO #[.int .i64 x.slot,va,.int .i64 x.ret,.int .i64 x.locals,.int .i64 x.stack,vc,dH] rfl
  (fun u hu=>by
    simp only [List.mem_cons,List.not_mem_nil,or_false] at hu;have v1:=wE hx.1;have v2:=wE hx.2.1;have v3:=wE hx.2.2
    rcases hu with rfl | rfl | rfl | rfl | rfl | rfl | rfl <;> first | rfl | assumption) V.heap.size rfl (by unfold maxLen;omega) (by omega) (by omega)
 obtain⟨a,cap,rfl⟩:=cZ iR;have n2:¬vm.ownBlock=some kR:=fun e=>by have:=(hlt _ e).1;omega
 have hb2:=i.blk.mods hM n2;have H7:ay (fun k=>k=kR) w' (w'.setCell ⟨kR,2,none⟩ (.slice a (q.length+1) cap)):=(ay.refl (fun k=>k=kR) w').setCell (p:=⟨kR,2,none⟩) (fun _=>rfl) _;exact⟨a,_,cap,w',happ,hb2.cell 2,hb2.frozen 2,⟨(i.bel.trans (hM.below hsz (fun k hk e=>by have:=(hlt k e).1;omega))).trans (H7.below (Nat.le_trans hsz hM.size) (fun k hk e=>by omega)),hb2.setCell 2 _,zx.next abr hR (fun g hg=>(hlt g hg).1) (by omega) Ai hB ⟨va,vc,dH,rfl,hx⟩ rfl iR hM hv 2,i.lo⟩,(hM.mono fun _ _ h=>.inl h).trans (H7.mono fun _ _ h=>.inr h) (fun _ _ h=>h),fun g hg=>(hlt g hg).1⟩
theorem yG.fin {n:Nat}{Vc V:World}{kR:Nat}{vp vf vm:Value}{sup:Int}{q:List aC}(i:yG n Vc V kR vp vf vm sup q):aV 7 (o8 (sel (fun k=>k<n∨kR+1≤k) V)) vm q:=by
 obtain⟨cs,hO,hR⟩:=i.row;exact abD hO (hR.mono fun x c hc=>qK.keep (dR (ay.refl (fun _=>False) V) fun k _ hk=>⟨fun f=>f,by have:=hk.1;omega⟩) hc) (fun g hg=>.inr (hO.lt g hg).1)
structure yt (n:Nat)(w V:World)(bo:Nat)(vp v:Value)(q:List aj):Prop where
 bel:Below w.heap.size w V
 b0:ak V w.heap.size 24 [vp]
 b1:ak V (w.heap.size+1) 24 [.slice none 0 0]
 blk:ak V bo 24 [v]
 row:zx 66 3 tY n V bo v q
 lo:w.heap.size+1<bo
 nle:n≤w.heap.size
theorem yt.below {n:Nat}{w V V':World}{bo:Nat}{vp v:Value}{q:List aj}(i:yt n w V bo vp v q)(b:Below V.heap.size V V'):yt n w V' bo vp v q:=
 ⟨i.bel.trans (b.mono i.bel.size),i.b0.below b i.b0.lt,i.b1.below b i.b1.lt,i.blk.below b i.blk.lt,i.row.below Yl b,i.lo,i.nle⟩
theorem yt.next {n:Nat}{w V:World}{bo:Nat}{vp v:Value}{q:List aj}(i:yt n w V bo vp v q)(hq:q.length≤4194304){B:Nat}(Ai:∀g,v.ownBlock=some g→g<B)(hB:bo<B){x:aj}{vf vm:Value}(h1:aV 1 (fE (sel (fun k=>k<n∨B≤k) V)) vf x.fields)(h2:aV 7 (o8 (sel (fun k=>k<n∨B≤k) V)) vm x.aB) :
  ∃a m cap w',(Builtin.append_ #[22,22] 22 #[v,.slice (some ⟨V.heap.size,0,none⟩) 1 1]).run Tryz.prog (V.alloc (.cells #[.int .i64 x.sup,vf,vm] 66))= .ok (.slice a m cap) w'∧
   w'.cell? ⟨bo,0,none⟩=some v∧w'.frozen? ⟨bo,0,none⟩=false∧yt n w (w'.setCell ⟨bo,0,none⟩ (.slice a m cap)) bo vp (.slice a m cap) (q++ [x]):=by
 obtain⟨iC,hC,hC0,Aj,hC2⟩:=info_parts Uc;obtain⟨cs,hO,hR⟩:=i.row;have hlt:=hO.lt;have hsz:=i.bel.size;have KQ:=i.blk.lt;have hlo:=i.lo;have hnn:=i.nle
 obtain⟨v',w',happ,iR,hM,hv⟩:=qN (P:=Tryz.prog) (W:=V) 22 22 66 iC _ 3 56 Tryz.underlying22 hC hC0 Aj hC2 rfl (by decide) (bo+1) v q.length cs hO #[.int .i64 x.sup,vf,vm] rfl
  (fun u hu=>by
    simp only [List.mem_cons,List.not_mem_nil,or_false] at hu
    rcases hu with rfl | rfl | rfl
    ·rfl
    ·exact wE h1
    ·exact wE h2) V.heap.size rfl (by unfold maxLen;omega) (by omega) (by omega)
 obtain⟨a,cap,rfl⟩:=cZ iR;have nn:∀k,k≤bo→¬v.ownBlock=some k:=fun k hk e=>by have:=(hlt _ e).1;omega
 have hb2:=i.blk.mods hM (nn _ (Nat.le_refl _));have H7:ay (fun k=>k=bo) w' (w'.setCell ⟨bo,0,none⟩ (.slice a (q.length+1) cap)):=(ay.refl (fun k=>k=bo) w').setCell (p:=⟨bo,0,none⟩) (fun _=>rfl) _;exact⟨a,_,cap,w',happ,hb2.cell 0,hb2.frozen 0,(i.bel.trans (hM.below hsz (fun k hk e=>nn k (by omega) e))).trans (H7.below (Nat.le_trans hsz hM.size) (fun k hk e=>by omega)),(i.b0.mods hM (nn _ (by omega))).mods H7 (by omega),(i.b1.mods hM (nn _ (by omega))).mods H7 (by omega),hb2.setCell 0 _,zx.next Yl hR (fun g hg=>(hlt g hg).1) (by omega) Ai hB ⟨vf,vm,rfl,h1,h2⟩ rfl iR hM hv 0,i.lo,i.nle⟩
theorem yt.fin {n:Nat}{w V V':World}{bo:Nat}{vp v:Value}{q:List aj}(i:yt n w V bo vp v q)(hM:ay (fun k=>k=w.heap.size+1) V V'):aV 3 (lU (sel (fun k=>k<n∨w.heap.size+1<k) V')) v q:=by
 obtain⟨cs,hO,hR⟩:=i.row;have hlo:=i.lo;have hnn:=i.nle;have h:=abB (S:=fun k=>k<n∨bo+1≤k) hO (hR.mono fun x c hc=>tY.keep (dR (ay.refl (fun _=>False) V) fun k _ hk=>⟨fun f=>f,by have:=hk.1;omega⟩) hc) (fun g hg=>.inr (hO.lt g hg).1);exact aP (dR hM fun k _ hk=>⟨fun e=>by omega,by omega⟩) h
end Go.Proofs.YtiiokkllmchohaaGreat
namespace Go.Proofs.YtiiokkllmchohaaGreat
open Go.RowKit Go.Shelf
attribute [local go_sem ↓] Go.wp_at_zero Go.wp_at_succ
attribute [local go_sem] bW
def Gz (n:Nat)(p:List aj)(Q:Nat→Nat→Option aJ)(w w':World)(e:Ending):Prop:=
 (bD p≠0→e= .returned (.tuple #[.agg #[.slice none 0 0],.int .i64 (bD p)]))∧(bD p=0→(o7 p Q∧∃v,e= .returned (.tuple #[.agg #[v],.int .i64 0])∧aV 3 (lU (sel (fun k=>k<n∨w.heap.size+1<k) w')) v (gQ p (iQ Q)))∨(¬o7 p Q∧e= .returned (.tuple #[.agg #[.slice none 0 0],.int .i64 5])))∧Below w.heap.size w w'
theorem ab7 (n:Nat)(p:List aj)(vc:Value)(w:World)(hn:n≤w.heap.size)(hp:aV 3 (lU (sel (fun k=>k<n) w)) vc p)(hwf:jq p)(hz:bn p≤4194304)(Q:Nat→Nat→Option aJ)(hQ:bD p=0→Ends p Q) :
  Calls Tryz.prog 22 #[.agg #[vc]] w fun e w'=>Gz n p Q w w' e:=by
 have HP:Hid (aX w vc p):=aP jk hp;have HQ:=hide hQ;have kN:=hide (fun w hp=>abV p vc w hp hwf hz);have Na:=hide (fun c m va aQ vf w hp hv hF M hins dD hc0 hc1 h1 hb hcl N r hN=>acd p vc c m va aQ vf w hp hv hF hz M hins dD hc0 hc1 h1 hb hcl N r hN);have hpl:p.length≤4194304:=Nat.le_trans (eG p) hz;obtain⟨pa,pb,dB,aA,rfl,_,hpa,hpr⟩:=aZ hp;have kP:=hide hpr;have HPA:=hide hpa;clear hpr hp hQ hpa;have hbel:Below w.heap.size w ((w.alloc (.cells #[.slice pa p.length aA] 24)).alloc (.cells #[.slice none 0 0] 24)):=dS _ _ _;have B0:=(ak.new w #[.slice pa p.length aA] 24).alloc (.cells #[.slice none 0 0] 24)
 have B1:=ak.new (w.alloc (.cells #[.slice pa p.length aA] 24)) #[.slice none 0 0] 24;rw [World.size_alloc] at B1;go_enter Tryz.func22,Tryz.ntmps22
 go_wp2_with fail
 generalize (w.alloc _).alloc _=W at *;refine (ah kN W (aP (Keeps.of_below hbel) (ah HP))).mono ?_;rintro e w1 ⟨rfl,hb1⟩;have gu:=hbel.trans (hb1.mono hbel.size);have C0:=B0.below hb1 B0.lt;have C1:=B1.below hb1 B1.lt
 by_cases hF:bD p=0
 rotate_left
 ·have c1:w1.cell? ⟨w.heap.size+1,0,none⟩=some (.slice none 0 0):=C1.cell 0;have f1:=C1.frozen 0;have yA:=hide hF;have hF':(bD p != 0)=true:=by simpa using hF
  have R1:=C1.setCell 0 (.slice none 0 0);have HB:=hide (gu.setCell (p:=⟨w.heap.size+1,0,none⟩) (by dsimp only;omega) (.slice none 0 0));clear hF;go_wp2_with fail
  refine bodyPost_ret (jQ rfl EH R1 rfl rfl) rfl ?_;exact⟨fun _=>rfl,fun e=>absurd e (ah yA),ah HB⟩
 have HF:=hide hF;rw [hF];clear hF;have hb2:=aS w1 (.cells #[.slice none 0 0] 24);have hl1:=C1.lt;obtain⟨bo,KQ⟩:∃bo,bo=w1.heap.size:=⟨_,rfl⟩
 have HI0:Hid (yt n w (w1.alloc (.cells #[.slice none 0 0] 24)) bo (.slice pa p.length aA) (.slice none 0 0) ((gQ p (iQ Q)).take 0)):=
  ⟨gu.trans (hb2.mono gu.size),C0.below hb2 C0.lt,C1.below hb2 C1.lt,(by rw [KQ];exact ak.new w1 _ _),⟨[],World.ownsRow_nil _ _ _ _,iU.nil⟩,by omega,hn⟩
 go_wp2_with fail
 generalize w1.alloc _=W2 at *;rw [←KQ];clear KQ hb2 hl1 gu hb1 C0 C1 B0 B1 hbel;have x0:W2.cell? ⟨w.heap.size,0,none⟩=some (.slice pa p.length aA):=(ah HI0).b0.cell 0
 go_loopg [6] p.length (fun g i V=>∃(c:Nat) (v:Value),c≤p.length∧g=p.length-c∧i= .int .i64 c∧yt n w V bo (.slice pa p.length aA) v ((gQ p (iQ Q)).take c)∧∀(c' k:Nat) (m:aC),c'<c→bQ p c' k=some m→Q c' k≠none)
 case atStart=>exact ⟨0,_,Nat.zero_le _,rfl,rfl,ah HI0,fun c' k m h=>by omega⟩
 case round=>
  clear HI0 x0
  rename World=>Wa
  obtain⟨c,v,hc,hgc,rfl,hI,hall⟩:=hrel;have HI:=hide hI;have QC:=hide hgc;have nG:=hide hall;clear hgc hall;have y0:Wa.cell? ⟨w.heap.size,0,none⟩=some (.slice pa p.length aA):=hI.b0.cell 0
  by_cases hcl:c<p.length
  rotate_left
  ·obtain rfl:c=p.length:=by omega
   have ke:¬(p.length:Int)<(p.length:Int):=by omega
   have hA:o7 p Q:=fun c k m hm=>by
    have hc:=(qY (ah HF) hm).2.1;exact ah nG c k m (by omega) hm
   obtain⟨va,vn,fJ,rfl⟩:∃a n cap,v= .slice a n cap:=by
    obtain⟨cs,hO,_⟩:=hI.row;obtain⟨a,cap,h⟩:=cZ hO;exact⟨a,_,cap,h⟩
   have y1:Wa.cell? ⟨w.heap.size+1,0,none⟩=some (.slice none 0 0):=hI.b1.cell 0;have f1:=hI.b1.frozen 0;have y2:Wa.cell? ⟨bo,0,none⟩=some (.slice va vn fJ):=hI.blk.cell 0;have hlo:=hI.lo;have R1:=hI.b1.setCell 0 (.slice va vn fJ);have bK:ay (fun k=>k=w.heap.size+1) Wa (Wa.setCell ⟨w.heap.size+1,0,none⟩ (.slice va vn fJ)):=(ay.refl (fun k=>k=w.heap.size+1) Wa).setCell (p:=⟨w.heap.size+1,0,none⟩) (fun _=>rfl) _;have hR:=hI.fin bK;rw [List.take_of_length_le (by simp [gQ])] at hR
   have HFin:Hid (Gz n p Q w (Wa.setCell ⟨w.heap.size+1,0,none⟩ (.slice va vn fJ)) (.returned (.tuple #[.agg #[.slice va vn fJ],.int .i64 0]))):=
    ⟨fun e=>absurd (ah HF) e,fun _=>.inl ⟨hA,_,rfl,hR⟩,hI.bel.trans (bK.below hI.bel.size (fun k hk e=>by omega))⟩
   clear hI hA bK hR;go_wp2_with fail
   refine bodyPost_ret (jQ rfl EH R1 rfl rfl) rfl ?_;exact ah HFin
  obtain rfl:=ah HPA (bJ hcl);have c0:(0:Int)≤(c:Int):=by omega
  have c1:(c:Int)<(p.length:Int):=by omega
  obtain⟨vf,vms,d0,d1,d2,hf,hms⟩:=ah kP c hcl;replace d0:=jk _ _ d0;replace d1:=jk _ _ d1;replace d2:=jk _ _ d2
  have zJ:Hid (∀(k:Nat) (m:aC),p[c].aB[k]? =some m→bQ p c k=some m):=fun k m hm=>by
   unfold bQ;rw [if_pos ⟨by omega,by omega⟩,Int.toNat_natCast,Int.toNat_natCast,List.getElem?_eq_getElem hcl];exact hm
  have HOL:Hid (∀(k:Nat) (m:aC),bQ p c k=some m→k<p[c].aB.length):=fun k m hm=>by
   unfold bQ at hm;rw [if_pos ⟨by omega,by omega⟩,Int.toNat_natCast,Int.toNat_natCast,List.getElem?_eq_getElem hcl] at hm;exact (List.getElem?_eq_some_iff.1 hm).1
  have Qr:Hid ((gQ p (iQ Q)).take (c+1)=(gQ p (iQ Q)).take c++ [{ p[c] with aB:=p[c].aB.mapIdx fun k m=>jf m (iQ Q c k) }]):=by
   show _=_
   rw [List.take_add_one,J7,List.getElem?_eq_getElem hcl]
   rfl
  have hml:p[c].aB.length≤4194304:=Nat.le_trans (tC _) (Nat.le_trans (nR (List.getElem_mem hcl)) hz);obtain⟨ms,OA⟩:∃ms,ms=p[c].aB.mapIdx fun k m=>jf m (iQ Q c k):=⟨_,rfl⟩;rw [←OA] at Qr
  have WO:Hid (∀(k:Nat) (m:aC),p[c].aB[k]? =some m→ms.take (k+1)=ms.take k++ [jf m (iQ Q c k)]):=fun k m hm=>by
   rw [List.take_add_one,OA,List.getElem?_mapIdx,hm]
   rfl
  have aau:ms.length=p[c].aB.length:=by rw [OA];simp
  have WM:=hide aau;clear OA aau;generalize p[c]=x at *;obtain⟨sup,fields,aB⟩:=x;dsimp only at d0 d1 d2 hf hms hml zJ Qr WO WM HOL;obtain⟨fa,_,_,aG,rfl,_⟩:=id hf;obtain⟨ma,mb,fH,dW,rfl,hmc,hma,hmr⟩:=aZ hms;have pY:=hide hmr;have Em:=hide hma;have HFL:=hide hf;have e0:=Keeps.of_below hI.bel _ _ d0;have e1:=Keeps.of_below hI.bel _ _ d1;have e2:=Keeps.of_below hI.bel _ _ d2
  obtain⟨v0a,v0n,v0c,rfl⟩:∃a n cap,v= .slice a n cap:=by
   obtain⟨cs,hO,_⟩:=hI.row;obtain⟨a,cap,h⟩:=cZ hO;exact⟨a,_,cap,h⟩
  have hwa:=hI.bel.size;have hb3:Below Wa.heap.size Wa ((Wa.alloc (.cells #[.int .i64 sup,.slice fa fields.length aG,.slice ma aB.length dW] 66)).alloc (.cells #[.int .i64 sup,.slice fa fields.length aG,.slice none 0 0] 66)):=dS _ _ _;have D0:=(ak.new Wa #[.int .i64 sup,.slice fa fields.length aG,.slice ma aB.length dW] 66).alloc (.cells #[.int .i64 sup,.slice fa fields.length aG,.slice none 0 0] 66);have D1:=ak.new (Wa.alloc (.cells #[.int .i64 sup,.slice fa fields.length aG,.slice ma aB.length dW] 66)) #[.int .i64 sup,.slice fa fields.length aG,.slice none 0 0] 66;rw [World.size_alloc] at D1
  have Jq:Hid (yG n Wa ((Wa.alloc (.cells #[.int .i64 sup,.slice fa fields.length aG,.slice ma aB.length dW] 66)).alloc (.cells #[.int .i64 sup,.slice fa fields.length aG,.slice none 0 0] 66)) (Wa.heap.size+1) (.slice (some ⟨pb,dB,none⟩) p.length aA) (.slice fa fields.length aG) (.slice none 0 0) sup (ms.take 0)):=
   ⟨hb3,D1,⟨[],World.ownsRow_nil _ _ _ _,iU.nil⟩,by omega⟩
  have HD0:=hide D0;clear hmr hma hms hmc hf d0 d1 d2 hb3 D0 D1 hI;go_wp2_with fail
  generalize (Wa.alloc _).alloc _=Wb at *;have z2:Wb.cell? ⟨Wa.heap.size,2,none⟩=some (.slice ma aB.length dW):=(ah HD0).cell 2
  go_loopg [9] aB.length (fun g i V=>∃(k:Nat) (vm:Value),k≤aB.length∧g=aB.length-k∧i= .int .i64 k∧yG n Wa V (Wa.heap.size+1) (.slice (some ⟨pb,dB,none⟩) p.length aA) (.slice fa fields.length aG) vm sup (ms.take k)∧ak V Wa.heap.size 66 [.int .i64 sup,.slice fa fields.length aG,.slice ma aB.length dW]∧∀(k':Nat) (m:aC),k'<k→bQ p c k'=some m→Q c k'≠none)
  case atStart=>exact ⟨0,_,Nat.zero_le _,rfl,rfl,ah Jq,ah HD0,fun k' m h=>by omega⟩
  case round=>
   clear z2 Jq HD0 e0 e1 e2 y0
   rename World=>Wd
   obtain⟨k,vm,hk,hgk,rfl,M1,X1,hal⟩:=hrel;have uh:=hide hgk;have Gi:=hide hal;have vG:=hide M1;have Nh:=hide X1;clear hgk hal
   obtain⟨vma,vmn,vmc,hvm,aaG⟩:∃a n cap,vm= .slice a n cap∧∀g,vm.ownBlock=some g→g<Wd.heap.size:=by
    obtain⟨cs,hO,_⟩:=M1.row;obtain⟨a,cap,h⟩:=cZ hO;exact⟨a,_,cap,h,fun g hg=>(hO.lt g hg).2⟩
   subst hvm;have z2:Wd.cell? ⟨Wa.heap.size,2,none⟩=some (.slice ma aB.length dW):=X1.cell 2;have hbz:=M1.bel.size;have akP:=M1.blk.lt
   by_cases hkl:k<aB.length
   rotate_left
   ·obtain rfl:k=aB.length:=by omega
    have ke:¬(aB.length:Int)<(aB.length:Int):=by omega
    have I2:=(ah HI).below M1.bel;have y0:Wd.cell? ⟨Wa.heap.size+1,0,none⟩=some (.int .i64 sup):=M1.blk.cell 0;have y1:Wd.cell? ⟨Wa.heap.size+1,1,none⟩=some (.slice fa fields.length aG):=M1.blk.cell 1;have y2:Wd.cell? ⟨Wa.heap.size+1,2,none⟩=some (.slice vma vmn vmc):=M1.blk.cell 2;have y3:Wd.cell? ⟨bo,0,none⟩=some (.slice v0a v0n v0c):=I2.blk.cell 0;have TS:=M1.fin;rw [List.take_of_length_le (by rw [ah WM];exact Nat.le_refl _)] at TS;have KQ:=(ah HI).blk.lt
    obtain⟨a5,n5,cap5,w5,oq,c5,f5,I5⟩:=I2.next (B:=Wa.heap.size+1+1) (by rw [List.length_take];omega) (fun g hg=>by obtain⟨cs,hO,_⟩:=(ah HI).row;have:=(hO.lt g hg).2;omega) (by omega) (x:=⟨sup,fields,ms⟩) (dA (dR (ay.of_below I2.bel) fun k hk hS=>⟨fun e=>by omega,.inl hS⟩) (ah HFL)) TS;rw [←ah Qr] at I5;have HI5:=hide I5
    have HE:Hid (∀(c' k:Nat) (m:aC),c'<c+1→bQ p c' k=some m→Q c' k≠none):=fun c' k m h hm=>by
     by_cases e:c'=c
     ·subst e;have hk:k<aB.length:=ah HOL k m hm;exact ah Gi k m hk hm
     ·exact ah nG c' k m (by omega) hm
    clear I2 I5 TS M1 X1;go_wp2_with (at_builtin;refine wpList_append_run rfl (.tmp 70) (.tmp 72) 22 rfl _ _ rfl rfl oq ?_)
    go_roundg (p.length-(c+1))
    case measure=>have:=ah QC;omega
    case rel=>exact ⟨c+1,_,by omega,rfl,by go_num,ah HI5,ah HE⟩
   obtain rfl:=ah Em (bJ hkl);have k0:(0:Int)≤(k:Int):=by omega
   have k1:(k:Int)<(aB.length:Int):=by omega
   have hown:=ah zJ k aB[k] (List.getElem?_eq_getElem hkl);have O:=abY (ah HF) hown;obtain⟨N,hN⟩:=ah HQ (ah HF) c k aB[k] hown;obtain⟨n',r',hCS,hr1,hr2⟩:=acA (ah HF) hz hown O.cd O.cl (by have:=O.l1;omega) hN;have Jw:=hide (ah WO k aB[k] (List.getElem?_eq_getElem hkl));obtain⟨va,aQ,dH,hgv,e0,e1,e2,e3,e4,e5,e6⟩:=ah pY k hkl;have HOWN:=hide hown;clear hN hown;generalize aB[k]=m at *;have wI:=hide hgv;obtain⟨aa,_,_,aI,rfl,_⟩:=hgv.1;obtain⟨ca,_,_,aF,rfl,_⟩:=hgv.2.1;obtain⟨vV,_,_,Af,rfl,_⟩:=hgv.2.2;have hbw:Below w.heap.size w Wd:=(ah HI).bel.trans (M1.bel.mono hwa);replace e0:=Keeps.of_below hbw _ _ (jk _ _ e0)
   replace e1:=Keeps.of_below hbw _ _ (jk _ _ e1);replace e2:=Keeps.of_below hbw _ _ (jk _ _ e2);replace e3:=Keeps.of_below hbw _ _ (jk _ _ e3);replace e4:=Keeps.of_below hbw _ _ (jk _ _ e4);replace e5:=Keeps.of_below hbw _ _ (jk _ _ e5);replace e6:=Keeps.of_below hbw _ _ (jk _ _ e6);have hbx:=aS Wd (.cells #[.int .i64 m.slot,.slice aa m.args.length aI,.int .i64 m.ret,.int .i64 m.locals,.int .i64 m.stack,.slice ca m.code.length aF,.slice vV m.frames.length Af] 63)
   have A0:=ak.new Wd #[.int .i64 m.slot,.slice aa m.args.length aI,.int .i64 m.ret,.int .i64 m.locals,.int .i64 m.stack,.slice ca m.code.length aF,.slice vV m.frames.length Af] 63;have hsz:(Wd.alloc (.cells #[.int .i64 m.slot,.slice aa m.args.length aI,.int .i64 m.ret,.int .i64 m.locals,.int .i64 m.stack,.slice ca m.code.length aF,.slice vV m.frames.length Af] 63)).heap.size=Wd.heap.size+1:=by simp
   have I2:=(ah HI).below (M1.bel.trans (hbx.mono hbz));have y0:(Wd.alloc (.cells #[.int .i64 m.slot,.slice aa m.args.length aI,.int .i64 m.ret,.int .i64 m.locals,.int .i64 m.stack,.slice ca m.code.length aF,.slice vV m.frames.length Af] 63)).cell? ⟨w.heap.size,0,none⟩=some (.slice (some ⟨pb,dB,none⟩) p.length aA):=I2.b0.cell 0;have HI2:=hide I2;clear hgv I2 M1 X1;go_upto_region 14 with fail
   clear e0 e1 e2 e3 e4 e5 e6;generalize Wd.alloc _=We at *;have b0:We.cell? ⟨Wd.heap.size,0,none⟩=some (.int .i64 m.slot):=A0.cell 0;have b1:We.cell? ⟨Wd.heap.size,1,none⟩=some (.slice aa m.args.length aI):=A0.cell 1;have b2:We.cell? ⟨Wd.heap.size,2,none⟩=some (.int .i64 m.ret):=A0.cell 2;have b3:We.cell? ⟨Wd.heap.size,3,none⟩=some (.int .i64 m.locals):=A0.cell 3;have b4:We.cell? ⟨Wd.heap.size,4,none⟩=some (.int .i64 m.stack):=A0.cell 4;have b5:We.cell? ⟨Wd.heap.size,5,none⟩=some (.slice ca m.code.length aF):=A0.cell 5;have b6:We.cell? ⟨Wd.heap.size,6,none⟩=some (.slice vV m.frames.length Af):=A0.cell 6;have hbe:=hbw.trans (hbx.mono hbw.size);have En:=hide hsz;clear hsz
   have QZ:=ah Na (c:Int) m (.slice aa m.args.length aI) (.slice ca m.code.length aF) (.slice vV m.frames.length Af) We (aP (Keeps.of_below hbe) (ah HP)) (bV.keep (Keeps.of_below hbe) (bV.keep jk (ah wI))) (ah HF) O.ok O.ins O.c40 O.c0 O.c1 O.l1 O.cd O.cl n' r' hCS;unfold bP at QZ;go_wp2_with fail
   refine QZ.mono ?_;rintro e V2 ⟨hs1,hs2,hb2⟩;clear QZ b0 b1 b2 b3 b4 b5 b6 y0 z2;have KU:=hb2.size;have I3:=(ah HI2).below hb2
   cases hq:Q c k with
   | none =>
    obtain rfl:=hs1 (hr1 hq);have hA:¬o7 p Q:=fun h=>h c k m (ah HOWN) hq;have y1:V2.cell? ⟨w.heap.size+1,0,none⟩=some (.slice none 0 0):=I3.b1.cell 0;have f1:=I3.b1.frozen 0;have R1:=I3.b1.setCell 0 (.slice none 0 0);have bK:ay (fun k=>k=w.heap.size+1) V2 (V2.setCell ⟨w.heap.size+1,0,none⟩ (.slice none 0 0)):=(ay.refl (fun k=>k=w.heap.size+1) V2).setCell (p:=⟨w.heap.size+1,0,none⟩) (fun _=>rfl) _
    have HFin:Hid (Gz n p Q w (V2.setCell ⟨w.heap.size+1,0,none⟩ (.slice none 0 0)) (.returned (.tuple #[.agg #[.slice none 0 0],.int .i64 5]))):=
     ⟨fun e=>absurd (ah HF) e,fun _=>.inr ⟨hA,rfl⟩,I3.bel.trans (bK.below I3.bel.size (fun k hk e=>by omega))⟩
    clear I3 hA bK hr1 hr2 hs1 hs2 hq;go_wp2_with fail
    refine bodyPost_ret (jQ rfl EH R1 rfl rfl) rfl ?_;exact ah HFin
   | some s =>
    obtain⟨R,hR1,hR2,oh,_⟩:=hr2 s hq;obtain⟨lb,cs,rfl,hRow,hRl,agL⟩:=hs2 R hR1;have hgr:iQ Q c k=s:=by unfold iQ;rw [hq];rfl
    have A2:=A0.below hb2 A0.lt;have b0:V2.cell? ⟨Wd.heap.size,0,none⟩=some (.int .i64 m.slot):=A2.cell 0;have b1:V2.cell? ⟨Wd.heap.size,1,none⟩=some (.slice aa m.args.length aI):=A2.cell 1;have b2:V2.cell? ⟨Wd.heap.size,2,none⟩=some (.int .i64 m.ret):=A2.cell 2;have b3:V2.cell? ⟨Wd.heap.size,3,none⟩=some (.int .i64 m.locals):=A2.cell 3;have b4:V2.cell? ⟨Wd.heap.size,4,none⟩=some (.int .i64 m.stack):=A2.cell 4;have b5:V2.cell? ⟨Wd.heap.size,5,none⟩=some (.slice ca m.code.length aF):=A2.cell 5;have b6:V2.cell? ⟨Wd.heap.size,6,none⟩=some (.slice vV m.frames.length Af):=A2.cell 6;have agu:=hbe.trans (hb2.mono hbe.size)
    have zF:=ab8 p m (.slice aa m.args.length aI) (.slice ca m.code.length aF) (.slice vV m.frames.length Af) true R cs We.heap.size lb V2 (bV.keep (Keeps.of_below agu) (bV.keep jk (ah wI))) hRow hRl O.c40 KU;rw [oh] at zF;unfold bP at zF;have HQQ:=hide hq;clear hr1 hr2 hs1 hs2 hq hR1 oh;go_wp2_with fail
    refine zF.mono ?_;rintro e V3 ⟨v3,rfl,hF3,hb3⟩;clear zF b0 b1 b2 b3 b4 b5 b6;obtain⟨qR,_,_,qU,rfl,_⟩:=id hF3;obtain⟨qV,aaj⟩:∃n,n=(mV m s).length:=⟨_,rfl⟩;rw [←aaj] at hF3 ⊢;clear aaj;have A3:=A2.below hb3 A2.lt;have akQ:=hb3.size;have jI:ay (fun k=>k=Wd.heap.size) V3 (V3.setCell ⟨Wd.heap.size,6,none⟩ (.slice qR qV qU)):=(ay.refl (fun k=>k=Wd.heap.size) V3).setCell (p:=⟨Wd.heap.size,6,none⟩) (fun _=>rfl) _;have A4:=A3.setCell 6 (.slice qR qV qU);have hz9:=ah En;have hb4:Below Wd.heap.size Wd (V3.setCell ⟨Wd.heap.size,6,none⟩ (.slice qR qV qU)):=(hbx.trans ((hb2.mono hbx.size).trans (hb3.mono (by omega)))).trans (jI.below (by omega) (fun k hk e=>by omega))
    have M4:=(ah vG).below hb4;have X4:=(ah Nh).below hb4 (ah Nh).lt
    have aan:bV (sel (fun k=>k<n∨We.heap.size≤k) (V3.setCell ⟨Wd.heap.size,6,none⟩ (.slice qR qV qU))) (jf m (iQ Q c k)) (.slice aa m.args.length aI) (.slice ca m.code.length aF) (.slice qR qV qU):=by
     have hold:dM (sel (fun k=>k<n) w) (sel (fun k=>k<n∨We.heap.size≤k) (V3.setCell ⟨Wd.heap.size,6,none⟩ (.slice qR qV qU))):=dR (ay.of_below (hbw.trans (hb4.mono hbw.size))) fun k hk hS=>⟨fun e=>by omega,.inl hS⟩;have hg:=bV.keep hold (ah wI);refine⟨hg.1,hg.2.1,?_⟩;rw [hgr];exact Hz (dR jI fun k hk hS=>⟨fun e=>by omega,.inr hS⟩) hF3
    obtain⟨a5,n5,cap5,w5,oq,c5,f5,M5,bU,hv5⟩:=M4.next (B:=We.heap.size) (by omega) (by rw [List.length_take];omega) (fun g hg=>by have:=aaG g hg;omega) (by omega) aan;rw [←ah Jw] at M5
    have X5:=X4.mods bU (by
     rintro (e | e)
     ·have:=hv5 _ e;omega
     ·omega)
    have Ej:=hide M5;have Nj:=hide X5
    have HA5:Hid (∀(k':Nat) (m:aC),k'<k+1→bQ p c k'=some m→Q c k'≠none):=fun k' m' h hm=>by
     by_cases e:k'=k
     ·subst e;rw [ah HQQ];simp
     ·exact ah Gi k' m' (by omega) hm
    have q6:V3.cell? ⟨Wd.heap.size,6,none⟩=some (.slice vV m.frames.length Af):=A3.cell 6;have Zh:=A3.frozen 6;have b0:(V3.setCell ⟨Wd.heap.size,6,none⟩ (.slice qR qV qU)).cell? ⟨Wd.heap.size,0,none⟩=some (.int .i64 m.slot):=A4.cell 0;have b1:(V3.setCell ⟨Wd.heap.size,6,none⟩ (.slice qR qV qU)).cell? ⟨Wd.heap.size,1,none⟩=some (.slice aa m.args.length aI):=A4.cell 1;have b2:(V3.setCell ⟨Wd.heap.size,6,none⟩ (.slice qR qV qU)).cell? ⟨Wd.heap.size,2,none⟩=some (.int .i64 m.ret):=A4.cell 2;have b3:(V3.setCell ⟨Wd.heap.size,6,none⟩ (.slice qR qV qU)).cell? ⟨Wd.heap.size,3,none⟩=some (.int .i64 m.locals):=A4.cell 3
    have b4:(V3.setCell ⟨Wd.heap.size,6,none⟩ (.slice qR qV qU)).cell? ⟨Wd.heap.size,4,none⟩=some (.int .i64 m.stack):=A4.cell 4;have b5:(V3.setCell ⟨Wd.heap.size,6,none⟩ (.slice qR qV qU)).cell? ⟨Wd.heap.size,5,none⟩=some (.slice ca m.code.length aF):=A4.cell 5;have b6:(V3.setCell ⟨Wd.heap.size,6,none⟩ (.slice qR qV qU)).cell? ⟨Wd.heap.size,6,none⟩=some (.slice qR qV qU):=A4.cell 6;have b7:(V3.setCell ⟨Wd.heap.size,6,none⟩ (.slice qR qV qU)).cell? ⟨Wa.heap.size+1,2,none⟩=some (.slice vma vmn vmc):=M4.blk.cell 2;clear M5 X5 M4 X4 aan hF3 bU hv5 jI A4 A3 hb4 hgr hRow hRl aaG;go_upto_region 18 with fail
    generalize V3.setCell _ _=V4 at *;clear q6 Zh;go_wp2_with (at_builtin;refine wpList_append_run rfl (.tmp 64) (.tmp 66) 64 rfl _ _ rfl rfl oq ?_)
    go_roundg (aB.length-(k+1))
    case measure=>have:=ah uh;omega
    case rel=>exact ⟨k+1,_,by omega,rfl,by go_num,ah Ej,ah Nj,ah HA5⟩
def Ro (p:List aj)(c k:Int)(r:Option aJ)(w w':World)(e:Ending):Prop:=
 (bD p≠0→e= .returned (.tuple #[.slice none 0 0,.int .i64 (bD p)]))∧(bD p=0→bQ p c k=none→e= .returned (.tuple #[.slice none 0 0,.int .i64 4]))∧
  (bD p=0→∀m,bQ p c k=some m→(r=none→e= .returned (.tuple #[.slice none 0 0,.int .i64 5]))∧(∀s,r=some s→∃v,e= .returned (.tuple #[v,.int .i64 0])∧aV 3 (Cb w') v (dX m s m.code.length)))∧Below w.heap.size w w'
theorem ajf (p:List aj)(vc:Value)(c k:Int)(w:World)(hp:aX w vc p)(hwf:jq p)(hz:bn p≤4194304)(N:Nat)(r:Option aJ)(hT:∀m,bD p=0→bQ p c k=some m→jC p m N (dK sv0 0 (dO c m))=some r) :
  Calls Tryz.prog 44 #[.agg #[vc],.int .i64 c,.int .i64 k] w fun e w'=>Ro p c k r w w' e:=by
 have HT:=hide hT;clear hT;have HP:=hide hp;have kN:=hide (fun w hp=>abV p vc w hp hwf hz);have HHS:=hide (fun w hp=>aje p vc c k w hp hz);obtain⟨pa,pb,dB,aA,rfl,_,hpa,hpr⟩:=aZ hp;have kP:=hide hpr;clear hpr hp;have hbel:=aS w (.cells #[.slice pa p.length aA] 24);have B0:=ak.new w #[.slice pa p.length aA] 24;go_enter Tryz.func44,Tryz.ntmps44
 go_wp2_with fail
 generalize w.alloc _=W at *;refine (ah kN W (aP (Keeps.of_below hbel) (ah HP))).mono ?_;rintro e W1 ⟨rfl,hb1⟩;have gu:=hbel.trans (hb1.mono hbel.size);have B1:=B0.below hb1 B0.lt;have c0:W1.cell? ⟨w.heap.size,0,none⟩=some (.slice pa p.length aA):=B1.cell 0
 by_cases hF:bD p=0
 rotate_left
 ·have HF:=hide hF;have hFb:(bD p == 0)=false:=by simpa using hF
  have akL:(bD p != 0)=true:=by simpa using hF
  clear hF;go_wp2_with fail
  go_ret2
  exact⟨fun _=>rfl,fun e=>absurd e (ah HF),fun e=>absurd e (ah HF),gu⟩
 have HF:=hide hF;rw [hF];clear hF;go_wp2_with fail
 refine (ah HHS W1 (aP (Keeps.of_below gu) (ah HP))).mono ?_;rintro e W2 ⟨rfl,hb2⟩;have hbw2:=gu.trans (hb2.mono gu.size);have B2:=B1.below hb2 B1.lt;have c2:W2.cell? ⟨w.heap.size,0,none⟩=some (.slice pa p.length aA):=B2.cell 0;clear c0
 cases hm:bQ p c k with
 | none =>
  have HM:=hide hm;clear hm;dsimp only [Option.isSome];go_wp2_with fail
  go_ret2
  exact⟨fun e=>absurd (ah HF) e,fun _ _=>rfl,fun _ m e=>(by rw [ah HM] at e;cases e),hbw2⟩
 | some m =>
  have O:=abY (ah HF) hm;have hTm:=ah HT m (ah HF) hm;obtain⟨n',r',hCS,hr1,hr2⟩:=acA (ah HF) hz hm O.cd O.cl (by have:=O.l1;omega) hTm;have wL:=hide hm;clear hTm;obtain⟨n,rfl⟩:=Int.eq_ofNat_of_zero_le O.c0
  have hk0:0≤k:=by
   unfold bQ at hm
   split at hm
   ·rename_i h;exact h.2
   ·cases hm
  obtain⟨j,rfl⟩:=Int.eq_ofNat_of_zero_le hk0;have h1:n<p.length:=by have:=O.c1;omega
  obtain rfl:=hpa (bJ h1);obtain⟨vf,vm,d0,d1,d2,hf,hmm⟩:=ah kP n h1;obtain⟨ma,mb,fH,dW,rfl,yV,hma,hmr⟩:=aZ hmm;unfold bQ at hm;rw [if_pos ⟨by omega,by omega⟩,Int.toNat_natCast,Int.toNat_natCast,List.getElem?_eq_getElem h1,Option.bind_some] at hm;obtain⟨hj,hme⟩:=List.getElem?_eq_some_iff.1 hm;obtain rfl:=hma (bJ hj);obtain⟨va,aQ,dH,hgv,e0,e1,e2,e3,e4,e5,e6⟩:=hmr j hj;rw [hme] at hgv e0 e2 e3 e4;have QO:=hide (fun (va aQ vf:Value) w hp hv=>acd p (.slice (some ⟨pb,dB,none⟩) p.length aA) (n:Int) m va aQ vf w hp hv (ah HF) hz O.ok O.ins O.c40 O.c0 O.c1 O.l1 O.cd O.cl n' r' hCS);have O40:=O.c40;have wI:=hide hgv;unfold bP at QO
  obtain⟨aa,_,_,aI,rfl,_⟩:=hgv.1;obtain⟨ca,_,_,aF,rfl,_⟩:=hgv.2.1;obtain⟨fa,_,_,aG,rfl,_⟩:=hgv.2.2;have n0:(0:Int)≤(n:Int):=by omega
  have n1:(n:Int)<(p.length:Int):=by omega
  have j0:(0:Int)≤(j:Int):=by omega
  have j1:(j:Int)<((p[n].aB.length:Nat):Int):=by omega
  have HO:=hide (fun Y (hY:Below W2.heap.size W2 Y)=>And.intro ((B2.below hY B2.lt).cell 0) (And.intro (Keeps.of_below (hbw2.trans (hY.mono hbw2.size)) _ _ d2) (And.intro (Keeps.of_below (hbw2.trans (hY.mono hbw2.size)) _ _ e0) (And.intro (Keeps.of_below (hbw2.trans (hY.mono hbw2.size)) _ _ e1) (And.intro (Keeps.of_below (hbw2.trans (hY.mono hbw2.size)) _ _ e2) (And.intro (Keeps.of_below (hbw2.trans (hY.mono hbw2.size)) _ _ e3) (And.intro (Keeps.of_below (hbw2.trans (hY.mono hbw2.size)) _ _ e4) (And.intro (Keeps.of_below (hbw2.trans (hY.mono hbw2.size)) _ _ e5) (Keeps.of_below (hbw2.trans (hY.mono hbw2.size)) _ _ e6)))))))));clear d0 d1 d2 e0 e1 e2 e3 e4 e5 e6 hf hmm hmr hm hme hgv O c2 hCS
  generalize p[n].aB.length=ml at *;dsimp only [Option.isSome];go_upto_region 7 with fail
  refine wp_region_noPanic ?_;refine wp_region_held_drew (S:=(fun w'=>w'.cell? ⟨w.heap.size,0,none⟩=some (.slice (some ⟨pb,dB,none⟩) p.length aA)∧w'.cell? ⟨pb,dB+n*3+2,none⟩=some (.slice (some ⟨mb,fH,none⟩) ml dW)∧w'.cell? ⟨mb,fH+j*7,none⟩=some (.int .i64 m.slot)∧w'.cell? ⟨mb,fH+j*7+1,none⟩=some (.slice aa m.args.length aI)∧w'.cell? ⟨mb,fH+j*7+2,none⟩=some (.int .i64 m.ret)∧w'.cell? ⟨mb,fH+j*7+3,none⟩=some (.int .i64 m.locals)∧w'.cell? ⟨mb,fH+j*7+4,none⟩=some (.int .i64 m.stack)∧w'.cell? ⟨mb,fH+j*7+5,none⟩=some (.slice ca m.code.length aF)∧w'.cell? ⟨mb,fH+j*7+6,none⟩=some (.slice fa m.frames.length aG))) (by kernel_rfl) ?_ (fun hHeld=>?_)
  ·exact (ah HO) _ gq
  refine au 24 0 ?_;refine au 25 1 ?_;refine au 26 2 ?_;refine au 27 3 ?_;refine au 28 4 ?_;refine au 29 5 ?_;refine au 30 6 ?_;refine au 31 7 ?_;refine au 32 8 ?_;refine au 33 9 ?_;refine au 34 10 ?_;refine aW 11 (fun K hK=>?_);go_simp;refine (ah QO _ _ _ W2.drew (aP (Keeps.of_below gq) (aP (Keeps.of_below hbw2) (ah HP))) (bV.keep (Keeps.of_below gq) (bV.keep (Keeps.of_below hbw2) (ah wI)))).mono ?_;rintro e w3 ⟨hs1,hs2,dY⟩;have hb3:Below W2.heap.size W2 w3:=⟨dY.os,dY.tape,dY.output,dY.size,dY.block⟩;have hbw3:=hbw2.trans (hb3.mono hbw2.size)
  have hdr:W2.drew.heap.size=W2.heap.size:=rfl
  cases hr:r with
  | none =>
   obtain rfl:=hs1 (hr1 hr);have HR:=hide hr;clear dY hs1 hs2 hr1 hr2 hr;go_wp2_with fail
   refine hK.out _ _ ((ah HO) _ hb3) (fun hHeld=>?_);clear hK K;try simp only [Act.put,aK,aO,aN]
   refine au 23 12 ?_;refine au 36 13 ?_;refine au 37 14 ?_;refine au 10 15 ?_;refine au 11 16 ?_;refine wpAnyH_done (by kernel_rfl) ?_ _;refine NoPanic.normal ?_;go_wp2_with fail
   go_ret2
   exact⟨fun e=>absurd (ah HF) e,fun _ e=>(by rw [ah wL] at e;cases e),fun _ m' e=>⟨fun _=>rfl,fun s e=>(by rw [ah HR] at e;cases e)⟩,hbw3⟩
  | some s =>
   obtain⟨R,hR1,hR2,_,hR4⟩:=hr2 s hr;obtain⟨lb,cs,rfl,hRow,hRl,agL⟩:=hs2 R hR1;have zF:=ab8 p m (.slice aa m.args.length aI) (.slice ca m.code.length aF) (.slice fa m.frames.length aG) false R cs W2.drew.heap.size lb w3 (bV.keep (Keeps.of_below hb3) (bV.keep (Keeps.of_below hbw2) (ah wI))) hRow hRl O40 dY.size;rw [hR4] at zF;unfold bP at zF;obtain⟨z0,z1,z2,z3,z4,z5,z6,z7,z8⟩:=(ah HO) _ hb3;have ac9:=hide zF;have HR:=hide hr;clear dY hs1 hs2 hr1 hr2 hr hR1 hRow zF;go_wp2_with fail
   refine hK.out _ _ ((ah HO) _ hb3) (fun hHeld=>?_);clear hK K;try simp only [Act.put,aK,aO,aN]
   refine au 23 12 ?_;refine au 36 13 ?_;refine au 37 14 ?_;refine au 10 15 ?_;refine au 11 16 ?_;refine wpAnyH_done (by kernel_rfl) ?_ _;refine NoPanic.normal ?_;go_wp2_with fail
   refine (ah ac9).mono ?_;rintro e w4 ⟨v4,rfl,Zr,hb4⟩;have HF4:=hide (Hz jk Zr);have HB4:=hide (hbw3.trans (hb4.mono hbw3.size));clear Zr hb4 z0 z1 z2 z3 z4 z5 z6 z7 z8;go_wp2_with fail
   go_ret2
   exact⟨fun e=>absurd (ah HF) e,fun _ e=>(by rw [ah wL] at e;cases e),fun _ m' e=>⟨fun e=>(by rw [ah HR] at e;cases e),fun s' e'=>(by rw [ah HR] at e';cases e';rw [ah wL] at e;cases e;exact⟨v4,rfl,ah HF4⟩)⟩,ah HB4⟩
end Go.Proofs.YtiiokkllmchohaaGreat
namespace Go.Proofs.YtiiokkllmchohaaGreat
open Go.RowKit Go.Shelf
attribute [local go_sem ↓] Go.wp_at_zero Go.wp_at_succ
def rF (p:List aj)(c k:Int)(r:Option aJ):List bF×Int:=if bD p=0 then (match bQ p c k with
 | none => ([], 4)
 | some m => match r with
  | none => ([], 5)
  | some s => (dX m s m.code.length, 0)) else ([], bD p)
theorem SI (w:World)(B:Nat):lT w B (.slice none 0 0) []:=⟨[],World.ownsRow_nil _ _ _ _,rfl,(List.nodup_nil:([]:List Nat).Nodup)⟩
theorem SH {g:Addr→Option Value} :aV 3 (vk g) (.slice none 0 0) []:=⟨none,0,0,0,rfl,Nat.le_refl _,⟨fun e=>absurd rfl e,.inl ⟨rfl,rfl⟩⟩,fun j x hj=>by simp at hj⟩
theorem JD.form {p:List aj}{c k:Int}{r:Option aJ}{w w':World}{e:Ending}(h:JD p c k r w w' e):∃v,e= .returned (.tuple #[v,.int .i64 (rF p c k r).2])∧lT w' w.heap.size v (rF p c k r).1∧Below w.heap.size w w':=by
 obtain⟨h1,h2,h3,hb⟩:=h;unfold rF
 by_cases hF:bD p=0
 ·rw [if_pos hF]
  cases hm:bQ p c k with
  | none => exact ⟨_, h2 hF hm, SI _ _, hb⟩
  | some m =>
   obtain⟨a1,a2⟩:=h3 hF m hm
   cases hr:r with
   | none => exact ⟨_, a1 hr, SI _ _, hb⟩
   | some s =>
    obtain⟨v,e1,e2⟩:=a2 s hr;exact⟨v,e1,e2,hb⟩
 ·rw [if_neg hF];exact⟨_,h1 hF,SI _ _,hb⟩
theorem Ro.form {p:List aj}{c k:Int}{r:Option aJ}{w w':World}{e:Ending}(h:Ro p c k r w w' e):∃v,e= .returned (.tuple #[v,.int .i64 (rF p c k r).2])∧aV 3 (Cb w') v (rF p c k r).1∧Below w.heap.size w w':=by
 obtain⟨h1,h2,h3,hb⟩:=h;unfold rF
 by_cases hF:bD p=0
 ·rw [if_pos hF]
  cases hm:bQ p c k with
  | none => exact ⟨_, h2 hF hm, SH, hb⟩
  | some m =>
   obtain⟨a1,a2⟩:=h3 hF m hm
   cases hr:r with
   | none => exact ⟨_, a1 hr, SH, hb⟩
   | some s =>
    obtain⟨v,e1,e2⟩:=a2 s hr;exact⟨v,e1,e2,hb⟩
 ·rw [if_neg hF];exact⟨_,h1 hF,SH,hb⟩
theorem ahi (p:List aj)(c k:Int):∃N r,∀m,bD p=0→bQ p c k=some m→jC p m N (dK sv0 0 (dO c m))=some r:=by
 by_cases hF:bD p=0
 ·cases hm:bQ p c k with
  | none => exact ⟨0, none, fun m _ e => by cases e⟩
  | some m =>
   obtain⟨N,r,e⟩:=aaK hF hm;exact⟨N,r,fun m' _ e'=>by cases e';exact e⟩
 ·exact⟨0,none,fun m h=>absurd h hF⟩
theorem aaI (p:List aj)(c k:Int)(r:Option aJ):(rF p c k r).1.length≤40:=by
 unfold rF
 by_cases hF:bD p=0
 ·rw [if_pos hF]
  cases hm:bQ p c k with
  | none => simp
  | some m =>
   cases r with
   | none => simp
   | some s => exact Nat.le_trans (N8 _ _ _) (qY hF hm).2.2.c40
 ·rw [if_neg hF];simp
theorem aaJ (p:List aj)(c k:Int)(r:Option aJ){N:Nat}(hT:∀m,bD p=0→bQ p c k=some m→jC p m N (dK sv0 0 (dO c m))=some r):∀f∈(rF p c k r).1,f.locals.length≤8∧f.stack.length≤8:=by
 unfold rF
 by_cases hF:bD p=0
 ·rw [if_pos hF]
  cases hm:bQ p c k with
  | none => exact fun f hf => by cases hf
  | some m =>
   have e:=hT m hF hm
   cases r with
   | none => exact fun f hf => by cases hf
   | some s =>
    obtain⟨_,_,O⟩:=qY hF hm;have hk0:0≤m.stack:=by have:=O.bg.2.2;have h:((dO c m).stk.length:Int)=0:=rfl;omega
    obtain⟨I,_⟩:=PE (wX hF) (qX hF).1.2 O.ok.stk O.c40 O.ins N _ _ (IZ (p:=p) (c:=c) O.a7 hk0) e;intro f hf;obtain⟨i,h1,_,rfl⟩:=ER hf;have dD:=O.c40;obtain⟨a1,a2⟩:=I.ok.ok i (by omega);have h8:=O.ok.stk;refine⟨?_,?_⟩
    ·show ((s.st.getD i zeroS).loc.take _).length≤8
     rw [List.length_take];omega
    ·show (s.st.getD i zeroS).stk.length≤8
     omega
 ·rw [if_neg hF];exact fun f hf=>by cases hf
theorem ahg (p:List aj)(c k:Int)(r:Option aJ){N:Nat}(hT:∀m,bD p=0→bQ p c k=some m→jC p m N (dK sv0 0 (dO c m))=some r):((rF p c k r).1.map iH).sum≤4194304:=by
 have h1:=aaI p c k r
 have h2:=FT iH 100 (rF p c k r).1 (fun f hf=>by
  have:=aaJ p c k r hT f hf;unfold iH
  omega)
 have h3:(rF p c k r).1.length*100≤40*100:=Nat.mul_le_mul_right _ h1;omega
theorem lT.mods {S:Nat→Prop}{w w':World}{B:Nat}{v:Value}{l:List bF}(h:lT w B v l)(m:ay S w w')(hS:∀k,B≤k→¬S k):lT w' B v l:=by
 obtain⟨cs,hO,hF,hN⟩:=h;exact⟨cs,eP hO m (fun g hg=>hS g (hO.lt g hg).1),gG.mods m _ _ hF (fun g hg=>hS g (gG.lt _ _ hF g hg).1),hN⟩
theorem jr.back {w w':World}{bh:Nat}{cs:List Value}{n:Nat}{es:Nat→List dF}(h:gK w bh cs n es)(hh:ug w' bh cs)(m:ay (fun k=>k=bh) w w'):gK w' bh cs n es:=by
 refine⟨hh,h.nil,h.c6,fun f h7 h19=>?_,h.apart,fun i hi e he=>(h.ent i hi e he).mods m (fun g hg=>(h.off i hi e he g hg).1),h.off⟩;obtain⟨v,h1,h2⟩:=h.row f h7 h19;exact⟨v,h1,eP h2 m (fun g hg=>by have:=h2.lt g hg;omega)⟩
theorem jr.ge {w:World}{bh:Nat}{cs:List Value}{n:Nat}{es:Nat→List dF}(h:gK w bh cs n es){D:Nat→Prop}(hD:∀g,D g→w.heap.size≤g):lJ bh cs es D:=
 ⟨fun x=>by have:=hD _ x;have:=h.hands.1.lt;omega,fun f k hf x=>by have:=hD _ x;have:=h.own hf;omega,fun j hj e he g hg x=>by
  obtain⟨c,hb,_⟩:=(h.ent j hj e he).2.2 g hg;have:=hb.lt;have:=hD _ x;omega⟩
theorem afG (w:World)(n:Nat):Below w.heap.size w (w.drewN n):=by
 induction n with
 | zero => exact Below.refl _ _
 | succ n ih => exact ih.drew
theorem ahK (p:List aj)(vp:Value)(c k:Int)(w:World)(bh:Nat)(cs0:List Value)(n:Nat)(es:Nat→List dF)(h:gK w bh cs0 n es)(hp:aV 3 (lU (jV bh w.heap.size w)) vp p)(hwf:jq p)(hz:bn p≤1048576)(hn:n≤200000)(hc:∀j,j<6→(es j).length≤2000000) :
  Calls Tryz.prog 20 #[.pointer (some ⟨bh,0,none⟩),.agg #[vp],.int .i64 c,.int .i64 k] w fun e w'=>e= .returned (.bool true)∧∃cs' n' es',Rj w w' bh cs0 cs' n n' es es':=by
 have hh:=h.hands;have n0:=h.nil 0 (by omega);have n1:=h.nil 1 (by omega);have n2:=h.nil 2 (by omega);have n3:=h.nil 3 (by omega);have n4:=h.nil 4 (by omega);have n5:=h.nil 5 (by omega);have vF:=hide h;obtain⟨N,r,hT⟩:=ahi p c k;have HT:=hide hT;clear hT h;have Dp:=hh.1.lt;have HP:=hide hp;have m0:=(ay.refl (fun _=>False) w).alloc (.cells #[vp] 24);have bp:=ak.new w #[vp] 24;have hh0:ug (w.alloc (.cells #[vp] 24)) bh cs0:=⟨hh.1.alloc _,hh.2⟩;have hs0:(w.alloc (.cells #[vp] 24)).heap.size=w.heap.size+1:=by simp
 have yD:=hide hs0;obtain⟨pa,_,_,aA,rfl,_⟩:=hp;clear hs0;go_enter Tryz.func20,Tryz.ntmps20
 go_wp2_with fail
 generalize w.alloc _=W at *;have TB:=ah yD;have uN:aV 3 (lU (jV bh W.heap.size W)) (.slice pa p.length aA) p:=aP (Ya m0 (by omega)) (ah HP);clear TB;have jR:=hide uN;refine Calls.mono (abk p _ W bh cs0 uN hh0 hh0.1.lt n0 n1 n2 n3 n4 hz) ?_;rintro e w1 ⟨gl,rfl,vt,vi,vf,vm,vc,ts,is,fs,ms,ks,cs,hL,t1,t2,t3',t4',t5'⟩;have ML:=hide hL.mods;have JU:=bp.mods hL.mods (by omega);have m2:=(ay.refl (fun _=>False) w1).alloc (.cells #[.slice (some ⟨gl,0,none⟩) p.length (p.length+1)] 24);have bx:=ak.new w1 #[.slice (some ⟨gl,0,none⟩) p.length (p.length+1)] 24;have wS:=JU.alloc (.cells #[.slice (some ⟨gl,0,none⟩) p.length (p.length+1)] 24)
 have lp2:aX (w1.alloc (.cells #[.slice (some ⟨gl,0,none⟩) p.length (p.length+1)] 24)) (.slice (some ⟨gl,0,none⟩) p.length (p.length+1)) p:=aP (dM.trans (EN t5 w1) (zW w1 _)) hL.prog;have HL:=hide hL;clear hL JU bp hh0 uN;go_wp2_with fail
 generalize w1.alloc _=w2 at *;have Nk:=hide lp2;refine Calls.mono (Yz p _ c k w2 lp2 hwf (by omega) N r (ah HT)) ?_;rintro e w4 KA;obtain⟨v4,rfl,Ob,hb4⟩:=KA.form;obtain⟨l,hl⟩:∃l,l=(rF p c k r).1:=⟨_,rfl⟩;obtain⟨er,her⟩:∃er,er=(rF p c k r).2:=⟨_,rfl⟩;have aaq:=aaI p c k r;rw [←hl] at Ob aaq;rw [←her];have pX:=hide (And.intro hl her);have aha:w1.heap.size<w2.heap.size:=bx.lt
 obtain⟨AP,AQ,rfl⟩:∃a c,v4= .slice a l.length c:=by
  obtain⟨_,hO,_⟩:=Ob;exact cZ hO
 have Wp:=hide Ob;clear KA Ob hl her;have m4:=m2.trans (sJ hb4) (fun _ _ f=>f);have ZW:=hb4.size;have XW:=bx.below hb4 bx.lt;have GR:=wS.below hb4 wS.lt;have x4:w4.cell? ⟨w1.heap.size,0,none⟩=some (.slice (some ⟨gl,0,none⟩) p.length (p.length+1)):=XW.cell 0;have p4:w4.cell? ⟨w.heap.size,0,none⟩=some (.slice pa p.length aA):=GR.cell 0;have Lu:=aP (Keeps.of_below hb4) (ah Nk);have LK:aX w4 (.slice pa p.length aA) p:=aP (dM.trans (uz (b:=bh) (n:=W.heap.size) (ah ML) (fun k hk e=>by omega)) (dM.trans (uz (b:=bh) (n:=W.heap.size) m4 (fun _ _ f=>f)) (mQ bh W.heap.size w4))) (ah jR)
 have hs4:=(ah HL).hs.stay m4 (fun _ _ _ _ f=>f.elim);have jI:=(ah HL).m.mods m4 (fun _ _ _ f=>f) (fun _ _ _ f=>f);have xu:=(ah HL).c.mods m4 (fun _ _ _ f=>f) (fun _ _ _ f=>f);clear lp2 m2 bx wS hb4 XW;go_wp2_with fail
 have hWs:=ah yD;refine Calls.mono (abd w4 W.heap.size w1.heap.size bh cs vt vi vf vm vc ts is fs ms ks p _ _ hs4 jI xu (ah HL).c3 (ah HL).c4 (by rw [(ah HL).rest 5 (Nat.le_refl _)];exact n5) Lu LK hz (by omega) (by omega) (by omega) (by omega) (by omega) (ah HL).hs.t.under (ah HL).hs.i.under (ah HL).hs.f.under (ah HL).m.under (ah HL).c.under) ?_;rintro e w5 ⟨rfl,hH5,m5⟩;have hcs:(((((cs.set 0 (.slice none 0 0)).set 1 (.slice none 0 0)).set 2 (.slice none 0 0)).set 3 (.slice none 0 0)).set 4 (.slice none 0 0)).set 5 (.slice none 0 0)=cs0:=aci (by rw [hs4.hands.2,hh.2]) n0 n1 n2 n3 n4 n5 (ah HL).rest;rw [hcs] at hH5
 have JV:=GR.mods m5 (fun e=>by omega);have p5:w5.cell? ⟨w.heap.size,0,none⟩=some (.slice pa p.length aA):=JV.cell 0;have M5:ay (fun k=>k=bh) w w5:=((((m0.mono (fun _ _ f=>f.elim)).trans (ah ML) (fun _ _ e=>e)).trans m4 (fun _ _ f=>f.elim)).trans m5 (fun k hk e=>by omega));have pp5:aX w5 (.slice pa p.length aA) p:=aP (dM.trans (uz (b:=bh) (n:=w.heap.size) M5 (fun k hk e=>by omega)) (mQ bh w.heap.size w5)) (ah HP);have alr:=m4.size
 have Wq:=hide (lT.mods (ah Wp) m5 (fun q hq e=>by
  have:=(ah HL).hs.lt;have:=(ah HL).hs.le
  omega))
 have Jk:Hid (gK w5 bh cs0 n es):=(ah vF).back hH5 M5;have Ej:=hide M5;have MV:=hide pp5;have hwl:=(ah ML).size;have hsz5:=M5.size;have hDw:w.heap.size≤w2.heap.size:=by omega
 have ahb:w2.heap.size≤w5.heap.size:=by have:=m5.size;have:=ZW;omega
 clear hs4 jI xu Lu LK m4 m5 x4 p4 GR hcs M5 hH5 HL ML pp5 Wp jR;go_wp2_with fail
 refine Calls.mono (ajf p _ c k w5 (ah MV) hwf (by omega) N r (ah HT)) ?_;rintro e w6 hRR;obtain⟨v6,rfl,EU,hb6⟩:=hRR.form;rw [←(ah pX).1] at EU;rw [←(ah pX).2]
 obtain⟨Ll,Lm,rfl⟩:∃a c,v6= .slice a l.length c:=by
  obtain⟨a,_,_,c,h,_⟩:=EU;exact⟨a,c,h⟩
 have nM:=sJ hb6;have Qx:=hide (lT.mods (ah Wq) nM (fun _ _ f=>f));have Jl:Hid (gK w6 bh cs0 n es):=(ah Jk).below hb6;have HF6:=hide EU;have MN:=hide hb6;have Ig:=hb6.size;have hlz:(l.map iH).sum≤4194304:=by rw [(ah pX).1];exact ahg p c k r (ah HT)
 have agO:∀f∈l,f.locals.length≤1000∧f.stack.length≤1000:=by rw [(ah pX).1];exact fun f hf=>(fun h=>⟨by omega,by omega⟩) (aaJ p c k r (ah HT) f hf)
 clear hRR EU hb6 nM Wq Jk p5 JV;go_wp2_with fail
 refine Calls.mono (acf l _ _ w6 (Zg (ah Qx)) (ah HF6) hlz) ?_;rintro e w7 ⟨rfl,nn,rfl⟩;have hb7:=afG w6 nn;have Ws:=hide (lT.mods (ah Qx) (sJ hb7) (fun _ _ f=>f));have Jm:Hid (gK (w6.drewN nn) bh cs0 n es):=(ah Jl).below hb7;have Jj:=hide ((ah MN).trans (hb7.mono Ig));clear Qx HF6 Jl hb7;generalize w6.drewN nn=w7 at *;go_wp2_with fail
 obtain⟨D,hD1,hD2⟩:=agc (ah Ws);refine Calls.mono (aa3 l _ w7 bh cs0 n es D (ah Jm) hD1 ((ah vF).ge (fun g hg=>by have:=hD2 g hg;omega)) (by omega) (by omega) (fun j hj=>by have:=hc j hj;omega) agO) ?_;rintro e w8 ⟨rfl,cs',es',K8,S8⟩;have Jo:=hide K8;have vH:=hide S8;have HD2:=hide hD2;have Qq:∀j,j<6→(es' j).length≤16777216:=fun j hj=>by have:=S8.cnt j hj;have:=hc j hj;omega
 clear K8 S8 hD1 hD2 Jm Ws;go_wp2_with fail
 refine Calls.mono (abf w8 bh cs' _ es' (ah Jo) Qq) ?_;rintro e w9 ⟨rfl,xB⟩;have Qm:=hide xB;clear xB;go_wp2_with ((go_at_call 48;refine (abg _ _).mono ?_);rintro e z ⟨rfl,rfl⟩)
 go_ret;have S8:=ah vH;have xB:=ah Qm;refine⟨aT (by simp),cs',_,es',⟨(ah Jo).below xB,by omega,fun j hj=>by have:=S8.cnt j hj;omega,?_,fun f k hf=>?_⟩⟩
 ·refine ((((ah Ej).mono (T:=fun k=>k=bh∨∃f,OwnAt cs0 f k) (fun _ _ e=>.inl e)).trans (sJ (ah Jj)) (fun _ _ f=>f.elim)).trans S8.mods (fun k hk hS=>?_)).trans (sJ xB) (fun _ _ f=>f.elim)
  rcases hS with x | x | x
  ·exact .inl x
  ·exact .inr x
  ·have:=ah HD2 k x;omega
 ·rcases S8.rows f k hf with x | x
  ·exact .inl x
  ·have:=(ah Jj).size;exact .inr (by omega)
theorem Iy {g:Addr→Option Value} :aV 3 (lU g) (.slice none 0 0) []:=⟨none,0,0,0,rfl,Nat.le_refl _,⟨fun e=>absurd rfl e,.inl ⟨rfl,rfl⟩⟩,fun j x hj=>by simp at hj⟩
theorem Gz.form {n:Nat}{p:List aj}{Q:Nat→Nat→Option aJ}{w w':World}{e:Ending}(h:Gz n p Q w w' e)(hwf:jq p)(hz:bn p≤1048576)(hQ:bD p=0→Ends p Q):∃a m cap q r,e= .returned (.tuple #[.agg #[.slice a m cap],.int .i64 r])∧aV 3 (lU (sel (fun k=>k<n∨w.heap.size+1<k) w')) (.slice a m cap) q∧jq q∧bn q≤1048576∧Below w.heap.size w w':=by
 obtain⟨h1,h2,hb⟩:=h
 by_cases hF:bD p=0
 ·rcases h2 hF with ⟨hA,v,rfl,hv⟩ | ⟨_,rfl⟩
  ·have hS:=YP (hQ hF) hA;have xQ:bn p≤4194304:=by omega
   obtain⟨a,_,_,cap,rfl,_⟩:=id hv;exact⟨a,_,cap,gQ p (iQ Q),0,rfl,hv,Yf hwf hF xQ hS,Nat.le_trans (af4 (Yc hF xQ hS)) (by decide),hb⟩
  ·exact⟨none,0,0,[],5,rfl,Iy,fun x hx=>(by cases hx),by decide,hb⟩
 ·obtain rfl:=h1 hF;exact⟨none,0,0,[],bD p,rfl,Iy,fun x hx=>(by cases hx),by decide,hb⟩
theorem acV {w W:World}{b:Nat}(h:Below w.heap.size w W)(hb:w.heap.size≤b):dM w.cell? (jV b W.heap.size W):=fun a v e=>by
 have h1:=cell_lt e;have h2:=Keeps.of_below h _ _ e;unfold jV;rw [if_pos ⟨by omega,cell_lt h2⟩];exact h2
theorem ajL {S:Nat→Prop} [DecidablePred S] {w W:World}{b:Nat}(h:Below w.heap.size w W)(hb:∀k,S k→k≠b):dM (sel S w) (jV b W.heap.size W):=fun a v e=>by
 obtain⟨h1,h2⟩:=DW e;have h3:=Keeps.of_below h _ _ h2;unfold jV;rw [if_pos ⟨hb _ h1,cell_lt h3⟩];exact h3
theorem sG.nil (B:Nat)(w:World):sG B w (.slice none 0 0) []:=⟨fun _=>False,⟨w.heap.size,[],fun _ _=>False,World.ownsRow_nil _ _ _ _,fun k x h=>by simp at h,fun _ _ _ _ h=>h.elim,fun _ _ h=>h.elim,fun g=>⟨fun h=>h.elim,fun h=>by
 rcases h with h | ⟨k,hk,_⟩
 ·cases h
 ·simp at hk⟩⟩,fun _ h=>h.elim⟩
theorem aes {p:List aj}{Q:Nat→Nat→Option aJ}(hwf:jq p)(hz:bn p≤4194304)(hQ:bD p=0→Ends p Q):∃q r,(q= []∨bD q=0)∧jq q∧
  (∀(w w':World) (e:Ending),MC p Q w w' e→∃a cap,e= .returned (.tuple #[.agg #[.slice a q.length cap],.int .i64 r])∧sF w.heap.size w' (.slice a q.length cap) q∧sG w.heap.size w' (.slice a q.length cap) q∧Below w.heap.size w w')∧
  ∀(n:Nat) (w w':World) (e:Ending),Gz n p Q w w' e→∃a cap,e= .returned (.tuple #[.agg #[.slice a q.length cap],.int .i64 r])∧aV 3 (lU (sel (fun k=>k<n∨w.heap.size+1<k) w')) (.slice a q.length cap) q∧Below w.heap.size w w':=by
 by_cases hF:bD p=0
 ·by_cases hA:o7 p Q
  ·have hS:=YP (hQ hF) hA;refine⟨gQ p (iQ Q),0,.inr (Yc hF hz hS),Yf hwf hF hz hS,?_,?_⟩
   ·rintro w w' e ⟨_,h2,hb⟩
    rcases h2 hF with ⟨_,v,rfl,hN,hO⟩ | ⟨h,_⟩
    ·obtain⟨a,_,_,cap,rfl,_⟩:=id hN;exact⟨a,cap,rfl,hN,hO,hb⟩
    ·exact absurd hA h
   ·rintro n w w' e ⟨_,h2,hb⟩
    rcases h2 hF with ⟨_,v,rfl,hv⟩ | ⟨h,_⟩
    ·obtain⟨a,_,_,cap,rfl,_⟩:=id hv;exact⟨a,cap,rfl,hv,hb⟩
    ·exact absurd hA h
  ·refine⟨[],5,.inl rfl,fun x hx=>(by cases hx),?_,?_⟩
   ·rintro w w' e ⟨_,h2,hb⟩
    rcases h2 hF with ⟨h,_⟩ | ⟨_,rfl⟩
    ·exact absurd h hA
    ·exact⟨none,0,rfl,Iy,sG.nil _ _,hb⟩
   ·rintro n w w' e ⟨_,h2,hb⟩
    rcases h2 hF with ⟨h,_⟩ | ⟨_,rfl⟩
    ·exact absurd h hA
    ·exact⟨none,0,rfl,Iy,hb⟩
 ·refine⟨[],bD p,.inl rfl,fun x hx=>(by cases hx),?_,?_⟩
  ·rintro w w' e ⟨h1,_,hb⟩;exact⟨none,0,h1 hF,Iy,sG.nil _ _,hb⟩
  ·rintro n w w' e ⟨h1,_,hb⟩;exact⟨none,0,h1 hF,Iy,hb⟩
theorem ah6 {b n:Nat}{w:World} :dM (jV b n w) (sel (fun k=>k<n) w):=fun a v e=>by
 unfold jV at e;unfold sel
 split at e
 ·next h=>rw [if_pos h.2];exact e
 ·cases e
theorem Yb {p:List aj} :∃Q:Nat→Nat→Option aJ,bD p=0→Ends p Q:=by
 by_cases hF:bD p=0
 ·obtain⟨Q,hQ⟩:=afI hF;exact⟨Q,fun _=>hQ⟩
 ·exact⟨fun _ _=>none,fun h=>absurd h hF⟩
theorem abe (p:List aj)(vp:Value)(w:World)(bh:Nat)(cs0:List Value)(n:Nat)(es:Nat→List dF)(h:gK w bh cs0 n es)(hp:aV 3 (lU (jV bh w.heap.size w)) vp p)(hwf:jq p)(hz:bn p≤1048576)(hn:n≤200000)(hc:∀j,j<6→(es j).length≤2000000) :
  Calls Tryz.prog 21 #[.pointer (some ⟨bh,0,none⟩),.agg #[vp]] w fun e w'=>e= .returned (.bool true)∧∃cs' n' es',Rj w w' bh cs0 cs' n n' es es':=by
 have hh:=h.hands;have n0:=h.nil 0 (by omega);have n1:=h.nil 1 (by omega);have n2:=h.nil 2 (by omega);have n3:=h.nil 3 (by omega);have n4:=h.nil 4 (by omega);have n5:=h.nil 5 (by omega);have vF:=hide h;obtain⟨Q,hQ⟩:=Yb (p:=p);have HQ:=hide hQ;obtain⟨q,er,hq1,hq2,hq3,hq4⟩:=aes hwf (by omega) hQ;have Xb:=hide hq3;have Xc:=hide hq4;obtain⟨k1,k2,k3,k4⟩:=ajT hq1;clear hQ h hq3 hq4 hq2 hq1;have Dp:=hh.1.lt;have HP:=hide hp;have m0:=(ay.refl (fun _=>False) w).alloc (.cells #[vp] 24);have bp:=ak.new w #[vp] 24;have hh0:ug (w.alloc (.cells #[vp] 24)) bh cs0:=⟨hh.1.alloc _,hh.2⟩;have hs0:(w.alloc (.cells #[vp] 24)).heap.size=w.heap.size+1:=by simp
 have yD:=hide hs0;obtain⟨pa,_,_,aA,rfl,_⟩:=hp;clear hs0;go_enter Tryz.func21,Tryz.ntmps21
 go_wp2_with fail
 generalize w.alloc _=W at *;have TB:=ah yD;have uN:aV 3 (lU (jV bh W.heap.size W)) (.slice pa p.length aA) p:=aP (Ya m0 (by omega)) (ah HP);clear TB;have jR:=hide uN;refine Calls.mono (abk p _ W bh cs0 uN hh0 hh0.1.lt n0 n1 n2 n3 n4 hz) ?_;rintro e w1 ⟨gl,rfl,vt,vi,vf,vm,vc,ts,is,fs,ms,ks,cs,hL,t1,t2,t3',t4',t5'⟩;have ML:=hide hL.mods;have JU:=bp.mods hL.mods (by omega);have m2:=(ay.refl (fun _=>False) w1).alloc (.cells #[.slice (some ⟨gl,0,none⟩) p.length (p.length+1)] 24);have bx:=ak.new w1 #[.slice (some ⟨gl,0,none⟩) p.length (p.length+1)] 24;have wS:=JU.alloc (.cells #[.slice (some ⟨gl,0,none⟩) p.length (p.length+1)] 24)
 have lp2:aX (w1.alloc (.cells #[.slice (some ⟨gl,0,none⟩) p.length (p.length+1)] 24)) (.slice (some ⟨gl,0,none⟩) p.length (p.length+1)) p:=aP (dM.trans (EN t5 w1) (zW w1 _)) hL.prog;have HL:=hide hL;clear hL JU bp hh0 uN;go_wp2_with fail
 generalize w1.alloc _=w2 at *;have Nk:=hide lp2;refine Calls.mono (aeD p _ w2 lp2 hwf (by omega) Q (ah HQ)) ?_;rintro e w4 KA;obtain⟨AP,AQ,rfl,ZA,hO4,hb4⟩:=ah Xb _ _ _ KA;have aha:w1.heap.size<w2.heap.size:=bx.lt;have WR:=hide ZA;have Jt:=hide hO4;clear KA ZA hO4 Xb;have m4:=(m2.trans (sJ hb4) (fun _ _ f=>f)).trans ((ay.refl (fun _=>False) w4).alloc (.cells #[.slice AP q.length AQ] 24)) (fun _ _ f=>f);have ZW:=hb4.size;have x4:w4.cell? ⟨w1.heap.size,0,none⟩=some (.slice (some ⟨gl,0,none⟩) p.length (p.length+1)):=(bx.below hb4 bx.lt).cell 0;have p4:w4.cell? ⟨w.heap.size,0,none⟩=some (.slice pa p.length aA):=(wS.below hb4 wS.lt).cell 0
 have akW:w1.heap.size<w4.heap.size:=(bx.below hb4 bx.lt).lt;have akV:w.heap.size<w4.heap.size:=(wS.below hb4 wS.lt).lt;have GR:=(wS.below hb4 wS.lt).alloc (.cells #[.slice AP q.length AQ] 24);have XR:=ak.new w4 #[.slice AP q.length AQ] 24;have hbb:=aS w4 (.cells #[.slice AP q.length AQ] 24);have iY:=hb4.trans (hbb.mono hb4.size);have ho4:=hide ((ah Jt).mods (sJ hbb) (fun _ _ f=>f) (Nat.le_refl _));have hn4:=hide ((ah WR).mods (sJ hbb) (fun _ _ f=>f) (Nat.le_refl _));have KG:w4.heap.size<(w4.alloc (.cells #[.slice AP q.length AQ] 24)).heap.size:=by simp
 have LP4:=hide (aP (Keeps.of_below iY) (ah Nk));clear lp2 m2 bx wS hb4 hbb iY Jt WR Nk;go_wp2_with fail
 generalize w4.alloc _=W4 at *;have Lu:=ah LP4;have LK:aX W4 (.slice pa p.length aA) p:=aP (dM.trans (uz (b:=bh) (n:=W.heap.size) (ah ML) (fun k hk e=>by omega)) (dM.trans (uz (b:=bh) (n:=W.heap.size) m4 (fun _ _ f=>f)) (mQ bh W.heap.size W4))) (ah jR);have hs4:=(ah HL).hs.stay m4 (fun _ _ _ _ f=>f.elim);have jI:=(ah HL).m.mods m4 (fun _ _ _ f=>f) (fun _ _ _ f=>f);have xu:=(ah HL).c.mods m4 (fun _ _ _ f=>f) (fun _ _ _ f=>f);have hWs:=ah yD
 refine Calls.mono (abd W4 W.heap.size w1.heap.size bh cs vt vi vf vm vc ts is fs ms ks p _ _ hs4 jI xu (ah HL).c3 (ah HL).c4 (by rw [(ah HL).rest 5 (Nat.le_refl _)];exact n5) Lu LK hz (by omega) (by omega) (by omega) (by omega) (by omega) (ah HL).hs.t.under (ah HL).hs.i.under (ah HL).hs.f.under (ah HL).m.under (ah HL).c.under) ?_;rintro e w5 ⟨rfl,hH5,m5⟩;have hcs:(((((cs.set 0 (.slice none 0 0)).set 1 (.slice none 0 0)).set 2 (.slice none 0 0)).set 3 (.slice none 0 0)).set 4 (.slice none 0 0)).set 5 (.slice none 0 0)=cs0:=aci (by rw [hs4.hands.2,hh.2]) n0 n1 n2 n3 n4 n5 (ah HL).rest;rw [hcs] at hH5;have hbW:bh<W.heap.size:=by omega
 have agm:W.heap.size≤w1.heap.size:=(ah ML).size;have hq5:∀k,w2.heap.size≤k→¬(k=bh∨W.heap.size≤k∧k<w1.heap.size):=fun k hk e=>by omega
 have JV:=GR.mods m5 (fun e=>by omega);have GU:=XR.mods m5 (fun e=>by omega);have p5:w5.cell? ⟨w.heap.size,0,none⟩=some (.slice pa p.length aA):=JV.cell 0;have q5:w5.cell? ⟨w4.heap.size,0,none⟩=some (.slice AP q.length AQ):=GU.cell 0;have M5:ay (fun k=>k=bh) w w5:=((((m0.mono (fun _ _ f=>f.elim)).trans (ah ML) (fun _ _ e=>e)).trans m4 (fun _ _ f=>f.elim)).trans m5 (fun k hk e=>by omega));have hps:aV 3 (lU (sel (fun k=>k<w.heap.size) w5)) (.slice pa p.length aA) p:=aP (dM.trans (uz (b:=bh) (n:=w.heap.size) M5 (fun k hk e=>by omega)) ah6) (ah HP);have ku:=hide ((ah ho4).mods m5 hq5 (Nat.le_refl _))
 have WS:=hide ((ah hn4).mods m5 hq5 (Nat.le_refl _));have Jk:Hid (gK w5 bh cs0 n es):=(ah vF).back hH5 M5;have Ej:=hide M5;have MV:=hide hps;have hsz5:=M5.size;have hDw:w.heap.size≤w2.heap.size:=by omega
 have ahb:w2.heap.size≤w5.heap.size:=by have:=m5.size;omega
 have akX:w4.heap.size<w5.heap.size:=by have:=m5.size;omega
 clear hs4 jI xu Lu LK m4 m5 x4 p4 GR XR hcs M5 hH5 HL ML hps jR ho4 hn4 hq5 agm;go_wp2_with fail
 refine Calls.mono (ab7 w.heap.size p _ w5 (by omega) (ah MV) hwf (by omega) Q (ah HQ)) ?_;rintro e w6 hRR;obtain⟨Ll,Lm,rfl,EU,hb6⟩:=ah Xc _ _ _ _ hRR;have hbb:=aS w6 (.cells #[.slice Ll q.length Lm] 24);have yS:=hb6.trans (hbb.mono hb6.size);have HF6:Hid (aX (w6.alloc (.cells #[.slice Ll q.length Lm] 24)) (.slice Ll q.length Lm) q):=aP (dM.trans jk (Keeps.of_below hbb)) EU;have RI:=GU.below yS GU.lt;have q6:w6.cell? ⟨w4.heap.size,0,none⟩=some (.slice AP q.length AQ):=(GU.below hb6 GU.lt).cell 0;have akY:w4.heap.size<w6.heap.size:=by have:=hb6.size;omega
 have wK:=hide ((ah ku).mods (sJ yS) (fun _ _ f=>f) (Nat.le_refl _));have WT:=hide ((ah WS).mods (sJ yS) (fun _ _ f=>f) (Nat.le_refl _));have Jl:Hid (gK (w6.alloc (.cells #[.slice Ll q.length Lm] 24)) bh cs0 n es):=(ah Jk).below yS;have MN:=hide yS;clear hRR EU hb6 yS hbb ku WS Jk p5 JV q5 GU Xc HQ MV;go_wp2_with fail
 generalize w6.alloc _=W6 at *;have Ig:=(ah MN).size;refine Calls.mono (acg q _ _ W6 (ah WT).read (ah HF6) (by omega)) ?_;rintro e w7 ⟨rfl,hb7⟩;have WU:=hide ((ah wK).mods (sJ hb7) (fun _ _ f=>f) (Nat.le_refl _));have Jm:Hid (gK w7 bh cs0 n es):=(ah Jl).below hb7;have Jj:=hide ((ah MN).trans (hb7.mono Ig));have XU:=RI.below hb7 RI.lt;have q7:w7.cell? ⟨w4.heap.size,0,none⟩=some (.slice AP q.length AQ):=XU.cell 0;clear wK WT HF6 Jl hb7 q6 RI;go_wp2_with fail
 obtain⟨D,hD1,hD2⟩:=ah WU;refine Calls.mono (ahE q _ w7 bh cs0 n es D (ah Jm) hD1 ((ah vF).ge (fun g hg=>by have:=hD2 g hg;omega)) (by omega) (by omega) (fun j hj=>by have:=hc j hj;omega) k2 (by omega)) ?_;rintro e w8 ⟨rfl,cs',es',K8,S8⟩;have Jo:=hide K8;have vH:=hide S8;have HD2:=hide hD2;have Qq:∀j,j<6→(es' j).length≤16777216:=fun j hj=>by have:=S8.cnt j hj;have:=hc j hj;omega
 clear K8 S8 hD1 hD2 Jm WU q7 XU;go_wp2_with fail
 refine Calls.mono (abf w8 bh cs' _ es' (ah Jo) Qq) ?_;rintro e w9 ⟨rfl,xB⟩;have Qm:=hide xB;clear xB;go_wp2_with ((go_at_call 48;refine (abg _ _).mono ?_);rintro e z ⟨rfl,rfl⟩)
 go_ret;have S8:=ah vH;have xB:=ah Qm;refine⟨aT (by simp),cs',_,es',⟨(ah Jo).below xB,by omega,fun j hj=>by have:=S8.cnt j hj;omega,?_,fun f k hf=>?_⟩⟩
 ·refine ((((ah Ej).mono (T:=fun k=>k=bh∨∃f,OwnAt cs0 f k) (fun _ _ e=>.inl e)).trans (sJ (ah Jj)) (fun _ _ f=>f.elim)).trans S8.mods (fun k hk hS=>?_)).trans (sJ xB) (fun _ _ f=>f.elim)
  rcases hS with x | x | x
  ·exact .inl x
  ·exact .inr x
  ·have:=ah HD2 k x;omega
 ·rcases S8.rows f k hf with x | x
  ·exact .inl x
  ·have:=(ah Jj).size;exact .inr (by omega)
end Go.Proofs.YtiiokkllmchohaaGreat
