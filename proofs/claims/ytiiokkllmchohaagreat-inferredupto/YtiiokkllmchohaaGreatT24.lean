/- The least state above two: the code. -/
import Derived.Test.YtiiokkllmchohaaGreatT23
set_option maxHeartbeats 4000000
set_option maxRecDepth 100000
namespace Go.Proofs.YtiiokkllmchohaaGreat
open Go.RowKit Go.Shelf
attribute [local go_sem ↓] Go.wp_at_zero Go.wp_at_succ
attribute [local go_sem] bW
def adr (p:List aj)(s t:aH)(w w':World)(e:Ending):Prop:=
 (s.stk.length=t.stk.length→∃cs',e= .returned (.tuple #[.agg cs'.toArray,.bool true])∧eX (jh p s t) cs')∧(s.stk.length≠t.stk.length→e= .returned (.tuple #[.agg eH.toArray,.bool false]))∧Below w.heap.size w w'
theorem PG (p:List aj)(vc:Value)(s t:aH)(cs ds:List Value)(w:World)(hp:aX w vc p)(hs:aU p p.length)(hz:p.length≤4194304)(hS:eX s cs)(hT:eX t ds)(ts:∀x∈s.loc,bT p.length x)(ts':∀x∈s.stk,bT p.length x)(tt:∀x∈t.loc,bT p.length x)(Vy:∀x∈t.stk,bT p.length x) :
  Calls Tryz.prog 142 #[.agg cs.toArray,.agg #[vc],.agg ds.toArray] w fun e w'=>adr p s t w w' e:=by
 have HP:=hide hp;have sl:=hS.ok.1;have tl:=hT.ok.1;have s8:=hS.ok.2;obtain⟨pa,_,_,aA,rfl,_⟩:=hp;have hbel:Below w.heap.size w ((((w.alloc (.cells cs.toArray 130)).alloc (.cells #[.slice pa p.length aA] 24)).alloc (.cells ds.toArray 130)).alloc (.cells #[.int .i64 0,.int .i64 0,.int .i64 0,.int .i64 0,.int .i64 0,.int .i64 0,.int .i64 0,.int .i64 0,.int .i64 0,.int .i64 0,.int .i64 0,.int .i64 0,.int .i64 0,.int .i64 0,.int .i64 0,.int .i64 0,.int .i64 0] 130)):=(((aS w _).alloc (by simp) _).alloc (by simp;omega) _).alloc (by simp;omega) _
 have B0:ak ((((w.alloc (.cells cs.toArray 130)).alloc (.cells #[.slice pa p.length aA] 24)).alloc (.cells ds.toArray 130)).alloc (.cells #[.int .i64 0,.int .i64 0,.int .i64 0,.int .i64 0,.int .i64 0,.int .i64 0,.int .i64 0,.int .i64 0,.int .i64 0,.int .i64 0,.int .i64 0,.int .i64 0,.int .i64 0,.int .i64 0,.int .i64 0,.int .i64 0,.int .i64 0] 130)) w.heap.size 130 cs:=(((ak.new w cs.toArray _).alloc _).alloc _).alloc _
 have B1:ak ((((w.alloc (.cells cs.toArray 130)).alloc (.cells #[.slice pa p.length aA] 24)).alloc (.cells ds.toArray 130)).alloc (.cells #[.int .i64 0,.int .i64 0,.int .i64 0,.int .i64 0,.int .i64 0,.int .i64 0,.int .i64 0,.int .i64 0,.int .i64 0,.int .i64 0,.int .i64 0,.int .i64 0,.int .i64 0,.int .i64 0,.int .i64 0,.int .i64 0,.int .i64 0] 130)) (w.heap.size+1) 24 [.slice pa p.length aA]:=by
  have:=ak.new (w.alloc (.cells cs.toArray 130)) #[.slice pa p.length aA] 24;rw [World.size_alloc] at this;exact (this.alloc _).alloc _
 have B2:ak ((((w.alloc (.cells cs.toArray 130)).alloc (.cells #[.slice pa p.length aA] 24)).alloc (.cells ds.toArray 130)).alloc (.cells #[.int .i64 0,.int .i64 0,.int .i64 0,.int .i64 0,.int .i64 0,.int .i64 0,.int .i64 0,.int .i64 0,.int .i64 0,.int .i64 0,.int .i64 0,.int .i64 0,.int .i64 0,.int .i64 0,.int .i64 0,.int .i64 0,.int .i64 0] 130)) (w.heap.size+1+1) 130 ds:=by
  have:=ak.new ((w.alloc (.cells cs.toArray 130)).alloc (.cells #[.slice pa p.length aA] 24)) ds.toArray 130;rw [World.size_alloc,World.size_alloc] at this;exact this.alloc _
 have B3:ak ((((w.alloc (.cells cs.toArray 130)).alloc (.cells #[.slice pa p.length aA] 24)).alloc (.cells ds.toArray 130)).alloc (.cells #[.int .i64 0,.int .i64 0,.int .i64 0,.int .i64 0,.int .i64 0,.int .i64 0,.int .i64 0,.int .i64 0,.int .i64 0,.int .i64 0,.int .i64 0,.int .i64 0,.int .i64 0,.int .i64 0,.int .i64 0,.int .i64 0,.int .i64 0] 130)) (w.heap.size+1+1+1) 130 eH:=by
  have:=ak.new (((w.alloc (.cells cs.toArray 130)).alloc (.cells #[.slice pa p.length aA] 24)).alloc (.cells ds.toArray 130)) #[.int .i64 0,.int .i64 0,.int .i64 0,.int .i64 0,.int .i64 0,.int .i64 0,.int .i64 0,.int .i64 0,.int .i64 0,.int .i64 0,.int .i64 0,.int .i64 0,.int .i64 0,.int .i64 0,.int .i64 0,.int .i64 0,.int .i64 0] 130;rw [World.size_alloc,World.size_alloc,World.size_alloc] at this;exact this
 have h0:(((((w.alloc (.cells cs.toArray 130)).alloc (.cells #[.slice pa p.length aA] 24)).alloc (.cells ds.toArray 130)).alloc (.cells #[.int .i64 0,.int .i64 0,.int .i64 0,.int .i64 0,.int .i64 0,.int .i64 0,.int .i64 0,.int .i64 0,.int .i64 0,.int .i64 0,.int .i64 0,.int .i64 0,.int .i64 0,.int .i64 0,.int .i64 0,.int .i64 0,.int .i64 0] 130))).cell? ⟨w.heap.size,16,none⟩=some (.int .i64 (s.stk.length:Int)):=by rw [B0.cell];exact hS.ht
 have h2:(((((w.alloc (.cells cs.toArray 130)).alloc (.cells #[.slice pa p.length aA] 24)).alloc (.cells ds.toArray 130)).alloc (.cells #[.int .i64 0,.int .i64 0,.int .i64 0,.int .i64 0,.int .i64 0,.int .i64 0,.int .i64 0,.int .i64 0,.int .i64 0,.int .i64 0,.int .i64 0,.int .i64 0,.int .i64 0,.int .i64 0,.int .i64 0,.int .i64 0,.int .i64 0] 130))).cell? ⟨w.heap.size+1+1,16,none⟩=some (.int .i64 (t.stk.length:Int)):=by rw [B2.cell];exact hT.ht
 by_cases hlen:s.stk.length=t.stk.length
 ·have hq:((s.stk.length:Int) != (t.stk.length:Int))=false:=by rw [hlen];simp
  have HLEN:=hide hlen;clear hlen;go_enter Tryz.func142,Tryz.ntmps142
  go_wp2_with (refine yj XE B2 0 (t.loc.map (Value.int .i64)) (by simp [tl]) (fun j v e=>by
    rw [List.getElem?_map] at e
    cases e':t.loc[j]? with
    | none => rw [e'] at e; cases e
    | some x => rw [e'] at e; cases e; rw [Nat.zero_add]; exact hT.loc j x e') (.tmp 18) rfl rfl rfl ?_)
  clear h0 h2 hq;generalize hW:(((w.alloc _).alloc _).alloc _).alloc _=W;have hbW:Below w.heap.size w W:=by rw [←hW];exact hbel
  replace B0:ak W w.heap.size 130 cs:=by rw [←hW];exact B0
  replace B1:ak W (w.heap.size+1) 24 [.slice pa p.length aA]:=by rw [←hW];exact B1
  replace B2:ak W (w.heap.size+1+1) 130 ds:=by rw [←hW];exact B2
  replace B3:ak W (w.heap.size+1+1+1) 130 eH:=by rw [←hW];exact B3
  clear hW hbel
  go_loopw [20] (fun i wr=>∃(k:Nat) (cc:List Value),k≤8∧i= .int .i64 k∧eX (oP p s t k) cc∧ak wr w.heap.size 130 cc∧ak wr (w.heap.size+1) 24 [.slice pa p.length aA]∧ak wr (w.heap.size+1+1) 130 ds∧ak wr (w.heap.size+1+1+1) 130 eH∧Below w.heap.size w wr) (fun i _=>8-(intOf i).toNat)
  case atStart=>exact ⟨0,cs,by omega,rfl,hS,B0,B1,B2,B3,hbW⟩
  case round=>
   obtain⟨k,cc,hk,rfl,hcc,C0,C1,C2,C3,hb⟩:=hrel;have jc:=hide (aP (Keeps.of_below hb) (ah HP));have rY:=hide hcc
   by_cases hlt:k<8
   ·have hk1:k<s.loc.length:=by omega
    have hk2:k<t.loc.length:=by omega
    have hx:=ts _ (List.getElem_mem hk1);have hy:=tt _ (List.getElem_mem hk2);have hgx:cc[k]? =some (.int .i64 s.loc[k]):=hcc.loc k _ (by rw [aaT p s t k k (Nat.le_refl _)];exact List.getElem?_eq_getElem hk1)
    have QW:Hid (eX (oP p s t (k+1)) (cc.set k (.int .i64 (dJ p s.loc[k] t.loc[k])))):=by
     have:=hcc.set k (dJ p s.loc[k] t.loc[k]) hlt;have e1:s.loc.getD k 0=s.loc[k]:=by rw [List.getD_eq_getElem?_getD,List.getElem?_eq_getElem hk1];rfl
     have e2:t.loc.getD k 0=t.loc[k]:=by rw [List.getD_eq_getElem?_getD,List.getElem?_eq_getElem hk2];rfl
     show eX (xZ (oP p s t k) k (dJ p (s.loc.getD k 0) (t.loc.getD k 0))) _
     rw [e1,e2];exact this
    have c0:wr.cell? ⟨w.heap.size,k,none⟩=some (.int .i64 s.loc[k]):=(C0.cell k).trans hgx;have c1:wr.cell? ⟨w.heap.size+1,0,none⟩=some (.slice pa p.length aA):=C1.cell 0;have hv:(t.loc.map (Value.int .i64))[k]? =some (.int .i64 t.loc[k]):=by rw [List.getElem?_map,List.getElem?_eq_getElem hk2];rfl
    generalize s.loc[k]=x at *;generalize t.loc[k]=y at *;have hlt':(k:Int)<8:=by omega
    have k0:(0:Int)≤(k:Int):=by omega
    clear hcc;go_wp2_with (refine acX (.tmp 19) (.tmp 20) rfl rfl (t.loc.map (Value.int .i64)) k (.int .i64 y) rfl rfl hlt hv ?_)
    refine wp_region_noPanic ?_;refine wp_region_held_drew (S:=(fun w'=>w'.cell? ⟨w.heap.size+1,0,none⟩=some (.slice pa p.length aA))) (by kernel_rfl) ?_ (fun hHeld=>?_)
    ·exact c1
    refine au 24 0 ?_;refine au 25 1 ?_;refine au 26 2 ?_;refine au 27 3 ?_;refine au 28 4 ?_;refine au 30 6 ?_;refine au 32 8 ?_;refine aW 5 (fun K hK=>?_);go_simp;refine hK.out _ _ c1 (fun hHeld=>?_);clear hK K;try simp only [Act.put,aK,aO,aN]
    refine aW 7 (fun K hK=>?_);go_simp;refine (YB p _ x y _ (aP (Keeps.of_below ((Below.refl _ _).drew)) (ah jc)) hs hz hx hy).mono ?_;rintro e w3 ⟨rfl,hb3⟩;have dY:Below wr.heap.size wr w3:=⟨hb3.os,hb3.tape,hb3.output,hb3.size,hb3.block⟩;have D0:=C0.below dY C0.lt;have D1:=C1.below dY C1.lt;have D2:=C2.below dY C2.lt;have D3:=C3.below dY C3.lt;have c13:w3.cell? ⟨w.heap.size+1,0,none⟩=some (.slice pa p.length aA):=D1.cell 0;have c03:w3.cell? ⟨w.heap.size,k,none⟩=some (.int .i64 x):=(D0.cell _).trans hgx;have Sz:=D0.frozen (k);go_wp2_with fail
    refine hK.out _ _ c13 (fun hHeld=>?_);clear hK K;try simp only [Act.put,aK,aO,aN]
    refine au 33 9 ?_;refine aW 10 (fun K hK=>?_);go_simp;refine hK.out _ _ ((D1.iq (p:=⟨w.heap.size,k,none⟩) (by dsimp only;omega) (.int .i64 (dJ p x y))).cell 0) (fun hHeld=>?_);clear hK K;try simp only [Act.put,aK,aO,aN]
    refine wpAnyH_done (by kernel_rfl) ?_ _;refine NoPanic.normal ?_;have HX:=hide (And.intro (D0.setCell (k) (.int .i64 (dJ p x y))) (And.intro (D1.iq (p:=⟨w.heap.size,k,none⟩) (by dsimp only;omega) (.int .i64 (dJ p x y))) (And.intro (D2.iq (p:=⟨w.heap.size,k,none⟩) (by dsimp only;omega) (.int .i64 (dJ p x y))) (And.intro (D3.iq (p:=⟨w.heap.size,k,none⟩) (by dsimp only;omega) (.int .i64 (dJ p x y))) ((hb.trans (dY.mono hb.size)).setCell (p:=⟨w.heap.size,k,none⟩) (Nat.le_refl _) (.int .i64 (dJ p x y)))))));clear c13 c03 Sz D0 D1 D2 D3 hb3 dY C0 C1 C2 C3 hb hHeld c1 c0;go_wp2_with fail
    obtain⟨z0,z1,z2,z3,z4⟩:=ah HX;exact⟨⟨k+1,_,by omega,by go_num,ah QW,z0,z1,z2,z3,z4⟩,by simp [intOf];omega⟩
   ·obtain rfl:k=8:=by omega
    have q0:wr.cell? ⟨w.heap.size,16,none⟩=some (.int .i64 (s.stk.length:Int)):=by
     have e:=hcc.ht;rw [Le] at e;exact (C0.cell 16).trans e
    have n0:(0:Int)≤(s.stk.length:Int):=by omega
    have n8:(s.stk.length:Int)≤8:=by omega
    have hlt':¬((8:Nat):Int)<8:=by omega
    clear hlt B0 B1 B2 B3 hbW rY jc;go_wp2_with fail
    generalize wr=V at *
    go_loopw [40] (fun i wr=>∃(k:Nat) (cc:List Value),k≤s.stk.length∧i= .int .i64 k∧eX (qx p s t k) cc∧ak wr w.heap.size 130 cc∧ak wr (w.heap.size+1) 24 [.slice pa p.length aA]∧ak wr (w.heap.size+1+1) 130 ds∧ak wr (w.heap.size+1+1+1) 130 eH∧Below w.heap.size w wr) (fun i _=>s.stk.length-(intOf i).toNat)
    case atStart=>exact ⟨0,cc,by omega,rfl,hcc,C0,C1,C2,C3,hb⟩
    case round=>
     clear C0 C1 C2 C3 hb hcc q0;obtain⟨k,cc,hk,rfl,hcc,C0,C1,C2,C3,hb⟩:=hrel;have jc:=hide (aP (Keeps.of_below hb) (ah HP))
     by_cases hlt:k<s.stk.length
     ·have hk2:k<t.stk.length:=by have:=ah HLEN;omega
      have hx:=ts' _ (List.getElem_mem hlt);have hy:=Vy _ (List.getElem_mem hk2);have hgx:cc[8+k]? =some (.int .i64 s.stk[k]):=hcc.stk k _ (by rw [aaW p s t k k (Nat.le_refl _)];exact List.getElem?_eq_getElem hlt)
      have QW:Hid (eX (qx p s t (k+1)) (cc.set (8+k) (.int .i64 (dJ p s.stk[k] t.stk[k])))):=by
       have:=hcc.ajP k (dJ p s.stk[k] t.stk[k]) (by rw [Lj];exact hlt);have e1:s.stk.getD k 0=s.stk[k]:=by rw [List.getD_eq_getElem?_getD,List.getElem?_eq_getElem hlt];rfl
       have e2:t.stk.getD k 0=t.stk[k]:=by rw [List.getD_eq_getElem?_getD,List.getElem?_eq_getElem hk2];rfl
       show eX (IY (qx p s t k) k (dJ p (s.stk.getD k 0) (t.stk.getD k 0))) _
       rw [e1,e2];exact this
      have c0:wr.cell? ⟨w.heap.size,8+k,none⟩=some (.int .i64 s.stk[k]):=(C0.cell _).trans hgx;have c1:wr.cell? ⟨w.heap.size+1,0,none⟩=some (.slice pa p.length aA):=C1.cell 0;have c2:wr.cell? ⟨w.heap.size+1+1,8+k,none⟩=some (.int .i64 t.stk[k]):=(C2.cell _).trans (hT.stk k _ (List.getElem?_eq_getElem hk2));generalize s.stk[k]=x at *;generalize t.stk[k]=y at *;have hlt':(k:Int)<(s.stk.length:Int):=by omega
      have agP:(k:Int)<8:=by omega
      have k0:(0:Int)≤(k:Int):=by omega
      clear hcc;go_wp2_with fail
      refine wp_region_noPanic ?_;refine wp_region_held_drew (S:=(fun w'=>w'.cell? ⟨w.heap.size+1,0,none⟩=some (.slice pa p.length aA))) (by kernel_rfl) ?_ (fun hHeld=>?_)
      ·exact c1
      refine au 45 0 ?_;refine au 46 1 ?_;refine au 47 2 ?_;refine au 48 3 ?_;refine au 49 4 ?_;refine au 51 6 ?_;refine au 53 8 ?_;refine aW 5 (fun K hK=>?_);go_simp;refine hK.out _ _ c1 (fun hHeld=>?_);clear hK K;try simp only [Act.put,aK,aO,aN]
      refine aW 7 (fun K hK=>?_);go_simp;refine (YB p _ x y _ (aP (Keeps.of_below ((Below.refl _ _).drew)) (ah jc)) hs hz hx hy).mono ?_;rintro e w3 ⟨rfl,hb3⟩;have dY:Below wr.heap.size wr w3:=⟨hb3.os,hb3.tape,hb3.output,hb3.size,hb3.block⟩;have D0:=C0.below dY C0.lt;have D1:=C1.below dY C1.lt;have D2:=C2.below dY C2.lt;have D3:=C3.below dY C3.lt;have c13:w3.cell? ⟨w.heap.size+1,0,none⟩=some (.slice pa p.length aA):=D1.cell 0;have c03:w3.cell? ⟨w.heap.size,8+k,none⟩=some (.int .i64 x):=(D0.cell _).trans hgx;have Sz:=D0.frozen (8+k);go_wp2_with fail
      refine hK.out _ _ c13 (fun hHeld=>?_);clear hK K;try simp only [Act.put,aK,aO,aN]
      refine au 54 9 ?_;refine aW 10 (fun K hK=>?_);go_simp;refine hK.out _ _ ((D1.iq (p:=⟨w.heap.size,8+k,none⟩) (by dsimp only;omega) (.int .i64 (dJ p x y))).cell 0) (fun hHeld=>?_);clear hK K;try simp only [Act.put,aK,aO,aN]
      refine wpAnyH_done (by kernel_rfl) ?_ _;refine NoPanic.normal ?_;have HX:=hide (And.intro (D0.setCell (8+k) (.int .i64 (dJ p x y))) (And.intro (D1.iq (p:=⟨w.heap.size,8+k,none⟩) (by dsimp only;omega) (.int .i64 (dJ p x y))) (And.intro (D2.iq (p:=⟨w.heap.size,8+k,none⟩) (by dsimp only;omega) (.int .i64 (dJ p x y))) (And.intro (D3.iq (p:=⟨w.heap.size,8+k,none⟩) (by dsimp only;omega) (.int .i64 (dJ p x y))) ((hb.trans (dY.mono hb.size)).setCell (p:=⟨w.heap.size,8+k,none⟩) (Nat.le_refl _) (.int .i64 (dJ p x y)))))));clear c13 c03 Sz D0 D1 D2 D3 hb3 dY C0 C1 C2 C3 hb hHeld c1 c0;go_wp2_with fail
      obtain⟨z0,z1,z2,z3,z4⟩:=ah HX;exact⟨⟨k+1,_,by omega,by go_num,ah QW,z0,z1,z2,z3,z4⟩,by simp [intOf];omega⟩
     ·obtain rfl:k=s.stk.length:=by omega
      have hlt':¬(s.stk.length:Int)<(s.stk.length:Int):=by omega
      have hl:=hcc.len;clear hlt
      go_wp2_with (first
       | refine yj fM C0 0 cc hl (fun j v e => by simpa using e) (.tmp 3) rfl rfl rfl ?_
       | (refine iZ fM C3 0 cc hl (by simp [eH]) hcc.one (.tmp 6) (.tmp 56) rfl rfl rfl rfl ?_; intro w7 iw kZ hs7))
      rw [gB (by rw [hl];rfl)] at iw;refine bodyPost_ret (jQ rfl fM iw hl rfl) rfl ?_;exact⟨fun _=>⟨cc,rfl,hcc⟩,fun e=>absurd (ah HLEN) e,hb.trans (kZ.below hb.size (fun k hk e=>by omega))⟩
 ·have hq:((s.stk.length:Int) != (t.stk.length:Int))=true:=by simp;omega
  have HN:=hide hlen;clear hlen;go_enter Tryz.func142,Tryz.ntmps142
  go_wp2_with (refine iZ fM B3 0 eH rfl (by simp [eH]) VN (.tmp 6) (.tmp 17) rfl rfl rfl rfl ?_;intro w7 iw kZ hs7)
  rw [gB (by rfl:eH.length=eH.length)] at iw;refine bodyPost_ret (jQ rfl fM iw rfl rfl) rfl ?_;exact⟨fun e=>absurd e (ah HN),fun _=>rfl,hbel.trans (kZ.below (by simp;omega) (fun k hk e=>by omega))⟩
end Go.Proofs.YtiiokkllmchohaaGreat
namespace Go.Proofs.YtiiokkllmchohaaGreat
open Go.RowKit
def zeroS:aH:=⟨List.replicate 8 0,[]⟩
theorem akx:okS zeroS:=⟨rfl,by decide⟩
theorem akw:uV zeroS=eH:=rfl
structure aJ where
 st:List aH
 re:List Bool
 ra:List Bool
def sv0:aJ:=⟨List.replicate 40 zeroS,List.replicate 40 false,List.replicate 40 false⟩
def dK (s:aJ)(i:Nat)(g:aH):aJ:=⟨s.st.set i g,s.re.set i true,s.ra.set i true⟩
def ji (p:List aj)(i:Nat)(g:aH)(s:aJ):Option aJ:=
 if s.re.getD i false then
  if jw p g (s.st.getD i zeroS) then some s
  else if (s.st.getD i zeroS).stk.length=g.stk.length then some (dK s i (jh p (s.st.getD i zeroS) g)) else none
 else some (dK s i g)
def lF (p:List aj)(n:aH):List (Int×Bool)→aJ→Option aJ
 | [], s => some s
 | y :: r, s => (ji p y.1.toNat n s).bind (lF p n r)
def uK (p:List aj)(m:aC)(i:Nat)(s:aJ):Option aJ:=(jy p m i (s.st.getD i zeroS)).bind fun n=>lF p n (gy (bH m i) i) s
def pG (p:List aj)(m:aC)(i:Nat)(s:aJ×Bool):Option (aJ×Bool):=
 if s.1.ra.getD i false then (uK p m i { s.1 with ra:=s.1.ra.set i false }).map fun s'=>(s',true) else some s
def lQ (p:List aj)(m:aC)(s:aJ):Nat→Option (aJ×Bool)
 | 0 => some (s, false)
 | k + 1 => (lQ p m s k).bind (pG p m k)
def jC (p:List aj)(m:aC):Nat→aJ→Option (Option aJ)
 | 0, _ => none
 | n + 1, s => match lQ p m s m.code.length with
  | none => some none
  | some (s', true) => jC p m n s'
  | some (s', false) => some (some s')

structure kD (s:aJ)(css:List (List Value)):Prop where
 l1:s.st.length=40
 l2:s.re.length=40
 l3:s.ra.length=40
 lc:css.length=40
 cs:∀(i:Nat) (x:aH) (c:List Value),s.st[i]? =some x→css[i]? =some c→eX x c
def iE (vp:Value)(mc:List Value)(css:List (List Value))(s:aJ):List Value:=vp::mc++(css.flatten++(s.re.map Value.bool++s.ra.map Value.bool))
def jT (w:World)(bs:Nat)(vp:Value)(mc:List Value)(s:aJ):Prop:=∃css,kD s css∧ak w bs 134 (iE vp mc css s)
theorem kD.one {s:aJ}{css:List (List Value)}(h:kD s css){i:Nat}{c:List Value}(hc:css[i]? =some c):c.length=17:=by
 have hi:i<css.length:=(List.getElem?_eq_some_iff.1 hc).1;have hx:=List.getElem?_eq_getElem (show i<s.st.length by rw [h.l1,←h.lc];exact hi);exact (h.cs i _ c hx hc).len
theorem kD.put {s:aJ}{css:List (List Value)}(h:kD s css)(i:Nat){g:aH}{c:List Value}(hc:eX g c):kD (dK s i g) (css.set i c):=by
 refine⟨by simpa [dK] using h.l1,by simpa [dK] using h.l2,by simpa [dK] using h.l3,by simpa using h.lc,fun j x d e1 e2=>?_⟩;have e1':(s.st.set i g)[j]? =some x:=e1
 by_cases hij:i=j
 ·subst hij
  have hi:i<s.st.length:=by
   have:=(List.getElem?_eq_some_iff.1 e1').1;simpa using this
  rw [List.getElem?_set_self hi] at e1';rw [List.getElem?_set_self (by rw [h.lc,←h.l1];exact hi)] at e2;obtain rfl:=Option.some.inj e1';obtain rfl:=Option.some.inj e2;exact hc
 ·rw [List.getElem?_set_ne hij] at e1' e2;exact h.cs j x d e1' e2
theorem yP:∀(css:List (List Value)),(∀c∈css,c.length=17)→css.flatten.length=css.length*17
 | [], _ => rfl
 | c :: r, h => by
  rw [List.flatten_cons,List.length_append,yP r (fun d hd=>h d (by simp [hd])),h c (by simp),List.length_cons];omega
theorem Y0:∀(css:List (List Value)),(∀c∈css,c.length=17)→∀(i:Nat) (c:List Value),css[i]? =some c→∀(j:Nat) (v:Value),c[j]? =some v→css.flatten[i*17+j]? =some v
 | [], _, i, c, hc, _, _, _ => by simp at hc
 | d :: r, h, 0, c, hc, j, v, hv => by
  obtain rfl:d=c:=by simpa using hc
  have hj:j<d.length:=(List.getElem?_eq_some_iff.1 hv).1;rw [List.flatten_cons,Nat.zero_mul,Nat.zero_add,List.getElem?_append_left hj];exact hv
 | d :: r, h, i + 1, c, hc, j, v, hv => by
  have hd:d.length=17:=h d (by simp);rw [List.flatten_cons,List.getElem?_append_right (by omega),hd,show (i+1)*17+j-17=i*17+j by omega];exact Y0 r (fun e he=>h e (by simp [he])) i c (by simpa using hc) j v hv
theorem Y2:∀(css:List (List Value)),(∀c∈css,c.length=17)→∀(i:Nat) (c:List Value),c.length=17→i<css.length→css.flatten.take (i*17)++c++css.flatten.drop (i*17+17)=(css.set i c).flatten
 | [], _, i, _, _, hi => by simp at hi
 | d :: r, h, 0, c, hc, _ => by
  have hd:d.length=17:=h d (by simp);rw [List.flatten_cons,Nat.zero_mul,List.take_zero,List.nil_append,Nat.zero_add,List.drop_append,hd,Nat.sub_self,List.drop_zero,List.drop_of_length_le (by omega),List.nil_append,List.set_cons_zero,List.flatten_cons]
 | d :: r, h, i + 1, c, hc, hi => by
  have hd:d.length=17:=h d (by simp);have ih:=Y2 r (fun e he=>h e (by simp [he])) i c hc (by simpa using hi);rw [List.flatten_cons,List.take_append,List.drop_append,hd,show (i+1)*17-17=i*17 by omega,show (i+1)*17+17-17=i*17+17 by omega,List.take_of_length_le (by omega),List.drop_of_length_le (by omega),List.nil_append,List.set_cons_succ,List.flatten_cons,←ih];simp
theorem kD.all {s:aJ}{css:List (List Value)}(h:kD s css):∀c∈css,c.length=17:=fun c hc=>by
 obtain⟨i,hi,rfl⟩:=List.getElem_of_mem hc;exact h.one (List.getElem?_eq_getElem hi)
theorem PV {vp:Value}{mc:List Value}{s:aJ}{css:List (List Value)}(h:kD s css)(hm:mc.length=7){i:Nat}{c:List Value}(hc:css[i]? =some c)(j:Nat)(v:Value)(hv:c[j]? =some v):(iE vp mc css s)[8+i*17+j]? =some v:=by
 have hl:=yP css h.all;have hi:i<css.length:=(List.getElem?_eq_some_iff.1 hc).1;have hj:j<c.length:=(List.getElem?_eq_some_iff.1 hv).1;have h17:=h.one hc;have dD:=h.lc;unfold iE;rw [List.getElem?_append_right (by simp [hm];omega),List.length_cons,hm,show 8+i*17+j-(7+1)=i*17+j by omega,List.getElem?_append_left (by omega)];exact Y0 css h.all i c hc j v hv
theorem FU {vp:Value}{mc:List Value}{s:aJ}{css:List (List Value)}(h:kD s css)(hm:mc.length=7){i:Nat}(hi:i<40):(iE vp mc css s)[688+i]? =some (.bool (s.re.getD i false)):=by
 have hl:=yP css h.all;have dD:=h.lc;have h2:=h.l2;unfold iE;rw [List.getElem?_append_right (by simp [hm];omega),List.length_cons,hm,show 688+i-(7+1)=680+i by omega,List.getElem?_append_right (by omega),hl,dD,show 680+i-40*17=i by omega,List.getElem?_append_left (by simp;omega),List.getElem?_map,List.getD_eq_getElem?_getD,List.getElem?_eq_getElem (by omega)]
 rfl
theorem PS {vp:Value}{mc:List Value}{s:aJ}{css:List (List Value)}(h:kD s css)(hm:mc.length=7){i:Nat}(hi:i<40):(iE vp mc css s)[728+i]? =some (.bool (s.ra.getD i false)):=by
 have hl:=yP css h.all;have dD:=h.lc;have h2:=h.l2;have h3:=h.l3;unfold iE;rw [List.getElem?_append_right (by simp [hm];omega),List.length_cons,hm,show 728+i-(7+1)=720+i by omega,List.getElem?_append_right (by omega),hl,dD,show 720+i-40*17=40+i by omega,List.getElem?_append_right (by simp;omega),List.length_map,h2,Nat.add_sub_cancel_left,List.getElem?_map,List.getD_eq_getElem?_getD,List.getElem?_eq_getElem (by omega)]
 rfl
theorem Vp {vp:Value}{mc:List Value}{s:aJ}{css:List (List Value)}(h:kD s css)(hm:mc.length=7){i:Nat}(hi:i<40){c:List Value}(hc:c.length=17):putAt (iE vp mc css s) (8+i*17) c=iE vp mc (css.set i c) s:=by
 have hl:=yP css h.all;have dD:=h.lc;unfold putAt iE;have l8:(vp::mc).length=8:=by simp [hm]
 rw [List.take_append,List.drop_append,l8,Nat.add_sub_cancel_left,hc,show 8+i*17+17-8=i*17+17 by omega,List.take_of_length_le (by omega),List.drop_of_length_le (by omega),List.nil_append,List.take_append_of_le_length (by omega),List.drop_append_of_le_length (by omega),←Y2 css h.all i c hc (by omega)];simp
theorem Vr {vp:Value}{mc:List Value}{s:aJ}{css:List (List Value)}(h:kD s css)(hm:mc.length=7){i:Nat}(hi:i<40)(b:Bool):(iE vp mc css s).set (688+i) (.bool b)=iE vp mc css { s with re:=s.re.set i b } :=by
 have hl:=yP css h.all;have dD:=h.lc;have h2:=h.l2;have l8:(vp::mc).length=8:=by simp [hm]
 unfold iE;rw [List.set_append_right _ _ (by omega),l8,show 688+i-8=680+i by omega,List.set_append_right _ _ (by omega),hl,dD,show 680+i-40*17=i by omega,List.set_append_left _ _ (by simp;omega),List.map_set]
theorem PU {vp:Value}{mc:List Value}{s:aJ}{css:List (List Value)}(h:kD s css)(hm:mc.length=7){i:Nat}(_hi:i<40)(b:Bool):(iE vp mc css s).set (728+i) (.bool b)=iE vp mc css { s with ra:=s.ra.set i b } :=by
 have hl:=yP css h.all;have dD:=h.lc;have h2:=h.l2;have l8:(vp::mc).length=8:=by simp [hm]
 unfold iE;rw [List.set_append_right _ _ (by omega),l8,show 728+i-8=720+i by omega,List.set_append_right _ _ (by omega),hl,dD,show 720+i-40*17=40+i by omega,List.set_append_right _ _ (by simp;omega),List.length_map,h2,Nat.add_sub_cancel_left,List.map_set]
theorem kD.Vf {s:aJ}{css:List (List Value)}(h:kD s css)(i:Nat)(b:Bool):kD { s with re:=s.re.set i b } css:=⟨h.l1,by simpa using h.l2,h.l3,h.lc,h.cs⟩
theorem kD.Pz {s:aJ}{css:List (List Value)}(h:kD s css)(i:Nat)(b:Bool):kD { s with ra:=s.ra.set i b } css:=⟨h.l1,h.l2,by simpa using h.l3,h.lc,h.cs⟩
theorem kD.Vg {s:aJ}{css:List (List Value)}(h:kD s css)(i:Nat){g:aH}{c:List Value}(hc:eX g c):kD { s with st:=s.st.set i g } (css.set i c):=
 have k:=h.put i hc
 ⟨k.l1,h.l2,h.l3,k.lc,k.cs⟩
end Go.Proofs.YtiiokkllmchohaaGreat
namespace Go.Proofs.YtiiokkllmchohaaGreat
open Go.RowKit Go.Shelf
attribute [local go_sem ↓] Go.wp_at_zero Go.wp_at_succ
attribute [local go_sem] bW
theorem oZ {P:Program}{ty:TypeId}{n:Nat}(h:ni P ty n){w:World}{g:Nat}{t:TypeId}{cur:List Value}(hB:ak w g t cur)(off:Nat)(vs:List Value)(hl:vs.length=n)(hf:off+n≤cur.length)(h1:∀v∈vs,v.oneCell'=true)
  {o:Oper} {a:Act} {K:Act→World→Prop} {Q:Exit→Act→World→Prop} (x y:Operand) (ho:o.op= .store ty x y) (hx:a.eval x= .pointer (some ⟨g,off,none⟩)) (hy:a.eval y= .agg vs.toArray)
  (hK:∀w',ak w' g t (putAt cur off vs)→ay (fun k=>k=g) w w'→w'.heap.size=w.heap.size→K (a.put o.dst undef) w'):o.wp P a w K Q:=by
 unfold Oper.wp execOp;simp only [ho,hx,hy,Instr.storeAt,Instr.sureAddr,Sem.run_bind,Sem.run_pure,Result.andThen_ok,ace h hB off vs hl hf h1];obtain⟨h1,h2,h3⟩:=acD hB (putAt cur off vs);exact hK _ h1 h2 h3
theorem akf (i:Nat)(g:aH)(c:List Value)(w:World)(bs:Nat)(vp:Value)(mc:List Value)(s:aJ)(h:jT w bs vp mc s)(hm:mc.length=7)(hi:i<40)(hg:eX g c)(hre:s.re.getD i false=false) :
  Calls Tryz.prog 78 #[.pointer (some ⟨bs,0,none⟩),.int .i64 (i:Int),.agg c.toArray] w fun e w'=>e= .returned (.tuple #[])∧jT w' bs vp mc (dK s i g)∧ay (fun k=>k=bs) w w':=by
 obtain⟨css,hC,hB⟩:=h;have hbs:=hB.lt;have hl:=hg.len;have BW:=hB.alloc (.cells c.toArray 130);have BX:=ak.new w c.toArray 130;have r0:(w.alloc (.cells c.toArray 130)).cell? ⟨bs,688+i,none⟩=some (.bool false):=by rw [BW.cell,FU hC hm hi,hre]
 have HM:=hide (fB (S:=fun k=>k=bs) (aS w (.cells c.toArray 130)));have i0:(0:Int)≤(i:Int):=by omega
 have i40:(i:Int)<40:=by omega
 go_enter Tryz.func78,Tryz.ntmps78
 go_wp2_with fail
 generalize w.alloc _=W at *;refine wp_region_noPanic ?_;refine wp_region_held_drew (S:=(fun w'=>ak w' w.heap.size 130 c)) (by kernel_rfl) ?_ (fun hHeld=>?_)
 ·exact BX
 have hlen:(iE vp mc css s).length=768:=by
  unfold iE;rw [List.length_append,List.length_append,List.length_append,List.length_map,List.length_map,yP css hC.all,List.length_cons,hm,hC.lc,hC.l2,hC.l3]
 refine au 45 0 ?_;refine au 46 1 ?_;refine au 47 2 ?_;refine au 48 3 ?_;refine au 49 4 ?_;refine au 50 5 ?_;refine dL (some 51) (i:=6) (v:=.agg c.toArray) rfl rfl (by kernel_rfl) (by kernel_rfl) (by kernel_rfl) (fun _ _ _ h=>h) (Or.inl ⟨by rfl,fun w' hSw=>qQ fM hSw 0 c hl (fun j v e=>by simpa using e) rfl rfl⟩) (by assumption) ?_;try simp only [Act.put,aK,aO,aN]
 refine au 52 7 ?_;refine au 53 8 ?_;refine au 54 9 ?_;refine au 55 11 ?_;refine au 56 12 ?_;refine au 58 15 ?_;refine au 59 16 ?_;refine aW 10 (fun K hK=>?_);refine oZ fM BW.drew (8+i*17) c hl (by rw [hlen];omega) hg.one (.tmp 54) (.tmp 51) rfl rfl rfl ?_;intro w2 hB2 hM2 hs2;rw [Vp hC hm hi hl] at hB2;have hX2:=BX.drew.mods hM2 (by omega);have hC2:=hC.Vg i hg;have dh:=(ah HM).drew.trans hM2 (fun _ _ e=>e);have hB2':ak w2 bs 134 (iE vp mc (css.set i c) { s with st:=s.st.set i g }):=hB2;have yI:∃b,w2.cell? ⟨bs,688+i,none⟩=some (.bool b):=⟨_,by rw [hB2'.cell,FU hC2 hm hi]⟩;obtain⟨b14,yI⟩:=yI;have f14:=hB2'.frozen (688+i)
 go_simp;refine hK.out _ _ hX2 (fun hHeld=>?_);clear hK K;try simp only [Act.put,aK,aO,aN]
 refine au 57 13 ?_;have hB3:=hB2'.setCell (688+i) (.bool true);rw [Vr hC2 hm hi] at hB3;have xq:=hC2.Vf i true;have vX:=hX2.iq (p:=⟨bs,688+i,none⟩) (by dsimp only;omega) (.bool true);refine aW 14 (fun K hK=>?_);go_simp;refine hK.out _ _ vX (fun hHeld=>?_);clear hK K;try simp only [Act.put,aK,aO,aN]
 have jI:=dh.setCell (p:=⟨bs,688+i,none⟩) (fun _=>rfl) (.bool true);generalize w2.setCell _ _=w3 at *;refine au 60 17 ?_;have Ce:∃b,w3.cell? ⟨bs,728+i,none⟩=some (.bool b):=⟨_,by rw [hB3.cell,PS xq hm hi]⟩;obtain⟨b18,Ce⟩:=Ce;have f18:=hB3.frozen (728+i);have hB4:=hB3.setCell (728+i) (.bool true);rw [PU xq hm hi] at hB4;have xu:=xq.Pz i true;refine aW 18 (fun K hK=>?_);go_simp;refine hK.out _ _ (vX.iq (p:=⟨bs,728+i,none⟩) (by dsimp only;omega) (.bool true)) (fun hHeld=>?_);clear hK K;try simp only [Act.put,aK,aO,aN]
 refine wpAnyH_done (by kernel_rfl) ?_ _;refine NoPanic.normal ?_;have HF:=hide (And.intro (show jT _ bs vp mc (dK s i g) from ⟨_,xu,hB4⟩) (jI.setCell (p:=⟨bs,728+i,none⟩) (fun _=>rfl) (.bool true)));go_wp2_with fail
 go_end0;exact⟨rfl,(ah HF).1,(ah HF).2⟩
theorem akd (p:List aj)(i:Nat)(g:aH)(c:List Value)(w:World)(bs:Nat)(vp:Value)(mc:List Value)(s:aJ)(h:jT w bs vp mc s)(hm:mc.length=7)(hi:i<40)(hg:eX g c)(hre:s.re.getD i false=true)(hp:aX w vp p)(hs:aU p p.length)(hz:p.length≤4194304)
  (k k':Int) (tg:kV p.length k g) (ti:kV p.length k' (s.st.getD i zeroS)) (hbl:jw p g (s.st.getD i zeroS)=true) :
  Calls Tryz.prog 78 #[.pointer (some ⟨bs,0,none⟩),.int .i64 (i:Int),.agg c.toArray] w fun e w'=>e= .returned (.tuple #[])∧jT w' bs vp mc s∧ay (fun k=>k=bs) w w':=by
 have HP:=hide hp;obtain⟨pa,_,_,aA,rfl,_⟩:=hp;obtain⟨css,hC,hB⟩:=h;have hbs:=hB.lt;have hl:=hg.len;have hil:i<s.st.length:=by rw [hC.l1];exact hi
 have hcl:i<css.length:=by rw [hC.lc];exact hi
 have hgi:eX (s.st.getD i zeroS) css[i]:=by
  have e:s.st.getD i zeroS=s.st[i]:=by rw [List.getD_eq_getElem?_getD,List.getElem?_eq_getElem hil];rfl
  rw [e];exact hC.cs i _ _ (List.getElem?_eq_getElem hil) (List.getElem?_eq_getElem hcl)
 have hsv:=fun j v (e:css[i][j]? =some v)=>PV (vp:=.slice pa p.length aA) hC hm (List.getElem?_eq_getElem hcl) j v e;have Dt:=hgi.len;generalize css[i]=ci at *;generalize s.st.getD i zeroS=u at *;have BW:=hB.alloc (.cells c.toArray 130);have BX:=ak.new w c.toArray 130;have r0:(w.alloc (.cells c.toArray 130)).cell? ⟨bs,688+i,none⟩=some (.bool true):=by rw [BW.cell,FU hC hm hi,hre]
 have hbw:=aS w (.cells c.toArray 130);have jc:=hide (aP (Keeps.of_below hbw) (ah HP));have i0:(0:Int)≤(i:Int):=by omega
 have i40:(i:Int)<40:=by omega
 go_enter Tryz.func78,Tryz.ntmps78
 go_wp2_with fail
 generalize w.alloc _=W at *;have c0:W.cell? ⟨bs,0,none⟩=some (.slice pa p.length aA):=BW.cell 0;refine wp_region_held_drew (S:=(fun w'=>ak w' w.heap.size 130 c∧ak w' bs 134 (iE (.slice pa p.length aA) mc css s)∧w'.cell? ⟨bs,0,none⟩=some (.slice pa p.length aA))) (by kernel_rfl) ?_ (fun hHeld=>?_)
 ·exact (And.intro BX (And.intro BW c0))
 refine dL (some 14) (i:=0) (v:=.agg c.toArray) rfl rfl (by kernel_rfl) (by kernel_rfl) (by kernel_rfl) (fun _ _ _ h=>h) (Or.inl ⟨by rfl,fun w' hSw=>qQ fM hSw.1 0 c hl (fun j v e=>by simpa using e) rfl rfl⟩) (by assumption) ?_;try simp only [Act.put,aK,aO,aN]
 refine au 15 1 ?_;refine au 16 2 ?_;refine au 17 3 ?_;refine au 18 4 ?_;refine au 19 5 ?_;refine au 20 6 ?_;refine au 21 7 ?_;refine au 22 8 ?_;refine au 23 9 ?_;refine dL (some 24) (i:=10) (v:=.agg ci.toArray) rfl rfl (by kernel_rfl) (by kernel_rfl) (by kernel_rfl) (fun _ _ _ h=>h) (Or.inl ⟨by rfl,fun w' hSw=>qQ fM hSw.2.1 (8+i*17) ci Dt hsv rfl rfl⟩) (by assumption) ?_;try simp only [Act.put,aK,aO,aN]
 refine aW 11 (fun K hK=>?_);go_simp;refine (acB p _ g u c ci _ (aP (Keeps.of_below ((Below.refl _ _).drew)) (ah jc)) hs hz hg hgi tg.1 tg.2.1 ti.1 ti.2.1).mono ?_;rintro e w3 ⟨rfl,hb3⟩;have dY:Below W.heap.size W w3:=⟨hb3.os,hb3.tape,hb3.output,hb3.size,hb3.block⟩;have nJ:=BW.below dY BW.lt;have HF:=hide (And.intro (show jT w3 bs (.slice pa p.length aA) mc s from ⟨css,hC,nJ⟩) (fB (S:=fun k=>k=bs) (hbw.trans (dY.mono hbw.size))));rw [hbl];go_wp2_with fail
 refine hK.out _ _ (And.intro (BX.below dY BX.lt) (And.intro nJ (nJ.cell 0))) (fun hHeld=>?_);clear hK K;try simp only [Act.put,aK,aO,aN]
 refine wpAnyH_done (by kernel_rfl) ?_ _;go_wp2_with fail
 refine bodyPost_ret (results_none rfl _ _ _) rfl ?_;exact⟨rfl,(ah HF).1,(ah HF).2⟩
def Xl (p:List aj)(i:Nat)(g:aH)(s:aJ)(bs:Nat)(vp:Value)(mc:List Value)(w w':World)(e:Ending):Prop:=
 ((s.st.getD i zeroS).stk.length=g.stk.length→e= .returned (.tuple #[])∧jT w' bs vp mc (dK s i (jh p (s.st.getD i zeroS) g)))∧((s.st.getD i zeroS).stk.length≠g.stk.length→e= .panicked (jB 5))∧ay (fun k=>k=bs) w w'
theorem ake (p:List aj)(i:Nat)(g:aH)(c:List Value)(w:World)(bs:Nat)(vp:Value)(mc:List Value)(s:aJ)(h:jT w bs vp mc s)(hm:mc.length=7)(hi:i<40)(hg:eX g c)(hre:s.re.getD i false=true)(hp:aX w vp p)(hs:aU p p.length)(hz:p.length≤4194304)
  (k k':Int) (tg:kV p.length k g) (ti:kV p.length k' (s.st.getD i zeroS)) (hbl:jw p g (s.st.getD i zeroS)=false) :
  Calls Tryz.prog 78 #[.pointer (some ⟨bs,0,none⟩),.int .i64 (i:Int),.agg c.toArray] w fun e w'=>Xl p i g s bs vp mc w w' e:=by
 have HP:=hide hp;obtain⟨pa,_,_,aA,rfl,_⟩:=hp;obtain⟨css,hC,hB⟩:=h;have hbs:=hB.lt;have hl:=hg.len;have hil:i<s.st.length:=by rw [hC.l1];exact hi
 have hcl:i<css.length:=by rw [hC.lc];exact hi
 have hgi:eX (s.st.getD i zeroS) css[i]:=by
  have e:s.st.getD i zeroS=s.st[i]:=by rw [List.getD_eq_getElem?_getD,List.getElem?_eq_getElem hil];rfl
  rw [e];exact hC.cs i _ _ (List.getElem?_eq_getElem hil) (List.getElem?_eq_getElem hcl)
 have hsv:=fun j v (e:css[i][j]? =some v)=>PV (vp:=.slice pa p.length aA) hC hm (List.getElem?_eq_getElem hcl) j v e;have Dt:=hgi.len;unfold Xl;generalize css[i]=ci at *;generalize s.st.getD i zeroS=u at *;have BW:=hB.alloc (.cells c.toArray 130);have BX:=ak.new w c.toArray 130;have r0:(w.alloc (.cells c.toArray 130)).cell? ⟨bs,688+i,none⟩=some (.bool true):=by rw [BW.cell,FU hC hm hi,hre]
 have hbw:=aS w (.cells c.toArray 130);have jc:=hide (aP (Keeps.of_below hbw) (ah HP));have i0:(0:Int)≤(i:Int):=by omega
 have i40:(i:Int)<40:=by omega
 have hlen:(iE (.slice pa p.length aA) mc css s).length=768:=by
  unfold iE;rw [List.length_append,List.length_append,List.length_append,List.length_map,List.length_map,yP css hC.all,List.length_cons,hm,hC.lc,hC.l2,hC.l3]
 go_enter Tryz.func78,Tryz.ntmps78
 go_wp2_with fail
 generalize w.alloc _=W at *;have c0:W.cell? ⟨bs,0,none⟩=some (.slice pa p.length aA):=BW.cell 0;refine wp_region_held_drew (S:=(fun w'=>ak w' w.heap.size 130 c∧ak w' bs 134 (iE (.slice pa p.length aA) mc css s)∧w'.cell? ⟨bs,0,none⟩=some (.slice pa p.length aA))) (by kernel_rfl) ?_ (fun hHeld=>?_)
 ·exact (And.intro BX (And.intro BW c0))
 refine dL (some 14) (i:=0) (v:=.agg c.toArray) rfl rfl (by kernel_rfl) (by kernel_rfl) (by kernel_rfl) (fun _ _ _ h=>h) (Or.inl ⟨by rfl,fun w' hSw=>qQ fM hSw.1 0 c hl (fun j v e=>by simpa using e) rfl rfl⟩) (by assumption) ?_;try simp only [Act.put,aK,aO,aN]
 refine au 15 1 ?_;refine au 16 2 ?_;refine au 17 3 ?_;refine au 18 4 ?_;refine au 19 5 ?_;refine au 20 6 ?_;refine au 21 7 ?_;refine au 22 8 ?_;refine au 23 9 ?_;refine dL (some 24) (i:=10) (v:=.agg ci.toArray) rfl rfl (by kernel_rfl) (by kernel_rfl) (by kernel_rfl) (fun _ _ _ h=>h) (Or.inl ⟨by rfl,fun w' hSw=>qQ fM hSw.2.1 (8+i*17) ci Dt hsv rfl rfl⟩) (by assumption) ?_;try simp only [Act.put,aK,aO,aN]
 refine aW 11 (fun K hK=>?_);go_simp;refine (acB p _ g u c ci _ (aP (Keeps.of_below ((Below.refl _ _).drew)) (ah jc)) hs hz hg hgi tg.1 tg.2.1 ti.1 ti.2.1).mono ?_;rintro e w3 ⟨rfl,hb3⟩;have dY:Below W.heap.size W w3:=⟨hb3.os,hb3.tape,hb3.output,hb3.size,hb3.block⟩;have nJ:=BW.below dY BW.lt;have sQ:=BX.below dY BX.lt;have hbw3:=hbw.trans (dY.mono hbw.size);have MX:=hide (aP (Keeps.of_below hbw3) (ah HP));rw [hbl];go_wp2_with fail
 refine hK.out _ _ (And.intro sQ (And.intro nJ (nJ.cell 0))) (fun hHeld=>?_);clear hK K;try simp only [Act.put,aK,aO,aN]
 refine wpAnyH_done (by kernel_rfl) ?_ _;clear jc BW BX c0 r0 hbw hb3 dY;go_wp2_with fail
 have c3:w3.cell? ⟨bs,0,none⟩=some (.slice pa p.length aA):=nJ.cell 0;refine wp_region_noPanic ?_;refine wp_region_held_drew (S:=(fun w'=>ak w' w.heap.size 130 c∧ak w' bs 134 (iE (.slice pa p.length aA) mc css s)∧w'.cell? ⟨bs,0,none⟩=some (.slice pa p.length aA))) (by kernel_rfl) ?_ (fun hHeld=>?_)
 ·exact (And.intro sQ (And.intro nJ c3))
 refine au 27 0 ?_;refine au 28 1 ?_;refine au 29 2 ?_;refine au 30 3 ?_;refine au 31 4 ?_;refine dL (some 32) (i:=5) (v:=.agg ci.toArray) rfl rfl (by kernel_rfl) (by kernel_rfl) (by kernel_rfl) (fun _ _ _ h=>h) (Or.inl ⟨by rfl,fun w' hSw=>qQ fM hSw.2.1 (8+i*17) ci Dt hsv rfl rfl⟩) (by assumption) ?_;try simp only [Act.put,aK,aO,aN]
 refine au 33 6 ?_;refine au 34 7 ?_;refine au 35 8 ?_;refine au 36 9 ?_;refine dL (some 37) (i:=10) (v:=.agg c.toArray) rfl rfl (by kernel_rfl) (by kernel_rfl) (by kernel_rfl) (fun _ _ _ h=>h) (Or.inl ⟨by rfl,fun w' hSw=>qQ fM hSw.1 0 c hl (fun j v e=>by simpa using e) rfl rfl⟩) (by assumption) ?_;try simp only [Act.put,aK,aO,aN]
 by_cases hst:u.stk.length=g.stk.length
 ·refine wpAnyH_ready (rs:= [11,15]) (by kernel_rfl) (by simp) ?_;refine AllReadyH.cons rfl (fun K hK=>?_) (AllReadyH.cons rfl (fun K hK=>?_) AllReadyH.nil)
  ·go_simp;refine (PG p _ u g ci c _ (aP (Keeps.of_below ((Below.refl _ _).drew)) (ah MX)) hs hz hgi hg ti.1 ti.2.1 tg.1 tg.2.1).mono ?_;rintro e w4 ⟨h1,h2,hb4⟩;obtain⟨cj,rfl,hJ⟩:=h1 hst;have iY:Below w3.heap.size w3 w4:=⟨hb4.os,hb4.tape,hb4.output,hb4.size,hb4.block⟩;have hBg:=nJ.below iY nJ.lt;have E8:=sQ.below iY sQ.lt;go_wp2_with fail
   refine hK.out _ _ (And.intro E8 (And.intro hBg (hBg.cell 0))) (fun hHeld=>?_);clear hK K;try simp only [Act.put,aK,aO,aN]
   refine au 26 12 ?_;refine au 39 13 ?_;refine au 40 14 ?_;refine aW 15 (fun K hK=>?_);go_simp;have xQ:=iY.size;generalize hV:w4.alloc _=V;have hb0:Below w3.heap.size w3 V:=by rw [←hV];exact iY.alloc iY.size _
   have B6:ak V w4.heap.size 130 eH:=by rw [←hV];exact ak.new w4 eH.toArray 130
   have BJ:=hBg.alloc (.cells eH.toArray 130);have XJ:=E8.alloc (.cells eH.toArray 130);replace BJ:ak V bs 134 (iE (.slice pa p.length aA) mc css s):=by rw [←hV];exact BJ
   replace XJ:ak V w.heap.size 130 c:=by rw [←hV];exact XJ
   clear hV;refine hK.out _ _ (And.intro XJ (And.intro BJ (BJ.cell 0))) (fun hHeld=>?_);clear hK K;try simp only [Act.put,aK,aO,aN]
   obtain⟨b6,hb6⟩:∃b,b=w4.heap.size:=⟨_,rfl⟩;have yS:w3.heap.size≤b6:=by omega
   rw [←hb6] at B6 ⊢;clear hBg E8 hb4 iY xQ hb6 h1 h2 hHeld;refine aW 16 (fun K hK=>?_);refine oZ fM B6 0 cj hJ.len (by simp [eH]) hJ.one (.tmp 6) (.tmp 39) rfl rfl rfl ?_;intro w5 uM bU hs5;rw [gB (by rw [hJ.len];rfl)] at uM;have lx:=sQ.lt;have lb:=nJ.lt;have XK:=XJ.mods bU (by omega);have BK:=BJ.mods bU (by omega);have hb5:Below w3.heap.size w3 w5:=hb0.trans (bU.below hb0.size (fun k hk e=>by omega));refine hK.out _ _ (And.intro XK (And.intro BK (BK.cell 0))) (fun hHeld=>?_);clear hK K;try simp only [Act.put]
   refine Jb (some 7) 17 rfl rfl ?_ (ha:=rfl);simp only [Act.put,List.setIfInBounds_toArray];refine wpAnyH_done (by kernel_rfl) ?_ _;refine NoPanic.normal ?_;clear hHeld XJ BJ B6 hb0 hs5 bU
   go_wp2_with (first
    | refine yj fM uM 0 cj hJ.len (fun j v e => by simpa using e) (.tmp 6) rfl rfl rfl ?_
    | (refine iZ fM XK 0 cj hJ.len (by simp [hl]) hJ.one (.tmp 5) (.tmp 44) rfl rfl rfl rfl ?_; intro w6 dP bK hs6))
   rw [gB (by rw [hJ.len,hl])] at dP;have l5:=uM.lt;have BX:=dP;have BW:=BK.mods bK (by omega);have TI:Below w.heap.size w w6:=hbw3.trans ((hb5.mono hbw3.size).trans (bK.below (by have:=hb5.size;have:=hbw3.size;omega) (fun k hk e=>by omega)));have HM:=hide (fB (S:=fun k=>k=bs) TI);clear bK hs6 XK BK hb5 uM dP;refine wp_region_noPanic ?_;refine wp_region_held_drew (S:=(fun w'=>ak w' w.heap.size 130 cj)) (by kernel_rfl) ?_ (fun hHeld=>?_)
   ·exact BX
   refine au 45 0 ?_;refine au 46 1 ?_;refine au 47 2 ?_;refine au 48 3 ?_;refine au 49 4 ?_;refine au 50 5 ?_;refine dL (some 51) (i:=6) (v:=.agg cj.toArray) rfl rfl (by kernel_rfl) (by kernel_rfl) (by kernel_rfl) (fun _ _ _ h=>h) (Or.inl ⟨by rfl,fun w' hSw=>qQ fM hSw 0 cj hJ.len (fun j v e=>by simpa using e) rfl rfl⟩) (by assumption) ?_;try simp only [Act.put,aK,aO,aN]
   refine au 52 7 ?_;refine au 53 8 ?_;refine au 54 9 ?_;refine au 55 11 ?_;refine au 56 12 ?_;refine au 58 15 ?_;refine au 59 16 ?_;refine aW 10 (fun K hK=>?_);refine oZ fM BW.drew (8+i*17) cj hJ.len (by rw [hlen];omega) hJ.one (.tmp 54) (.tmp 51) rfl rfl rfl ?_;intro w2 hB2 hM2 hs2;rw [Vp hC hm hi hJ.len] at hB2;have hX2:=BX.drew.mods hM2 (by omega);have hC2:=hC.Vg i hJ;have dh:=(ah HM).drew.trans hM2 (fun _ _ e=>e);have hB2':ak w2 bs 134 (iE (.slice pa p.length aA) mc (css.set i cj) { s with st:=s.st.set i (jh p u g) }):=hB2;have yI:∃b,w2.cell? ⟨bs,688+i,none⟩=some (.bool b):=⟨_,by rw [hB2'.cell,FU hC2 hm hi]⟩
   obtain⟨b14,yI⟩:=yI;have f14:=hB2'.frozen (688+i);go_simp;refine hK.out _ _ hX2 (fun hHeld=>?_);clear hK K;try simp only [Act.put,aK,aO,aN]
   refine au 57 13 ?_;have hB3:=hB2'.setCell (688+i) (.bool true);rw [Vr hC2 hm hi] at hB3;have xq:=hC2.Vf i true;have vX:=hX2.iq (p:=⟨bs,688+i,none⟩) (by dsimp only;omega) (.bool true);refine aW 14 (fun K hK=>?_);go_simp;refine hK.out _ _ vX (fun hHeld=>?_);clear hK K;try simp only [Act.put,aK,aO,aN]
   have jI:=dh.setCell (p:=⟨bs,688+i,none⟩) (fun _=>rfl) (.bool true);generalize w2.setCell _ _=w7 at *;refine au 60 17 ?_;have Ce:∃b,w7.cell? ⟨bs,728+i,none⟩=some (.bool b):=⟨_,by rw [hB3.cell,PS xq hm hi]⟩;obtain⟨b18,Ce⟩:=Ce;have f18:=hB3.frozen (728+i);have hB4:=hB3.setCell (728+i) (.bool true);rw [PU xq hm hi] at hB4;have xu:=xq.Pz i true;refine aW 18 (fun K hK=>?_);go_simp;refine hK.out _ _ (vX.iq (p:=⟨bs,728+i,none⟩) (by dsimp only;omega) (.bool true)) (fun hHeld=>?_);clear hK K;try simp only [Act.put,aK,aO,aN]
   refine wpAnyH_done (by kernel_rfl) ?_ _;refine NoPanic.normal ?_;have HF:=hide (And.intro (show jT _ bs (.slice pa p.length aA) mc (dK s i (jh p u g)) from ⟨_,xu,hB4⟩) (jI.setCell (p:=⟨bs,728+i,none⟩) (fun _=>rfl) (.bool true)));have HST:=hide hst;clear hst;go_wp2_with fail
   go_end0;exact⟨fun _=>⟨rfl,(ah HF).1⟩,fun e=>absurd (ah HST) e,(ah HF).2⟩
  ·go_simp;have Fe:Below w3.heap.size w3 (w3.alloc (.cells eH.toArray 130)):=aS _ _;have Jh:=ak.new w3 eH.toArray 130;have zo:=nJ.alloc (.cells eH.toArray 130);have EG:=sQ.alloc (.cells eH.toArray 130);have hps:aX (w3.drew.alloc (.cells eH.toArray 130)) (.slice pa p.length aA) p:=aP (Keeps.of_below Fe.drew) (ah MX);refine hK.out _ _ (And.intro EG (And.intro zo (zo.cell 0))) (fun hHeld=>?_);clear hK K;try simp only [Act.put,aK,aO,aN]
   refine aW 11 (fun K hK=>?_);go_simp;refine (PG p _ u g ci c _ hps hs hz hgi hg ti.1 ti.2.1 tg.1 tg.2.1).mono ?_;rintro e V ⟨h1,h2,hb4⟩;obtain⟨cj,rfl,hJ⟩:=h1 hst;have iY:Below (w3.heap.size+1) (w3.alloc (.cells eH.toArray 130)) V:=⟨hb4.os,hb4.tape,hb4.output,by have:=hb4.size;simpa using this,fun i hi=>hb4.block i (by simpa using hi)⟩;have hb0:=Fe.trans (iY.mono (by simp));have B6:=Jh.below iY (by omega);have BJ:=zo.below iY (by have:=nJ.lt;omega);have XJ:=EG.below iY (by have:=sQ.lt;omega);go_wp2_with fail
   refine hK.out _ _ (And.intro XJ (And.intro BJ (BJ.cell 0))) (fun hHeld=>?_);clear hK K;try simp only [Act.put,aK,aO,aN]
   refine au 26 12 ?_;refine au 39 13 ?_;refine au 40 14 ?_;obtain⟨b6,hb6⟩:∃b,b=w3.heap.size:=⟨_,rfl⟩;have yS:w3.heap.size≤b6:=by omega
   change ak V w3.heap.size 130 eH at B6
   rw [←hb6] at B6 ⊢;clear Jh zo EG Fe hb4 iY hb6 h1 h2 hHeld hps;refine aW 16 (fun K hK=>?_);refine oZ fM B6 0 cj hJ.len (by simp [eH]) hJ.one (.tmp 6) (.tmp 39) rfl rfl rfl ?_;intro w5 uM bU hs5;rw [gB (by rw [hJ.len];rfl)] at uM;have lx:=sQ.lt;have lb:=nJ.lt;have XK:=XJ.mods bU (by omega);have BK:=BJ.mods bU (by omega);have hb5:Below w3.heap.size w3 w5:=hb0.trans (bU.below hb0.size (fun k hk e=>by omega));refine hK.out _ _ (And.intro XK (And.intro BK (BK.cell 0))) (fun hHeld=>?_);clear hK K;try simp only [Act.put]
   refine Jb (some 7) 17 rfl rfl ?_ (ha:=rfl);simp only [Act.put,List.setIfInBounds_toArray];refine wpAnyH_done (by kernel_rfl) ?_ _;refine NoPanic.normal ?_;clear hHeld XJ BJ B6 hb0 hs5 bU
   go_wp2_with (first
    | refine yj fM uM 0 cj hJ.len (fun j v e => by simpa using e) (.tmp 6) rfl rfl rfl ?_
    | (refine iZ fM XK 0 cj hJ.len (by simp [hl]) hJ.one (.tmp 5) (.tmp 44) rfl rfl rfl rfl ?_; intro w6 dP bK hs6))
   rw [gB (by rw [hJ.len,hl])] at dP;have l5:=uM.lt;have BX:=dP;have BW:=BK.mods bK (by omega);have TI:Below w.heap.size w w6:=hbw3.trans ((hb5.mono hbw3.size).trans (bK.below (by have:=hb5.size;have:=hbw3.size;omega) (fun k hk e=>by omega)));have HM:=hide (fB (S:=fun k=>k=bs) TI);clear bK hs6 XK BK hb5 uM dP;refine wp_region_noPanic ?_;refine wp_region_held_drew (S:=(fun w'=>ak w' w.heap.size 130 cj)) (by kernel_rfl) ?_ (fun hHeld=>?_)
   ·exact BX
   refine au 45 0 ?_;refine au 46 1 ?_;refine au 47 2 ?_;refine au 48 3 ?_;refine au 49 4 ?_;refine au 50 5 ?_;refine dL (some 51) (i:=6) (v:=.agg cj.toArray) rfl rfl (by kernel_rfl) (by kernel_rfl) (by kernel_rfl) (fun _ _ _ h=>h) (Or.inl ⟨by rfl,fun w' hSw=>qQ fM hSw 0 cj hJ.len (fun j v e=>by simpa using e) rfl rfl⟩) (by assumption) ?_;try simp only [Act.put,aK,aO,aN]
   refine au 52 7 ?_;refine au 53 8 ?_;refine au 54 9 ?_;refine au 55 11 ?_;refine au 56 12 ?_;refine au 58 15 ?_;refine au 59 16 ?_;refine aW 10 (fun K hK=>?_);refine oZ fM BW.drew (8+i*17) cj hJ.len (by rw [hlen];omega) hJ.one (.tmp 54) (.tmp 51) rfl rfl rfl ?_;intro w2 hB2 hM2 hs2;rw [Vp hC hm hi hJ.len] at hB2;have hX2:=BX.drew.mods hM2 (by omega);have hC2:=hC.Vg i hJ;have dh:=(ah HM).drew.trans hM2 (fun _ _ e=>e);have hB2':ak w2 bs 134 (iE (.slice pa p.length aA) mc (css.set i cj) { s with st:=s.st.set i (jh p u g) }):=hB2;have yI:∃b,w2.cell? ⟨bs,688+i,none⟩=some (.bool b):=⟨_,by rw [hB2'.cell,FU hC2 hm hi]⟩
   obtain⟨b14,yI⟩:=yI;have f14:=hB2'.frozen (688+i);go_simp;refine hK.out _ _ hX2 (fun hHeld=>?_);clear hK K;try simp only [Act.put,aK,aO,aN]
   refine au 57 13 ?_;have hB3:=hB2'.setCell (688+i) (.bool true);rw [Vr hC2 hm hi] at hB3;have xq:=hC2.Vf i true;have vX:=hX2.iq (p:=⟨bs,688+i,none⟩) (by dsimp only;omega) (.bool true);refine aW 14 (fun K hK=>?_);go_simp;refine hK.out _ _ vX (fun hHeld=>?_);clear hK K;try simp only [Act.put,aK,aO,aN]
   have jI:=dh.setCell (p:=⟨bs,688+i,none⟩) (fun _=>rfl) (.bool true);generalize w2.setCell _ _=w7 at *;refine au 60 17 ?_;have Ce:∃b,w7.cell? ⟨bs,728+i,none⟩=some (.bool b):=⟨_,by rw [hB3.cell,PS xq hm hi]⟩;obtain⟨b18,Ce⟩:=Ce;have f18:=hB3.frozen (728+i);have hB4:=hB3.setCell (728+i) (.bool true);rw [PU xq hm hi] at hB4;have xu:=xq.Pz i true;refine aW 18 (fun K hK=>?_);go_simp;refine hK.out _ _ (vX.iq (p:=⟨bs,728+i,none⟩) (by dsimp only;omega) (.bool true)) (fun hHeld=>?_);clear hK K;try simp only [Act.put,aK,aO,aN]
   refine wpAnyH_done (by kernel_rfl) ?_ _;refine NoPanic.normal ?_;have HF:=hide (And.intro (show jT _ bs (.slice pa p.length aA) mc (dK s i (jh p u g)) from ⟨_,xu,hB4⟩) (jI.setCell (p:=⟨bs,728+i,none⟩) (fun _=>rfl) (.bool true)));have HST:=hide hst;clear hst;go_wp2_with fail
   go_end0;exact⟨fun _=>⟨rfl,(ah HF).1⟩,fun e=>absurd (ah HST) e,(ah HF).2⟩
 ·refine wpAnyH_ready (rs:= [11,15]) (by kernel_rfl) (by simp) ?_;refine AllReadyH.cons rfl (fun K hK=>?_) (AllReadyH.cons rfl (fun K hK=>?_) AllReadyH.nil)
  ·go_simp;refine (PG p _ u g ci c _ (aP (Keeps.of_below ((Below.refl _ _).drew)) (ah MX)) hs hz hgi hg ti.1 ti.2.1 tg.1 tg.2.1).mono ?_;rintro e w4 ⟨h1,h2,hb4⟩;obtain rfl:=h2 hst;have iY:Below w3.heap.size w3 w4:=⟨hb4.os,hb4.tape,hb4.output,hb4.size,hb4.block⟩;have hBg:=nJ.below iY nJ.lt;have E8:=sQ.below iY sQ.lt;go_wp2_with fail
   refine hK.out _ _ (And.intro E8 (And.intro hBg (hBg.cell 0))) (fun hHeld=>?_);clear hK K;try simp only [Act.put,aK,aO,aN]
   refine au 26 12 ?_;refine au 39 13 ?_;refine au 40 14 ?_;refine aW 15 (fun K hK=>?_);go_simp;have xQ:=iY.size;generalize hV:w4.alloc _=V;have hb0:Below w3.heap.size w3 V:=by rw [←hV];exact iY.alloc iY.size _
   have B6:ak V w4.heap.size 130 eH:=by rw [←hV];exact ak.new w4 eH.toArray 130
   have BJ:=hBg.alloc (.cells eH.toArray 130);have XJ:=E8.alloc (.cells eH.toArray 130);replace BJ:ak V bs 134 (iE (.slice pa p.length aA) mc css s):=by rw [←hV];exact BJ
   replace XJ:ak V w.heap.size 130 c:=by rw [←hV];exact XJ
   clear hV;refine hK.out _ _ (And.intro XJ (And.intro BJ (BJ.cell 0))) (fun hHeld=>?_);clear hK K;try simp only [Act.put,aK,aO,aN]
   obtain⟨b6,hb6⟩:∃b,b=w4.heap.size:=⟨_,rfl⟩;have yS:w3.heap.size≤b6:=by omega
   rw [←hb6] at B6 ⊢;clear hBg E8 hb4 iY xQ hb6 h1 h2 hHeld;refine aW 16 (fun K hK=>?_);refine oZ fM B6 0 eH rfl (by simp [eH]) VN (.tmp 6) (.tmp 39) rfl rfl rfl ?_;intro w5 uM bU hs5;have lx:=sQ.lt;have lb:=nJ.lt;have XK:=XJ.mods bU (by omega);have BK:=BJ.mods bU (by omega);have hb5:Below w3.heap.size w3 w5:=hb0.trans (bU.below hb0.size (fun k hk e=>by omega));refine hK.out _ _ (And.intro XK (And.intro BK (BK.cell 0))) (fun hHeld=>?_);clear hK K;try simp only [Act.put]
   refine Jb (some 7) 17 rfl rfl ?_ (ha:=rfl);simp only [Act.put,List.setIfInBounds_toArray];refine wpAnyH_done (by kernel_rfl) ?_ _;refine NoPanic.normal ?_;have HM:=hide (fB (S:=fun k=>k=bs) (hbw3.trans (hb5.mono hbw3.size)));have HST:=hide hst;clear hHeld XJ BJ B6 hb0 hs5 bU hst uM XK BK;go_wp2_with fail
   refine (RX 5 _).mono ?_;rintro e w6 ⟨rfl,rfl⟩;go_wp2_with fail
   exact⟨rfl,fun e=>absurd e (ah HST),fun _=>rfl,ah HM⟩
  ·go_simp;have Fe:Below w3.heap.size w3 (w3.alloc (.cells eH.toArray 130)):=aS _ _;have Jh:=ak.new w3 eH.toArray 130;have zo:=nJ.alloc (.cells eH.toArray 130);have EG:=sQ.alloc (.cells eH.toArray 130);have hps:aX (w3.drew.alloc (.cells eH.toArray 130)) (.slice pa p.length aA) p:=aP (Keeps.of_below Fe.drew) (ah MX);refine hK.out _ _ (And.intro EG (And.intro zo (zo.cell 0))) (fun hHeld=>?_);clear hK K;try simp only [Act.put,aK,aO,aN]
   refine aW 11 (fun K hK=>?_);go_simp;refine (PG p _ u g ci c _ hps hs hz hgi hg ti.1 ti.2.1 tg.1 tg.2.1).mono ?_;rintro e V ⟨h1,h2,hb4⟩;obtain rfl:=h2 hst;have iY:Below (w3.heap.size+1) (w3.alloc (.cells eH.toArray 130)) V:=⟨hb4.os,hb4.tape,hb4.output,by have:=hb4.size;simpa using this,fun i hi=>hb4.block i (by simpa using hi)⟩;have hb0:=Fe.trans (iY.mono (by simp));have B6:=Jh.below iY (by omega);have BJ:=zo.below iY (by have:=nJ.lt;omega);have XJ:=EG.below iY (by have:=sQ.lt;omega);go_wp2_with fail
   refine hK.out _ _ (And.intro XJ (And.intro BJ (BJ.cell 0))) (fun hHeld=>?_);clear hK K;try simp only [Act.put,aK,aO,aN]
   refine au 26 12 ?_;refine au 39 13 ?_;refine au 40 14 ?_;obtain⟨b6,hb6⟩:∃b,b=w3.heap.size:=⟨_,rfl⟩;have yS:w3.heap.size≤b6:=by omega
   change ak V w3.heap.size 130 eH at B6
   rw [←hb6] at B6 ⊢;clear Jh zo EG Fe hb4 iY hb6 h1 h2 hHeld hps;refine aW 16 (fun K hK=>?_);refine oZ fM B6 0 eH rfl (by simp [eH]) VN (.tmp 6) (.tmp 39) rfl rfl rfl ?_;intro w5 uM bU hs5;have lx:=sQ.lt;have lb:=nJ.lt;have XK:=XJ.mods bU (by omega);have BK:=BJ.mods bU (by omega);have hb5:Below w3.heap.size w3 w5:=hb0.trans (bU.below hb0.size (fun k hk e=>by omega));refine hK.out _ _ (And.intro XK (And.intro BK (BK.cell 0))) (fun hHeld=>?_);clear hK K;try simp only [Act.put]
   refine Jb (some 7) 17 rfl rfl ?_ (ha:=rfl);simp only [Act.put,List.setIfInBounds_toArray];refine wpAnyH_done (by kernel_rfl) ?_ _;refine NoPanic.normal ?_;have HM:=hide (fB (S:=fun k=>k=bs) (hbw3.trans (hb5.mono hbw3.size)));have HST:=hide hst;clear hHeld XJ BJ B6 hb0 hs5 bU hst uM XK BK;go_wp2_with fail
   refine (RX 5 _).mono ?_;rintro e w6 ⟨rfl,rfl⟩;go_wp2_with fail
   exact⟨rfl,fun e=>absurd e (ah HST),fun _=>rfl,ah HM⟩
end Go.Proofs.YtiiokkllmchohaaGreat
namespace Go.Proofs.YtiiokkllmchohaaGreat
open Go.RowKit
theorem Yi (p:List aj):∀(f:Nat) (c:Int) (x:Nat),x∈chain p f c→x<p.length
 | 0, _, _, h => by simp [chain] at h
 | f + 1, c, x, h => by
  unfold chain at h
  split at h
  ·simp at h
  ·cases hp:p[c.toNat]? with
   | none => rw [hp] at h; simp at h
   | some y =>
    rw [hp] at h
    rcases List.mem_cons.1 h with rfl | h
    ·exact (List.getElem?_eq_some_iff.1 hp).1
    ·exact Yi p f _ x h
theorem aaR (p:List aj)(a b:Int)(hb:bT p.length b):bT p.length (dJ p a b):=by
 unfold dJ
 split
 ·exact hb
 ·split
  ·unfold uZ
   split
   ·rename_i c hc;have:=Yi p _ _ c (List.mem_of_find?_eq_some hc);exact⟨by omega,by omega⟩
   ·exact⟨by omega,by omega⟩
  ·exact⟨by omega,by omega⟩
theorem Zi {n:Nat}{l:List Int}(h:∀x∈l,bT n x)(i:Nat):bT n (l.getD i 0):=by
 rw [List.getD_eq_getElem?_getD]
 cases e:l[i]? with
 | none => exact ⟨by simp, by simp; omega⟩
 | some x => exact h x (List.mem_of_getElem? e)
theorem acj {n:Nat}{l:List Int}(h:∀x∈l,bT n x)(i:Nat){t:Int}(ht:bT n t):∀x∈l.set i t,bT n x:=fun x hx=>by
 rcases List.mem_or_eq_of_mem_set hx with h' | rfl
 ·exact h x h'
 ·exact ht
theorem aaU {p:List aj}{s t:aH}(hs:∀x∈s.loc,bT p.length x)(ht:∀x∈t.loc,bT p.length x):∀k,∀x∈(oP p s t k).loc,bT p.length x
 | 0 => hs
 | k + 1 => acj (aaU hs ht k) k (aaR p _ _ (Zi ht k))
theorem aaX (p:List aj)(s t:aH):∀k,(qx p s t k).loc=(oP p s t 8).loc
 | 0 => rfl
 | k + 1 => aaX p s t k
theorem aaY {p:List aj}{s t:aH}(hs:∀x∈s.stk,bT p.length x)(ht:∀x∈t.stk,bT p.length x):∀k,∀x∈(qx p s t k).stk,bT p.length x
 | 0 => by
  show ∀x∈(oP p s t 8).stk,_
  rw [Le];exact hs
 | k + 1 => acj (aaY hs ht k) k (aaR p _ _ (Zi ht k))
theorem ahu {p:List aj}{k:Int}{s t:aH}(hs:kV p.length k s)(ht:kV p.length k t):kV p.length k (jh p s t):=by
 refine⟨?_,aaY hs.2.1 ht.2.1 _,?_⟩
 ·show ∀x∈(qx p s t _).loc,_
  rw [aaX];exact aaU hs.1 ht.1 8
 ·show ((qx p s t _).stk.length:Int)≤k
  rw [Lj];exact hs.2.2
def nY (p:List aj)(k:Int)(s:aJ):Prop:=∀x∈s.st,kV p.length k x
theorem nY.get {p:List aj}{k:Int}{s:aJ}(h:nY p k s){i:Nat}(hi:i<s.st.length):kV p.length k (s.st.getD i zeroS):=by
 rw [List.getD_eq_getElem?_getD,List.getElem?_eq_getElem hi];exact h _ (List.getElem_mem hi)
theorem nY.put {p:List aj}{k:Int}{s:aJ}(h:nY p k s)(i:Nat){g:aH}(hg:kV p.length k g):nY p k (dK s i g):=fun x hx=>by
 rcases List.mem_or_eq_of_mem_set hx with h' | rfl
 ·exact h x h'
 ·exact hg
theorem nY.reach {p:List aj}{k:Int}{s s':aJ}(h:nY p k s){i:Nat}(hi:i<s.st.length){g:aH}(hg:kV p.length k g)(e:ji p i g s=some s'):nY p k s':=by
 unfold ji at e
 split at e
 ·split at e
  ·obtain rfl:=Option.some.inj e;exact h
  ·split at e
   ·obtain rfl:=Option.some.inj e;exact h.put i (ahu (h.get hi) hg)
   ·cases e
 ·obtain rfl:=Option.some.inj e;exact h.put i hg
theorem aj3 (p:List aj){k:Int}(hk:0≤k):nY p k sv0:=fun x hx=>by
 obtain rfl:=List.eq_of_mem_replicate hx;refine⟨fun x hx=>?_,fun x hx=>(by cases hx),by simpa [zeroS] using hk⟩;obtain rfl:=List.eq_of_mem_replicate hx;exact⟨by omega,by omega⟩
theorem ahy {p:List aj}{m:aC}{i:eF}(h:bC p m i=true)(hj:gU i=true):0≤i.a∧i.a<(m.code.length:Int):=by
 unfold gU at hj;have ho:i.op=7∨i.op=8∨i.op=18:=by simpa [or_assoc] using hj
 unfold bC at h;rw [if_neg (by rcases ho with e | e | e <;> rw [e] <;> decide),if_neg (by rcases ho with e | e | e <;> rw [e] <;> decide),if_pos ho] at h;have:=(Bool.and_eq_true_iff.1 h).1;unfold dV at this;simpa using this
theorem AZ {p:List aj}{m:aC}{pc:Nat}(hpc:pc<m.code.length)(hi:∀i∈m.code,bC p m i=true){s n:aH}(hn:jy p m pc s=some n):∀y∈gy (bH m pc) pc,0≤y.1∧y.1<(m.code.length:Int):=by
 have he:uH m pc=false:=by
  unfold jy at hn
  cases hd:aY p m (bH m pc) s with
  | none => rw [hd] at hn; cases hn
  | some x =>
   rw [hd] at hn
   cases he:uH m pc with
   | false => rfl
   | true => simp [he] at hn
 intro y hy
 have hne:y.1≠(m.code.length:Int):=fun e=>by
  have:uH m pc=true:=by
   unfold uH;exact List.any_eq_true.2 ⟨y,hy,by simpa using e⟩
  rw [he] at this;cases this
 have hX:bC p m (bH m pc)=true:=by
  unfold bH;rw [List.getElem?_eq_getElem hpc];exact hi _ (List.getElem_mem hpc)
 unfold gy at hy
 rcases List.mem_append.1 hy with h | h
 ·split at h
  ·rename_i hj;obtain rfl:=List.mem_singleton.1 h;exact ahy hX hj
  ·cases h
 ·split at h
  ·obtain rfl:=List.mem_singleton.1 h;dsimp only at hne ⊢;omega
  ·cases h
end Go.Proofs.YtiiokkllmchohaaGreat
namespace Go.Proofs.YtiiokkllmchohaaGreat
open Go.RowKit Go.Shelf
attribute [local go_sem ↓] Go.wp_at_zero Go.wp_at_succ
attribute [local go_sem] bW
theorem XB (b off j:Nat):(⟨b,off,none⟩:Addr).add j=⟨b,off+j,none⟩:=by unfold Addr.add;split <;> simp_all
theorem XC:ni Tryz.prog 42 3:=⟨by kernel_rfl,by kernel_rfl⟩
def V9 (s:aH)(pc:Int)(n:Nat)(w w':World)(e:Ending):Prop:=
 ∃vl vs,e= .returned (.agg #[.int .i64 pc,vl,vs])∧w'.ownsRow w.heap.size 43 1 vl n ((s.loc.take n).map (Value.int .i64))∧w'.ownsRow w.heap.size 43 1 vs s.stk.length (s.stk.map (Value.int .i64))∧
  (∀g,vl.ownBlock=some g→vs.ownBlock≠some g)∧Below w.heap.size w w'
theorem ajX (s:aH)(cs:List Value)(pc:Int)(n:Nat)(w:World)(hS:eX s cs)(hn:n≤8) :
  Calls Tryz.prog 146 #[.agg cs.toArray,.int .i64 pc,.int .i64 (n:Int)] w fun e w'=>V9 s pc n w w' e:=by
 obtain⟨i0,hi0,hz0,hz1,hz2⟩:=info_parts infoType;have s8:=hS.ok.2;have l8:=hS.ok.1;have hcl:=hS.len;have n0:(0:Int)≤(n:Int):=by omega
 have n8:(n:Int)≤8:=by omega
 have k0:(0:Int)≤(s.stk.length:Int):=by omega
 have k8:(s.stk.length:Int)≤8:=by omega
 go_enter Tryz.func146,Tryz.ntmps146
 go_wp2_with fail
 have hbel:Below w.heap.size w ((w.alloc (.cells cs.toArray 130)).alloc (.cells #[.int .i64 0,.slice none 0 0,.slice none 0 0] 42)):=dS _ _ _;have B0:=(ak.new w cs.toArray 130).alloc (.cells #[.int .i64 0,.slice none 0 0,.slice none 0 0] 42);have B1:=ak.new (w.alloc (.cells cs.toArray 130)) #[.int .i64 0,.slice none 0 0,.slice none 0 0] 42;rw [World.size_alloc] at B1;generalize (w.alloc _).alloc _=W at *;have c16:W.cell? ⟨w.heap.size,16,none⟩=some (.int .i64 (s.stk.length:Int)):=by rw [B0.cell];exact hS.ht
 refine wp_region_noPanic ?_;refine wp_region_held_drew (S:=(fun w'=>w'.cell? ⟨w.heap.size,16,none⟩=some (.int .i64 (s.stk.length:Int)))) (by kernel_rfl) ?_ (fun hHeld=>?_)
 ·exact c16
 refine au 7 0 ?_;refine au 8 1 ?_;refine au 9 2 ?_;refine au 10 3 ?_;refine au 12 5 ?_;refine au 13 6 ?_;refine au 14 7 ?_;refine au 15 8 ?_;refine aW 4 (fun K hK=>?_)
 have hsrc1:∀ad,some (⟨w.heap.size,0,none⟩:Addr)=some ad→∀j u,((s.loc.take n).map (Value.int .i64))[j]? =some u→W.cell? (ad.add j)=some u:=fun ad e j u h=>by
  obtain rfl:=Option.some.inj e;rw [XB,B0.cell];rw [List.getElem?_map] at h;obtain⟨x,hx,rfl⟩:=Option.map_eq_some_iff.1 h;rw [Nat.zero_add];rw [List.getElem?_take] at hx
  split at hx
  ·exact hS.loc j x hx
  ·cases hx
 refine P6 (.const (.slice none 0 0)) (.tmp 10) 40 rfl w.heap.size 43 i0 (.int .i64 0) 1 8 Tryz.underlying40 hi0 hz0 hz1 hz2 rfl (by decide) (.slice none 0 0) 0 [] rfl (World.ownsRow_nil _ _ _ _) (some ⟨w.heap.size,0,none⟩) n 8 ((s.loc.take n).map (Value.int .i64)) rfl (by simp;omega) (fun e=>by cases e) hsrc1 (wC _) (by unfold maxLen;omega) (by omega) hbel.size ?_;intro v1 w1 hown1 hg1 ZQ;rw [Nat.zero_add,List.nil_append] at hown1;obtain⟨a1,cap1,rfl⟩:=cZ hown1;have hm1:ay (fun _=>False) W w1:=((ay.refl _ W).drew).grown hg1 (fun k e _=>by cases e);have gu:Below w.heap.size w w1:=hbel.trans (hm1.below hbel.size (fun _ _ f=>f));have VP:=B0.mods hm1 (fun f=>f)
 have B11:=B1.mods hm1 (fun f=>f);have XY:w1.cell? ⟨w.heap.size,16,none⟩=some (.int .i64 (s.stk.length:Int)):=by rw [VP.cell];exact hS.ht
 go_simp;refine hK.out _ _ XY (fun hHeld=>?_);clear hK K;try simp only [Act.put,aK,aO,aN]
 have ag7:∀ad,some (⟨w.heap.size,8,none⟩:Addr)=some ad→∀j u,(s.stk.map (Value.int .i64))[j]? =some u→w1.cell? (ad.add j)=some u:=fun ad e j u h=>by
  obtain rfl:=Option.some.inj e;rw [XB,VP.cell];rw [List.getElem?_map] at h;obtain⟨x,hx,rfl⟩:=Option.map_eq_some_iff.1 h;exact hS.stk j x hx
 refine aW 9 (fun K hK=>?_);refine P6 (.const (.slice none 0 0)) (.tmp 15) 40 rfl w.heap.size 43 i0 (.int .i64 0) 1 8 Tryz.underlying40 hi0 hz0 hz1 hz2 rfl (by decide) (.slice none 0 0) 0 [] rfl (World.ownsRow_nil _ _ _ _) (some ⟨w.heap.size,8,none⟩) s.stk.length 8 (s.stk.map (Value.int .i64)) rfl (by simp) (fun e=>by cases e) ag7 (wC _) (by unfold maxLen;omega) (by omega) gu.size ?_;intro v2 w2 hown2 hg2 Ol;rw [Nat.zero_add,List.nil_append] at hown2;obtain⟨a2,cap2,rfl⟩:=cZ hown2;have hm2:ay (fun _=>False) w1 w2:=(ay.refl _ w1).grown hg2 (fun k e _=>by cases e);have hbw2:Below w.heap.size w w2:=gu.trans (hm2.below gu.size (fun _ _ f=>f))
 have B12:=B11.mods hm2 (fun f=>f);have c162:w2.cell? ⟨w.heap.size,16,none⟩=some (.int .i64 (s.stk.length:Int)):=hm2.cell XY (fun f=>f);have aaA:=eP hown1 hm2 (fun _ _ f=>f);go_simp;refine hK.out _ _ c162 (fun hHeld=>?_);clear hK K;try simp only [Act.put,aK,aO,aN]
 refine au 17 10 ?_;refine aW 11 (fun K hK=>?_)
 refine oZ XC B12 0 [.int .i64 pc,.slice a1 n cap1,.slice a2 s.stk.length cap2] rfl (by simp) (fun v hv=>by
  simp only [List.mem_cons,List.not_mem_nil,or_false] at hv
  rcases hv with rfl | rfl | rfl <;> rfl) (.tmp 6) (.tmp 17) rfl rfl rfl ?_
 intro w3 hB3 dh hs3;rw [gB (by rfl)] at hB3;have ad2:w3.cell? ⟨w.heap.size,16,none⟩=some (.int .i64 (s.stk.length:Int)):=dh.cell c162 (by dsimp only;omega);refine hK.out _ _ ad2 (fun hHeld=>?_);clear hK K;try simp only [Act.put]
 refine wpAnyH_done (by kernel_rfl) ?_ _;refine NoPanic.normal ?_
 have HF:Hid (V9 s pc n w w3 (.returned (.agg #[.int .i64 pc,.slice a1 n cap1,.slice a2 s.stk.length cap2]))):=by
  have b1:=B1.lt;have z1:=hm1.size;refine⟨_,_,rfl,?_,?_,fun g h1 h2=>?_,hbw2.trans (dh.below hbw2.size (fun k hk e=>by omega))⟩
  ·have:=eP aaA dh (fun g hg e=>by
    rcases ZQ with h | h
    ·rw [h] at hg;cases hg
    ·rw [h] at hg;cases hg;change W.heap.size=_ at e;omega)
   simpa using this
  ·have:=eP hown2 dh (fun g hg e=>by
    rcases Ol with h | h
    ·rw [h] at hg;cases hg
    ·rw [h] at hg;cases hg;omega)
   simpa using this
  ·have l1:=(aaA.lt g h1).2
   rcases ZQ with h | h
   ·rw [h] at h1;cases h1
   ·rcases Ol with h' | h'
    ·rw [h'] at h2;cases h2
    ·rw [h'] at h2;cases h2;have:=(hown1.lt _ h1).2;omega
 go_wp2_with fail
 refine bodyPost_ret (IK rfl XC hB3 rfl rfl) rfl ?_;exact ah HF
end Go.Proofs.YtiiokkllmchohaaGreat
