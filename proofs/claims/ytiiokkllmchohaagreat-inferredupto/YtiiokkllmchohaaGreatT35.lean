/- The document's answer: two states joined. -/
import Derived.Deep.LoopGhost
import Derived.Deep.DeepCutAuto
import Derived.Test.YtiiokkllmchohaaGreatT34
set_option maxHeartbeats 4000000
set_option maxRecDepth 100000
namespace Go.Proofs.YtiiokkllmchohaaGreat
open Go.RowKit Go.Shelf
attribute [local go_sem ↓] Go.wp_at_zero Go.wp_at_succ
attribute [local go_sem] bW
theorem gW.aib {w V:World}{B b:Nat}{vl:Value}{loc:List Int}(i:gW w V B b vl loc (.slice none 0 0) [])(hB:w.heap.size≤B)(pK:B≤V.heap.size)(hb:w.heap.size≤b)(hbB:b<B)(hl:loc.length≤100)(x:Int) :
  ∃a n cap w',(Builtin.append_ #[40,40] 40 #[vl,.slice (some ⟨V.heap.size,0,none⟩) 1 1]).run Tryz.prog (V.alloc (.cells #[.int .i64 x] 43))= .ok (.slice a n cap) w'∧
   w'.cell? ⟨b,1,none⟩=some vl∧w'.frozen? ⟨b,1,none⟩=false∧ay (fun j=>vl.ownBlock=some j) V w'∧gW w (w'.setCell ⟨b,1,none⟩ (.slice a n cap)) B b (.slice a n cap) (loc++ [x]) (.slice none 0 0) []:=by
 obtain⟨a,n,cap,w',happ,c1,f1,hM,_,I⟩:=i.Zk.one hB pK hb hbB hl x;exact⟨a,n,cap,w',happ,c1,f1,hM,I.bel,I.box,I.row,World.ownsRow_nil _ _ _ _,fun g _ h=>by cases h⟩
structure Gv (w V:World)(vp:Value)(ia ib:Bool)(val nT mg mD:Value):Prop where
 bel:Below w.heap.size w V
 b0:ak V w.heap.size 24 [vp]
 b1:ak V (w.heap.size+1) 149 [.bool ia,val,nT]
 b2:ak V (w.heap.size+1+1) 149 [.bool ib,mg,mD]
 b3:ak V (w.heap.size+1+1+1) 149 [.bool false,.slice none 0 0,.slice none 0 0]
theorem Gv.below {w V V':World}{vp:Value}{ia ib:Bool}{val nT mg mD:Value}(i:Gv w V vp ia ib val nT mg mD)(h:Below V.heap.size V V'):Gv w V' vp ia ib val nT mg mD:=
 ⟨i.bel.trans (h.mono i.bel.size),i.b0.below h i.b0.lt,i.b1.below h i.b1.lt,i.b2.below h i.b2.lt,i.b3.below h i.b3.lt⟩
theorem Gv.new (w:World)(vp:Value)(ia ib:Bool)(val nT mg mD:Value) :
  Gv w ((((w.alloc (.cells #[vp] 24)).alloc (.cells #[.bool ia,val,nT] 149)).alloc (.cells #[.bool ib,mg,mD] 149)).alloc (.cells #[.bool false,.slice none 0 0,.slice none 0 0] 149)) vp ia ib val nT mg mD:=by
 have a1:=ak.new (w.alloc (.cells #[vp] 24)) #[.bool ia,val,nT] 149;have a2:=ak.new ((w.alloc (.cells #[vp] 24)).alloc (.cells #[.bool ia,val,nT] 149)) #[.bool ib,mg,mD] 149;have a3:=ak.new (((w.alloc (.cells #[vp] 24)).alloc (.cells #[.bool ia,val,nT] 149)).alloc (.cells #[.bool ib,mg,mD] 149)) #[.bool false,.slice none 0 0,.slice none 0 0] 149;simp only [World.size_alloc] at a1 a2 a3;exact⟨(((aS w _).alloc (by simp) _).alloc (by simp;omega) _).alloc (by simp;omega) _,(((ak.new w _ _).alloc _).alloc _).alloc _,(a1.alloc _).alloc _,a2.alloc _,a3⟩
def JH (p:List aj)(ia ib:Bool)(s t:aH)(mg mD:Value)(w w':World)(e:Ending):Prop:=
 (ia=false→e= .returned (.tuple #[.agg #[.bool ib,mg,mD],.bool true]))∧(ia=true→s.stk.length≠t.stk.length→e= .returned (.tuple #[.agg #[.bool false,.slice none 0 0,.slice none 0 0],.bool false]))∧
  (ia=true→s.stk.length=t.stk.length→∃vl vs,e= .returned (.tuple #[.agg #[.bool true,vl,vs],.bool true])∧Gx w.heap.size w' (tq p s t) vl vs)∧Below w.heap.size w w'
theorem aa0 {p:List aj}{l u:List Int}{k:Nat}(h1:k<l.length)(h2:k<u.length):((l.zip u).map fun x=>dJ p x.1 x.2).take (k+1)=((l.zip u).map fun x=>dJ p x.1 x.2).take k++ [dJ p l[k] u[k]]:=by
 rw [List.take_add_one,List.getElem?_eq_getElem (by simp;omega),List.getElem_map,List.getElem_zip]
 rfl
theorem aia {q:Bool}{a a':Option Addr}{n c n' c':Nat} :∀u∈[Value.bool q,.slice a n c,.slice a' n' c'],u.oneCell'=true:=fun u hu=>by
 simp only [List.mem_cons,List.not_mem_nil,or_false] at hu
 rcases hu with rfl | rfl | rfl <;> rfl
theorem ajh (p:List aj)(vc:Value)(s t:aH)(ia ib:Bool)(val nT mg mD:Value)(w:World)(hp:aX w vc p)(hs:aU p p.length)(h6:p.length≤6)(hA:dG w.cell? s val nT)(hB:dG w.cell? t mg mD)(tA:gI p s)(tB:gI p t)(l1:s.loc.length≤8)(l2:s.stk.length≤8)(hll:ia=true→s.loc.length=t.loc.length) :
  Calls Tryz.prog 98 #[.agg #[vc],.agg #[.bool ia,val,nT],.agg #[.bool ib,mg,mD]] w fun e w'=>JH p ia ib s t mg mD w w' e:=by
 have HP:=hide hp;obtain⟨pa,_,_,aA,rfl,_⟩:=hp;obtain⟨kQ,JK,JL,jU,rfl,_,TF,KH⟩:=jo hA.1;obtain⟨yJ,JM,JO,vN,rfl,_,hash,KJ⟩:=jo hA.2;obtain⟨bla,JQ,JR,vP,rfl,_,TJ,KO⟩:=jo hB.1;obtain⟨wU,GV,GX,vS,rfl,_,Oo,KT⟩:=jo hB.2;have Gi:=hide KH;have HAS:=hide KJ;have Qn:=hide KO;have Qo:=hide KT;clear KH KJ KO KT hA hB;have I0:=Gv.new w (.slice pa p.length aA) ia ib (.slice kQ s.loc.length jU) (.slice yJ s.stk.length vN) (.slice bla t.loc.length vP) (.slice wU t.stk.length vS);have hpl:p.length≤4194304:=by omega
 go_enter Tryz.func98,Tryz.ntmps98
 go_upto_region 1 with fail
 generalize (((w.alloc _).alloc _).alloc _).alloc _=W at *;have a0:W.cell? ⟨w.heap.size+1,0,none⟩=some (.bool ia):=I0.b1.cell 0;have a2:W.cell? ⟨w.heap.size+1,2,none⟩=some (.slice yJ s.stk.length vN):=I0.b1.cell 2;have e0:W.cell? ⟨w.heap.size+1+1,0,none⟩=some (.bool ib):=I0.b2.cell 0;have e1:W.cell? ⟨w.heap.size+1+1,1,none⟩=some (.slice bla t.loc.length vP):=I0.b2.cell 1;have e2:W.cell? ⟨w.heap.size+1+1,2,none⟩=some (.slice wU t.stk.length vS):=I0.b2.cell 2;have QH:=hide hll;clear hll
 cases ia with
 | false =>
  go_wp2_with (refine iZ iV I0.b3 0 [.bool ib,.slice bla t.loc.length vP,.slice wU t.stk.length vS] rfl (by simp) (fun u hu=>by simp only [List.mem_cons,List.not_mem_nil,or_false] at hu;rcases hu with rfl | rfl | rfl <;> rfl) (.tmp 6) (.tmp 16) rfl rfl rfl rfl ?_;intro w6 dP bK hs6;rw [gB (by rfl)] at dP)
  refine bodyPost_ret (jQ rfl iV dP rfl rfl) rfl ?_;exact⟨fun _=>rfl,fun e=>(by cases e),fun e=>(by cases e),I0.bel.trans (bK.below I0.bel.size (fun k hk e=>by omega))⟩
 | true =>
  have h2:=ah QH rfl
  by_cases h1:s.stk.length=t.stk.length
  rotate_left
  ·have h1':((s.stk.length:Int) == (t.stk.length:Int))=false:=by simpa using fun h:(s.stk.length:Int)=t.stk.length=>h1 (by omega)
   have H1:=hide h1;clear h1 h2;go_wp2_with (refine iZ iV I0.b3 0 [.bool false,.slice none 0 0,.slice none 0 0] rfl (by simp) Ec (.tmp 6) (.tmp 24) rfl rfl rfl rfl ?_;intro w6 dP bK hs6;rw [gB (by rfl)] at dP)
   refine bodyPost_ret (jQ rfl iV dP rfl rfl) rfl ?_;exact⟨fun e=>(by cases e),fun _ _=>rfl,fun _ e=>absurd e (ah H1),I0.bel.trans (bK.below I0.bel.size (fun k hk e=>by omega))⟩
  have H1:=hide h1;have H2:=hide h2;have h1b:((s.stk.length:Int) == (t.stk.length:Int))=true:=by rw [h1];simp
  obtain⟨zl,hzl⟩:∃zl,zl=(s.loc.zip t.loc).map fun x=>dJ p x.1 x.2:=⟨_,rfl⟩;obtain⟨zs,hzs⟩:∃zs,zs=(s.stk.zip t.stk).map fun x=>dJ p x.1 x.2:=⟨_,rfl⟩;have Q8:=hide hzl;have Q9:=hide hzs;clear h1 h2 hzl hzs;go_upto_region 5 with fail
  clear h1b a0 a2 e0 e1 e2;go_wp2_with fail
  have KG:=I0.b3.lt;have J0:=gW.start (w:=w) (V:=W) (B:=W.heap.size+1) I0.bel;have hbx:=aS W (.cells #[.bool true,.slice none 0 0,.slice none 0 0] 149);have hsb:(W.alloc (.cells #[.bool true,.slice none 0 0,.slice none 0 0] 149)).heap.size=W.heap.size+1:=by simp
  go_loopg [9] s.loc.length (fun g i V=>∃(k:Nat) (vx:Value),k≤s.loc.length∧g=s.loc.length-k∧i= .int .i64 k∧gW w V (W.heap.size+1) W.heap.size vx (zl.take k) (.slice none 0 0) []∧Below W.heap.size W V∧W.heap.size+1≤V.heap.size)
  case atStart=>exact ⟨0,_,Nat.zero_le _,rfl,rfl,J0,hbx,by omega⟩
  case round=>
   clear J0 hbx hsb;obtain⟨k,vx,hk,hgk,rfl,JJ,eY,Ie⟩:=hrel;have uh:=hide hgk;clear hgk;have KK:=I0.below eY;obtain⟨FZ,F5,rfl⟩:=cZ JJ.rl;obtain⟨sl,hsl⟩:∃sl,sl=(zl.take k).length:=⟨_,rfl⟩;rw [←hsl] at JJ;have HSL:=hide hsl;clear hsl;have z1:wr.cell? ⟨W.heap.size,1,none⟩=some (.slice FZ sl F5):=JJ.box.cell 1;have q1:wr.cell? ⟨w.heap.size+1,1,none⟩=some (.slice kQ s.loc.length jU):=KK.b1.cell 1
   by_cases hlt:k<s.loc.length
   rotate_left
   ·obtain rfl:k=s.loc.length:=by omega
    have ke:¬(s.loc.length:Int)<(s.loc.length:Int):=by omega
    have hlz:zl.length=s.loc.length:=by rw [ah Q8];have:=ah H2;simp;omega
    rw [List.take_of_length_le (by omega)] at JJ HSL;obtain⟨VB,zn,VD,hv⟩:∃a n c,Value.slice FZ sl F5= .slice a n c:=⟨_,_,_,rfl⟩;rw [hv] at JJ;have HJ:=hide JJ;have HB:=hide eY;have Na:=hide Ie;clear hlz JJ z1 eY Ie hv HSL KK uh;go_wp2_with fail
    have q3:wr.cell? ⟨w.heap.size+1,2,none⟩=some (.slice yJ s.stk.length vN):=(I0.below (ah HB)).b1.cell 2
    go_loopg [11] s.stk.length (fun g i V=>∃(k:Nat) (vx:Value),k≤s.stk.length∧g=s.stk.length-k∧i= .int .i64 k∧gW w V (W.heap.size+1) W.heap.size (.slice VB zn VD) zl vx (zs.take k)∧Below W.heap.size W V∧W.heap.size+1≤V.heap.size)
    case atStart=>exact ⟨0,_,Nat.zero_le _,rfl,rfl,ah HJ,ah HB,ah Na⟩
    case round=>
     clear q3 HJ HB Na;obtain⟨k,vx,hk,hgk,rfl,JJ,eY,Ie⟩:=hrel;have uh:=hide hgk;clear hgk;have KK:=I0.below eY;obtain⟨FZ,F5,rfl⟩:=cZ JJ.rs;obtain⟨sl,hsl⟩:∃sl,sl=(zs.take k).length:=⟨_,rfl⟩;rw [←hsl] at JJ;have HSL:=hide hsl;clear hsl;have z1:wr.cell? ⟨W.heap.size,2,none⟩=some (.slice FZ sl F5):=JJ.box.cell 2;have q1:wr.cell? ⟨w.heap.size+1,2,none⟩=some (.slice yJ s.stk.length vN):=KK.b1.cell 2
     by_cases hlt:k<s.stk.length
     rotate_left
     ·obtain rfl:k=s.stk.length:=by omega
      have ke:¬(s.stk.length:Int)<(s.stk.length:Int):=by omega
      have hlz:zs.length=s.stk.length:=by rw [ah Q9];have:=ah H1;simp;omega
      rw [List.take_of_length_le (by omega)] at JJ HSL;have y1:wr.cell? ⟨W.heap.size,0,none⟩=some (.bool true):=JJ.box.cell 0;have y2:wr.cell? ⟨W.heap.size,1,none⟩=some (.slice VB zn VD):=JJ.box.cell 1;have HJ:=hide JJ;have hb3:=KK.b3;clear hlz JJ;go_wp2_with (refine iZ iV hb3 0 [.bool true,.slice VB zn VD,.slice FZ sl F5] rfl (by simp) aia (.tmp 6) (.tmp 76) rfl rfl rfl rfl ?_;intro w6 dP bK hs6;rw [gB (by rfl)] at dP)
      refine bodyPost_ret (jQ rfl iV dP rfl rfl) rfl ?_
      exact⟨fun e=>(by cases e),fun _ e=>absurd (ah H1) e,fun _ _=>⟨_,_,rfl,by
       have e:tq p s t=⟨zl,zs⟩:=by unfold tq;rw [ah Q8,ah Q9]
       rw [e];exact dG.keep (dR bK fun k hk hS=>⟨by omega,by omega⟩) (ah HJ).read⟩,KK.bel.trans (bK.below KK.bel.size (fun k hk e=>by omega))⟩
     have q0:wr.cell? ⟨w.heap.size,0,none⟩=some (.slice pa p.length aA):=KK.b0.cell 0;have q2:wr.cell? ⟨w.heap.size+1+1,2,none⟩=some (.slice wU t.stk.length vS):=KK.b2.cell 2;have hlt':k<t.stk.length:=by rw [←ah H1];exact hlt
     obtain rfl:=hash (bJ hlt);obtain rfl:=Oo (bJ hlt');have x0:=Keeps.of_below KK.bel _ _ (ah HAS k hlt);have y0:=Keeps.of_below KK.bel _ _ (ah Qo k hlt');have hx:=tA.2 _ (List.getElem_mem hlt);have hy:=tB.2 _ (List.getElem_mem hlt');have HS:Hid (zs.take (k+1)=zs.take k++ [dJ p s.stk[k] t.stk[k]]):=by show _=_;rw [ah Q9];exact aa0 hlt hlt'
     generalize s.stk[k]=a at *;generalize t.stk[k]=b at *;have k0:(0:Int)≤(k:Int):=by omega
     have k1:(k:Int)<(s.stk.length:Int):=by omega
     have k2:(k:Int)<(t.stk.length:Int):=by omega
     have HO:=hide (fun Y (hY:Below wr.heap.size wr Y)=>And.intro ((KK.below hY).b0.cell 0) (And.intro ((KK.below hY).b1.cell 2) (And.intro ((KK.below hY).b2.cell 2) (And.intro (Keeps.of_below hY _ _ x0) (Keeps.of_below hY _ _ y0)))));go_wp2_with fail
     refine wp_region_noPanic ?_;refine wp_region_held_drew (S:=(fun w'=>w'.cell? ⟨w.heap.size,0,none⟩=some (.slice pa p.length aA)∧w'.cell? ⟨w.heap.size+1,2,none⟩=some (.slice (some ⟨JM,JO,none⟩) s.stk.length vN)∧w'.cell? ⟨w.heap.size+1+1,2,none⟩=some (.slice (some ⟨GV,GX,none⟩) t.stk.length vS)∧w'.cell? ⟨JM,JO+k,none⟩=some (.int .i64 a)∧w'.cell? ⟨GV,GX+k,none⟩=some (.int .i64 b))) (by kernel_rfl) ?_ (fun hHeld=>?_)
     ·exact (ah HO) _ gq
     refine au 58 0 ?_;refine au 59 1 ?_;refine au 60 2 ?_;refine au 61 3 ?_;refine au 62 4 ?_;refine au 63 5 ?_;refine au 64 6 ?_;refine au 65 7 ?_;refine au 66 8 ?_;refine au 67 9 ?_;refine au 68 10 ?_;refine aW 11 (fun K hK=>?_);go_simp;refine (ab9 p _ a b wr.drew (aP (Keeps.of_below gq) (aP (Keeps.of_below KK.bel) (ah HP))) hs h6 hx hy).mono ?_;rintro e w1 ⟨rfl,hb1'⟩;have hb1:Below wr.heap.size wr w1:=⟨hb1'.os,hb1'.tape,hb1'.output,hb1'.size,hb1'.block⟩;obtain⟨jn,hjn⟩:∃jn,jn=dJ p a b:=⟨_,rfl⟩;rw [←hjn] at HS ⊢;have J1:=JJ.below hb1
     have z1':w1.cell? ⟨W.heap.size,2,none⟩=some (.slice FZ sl F5):=J1.box.cell 2;have hs1:=hb1.size;obtain⟨a5,n5,cap5,w5,oq,c5,f5,bU,J5⟩:=J1.one (by omega) (by omega) (by omega) (by omega) (by rw [List.length_take];omega) jn;have hS5:ay (fun j=>j=W.heap.size) w5 (w5.setCell ⟨W.heap.size,2,none⟩ (.slice a5 n5 cap5)):=(ay.refl (fun j=>j=W.heap.size) w5).setCell (p:=⟨W.heap.size,2,none⟩) (fun _=>rfl) _;have Dn:=eY.trans (hb1.mono eY.size);have jJ:Below W.heap.size W (w5.setCell ⟨W.heap.size,2,none⟩ (.slice a5 n5 cap5)):=Dn.trans ((bU.below Dn.size (fun k hk e=>by have:=(J1.rs.lt k e).1;omega)).trans (hS5.below (Nat.le_trans Dn.size bU.size) (fun k hk e=>by omega)))
     have hs5:W.heap.size+1≤(w5.setCell ⟨W.heap.size,2,none⟩ (.slice a5 n5 cap5)).heap.size:=by have:=bU.size;have:=hS5.size;omega
     rw [←ah HS] at J5;have HE:=hide (And.intro J5 (And.intro jJ hs5));clear J5 bU hS5 jJ hjn hb1' z1 q0 q1 q2;go_wp2_with fail
     refine hK.out _ _ ((ah HO) _ hb1) (fun hHeld=>?_);clear hK K;try simp only [Act.put,aK,aO,aN]
     refine au 12 12 ?_;refine wpAnyH_done (by kernel_rfl) ?_ _;refine NoPanic.normal ?_;go_wp2_with (at_builtin;refine wpList_append_run rfl (.tmp 71) (.tmp 73) 40 rfl _ _ rfl rfl oq ?_)
     go_roundg (s.stk.length-(k+1))
     case measure=>have:=ah uh;omega
     case rel=>exact ⟨k+1,.slice a5 n5 cap5,by omega,rfl,by go_num,(ah HE).1,(ah HE).2.1,(ah HE).2.2⟩

   have q0:wr.cell? ⟨w.heap.size,0,none⟩=some (.slice pa p.length aA):=KK.b0.cell 0;have q2:wr.cell? ⟨w.heap.size+1+1,1,none⟩=some (.slice bla t.loc.length vP):=KK.b2.cell 1;have hlt':k<t.loc.length:=by rw [←ah H2];exact hlt
   obtain rfl:=TF (bJ hlt);obtain rfl:=TJ (bJ hlt');have x0:=Keeps.of_below KK.bel _ _ (ah Gi k hlt);have y0:=Keeps.of_below KK.bel _ _ (ah Qn k hlt');have hx:=tA.1 _ (List.getElem_mem hlt);have hy:=tB.1 _ (List.getElem_mem hlt');have HS:Hid (zl.take (k+1)=zl.take k++ [dJ p s.loc[k] t.loc[k]]):=by show _=_;rw [ah Q8];exact aa0 hlt hlt'
   generalize s.loc[k]=a at *;generalize t.loc[k]=b at *;have k0:(0:Int)≤(k:Int):=by omega
   have k1:(k:Int)<(s.loc.length:Int):=by omega
   have k2:(k:Int)<(t.loc.length:Int):=by omega
   have HO:=hide (fun Y (hY:Below wr.heap.size wr Y)=>And.intro ((KK.below hY).b0.cell 0) (And.intro ((KK.below hY).b1.cell 1) (And.intro ((KK.below hY).b2.cell 1) (And.intro (Keeps.of_below hY _ _ x0) (Keeps.of_below hY _ _ y0)))));go_wp2_with fail
   refine wp_region_noPanic ?_;refine wp_region_held_drew (S:=(fun w'=>w'.cell? ⟨w.heap.size,0,none⟩=some (.slice pa p.length aA)∧w'.cell? ⟨w.heap.size+1,1,none⟩=some (.slice (some ⟨JK,JL,none⟩) s.loc.length jU)∧w'.cell? ⟨w.heap.size+1+1,1,none⟩=some (.slice (some ⟨JQ,JR,none⟩) t.loc.length vP)∧w'.cell? ⟨JK,JL+k,none⟩=some (.int .i64 a)∧w'.cell? ⟨JQ,JR+k,none⟩=some (.int .i64 b))) (by kernel_rfl) ?_ (fun hHeld=>?_)
   ·exact (ah HO) _ gq
   refine au 33 0 ?_;refine au 34 1 ?_;refine au 35 2 ?_;refine au 36 3 ?_;refine au 37 4 ?_;refine au 38 5 ?_;refine au 39 6 ?_;refine au 40 7 ?_;refine au 41 8 ?_;refine au 42 9 ?_;refine au 43 10 ?_;refine aW 11 (fun K hK=>?_);go_simp;refine (ab9 p _ a b wr.drew (aP (Keeps.of_below gq) (aP (Keeps.of_below KK.bel) (ah HP))) hs h6 hx hy).mono ?_;rintro e w1 ⟨rfl,hb1'⟩;have hb1:Below wr.heap.size wr w1:=⟨hb1'.os,hb1'.tape,hb1'.output,hb1'.size,hb1'.block⟩;obtain⟨jn,hjn⟩:∃jn,jn=dJ p a b:=⟨_,rfl⟩;rw [←hjn] at HS ⊢;have J1:=JJ.below hb1;have z1':w1.cell? ⟨W.heap.size,1,none⟩=some (.slice FZ sl F5):=J1.box.cell 1
   have hs1:=hb1.size;obtain⟨a5,n5,cap5,w5,oq,c5,f5,bU,J5⟩:=J1.aib (by omega) (by omega) (by omega) (by omega) (by rw [List.length_take];omega) jn;have hS5:ay (fun j=>j=W.heap.size) w5 (w5.setCell ⟨W.heap.size,1,none⟩ (.slice a5 n5 cap5)):=(ay.refl (fun j=>j=W.heap.size) w5).setCell (p:=⟨W.heap.size,1,none⟩) (fun _=>rfl) _;have Dn:=eY.trans (hb1.mono eY.size);have jJ:Below W.heap.size W (w5.setCell ⟨W.heap.size,1,none⟩ (.slice a5 n5 cap5)):=Dn.trans ((bU.below Dn.size (fun k hk e=>by have:=(J1.rl.lt k e).1;omega)).trans (hS5.below (Nat.le_trans Dn.size bU.size) (fun k hk e=>by omega)))
   have hs5:W.heap.size+1≤(w5.setCell ⟨W.heap.size,1,none⟩ (.slice a5 n5 cap5)).heap.size:=by have:=bU.size;have:=hS5.size;omega
   rw [←ah HS] at J5;have HE:=hide (And.intro J5 (And.intro jJ hs5));clear J5 bU hS5 jJ hjn hb1' z1 q0 q1 q2;go_wp2_with fail
   refine hK.out _ _ ((ah HO) _ hb1) (fun hHeld=>?_);clear hK K;try simp only [Act.put,aK,aO,aN]
   refine au 10 12 ?_;refine wpAnyH_done (by kernel_rfl) ?_ _;refine NoPanic.normal ?_;go_wp2_with (at_builtin;refine wpList_append_run rfl (.tmp 46) (.tmp 48) 40 rfl _ _ rfl rfl oq ?_)
   go_roundg (s.loc.length-(k+1))
   case measure=>have:=ah uh;omega
   case rel=>exact ⟨k+1,.slice a5 n5 cap5,by omega,rfl,by go_num,(ah HE).1,(ah HE).2.1,(ah HE).2.2⟩
end Go.Proofs.YtiiokkllmchohaaGreat
