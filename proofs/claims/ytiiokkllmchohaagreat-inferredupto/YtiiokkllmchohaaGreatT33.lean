/- The document's answer: what NEW, GET, PUT, CALL and CAST take and leave. -/
import Derived.Test.YtiiokkllmchohaaGreatT30
import Derived.Test.YtiiokkllmchohaaGreatT31
import Derived.Test.YtiiokkllmchohaaGreatT32
set_option maxHeartbeats 4000000
set_option maxRecDepth 100000
namespace Go.Proofs.YtiiokkllmchohaaGreat
open Go.RowKit Go.Shelf
attribute [local go_sem ↓] Go.wp_at_zero Go.wp_at_succ
attribute [local go_sem] bW
theorem jl.drew {tk lv:List Int}{w V:World}{e:Ending}(h:jl tk lv w V e):jl tk lv w V.drew e:=by
 obtain⟨vt,vl,he,h1,h2,h3⟩:=h;have hk:dM (sel (fun k=>w.heap.size≤k) V) (sel (fun k=>w.heap.size≤k) V.drew):=dR (ay.refl (fun _=>False) V).drew fun k _ hk=>⟨fun f=>f,hk⟩;exact⟨vt,vl,he,dA hk h1,dA hk h2,h3.drew⟩
theorem gq {w:World} :Below w.heap.size w w.drew:=(Below.refl _ _).drew
theorem ajI (p:List aj)(vc:Value)(m:aC)(va aQ vf:Value)(xa xb:Int)(w:World)(hp:aX w vc p)(hv:bV w.cell? m va aQ vf)(ha:0≤xa)(ha2:xa≤4194304) :
  Calls Tryz.prog 151 #[.agg #[vc],bP m va aQ vf,.agg #[.int .i64 9,.int .i64 xa,.int .i64 xb]] w fun e w'=>jl [] [xa+3] w w' e:=by
 unfold bP;obtain⟨pa,_,_,aA,rfl,_⟩:=hp;obtain⟨aa,_,_,aI,rfl,_⟩:=hv.1;obtain⟨ca,_,_,aF,rfl,_⟩:=hv.2.1;obtain⟨fa,_,_,aG,rfl,_⟩:=hv.2.2;have hbel:Below w.heap.size w (((w.alloc (.cells #[.slice pa p.length aA] 24)).alloc (.cells #[.int .i64 m.slot,.slice aa m.args.length aI,.int .i64 m.ret,.int .i64 m.locals,.int .i64 m.stack,.slice ca m.code.length aF,.slice fa m.frames.length aG] 63)).alloc (.cells #[.int .i64 9,.int .i64 xa,.int .i64 xb] 60)):=(dS _ _ _).alloc (by simp;omega) _
 have hsz:(((w.alloc (.cells #[.slice pa p.length aA] 24)).alloc (.cells #[.int .i64 m.slot,.slice aa m.args.length aI,.int .i64 m.ret,.int .i64 m.locals,.int .i64 m.stack,.slice ca m.code.length aF,.slice fa m.frames.length aG] 63)).alloc (.cells #[.int .i64 9,.int .i64 xa,.int .i64 xb] 60)).heap.size=w.heap.size+1+1+1:=by simp
 have B0:=((ak.new w #[.slice pa p.length aA] 24).alloc (.cells #[.int .i64 m.slot,.slice aa m.args.length aI,.int .i64 m.ret,.int .i64 m.locals,.int .i64 m.stack,.slice ca m.code.length aF,.slice fa m.frames.length aG] 63)).alloc (.cells #[.int .i64 9,.int .i64 xa,.int .i64 xb] 60);have B2:=ak.new ((w.alloc (.cells #[.slice pa p.length aA] 24)).alloc (.cells #[.int .i64 m.slot,.slice aa m.args.length aI,.int .i64 m.ret,.int .i64 m.locals,.int .i64 m.stack,.slice ca m.code.length aF,.slice fa m.frames.length aG] 63)) #[.int .i64 9,.int .i64 xa,.int .i64 xb] 60;rw [World.size_alloc,World.size_alloc] at B2;go_enter Tryz.func151,Tryz.ntmps151
 go_wp2_with fail
 generalize ((w.alloc _).alloc _).alloc _=W at *;have q1:W.cell? ⟨w.heap.size+1+1,1,none⟩=some (.int .i64 xa):=B2.cell 1;have hw:IntKind.i64.wrap (3+xa)=3+xa:=by rw [IntKind.wrap_i64];omega
 have HH:=hide (fun U (hU:Below W.heap.size W U)=>(B2.below hU B2.lt).cell 1);refine wp_region_noPanic ?_;refine wp_region_held_drew (S:=(fun w'=>w'.cell? ⟨w.heap.size+1+1,1,none⟩=some (.int .i64 xa))) (by kernel_rfl) ?_ (fun hHeld=>?_)
 ·exact q1
 refine au 6 4 ?_;refine au 32 0 ?_;refine au 33 1 ?_;refine au 34 2 ?_;refine aW 3 (fun K hK=>?_);go_simp;refine hK.out _ _ ((ah HH) _ (aS W _).drew) (fun hHeld=>?_);clear hK K;try simp only [Act.put,aK,aO,aN]
 refine au 7 5 ?_;refine wpAnyH_done (by kernel_rfl) ?_ _;refine NoPanic.normal ?_;go_wp2_with fail
 go_ret2
 rw [Int.add_comm xa 3];exact (VG hbel [3+xa] 1 _ hsz rfl).drew
theorem ajx (p:List aj)(vc:Value)(m:aC)(va aQ vf:Value)(xa xb:Int)(w:World)(hp:aX w vc p)(hv:bV w.cell? m va aQ vf)(ha:0≤xa)(ha2:xa≤4194304) :
  Calls Tryz.prog 151 #[.agg #[vc],bP m va aQ vf,.agg #[.int .i64 17,.int .i64 xa,.int .i64 xb]] w fun e w'=>jl [-1] [xa+3] w w' e:=by
 unfold bP;obtain⟨pa,_,_,aA,rfl,_⟩:=hp;obtain⟨aa,_,_,aI,rfl,_⟩:=hv.1;obtain⟨ca,_,_,aF,rfl,_⟩:=hv.2.1;obtain⟨fa,_,_,aG,rfl,_⟩:=hv.2.2;have hbel:Below w.heap.size w (((w.alloc (.cells #[.slice pa p.length aA] 24)).alloc (.cells #[.int .i64 m.slot,.slice aa m.args.length aI,.int .i64 m.ret,.int .i64 m.locals,.int .i64 m.stack,.slice ca m.code.length aF,.slice fa m.frames.length aG] 63)).alloc (.cells #[.int .i64 17,.int .i64 xa,.int .i64 xb] 60)):=(dS _ _ _).alloc (by simp;omega) _
 have hsz:(((w.alloc (.cells #[.slice pa p.length aA] 24)).alloc (.cells #[.int .i64 m.slot,.slice aa m.args.length aI,.int .i64 m.ret,.int .i64 m.locals,.int .i64 m.stack,.slice ca m.code.length aF,.slice fa m.frames.length aG] 63)).alloc (.cells #[.int .i64 17,.int .i64 xa,.int .i64 xb] 60)).heap.size=w.heap.size+1+1+1:=by simp
 have B0:=((ak.new w #[.slice pa p.length aA] 24).alloc (.cells #[.int .i64 m.slot,.slice aa m.args.length aI,.int .i64 m.ret,.int .i64 m.locals,.int .i64 m.stack,.slice ca m.code.length aF,.slice fa m.frames.length aG] 63)).alloc (.cells #[.int .i64 17,.int .i64 xa,.int .i64 xb] 60);have B2:=ak.new ((w.alloc (.cells #[.slice pa p.length aA] 24)).alloc (.cells #[.int .i64 m.slot,.slice aa m.args.length aI,.int .i64 m.ret,.int .i64 m.locals,.int .i64 m.stack,.slice ca m.code.length aF,.slice fa m.frames.length aG] 63)) #[.int .i64 17,.int .i64 xa,.int .i64 xb] 60;rw [World.size_alloc,World.size_alloc] at B2;go_enter Tryz.func151,Tryz.ntmps151
 go_wp2_with fail
 generalize ((w.alloc _).alloc _).alloc _=W at *;have q1:W.cell? ⟨w.heap.size+1+1,1,none⟩=some (.int .i64 xa):=B2.cell 1;have hw:IntKind.i64.wrap (3+xa)=3+xa:=by rw [IntKind.wrap_i64];omega
 have HH:=hide (fun U (hU:Below W.heap.size W U)=>(B2.below hU B2.lt).cell 1);have hd:=(aS W (.cells #[.int .i64 (-1)] 43));have hd':=(aS W (.cells #[.int .i64 (3+xa)] 43));refine wp_region_noPanic ?_;refine wp_region_held_drew (S:=(fun w'=>w'.cell? ⟨w.heap.size+1+1,1,none⟩=some (.int .i64 xa))) (by kernel_rfl) ?_ (fun hHeld=>?_)
 ·exact q1
 refine au 122 1 ?_;refine au 123 2 ?_;refine au 124 3 ?_;refine wpAnyH_ready (rs:= [0,4]) (by kernel_rfl) (by simp) ?_;refine AllReadyH.cons rfl (fun K hK=>?_) (AllReadyH.cons rfl (fun K hK=>?_) AllReadyH.nil)
 ·go_simp;refine hK.out _ _ ((ah HH) _ hd.drew) (fun hHeld=>?_);clear hK K;try simp only [Act.put,aK,aO,aN]
  refine au 6 5 ?_;refine aW 4 (fun K hK=>?_);go_simp;refine hK.out _ _ ((ah HH) _ (hd.alloc hd.size _).drew) (fun hHeld=>?_);clear hK K;try simp only [Act.put,aK,aO,aN]
  refine au 7 6 ?_;refine wpAnyH_done (by kernel_rfl) ?_ _;refine NoPanic.normal ?_;go_wp2_with fail
  go_ret2
  rw [Int.add_comm xa 3];exact (zi hbel [-1] [3+xa] 1 1 _ hsz rfl rfl).drew
 ·go_simp;refine hK.out _ _ ((ah HH) _ hd'.drew) (fun hHeld=>?_);clear hK K;try simp only [Act.put,aK,aO,aN]
  refine aW 0 (fun K hK=>?_);go_simp;refine hK.out _ _ ((ah HH) _ (hd'.alloc hd'.size _).drew) (fun hHeld=>?_);clear hK K;try simp only [Act.put,aK,aO,aN]
  refine au 6 5 ?_;refine au 7 6 ?_;refine wpAnyH_done (by kernel_rfl) ?_ _;refine NoPanic.normal ?_;go_wp2_with fail
  go_ret2
  rw [Int.add_comm xa 3];exact (acQ hbel [-1] [3+xa] 1 1 _ hsz rfl rfl).drew
theorem akp {w V:World}{b1 b2 n k:Nat}{t1 t2:TypeId}{tk lv:List Int}(hb:Below w.heap.size w V)(h1:ak V b1 t1 (tk.map (Value.int .i64)))(h2:ak V b2 t2 (lv.map (Value.int .i64)))(l1:w.heap.size≤b1)(l2:w.heap.size≤b2)(hn:n=tk.length)(hk:k=lv.length) :
  jl tk lv w V (.returned (.tuple #[.slice (some ⟨b1,0,none⟩) n n,.slice (some ⟨b2,0,none⟩) k k])):=
 ⟨_,_,rfl,Cm (S:=fun k=>w.heap.size≤k) h1 l1 n hn,Cm (S:=fun k=>w.heap.size≤k) h2 l2 k hk,hb⟩
theorem SA {p:List aj}{c k:Nat}{w:World}{B:Nat}{v:Value}(h:w.ownsRow B 43 1 v (fieldsOf p c).length ((fieldsOf p c).map (Value.int .i64)))(hk:(k:Int)<((fieldsOf p c).length:Int)) :
  ∃g cap,v= .slice (some ⟨g,0,none⟩) (fieldsOf p c).length cap∧w.cell? ⟨g,k,none⟩=some (.int .i64 (jm p c k)):=by
 obtain⟨g,cap,h1,_,_,h4⟩:=O6 h (by omega);refine⟨g,cap,h1,?_⟩;rw [h4 k (by omega),List.getElem?_map,List.getElem?_eq_getElem (by omega)];unfold jm;rw [Int.toNat_natCast,List.getD_eq_getElem?_getD,List.getElem?_eq_getElem (by omega)]
 rfl

theorem ajr (p:List aj)(vc:Value)(m:aC)(va aQ vf:Value)(xa xb:Int)(w:World)(hp:aX w vc p)(hv:bV w.cell? m va aQ vf)(hs:aU p p.length)(hz:bn p≤4194304)(ha:0≤xa)(ha2:xa<(p.length:Int))(hb:0≤xb)(hb2:xb<((fieldsOf p xa).length:Int)) :
  Calls Tryz.prog 151 #[.agg #[vc],bP m va aQ vf,.agg #[.int .i64 11,.int .i64 xa,.int .i64 xb]] w fun e w'=>jl [xa+3,jm p xa xb] [] w w' e:=by
 unfold bP;have HP:=hide hp;obtain⟨pa,_,_,aA,rfl,_⟩:=hp;obtain⟨aa,_,_,aI,rfl,_⟩:=hv.1;obtain⟨ca,_,_,aF,rfl,_⟩:=hv.2.1;obtain⟨fa,_,_,aG,rfl,_⟩:=hv.2.2;have hbel:Below w.heap.size w (((w.alloc (.cells #[.slice pa p.length aA] 24)).alloc (.cells #[.int .i64 m.slot,.slice aa m.args.length aI,.int .i64 m.ret,.int .i64 m.locals,.int .i64 m.stack,.slice ca m.code.length aF,.slice fa m.frames.length aG] 63)).alloc (.cells #[.int .i64 11,.int .i64 xa,.int .i64 xb] 60)):=(dS _ _ _).alloc (by simp;omega) _
 have hsz:(((w.alloc (.cells #[.slice pa p.length aA] 24)).alloc (.cells #[.int .i64 m.slot,.slice aa m.args.length aI,.int .i64 m.ret,.int .i64 m.locals,.int .i64 m.stack,.slice ca m.code.length aF,.slice fa m.frames.length aG] 63)).alloc (.cells #[.int .i64 11,.int .i64 xa,.int .i64 xb] 60)).heap.size=w.heap.size+1+1+1:=by simp
 have B0:=((ak.new w #[.slice pa p.length aA] 24).alloc (.cells #[.int .i64 m.slot,.slice aa m.args.length aI,.int .i64 m.ret,.int .i64 m.locals,.int .i64 m.stack,.slice ca m.code.length aF,.slice fa m.frames.length aG] 63)).alloc (.cells #[.int .i64 11,.int .i64 xa,.int .i64 xb] 60);have B2:=ak.new ((w.alloc (.cells #[.slice pa p.length aA] 24)).alloc (.cells #[.int .i64 m.slot,.slice aa m.args.length aI,.int .i64 m.ret,.int .i64 m.locals,.int .i64 m.stack,.slice ca m.code.length aF,.slice fa m.frames.length aG] 63)) #[.int .i64 11,.int .i64 xa,.int .i64 xb] 60;rw [World.size_alloc,World.size_alloc] at B2;go_enter Tryz.func151,Tryz.ntmps151
 go_wp2_with fail
 generalize ((w.alloc _).alloc _).alloc _=W at *;have hpl:p.length≤4194304:=Nat.le_trans (eG p) hz;obtain⟨ca',rfl⟩:=Int.eq_ofNat_of_zero_le ha;obtain⟨k,rfl⟩:=Int.eq_ofNat_of_zero_le hb;have q0:W.cell? ⟨w.heap.size,0,none⟩=some (.slice pa p.length aA):=B0.cell 0;have q1:W.cell? ⟨w.heap.size+1+1,1,none⟩=some (.int .i64 (ca':Int)):=B2.cell 1;have q2:W.cell? ⟨w.heap.size+1+1,2,none⟩=some (.int .i64 (k:Int)):=B2.cell 2;have hw:IntKind.i64.wrap (3+(ca':Int))=3+(ca':Int):=by rw [IntKind.wrap_i64];omega
 have HH:=hide (fun U (hU:Below W.heap.size W U)=>And.intro ((B0.below hU B0.lt).cell 0) (And.intro ((B2.below hU B2.lt).cell 1) ((B2.below hU B2.lt).cell 2)));refine wp_region_noPanic ?_;refine wp_region_held_drew (S:=(fun w'=>w'.cell? ⟨w.heap.size,0,none⟩=some (.slice pa p.length aA)∧w'.cell? ⟨w.heap.size+1+1,1,none⟩=some (.int .i64 (ca':Int))∧w'.cell? ⟨w.heap.size+1+1,2,none⟩=some (.int .i64 (k:Int)))) (by kernel_rfl) ?_ (fun hHeld=>?_)
 ·exact⟨q0,q1,q2⟩
 refine au 53 0 ?_;refine au 54 1 ?_;refine au 55 2 ?_;refine au 56 3 ?_;refine au 57 4 ?_;refine au 58 5 ?_;refine au 60 7 ?_;refine au 61 8 ?_;refine aW 6 (fun K hK=>?_);go_simp;refine (II p p.length hs (Nat.le_refl _) hz ca' _ _ (aP (Keeps.of_below gq) (aP (Keeps.of_below hbel) (ah HP))) (by omega)).mono ?_;rintro e w1 ⟨v',rfl,hO,hb1⟩;have hb1':Below W.heap.size W w1:=⟨hb1.os,hb1.tape,hb1.output,hb1.size,hb1.block⟩;obtain⟨g,ES,rfl,y0⟩:=SA hO hb2;have k0:(0:Int)≤(k:Int):=by omega
 have HW1:=hide (hbel.trans (hb1'.mono hbel.size));obtain⟨ft,hft⟩:∃ft,ft=jm p (ca':Int) (k:Int):=⟨_,rfl⟩;rw [←hft] at y0;have Eh:=hide hft;clear hft;generalize (fieldsOf p (ca':Int)).length=fl at *;clear hO hb1;go_wp2_with fail
 refine hK.out _ _ ((ah HH) _ hb1') (fun hHeld=>?_);clear hK K;try simp only [Act.put,aK,aO,aN]
 refine au 62 9 ?_;refine aW 10 (fun K hK=>?_);go_simp;refine hK.out _ _ ((ah HH) _ hb1') (fun hHeld=>?_);clear hK K;try simp only [Act.put,aK,aO,aN]
 refine aW 11 (fun K hK=>?_);go_simp;refine hK.out _ _ ((ah HH) _ (hb1'.alloc hb1'.size _)) (fun hHeld=>?_);clear hK K;try simp only [Act.put,aK,aO,aN]
 refine au 6 12 ?_;refine au 7 13 ?_;refine wpAnyH_done (by kernel_rfl) ?_ _;refine NoPanic.normal ?_;go_wp2_with fail
 go_ret2
 rw [Int.add_comm (ca':Int) 3,←ah Eh];exact F6 (ah HW1) [3+(ca':Int),ft] 2 _ rfl rfl
theorem ajq (p:List aj)(vc:Value)(m:aC)(va aQ vf:Value)(xa xb:Int)(w:World)(hp:aX w vc p)(hv:bV w.cell? m va aQ vf)(hs:aU p p.length)(hz:bn p≤4194304)(ha:0≤xa)(ha2:xa<(p.length:Int))(hb:0≤xb)(hb2:xb<((fieldsOf p xa).length:Int)) :
  Calls Tryz.prog 151 #[.agg #[vc],bP m va aQ vf,.agg #[.int .i64 10,.int .i64 xa,.int .i64 xb]] w fun e w'=>jl [xa+3] [jm p xa xb] w w' e:=by
 unfold bP;have HP:=hide hp;obtain⟨pa,_,_,aA,rfl,_⟩:=hp;obtain⟨aa,_,_,aI,rfl,_⟩:=hv.1;obtain⟨ca,_,_,aF,rfl,_⟩:=hv.2.1;obtain⟨fa,_,_,aG,rfl,_⟩:=hv.2.2;have hbel:Below w.heap.size w (((w.alloc (.cells #[.slice pa p.length aA] 24)).alloc (.cells #[.int .i64 m.slot,.slice aa m.args.length aI,.int .i64 m.ret,.int .i64 m.locals,.int .i64 m.stack,.slice ca m.code.length aF,.slice fa m.frames.length aG] 63)).alloc (.cells #[.int .i64 10,.int .i64 xa,.int .i64 xb] 60)):=(dS _ _ _).alloc (by simp;omega) _
 have hsz:(((w.alloc (.cells #[.slice pa p.length aA] 24)).alloc (.cells #[.int .i64 m.slot,.slice aa m.args.length aI,.int .i64 m.ret,.int .i64 m.locals,.int .i64 m.stack,.slice ca m.code.length aF,.slice fa m.frames.length aG] 63)).alloc (.cells #[.int .i64 10,.int .i64 xa,.int .i64 xb] 60)).heap.size=w.heap.size+1+1+1:=by simp
 have B0:=((ak.new w #[.slice pa p.length aA] 24).alloc (.cells #[.int .i64 m.slot,.slice aa m.args.length aI,.int .i64 m.ret,.int .i64 m.locals,.int .i64 m.stack,.slice ca m.code.length aF,.slice fa m.frames.length aG] 63)).alloc (.cells #[.int .i64 10,.int .i64 xa,.int .i64 xb] 60);have B2:=ak.new ((w.alloc (.cells #[.slice pa p.length aA] 24)).alloc (.cells #[.int .i64 m.slot,.slice aa m.args.length aI,.int .i64 m.ret,.int .i64 m.locals,.int .i64 m.stack,.slice ca m.code.length aF,.slice fa m.frames.length aG] 63)) #[.int .i64 10,.int .i64 xa,.int .i64 xb] 60;rw [World.size_alloc,World.size_alloc] at B2;go_enter Tryz.func151,Tryz.ntmps151
 go_wp2_with fail
 generalize ((w.alloc _).alloc _).alloc _=W at *;have hpl:p.length≤4194304:=Nat.le_trans (eG p) hz;obtain⟨ca',rfl⟩:=Int.eq_ofNat_of_zero_le ha;obtain⟨k,rfl⟩:=Int.eq_ofNat_of_zero_le hb;have q0:W.cell? ⟨w.heap.size,0,none⟩=some (.slice pa p.length aA):=B0.cell 0;have q1:W.cell? ⟨w.heap.size+1+1,1,none⟩=some (.int .i64 (ca':Int)):=B2.cell 1;have q2:W.cell? ⟨w.heap.size+1+1,2,none⟩=some (.int .i64 (k:Int)):=B2.cell 2;have hw:IntKind.i64.wrap (3+(ca':Int))=3+(ca':Int):=by rw [IntKind.wrap_i64];omega
 have HH:=hide (fun U (hU:Below W.heap.size W U)=>And.intro ((B0.below hU B0.lt).cell 0) (And.intro ((B2.below hU B2.lt).cell 1) ((B2.below hU B2.lt).cell 2)));refine wp_region_noPanic ?_;refine wp_region_held_drew (S:=(fun w'=>w'.cell? ⟨w.heap.size,0,none⟩=some (.slice pa p.length aA)∧w'.cell? ⟨w.heap.size+1+1,1,none⟩=some (.int .i64 (ca':Int))∧w'.cell? ⟨w.heap.size+1+1,2,none⟩=some (.int .i64 (k:Int)))) (by kernel_rfl) ?_ (fun hHeld=>?_)
 ·exact⟨q0,q1,q2⟩
 refine au 38 0 ?_;refine au 39 1 ?_;refine au 40 2 ?_;refine au 42 4 ?_;refine au 43 5 ?_;refine au 44 6 ?_;refine au 46 8 ?_;refine au 47 9 ?_;have hsW:=hbel.size;refine wpAnyH_ready (rs:= [3,7]) (by kernel_rfl) (by simp) ?_;refine AllReadyH.cons rfl (fun K hK=>?_) (AllReadyH.cons rfl (fun K hK=>?_) AllReadyH.nil)
 ·go_simp;have xC:Below W.heap.size W (W.alloc (.cells #[.int .i64 (3+(ca':Int))] 43)).drew:=(aS W _).drew;have A1:ak (W.alloc (.cells #[.int .i64 (3+(ca':Int))] 43)).drew W.heap.size 43 [.int .i64 (3+(ca':Int))]:=(ak.new W _ _).drew;refine hK.out _ _ ((ah HH) _ xC) (fun hHeld=>?_);clear hK K;try simp only [Act.put,aK,aO,aN]
  generalize (W.alloc _).drew=U at *;refine aW 7 (fun K hK=>?_);go_simp;refine (II p p.length hs (Nat.le_refl _) hz ca' _ _ (aP (Keeps.of_below xC) (aP (Keeps.of_below hbel) (ah HP))) (by omega)).mono ?_;rintro e w1 ⟨v',rfl,hO,hb1⟩;have hb1':Below W.heap.size W w1:=xC.trans (hb1.mono xC.size);have ZU:=hb1;obtain⟨g,ES,rfl,y0⟩:=SA hO hb2;have k0:(0:Int)≤(k:Int):=by omega
  have HW1:=hide (hbel.trans (hb1'.mono hbel.size));obtain⟨ft,hft⟩:∃ft,ft=jm p (ca':Int) (k:Int):=⟨_,rfl⟩;rw [←hft] at y0;have Eh:=hide hft;clear hft;generalize (fieldsOf p (ca':Int)).length=fl at *;clear hO hb1;have A2:=A1.below ZU A1.lt;go_wp2_with fail
  refine hK.out _ _ ((ah HH) _ hb1') (fun hHeld=>?_);clear hK K;try simp only [Act.put,aK,aO,aN]
  refine au 6 13 ?_;refine au 48 10 ?_;refine aW 11 (fun K hK=>?_);go_simp;refine hK.out _ _ ((ah HH) _ hb1') (fun hHeld=>?_);clear hK K;try simp only [Act.put,aK,aO,aN]
  refine aW 12 (fun K hK=>?_);go_simp;refine hK.out _ _ ((ah HH) _ (hb1'.alloc hb1'.size _)) (fun hHeld=>?_);clear hK K;try simp only [Act.put,aK,aO,aN]
  refine au 7 14 ?_;refine wpAnyH_done (by kernel_rfl) ?_ _;refine NoPanic.normal ?_;go_wp2_with fail
  go_ret2
  rw [Int.add_comm (ca':Int) 3,←ah Eh];have hs1:=hb1'.size;rw [hsz] at A2;exact akp ((ah HW1).alloc (ah HW1).size _) (A2.alloc (.cells #[.int .i64 ft] 43)) (ak.new w1 #[.int .i64 ft] 43) (tk:= [3+(ca':Int)]) (lv:= [ft]) (by omega) (by omega) rfl rfl
 ·go_simp;have xC:Below W.heap.size W W.drew:=gq;refine (II p p.length hs (Nat.le_refl _) hz ca' _ _ (aP (Keeps.of_below xC) (aP (Keeps.of_below hbel) (ah HP))) (by omega)).mono ?_;rintro e w1 ⟨v',rfl,hO,hb1⟩;have hb1':Below W.heap.size W w1:=xC.trans (hb1.mono xC.size);have ZU:=hb1;obtain⟨g,ES,rfl,y0⟩:=SA hO hb2;have k0:(0:Int)≤(k:Int):=by omega
  have HW1:=hide (hbel.trans (hb1'.mono hbel.size));obtain⟨ft,hft⟩:∃ft,ft=jm p (ca':Int) (k:Int):=⟨_,rfl⟩;rw [←hft] at y0;have Eh:=hide hft;clear hft;generalize (fieldsOf p (ca':Int)).length=fl at *;clear hO hb1;have hs1:=hb1'.size;go_wp2_with fail
  refine hK.out _ _ ((ah HH) _ hb1') (fun hHeld=>?_);clear hK K;try simp only [Act.put,aK,aO,aN]
  refine au 48 10 ?_;refine wpAnyH_ready (rs:= [3,11]) (by kernel_rfl) (by simp) ?_;refine AllReadyH.cons rfl (fun K hK=>?_) (AllReadyH.cons rfl (fun K hK=>?_) AllReadyH.nil)
  ·go_simp;have y1:(w1.alloc (.cells #[.int .i64 (3+(ca':Int))] 43)).cell? ⟨g,k,none⟩=some (.int .i64 ft):=Keeps.of_below (aS w1 _) _ _ y0;refine hK.out _ _ ((ah HH) _ (hb1'.alloc hb1'.size _)) (fun hHeld=>?_);clear hK K;try simp only [Act.put,aK,aO,aN]
   refine au 6 13 ?_;refine aW 11 (fun K hK=>?_);go_simp;refine hK.out _ _ ((ah HH) _ (hb1'.alloc hb1'.size _)) (fun hHeld=>?_);clear hK K;try simp only [Act.put,aK,aO,aN]
   refine aW 12 (fun K hK=>?_);go_simp;refine hK.out _ _ ((ah HH) _ ((hb1'.alloc hb1'.size _).alloc (by simp;omega) _)) (fun hHeld=>?_);clear hK K;try simp only [Act.put,aK,aO,aN]
   refine au 7 14 ?_;refine wpAnyH_done (by kernel_rfl) ?_ _;refine NoPanic.normal ?_;go_wp2_with fail
   go_ret2
   rw [Int.add_comm (ca':Int) 3,←ah Eh];exact zi (ah HW1) [3+(ca':Int)] [ft] 1 1 _ rfl rfl rfl
  ·go_simp;refine hK.out _ _ ((ah HH) _ hb1') (fun hHeld=>?_);clear hK K;try simp only [Act.put,aK,aO,aN]
   refine wpAnyH_ready (rs:= [3,12]) (by kernel_rfl) (by simp) ?_;refine AllReadyH.cons rfl (fun K hK=>?_) (AllReadyH.cons rfl (fun K hK=>?_) AllReadyH.nil)
   ·go_simp;refine hK.out _ _ ((ah HH) _ (hb1'.alloc hb1'.size _)) (fun hHeld=>?_);clear hK K;try simp only [Act.put,aK,aO,aN]
    refine au 6 13 ?_;refine aW 12 (fun K hK=>?_);go_simp;refine hK.out _ _ ((ah HH) _ ((hb1'.alloc hb1'.size _).alloc (by simp;omega) _)) (fun hHeld=>?_);clear hK K;try simp only [Act.put,aK,aO,aN]
    refine au 7 14 ?_;refine wpAnyH_done (by kernel_rfl) ?_ _;refine NoPanic.normal ?_;go_wp2_with fail
    go_ret2
    rw [Int.add_comm (ca':Int) 3,←ah Eh];exact zi (ah HW1) [3+(ca':Int)] [ft] 1 1 _ rfl rfl rfl
   ·go_simp;refine hK.out _ _ ((ah HH) _ (hb1'.alloc hb1'.size _)) (fun hHeld=>?_);clear hK K;try simp only [Act.put,aK,aO,aN]
    refine aW 3 (fun K hK=>?_);go_simp;refine hK.out _ _ ((ah HH) _ ((hb1'.alloc hb1'.size _).alloc (by simp;omega) _)) (fun hHeld=>?_);clear hK K;try simp only [Act.put,aK,aO,aN]
    refine au 6 13 ?_;refine au 7 14 ?_;refine wpAnyH_done (by kernel_rfl) ?_ _;refine NoPanic.normal ?_;go_wp2_with fail
    go_ret2
    rw [Int.add_comm (ca':Int) 3,←ah Eh];exact acQ (ah HW1) [3+(ca':Int)] [ft] 1 1 _ rfl rfl rfl
theorem aiu {V:World}{b B:Nat}{x:Value}(h:ak V b 43 [x])(hb:B≤b):V.ownsRow B 43 1 (.slice (some ⟨b,0,none⟩) 1 1) 1 [x]:=
 ⟨rfl,.inr ⟨b,1,#[x],rfl,hb,h,Nat.le_refl _,by unfold maxLen;omega,rfl,rfl⟩⟩
theorem ajs (p:List aj)(vc:Value)(m:aC)(va aQ vf:Value)(xa xb:Int)(w:World)(hp:aX w vc p)(hv:bV w.cell? m va aQ vf)(hs:aU p p.length)(hz:bn p≤4194304)(ha:0≤xa)(ha2:xa<(p.length:Int))(hm:(fO p xa xb).isSome=true)(hal:(cO p xa xb).args.length≤4194304) :
  Calls Tryz.prog 151 #[.agg #[vc],bP m va aQ vf,.agg #[.int .i64 12,.int .i64 xa,.int .i64 xb]] w fun e w'=>jl ((xa+3)::(cO p xa xb).args) [(cO p xa xb).ret] w w' e:=by
 unfold bP;have HP:=hide hp;obtain⟨pa,pb,dB,aA,rfl,_,hpa,hpr⟩:=aZ hp;obtain⟨aa,_,_,aI,rfl,_⟩:=hv.1;obtain⟨ca,_,_,aF,rfl,_⟩:=hv.2.1;obtain⟨fa,_,_,aG,rfl,_⟩:=hv.2.2;have hbel:Below w.heap.size w (((w.alloc (.cells #[.slice pa p.length aA] 24)).alloc (.cells #[.int .i64 m.slot,.slice aa m.args.length aI,.int .i64 m.ret,.int .i64 m.locals,.int .i64 m.stack,.slice ca m.code.length aF,.slice fa m.frames.length aG] 63)).alloc (.cells #[.int .i64 12,.int .i64 xa,.int .i64 xb] 60)):=(dS _ _ _).alloc (by simp;omega) _
 have hsz:(((w.alloc (.cells #[.slice pa p.length aA] 24)).alloc (.cells #[.int .i64 m.slot,.slice aa m.args.length aI,.int .i64 m.ret,.int .i64 m.locals,.int .i64 m.stack,.slice ca m.code.length aF,.slice fa m.frames.length aG] 63)).alloc (.cells #[.int .i64 12,.int .i64 xa,.int .i64 xb] 60)).heap.size=w.heap.size+1+1+1:=by simp
 have hpl:p.length≤4194304:=Nat.le_trans (eG p) hz;obtain⟨xn,rfl⟩:=Int.eq_ofNat_of_zero_le ha;obtain⟨ck,hck⟩:=Option.isSome_iff_exists.1 hm;obtain⟨ci,ki⟩:=ck;obtain⟨y,o,hy,ho,_,_⟩:=OQ p hs xb xn (by omega) hck;have hmc:qE p (xn:Int) xb=((ci:Int),(ki:Int)):=by unfold qE;rw [hck]
 have hfm:cO p (xn:Int) xb=o:=by
  unfold cO sV;rw [hck,Option.bind_some,hy,Option.bind_some,ho];rfl
 rw [hfm] at hal ⊢;have hci:=(List.getElem?_eq_some_iff.1 hy).1;obtain rfl:p[ci]=y:=(List.getElem?_eq_some_iff.1 hy).2;have hki:=(List.getElem?_eq_some_iff.1 ho).1;obtain rfl:=hpa (bJ hci);obtain⟨vcf,vcm,c0,c1,c2,hcf,hcm⟩:=hpr ci hci;obtain⟨ma,mb,fH,dW,rfl,_,hma,hmr⟩:=aZ hcm;obtain rfl:=hma (bJ hki);obtain⟨ova,ovc,ovf,hov,m0,m1,m2,m3,m4,m5,m6⟩:=hmr ki hki;obtain rfl:p[ci].aB[ki]=o:=(List.getElem?_eq_some_iff.1 ho).2;have hml:p[ci].aB.length≤4194304:=Nat.le_trans (tC _) (Nat.le_trans (nR (List.getElem_mem hci)) hz);clear hpr hmr hcm;generalize p[ci].aB[ki]=o at *;generalize p[ci].aB.length=ml at *
 obtain⟨oa,ah9,rfl,aay,agX⟩:=rH hov.1;have HC2:=hide (And.intro c2 (And.intro m1 m2));clear hcf c0 c1 c2 m0 m1 m2 m3 m4 m5 m6 hov hy ho hck hfm hm;have B0:=((ak.new w #[.slice (some ⟨pb,dB,none⟩) p.length aA] 24).alloc (.cells #[.int .i64 m.slot,.slice aa m.args.length aI,.int .i64 m.ret,.int .i64 m.locals,.int .i64 m.stack,.slice ca m.code.length aF,.slice fa m.frames.length aG] 63)).alloc (.cells #[.int .i64 12,.int .i64 (xn:Int),.int .i64 xb] 60)
 have B2:=ak.new ((w.alloc (.cells #[.slice (some ⟨pb,dB,none⟩) p.length aA] 24)).alloc (.cells #[.int .i64 m.slot,.slice aa m.args.length aI,.int .i64 m.ret,.int .i64 m.locals,.int .i64 m.stack,.slice ca m.code.length aF,.slice fa m.frames.length aG] 63)) #[.int .i64 12,.int .i64 (xn:Int),.int .i64 xb] 60;rw [World.size_alloc,World.size_alloc] at B2;go_enter Tryz.func151,Tryz.ntmps151
 go_wp2_with fail
 generalize ((w.alloc _).alloc _).alloc _=W at *;have q0:W.cell? ⟨w.heap.size,0,none⟩=some (.slice (some ⟨pb,dB,none⟩) p.length aA):=B0.cell 0;have q1:W.cell? ⟨w.heap.size+1+1,1,none⟩=some (.int .i64 (xn:Int)):=B2.cell 1;have q2:W.cell? ⟨w.heap.size+1+1,2,none⟩=some (.int .i64 xb):=B2.cell 2;go_wp2_with fail
 refine (U6 p _ p.length (xn:Int) xb W (aP (Keeps.of_below hbel) (ah HP)) hs (Nat.le_refl _) (by omega) ha2 hz).mono ?_;rintro e w1 ⟨rfl,hb1⟩;rw [hmc];dsimp only;have gu:=hbel.trans (hb1.mono hbel.size);have C2:=B2.below hb1 B2.lt;have C0:=B0.below hb1 B0.lt;have hx2:=aS w1 (.cells #[.int .i64 (3+(xn:Int))] 43);have hbw2:=gu.trans (hx2.mono gu.size);have N1:=ak.new w1 #[.int .i64 (3+(xn:Int))] 43;have alm:=gu.size;have hO:=aiu (B:=w1.heap.size) N1 (Nat.le_refl _)
 obtain⟨v3,w3,happ,hO3,dh,hv3⟩:=XG w1.heap.size _ _ _ hO oa o.args.length ah9 (o.args.map (Value.int .i64)) (by simp) (fun e=>⟨by rw [(aay e).1];rfl,(aay e).2⟩) (fun ad e j u h=>Keeps.of_below hbw2 _ _ (agX ad e j u h)) (wC _) (by omega) hal (by simp);obtain⟨a3,cap3,rfl⟩:=cZ hO3
 have hne:∀j,j<w1.heap.size→¬(Value.slice (some ⟨w1.heap.size,0,none⟩) 1 1).ownBlock=some j:=fun j hj e=>by
  have e':w1.heap.size=j:=Option.some.inj e;omega
 have hb3:Below w1.heap.size w1 w3:=hx2.trans (dh.below hx2.size hne);have hbw3:=gu.trans (hb3.mono gu.size);have r1:w1.cell? ⟨w.heap.size+1+1,1,none⟩=some (.int .i64 (xn:Int)):=C2.cell 1;have c2a:=Keeps.of_below hbw2 _ _ (ah HC2).1;have m1a:=Keeps.of_below hbw2 _ _ (ah HC2).2.1;have c0a:(w1.alloc (.cells #[.int .i64 (3+(xn:Int))] 43)).cell? ⟨w.heap.size,0,none⟩=some (.slice (some ⟨pb,dB,none⟩) p.length aA):=(C0.alloc _).cell 0
 have HO:=hide (fun U (hU:Below w3.heap.size w3 U)=>And.intro (((C0.below hb3 C0.lt).below hU (by have:=hb3.size;have:=C0.lt;omega)).cell 0) (And.intro (Keeps.of_below (hbw3.trans (hU.mono hbw3.size)) _ _ (ah HC2).1) (Keeps.of_below (hbw3.trans (hU.mono hbw3.size)) _ _ (ah HC2).2.2)));have HFin:=hide (And.intro hO3 hbw3);have i0:(0:Int)≤(ci:Int):=by omega
 have i1:(ci:Int)<(p.length:Int):=by omega
 have i2:(0:Int)≤(ki:Int):=by omega
 have i3:(ki:Int)<(ml:Int):=by omega
 clear hO hO3 dh hv3 hne N1 hmc q0 q1 q2 B0 B2;go_wp2_with (at_builtin;refine wpList_append_run rfl (.tmp 80) (.tmp 90) 40 rfl _ _ rfl rfl happ ?_)
 clear happ c2a m1a c0a r1;refine wp_region_noPanic ?_;refine wp_region_held_drew (S:=(fun w'=>w'.cell? ⟨w.heap.size,0,none⟩=some (.slice (some ⟨pb,dB,none⟩) p.length aA)∧w'.cell? ⟨pb,dB+ci*3+2,none⟩=some (.slice (some ⟨mb,fH,none⟩) ml dW)∧w'.cell? ⟨mb,fH+ki*7+2,none⟩=some (.int .i64 o.ret))) (by kernel_rfl) ?_ (fun hHeld=>?_)
 ·exact (ah HO) _ gq
 refine au 92 0 ?_;refine au 6 12 ?_;refine au 93 1 ?_;refine au 94 2 ?_;refine au 95 3 ?_;refine au 96 4 ?_;refine au 97 5 ?_;refine au 98 6 ?_;refine au 99 7 ?_;refine au 100 8 ?_;refine au 101 9 ?_;refine au 102 10 ?_;refine aW 11 (fun K hK=>?_);go_simp;refine hK.out _ _ ((ah HO) _ (aS w3 _).drew) (fun hHeld=>?_);clear hK K;try simp only [Act.put,aK,aO,aN]
 refine au 7 13 ?_;refine wpAnyH_done (by kernel_rfl) ?_ _;refine NoPanic.normal ?_;go_wp2_with fail
 go_ret2
 obtain⟨f1,f2⟩:=ah HFin;have hs3:=f2.size;rw [Int.add_comm (xn:Int) 3];refine jl.drew ⟨_,_,rfl,?_,?_,(f2.alloc f2.size _)⟩
 ·have f1':=eP f1 ((ay.refl (fun _=>False) w3).alloc (.cells #[.int .i64 o.ret] 43)) (fun _ _ f=>f)
  have f2':(w3.alloc (.cells #[.int .i64 o.ret] 43)).ownsRow w1.heap.size 43 1 (.slice a3 (1+o.args.length) cap3) ((3+(xn:Int))::o.args).length (((3+(xn:Int))::o.args).map (Value.int .i64)):=by
   rw [List.length_cons,show o.args.length+1=1+o.args.length by omega];exact f1'
  exact rQ f2' (fun g hg=>by have:=(f1.lt g hg).1;omega)
 ·exact Cm (S:=fun k=>w.heap.size≤k) (l:= [o.ret]) (ak.new w3 #[.int .i64 o.ret] 43) (by omega) 1 rfl
theorem ajp (p:List aj)(vc:Value)(m:aC)(va aQ vf:Value)(xa xb:Int)(w:World)(hp:aX w vc p)(hv:bV w.cell? m va aQ vf) :
  Calls Tryz.prog 151 #[.agg #[vc],bP m va aQ vf,.agg #[.int .i64 1,.int .i64 xa,.int .i64 xb]] w fun e w'=>jl [] [] w w' e:=by
 unfold bP;obtain⟨pa,_,_,aA,rfl,_⟩:=hp;obtain⟨aa,_,_,aI,rfl,_⟩:=hv.1;obtain⟨ca,_,_,aF,rfl,_⟩:=hv.2.1;obtain⟨fa,_,_,aG,rfl,_⟩:=hv.2.2;have hbel:Below w.heap.size w (((w.alloc (.cells #[.slice pa p.length aA] 24)).alloc (.cells #[.int .i64 m.slot,.slice aa m.args.length aI,.int .i64 m.ret,.int .i64 m.locals,.int .i64 m.stack,.slice ca m.code.length aF,.slice fa m.frames.length aG] 63)).alloc (.cells #[.int .i64 1,.int .i64 xa,.int .i64 xb] 60)):=(dS _ _ _).alloc (by simp;omega) _
 have hsz:(((w.alloc (.cells #[.slice pa p.length aA] 24)).alloc (.cells #[.int .i64 m.slot,.slice aa m.args.length aI,.int .i64 m.ret,.int .i64 m.locals,.int .i64 m.stack,.slice ca m.code.length aF,.slice fa m.frames.length aG] 63)).alloc (.cells #[.int .i64 1,.int .i64 xa,.int .i64 xb] 60)).heap.size=w.heap.size+1+1+1:=by simp
 go_enter Tryz.func151,Tryz.ntmps151
 go_wp2_with fail
 go_ret2
 exact⟨_,_,rfl,yZ,yZ,hbel⟩
theorem ajG (p:List aj)(vc:Value)(m:aC)(va aQ vf:Value)(xa xb:Int)(w:World)(hp:aX w vc p)(hv:bV w.cell? m va aQ vf) :
  Calls Tryz.prog 151 #[.agg #[vc],bP m va aQ vf,.agg #[.int .i64 7,.int .i64 xa,.int .i64 xb]] w fun e w'=>jl [] [] w w' e:=by
 unfold bP;obtain⟨pa,_,_,aA,rfl,_⟩:=hp;obtain⟨aa,_,_,aI,rfl,_⟩:=hv.1;obtain⟨ca,_,_,aF,rfl,_⟩:=hv.2.1;obtain⟨fa,_,_,aG,rfl,_⟩:=hv.2.2;have hbel:Below w.heap.size w (((w.alloc (.cells #[.slice pa p.length aA] 24)).alloc (.cells #[.int .i64 m.slot,.slice aa m.args.length aI,.int .i64 m.ret,.int .i64 m.locals,.int .i64 m.stack,.slice ca m.code.length aF,.slice fa m.frames.length aG] 63)).alloc (.cells #[.int .i64 7,.int .i64 xa,.int .i64 xb] 60)):=(dS _ _ _).alloc (by simp;omega) _
 have hsz:(((w.alloc (.cells #[.slice pa p.length aA] 24)).alloc (.cells #[.int .i64 m.slot,.slice aa m.args.length aI,.int .i64 m.ret,.int .i64 m.locals,.int .i64 m.stack,.slice ca m.code.length aF,.slice fa m.frames.length aG] 63)).alloc (.cells #[.int .i64 7,.int .i64 xa,.int .i64 xb] 60)).heap.size=w.heap.size+1+1+1:=by simp
 go_enter Tryz.func151,Tryz.ntmps151
 go_wp2_with fail
 go_ret2
 exact⟨_,_,rfl,yZ,yZ,hbel⟩
theorem U9 (p:List aj)(vc:Value)(m:aC)(va aQ vf:Value)(x:eF)(w:World)(hp:aX w vc p)(hv:bV w.cell? m va aQ vf)(hs:aU p p.length)(hz:bn p≤4194304)(J:Gu p m x.op x.a x.b)(hal:x.op=12→(cO p x.a x.b).args.length≤4194304) :
  Calls Tryz.prog 151 #[.agg #[vc],bP m va aQ vf,.agg #[.int .i64 x.op,.int .i64 x.a,.int .i64 x.b]] w fun e w'=>jl (bZ p m x).1 (bZ p m x).2 w w' e:=by
 obtain⟨op,xa,xb⟩:=x;dsimp only at J hal ⊢;have hpl:p.length≤4194304:=Nat.le_trans (eG p) hz;have h0:=J.op0;have h1:=J.op1
 by_cases c:op=0
 ·subst c;exact ajo p vc m va aQ vf xa xb w hp hv
 by_cases c:op=1
 ·subst c;exact ajp p vc m va aQ vf xa xb w hp hv
 by_cases c:op=2
 ·subst c;exact ajA p vc m va aQ vf xa xb w hp hv
 by_cases c:op=3
 ·subst c;exact ajC p vc m va aQ vf xa xb w hp hv
 by_cases c:op=4
 ·subst c;exact ajD p vc m va aQ vf xa xb w hp hv
 by_cases c:op=5
 ·subst c;exact ajE p vc m va aQ vf xa xb w hp hv
 by_cases c:op=6
 ·subst c;exact ajF p vc m va aQ vf xa xb w hp hv
 by_cases c:op=7
 ·subst c;exact ajG p vc m va aQ vf xa xb w hp hv
 by_cases c:op=8
 ·subst c;exact ajH p vc m va aQ vf xa xb w hp hv
 by_cases c:op=9
 ·subst c;exact ajI p vc m va aQ vf xa xb w hp hv (J.cls (by omega)).1 (by have:=(J.cls (by omega)).2;omega)
 by_cases c:op=10
 ·subst c;exact ajq p vc m va aQ vf xa xb w hp hv hs hz (J.cls (by omega)).1 (J.cls (by omega)).2 (J.pJ (by omega)).1 (J.pJ (by omega)).2
 by_cases c:op=11
 ·subst c;exact ajr p vc m va aQ vf xa xb w hp hv hs hz (J.cls (by omega)).1 (J.cls (by omega)).2 (J.pJ (by omega)).1 (J.pJ (by omega)).2
 by_cases c:op=12
 ·subst c;exact ajs p vc m va aQ vf xa xb w hp hv hs hz (J.cls (by omega)).1 (J.cls (by omega)).2 (J.call rfl) (hal rfl)
 by_cases c:op=13
 ·subst c;exact ajt p vc m va aQ vf xa xb w hp hv
 by_cases c:op=14
 ·subst c;exact aju p vc m va aQ vf xa xb w hp hv
 by_cases c:op=15
 ·subst c;exact ajv p vc m va aQ vf xa xb w hp hv
 by_cases c:op=16
 ·subst c;exact ajw p vc m va aQ vf xa xb w hp hv
 by_cases c:op=17
 ·subst c;exact ajx p vc m va aQ vf xa xb w hp hv (J.cls (by omega)).1 (by have:=(J.cls (by omega)).2;omega)
 by_cases c:op=18
 ·subst c;exact ajy p vc m va aQ vf xa xb w hp hv
 by_cases c:op=19
 ·subst c;exact ajz p vc m va aQ vf xa xb w hp hv
 by_cases c:op=20
 ·subst c;exact ajB p vc m va aQ vf xa xb w hp hv
 omega
def GH (p:List aj)(m:aC)(x:eF)(s:aH)(w w':World)(e:Ending):Prop:=
 (∀s',fP p m x s=some s'→∃vl vs,e= .returned (.tuple #[.agg #[.bool true,vl,vs],.bool true])∧Gx w.heap.size w' s' vl vs)∧(fP p m x s=none→∃q a n c a' n' c',e= .returned (.tuple #[.agg #[.bool q,.slice a n c,.slice a' n' c'],.bool false]))∧Below w.heap.size w w'
structure pF (w V:World)(p:List aj)(m:aC)(s:aH)(op xa xb:Int)(vp mJ mM lS vl vs:Value)(ib:Bool):Prop where
 bel:Below w.heap.size w V
 b0:ak V w.heap.size 24 [vp]
 b1:ak V (w.heap.size+1) 63 [.int .i64 m.slot,mJ,.int .i64 m.ret,.int .i64 m.locals,.int .i64 m.stack,mM,lS]
 b2:ak V (w.heap.size+1+1) 60 [.int .i64 op,.int .i64 xa,.int .i64 xb]
 b3:ak V (w.heap.size+1+1+1) 149 [.bool ib,vl,vs]
 b4:ak V (w.heap.size+1+1+1+1) 149 [.bool false,.slice none 0 0,.slice none 0 0]
theorem pF.mods {w V V':World}{p:List aj}{m:aC}{s:aH}{op xa xb:Int}{vp mJ mM lS vl vs:Value}{ib:Bool}{S:Nat→Prop}(i:pF w V p m s op xa xb vp mJ mM lS vl vs ib)(h:ay S V V')(hS:∀k,k<w.heap.size+1+1+1+1+1→¬S k):pF w V' p m s op xa xb vp mJ mM lS vl vs ib:=
 ⟨i.bel.trans (h.below i.bel.size (fun k hk=>hS k (by omega))),i.b0.mods h (hS _ (by omega)),i.b1.mods h (hS _ (by omega)),i.b2.mods h (hS _ (by omega)),i.b3.mods h (hS _ (by omega)),i.b4.mods h (hS _ (by omega))⟩
theorem pF.below {w V V':World}{p:List aj}{m:aC}{s:aH}{op xa xb:Int}{vp mJ mM lS vl vs:Value}{ib:Bool}(i:pF w V p m s op xa xb vp mJ mM lS vl vs ib)(h:Below V.heap.size V V'):pF w V' p m s op xa xb vp mJ mM lS vl vs ib:=
 i.mods (ay.of_below h) (fun k hk e=>by have:=i.b4.lt;omega)
theorem pF.new (w:World)(p:List aj)(m:aC)(s:aH)(op xa xb:Int)(vp mJ mM lS vl vs:Value)(ib:Bool) :
  pF w (((((w.alloc (.cells #[vp] 24)).alloc (.cells #[.int .i64 m.slot,mJ,.int .i64 m.ret,.int .i64 m.locals,.int .i64 m.stack,mM,lS] 63)).alloc (.cells #[.int .i64 op,.int .i64 xa,.int .i64 xb] 60)).alloc (.cells #[.bool ib,vl,vs] 149)).alloc (.cells #[.bool false,.slice none 0 0,.slice none 0 0] 149)) p m s op xa xb vp mJ mM lS vl vs ib:=by
 have a1:=ak.new (w.alloc (.cells #[vp] 24)) #[.int .i64 m.slot,mJ,.int .i64 m.ret,.int .i64 m.locals,.int .i64 m.stack,mM,lS] 63;have a2:=ak.new ((w.alloc (.cells #[vp] 24)).alloc (.cells #[.int .i64 m.slot,mJ,.int .i64 m.ret,.int .i64 m.locals,.int .i64 m.stack,mM,lS] 63)) #[.int .i64 op,.int .i64 xa,.int .i64 xb] 60;have a3:=ak.new (((w.alloc (.cells #[vp] 24)).alloc (.cells #[.int .i64 m.slot,mJ,.int .i64 m.ret,.int .i64 m.locals,.int .i64 m.stack,mM,lS] 63)).alloc (.cells #[.int .i64 op,.int .i64 xa,.int .i64 xb] 60)) #[.bool ib,vl,vs] 149
 have a4:=ak.new ((((w.alloc (.cells #[vp] 24)).alloc (.cells #[.int .i64 m.slot,mJ,.int .i64 m.ret,.int .i64 m.locals,.int .i64 m.stack,mM,lS] 63)).alloc (.cells #[.int .i64 op,.int .i64 xa,.int .i64 xb] 60)).alloc (.cells #[.bool ib,vl,vs] 149)) #[.bool false,.slice none 0 0,.slice none 0 0] 149;simp only [World.size_alloc] at a1 a2 a3 a4;exact⟨((((aS w _).alloc (by simp) _).alloc (by simp;omega) _).alloc (by simp;omega) _).alloc (by simp;omega) _,((((ak.new w _ _).alloc _).alloc _).alloc _).alloc _,((a1.alloc _).alloc _).alloc _,(a2.alloc _).alloc _,a3.alloc _,a4⟩
theorem SE {p:List aj}{l u:List Int}{k:Nat}(h1:k<l.length)(h2:k<u.length):((l.take (k+1)).zip (u.take (k+1))).all (fun x=>iD p x.1 x.2)=(((l.take k).zip (u.take k)).all (fun x=>iD p x.1 x.2) && iD p l[k] u[k]):=VO (fun x=>iD p x.1 x.2) h1 h2
def x9 (m:aC)(p:List aj)(op xa:Int)(s:aH)(tk lv:List Int):Option aH:=
 if s.stk.length<tk.length then none
 else if ((s.stk.drop (s.stk.length-tk.length)).zip tk).all fun x=>iD p x.1 x.2 then
  (if (((s.stk.take (s.stk.length-tk.length)++lv.map (fD (s.stk.drop (s.stk.length-tk.length)))).length:Nat):Int)≤m.stack then
    some ⟨if op=2 then s.loc.set xa.toNat (s.stk.getD (s.stk.length-tk.length) 0) else s.loc,s.stk.take (s.stk.length-tk.length)++lv.map (fD (s.stk.drop (s.stk.length-tk.length)))⟩ else none)
 else none
theorem UW {p:List aj}{m:aC}{op xa xb:Int}{s:aH}(h:¬(op=1∧s.loc.getD xa.toNat 0=2)):fP p m ⟨op,xa,xb⟩ s=x9 m p op xa s (bZ p m ⟨op,xa,xb⟩).1 (if op=1 then [s.loc.getD xa.toNat 0] else (bZ p m ⟨op,xa,xb⟩).2):=by
 unfold fP x9;rw [if_neg h]
theorem Ec:∀v∈[Value.bool false,.slice none 0 0,.slice none 0 0],v.oneCell'=true:=fun v hv=>by
 simp only [List.mem_cons,List.not_mem_nil,or_false] at hv
 rcases hv with rfl | rfl | rfl <;> rfl
theorem ajm (p:List aj)(vc:Value)(m:aC)(va aQ vf:Value)(op xa xb:Int)(s:aH)(ib:Bool)(vl vs:Value)(w:World)(hp:aX w vc p)(hv:bV w.cell? m va aQ vf)(hs:aU p p.length)(hz:bn p≤4194304)(J:Gu p m op xa xb)(hal:op=12→(cO p xa xb).args.length≤4194304)(hS:dG w.cell? s vl vs)(tS:gI p s)(AA:s.loc.length≤8)(hk8:s.stk.length≤8)
  (hty:∀t∈(bZ p m ⟨op,xa,xb⟩).1,t= -1∨t= -2∨bT p.length t) (xM:∀t∈(bZ p m ⟨op,xa,xb⟩).2,t<0→(-1-t).toNat<(bZ p m ⟨op,xa,xb⟩).1.length) (hlt4:(bZ p m ⟨op,xa,xb⟩).1.length≤100) (Oz:(bZ p m ⟨op,xa,xb⟩).2.length≤2) (h1:op≠1) (h2:op≠2) :
  Calls Tryz.prog 96 #[.agg #[vc],bP m va aQ vf,.agg #[.int .i64 op,.int .i64 xa,.int .i64 xb],.agg #[.bool ib,vl,vs]] w fun e w'=>GH p m ⟨op,xa,xb⟩ s w w' e:=by
 have HP:=hide hp;have HV:=hide hv;have BO:=hide hS;have BP:=hide (U9 p vc m va aQ vf ⟨op,xa,xb⟩);unfold bP at BP ⊢;obtain⟨pa,_,_,aA,rfl,_⟩:=hp;obtain⟨aa,_,_,aI,rfl,_⟩:=hv.1;obtain⟨ca,_,_,aF,rfl,_⟩:=hv.2.1;obtain⟨fa,_,_,aG,rfl,_⟩:=hv.2.2;obtain⟨la,lb,lo,fG,rfl,_,hla,hlr⟩:=jo hS.1;obtain⟨sa,sb,so,scap,rfl,hsc,hsa,hsr⟩:=jo hS.2;have QI:=hide hlr;have vI:=hide hsr;clear hlr hsr;have hpl:p.length≤4194304:=Nat.le_trans (eG p) hz;have I0:=pF.new w p m s op xa xb (.slice pa p.length aA) (.slice aa m.args.length aI) (.slice ca m.code.length aF) (.slice fa m.frames.length aG) (.slice la s.loc.length fG) (.slice sa s.stk.length scap) ib
 go_enter Tryz.func96,Tryz.ntmps96
 go_wp2_with fail
 generalize ((((w.alloc _).alloc _).alloc _).alloc _).alloc _=W at *;refine (ah BP W (aP (Keeps.of_below I0.bel) (ah HP)) (bV.keep (Keeps.of_below I0.bel) (ah HV)) hs hz J hal).mono ?_;rintro e U ⟨vt,VE,rfl,ht,hl,hb1⟩;have IU:=I0.below hb1;have ZK:=hb1.size;have ZJ:=I0.b4.lt;have e1:(op == 1)=false:=by simpa using h1
 have e2:(op == 2)=false:=by simpa using h2
 have HR:=hide (UW (p:=p) (m:=m) (op:=op) (xa:=xa) (xb:=xb) (s:=s) (fun h=>h1 h.1));rw [if_neg h1] at HR;generalize (bZ p m ⟨op,xa,xb⟩).1=tk at *;generalize (bZ p m ⟨op,xa,xb⟩).2=lv at *;have o0:U.cell? ⟨w.heap.size+1+1,0,none⟩=some (.int .i64 op):=IU.b2.cell 0;have u0:U.cell? ⟨w.heap.size+1+1+1,2,none⟩=some (.slice sa s.stk.length scap):=IU.b3.cell 2;obtain⟨ta,tb,L9,D8,rfl,_,hta,htr⟩:=jo (dA jk ht);have Jz:=hide htr;clear htr
 by_cases hlen:s.stk.length<tk.length
 ·have fK:Hid (fP p m ⟨op,xa,xb⟩ s=none):=by show _=_;rw [ah HR];unfold x9;rw [if_pos hlen]
  have hn0:((s.stk.length:Int)-(tk.length:Int))<0:=by omega
  have QB:=IU;go_wp2_with (refine iZ iV QB.b4 0 [.bool false,.slice none 0 0,.slice none 0 0] rfl (by simp) Ec (.tmp 8) (.tmp 51) rfl rfl rfl rfl ?_;intro w6 dP bK hs6;rw [gB (by rfl)] at dP)
  refine bodyPost_ret (jQ rfl iV dP rfl rfl) rfl ?_;exact⟨fun s' e=>(by rw [ah fK] at e;cases e),fun _=>⟨_,_,_,_,_,_,_,rfl⟩,QB.bel.trans (bK.below QB.bel.size (fun k hk e=>by omega))⟩
 obtain⟨n,hn⟩:∃n:Nat,s.stk.length=n+tk.length:=⟨s.stk.length-tk.length,by omega⟩;have hn0:¬((s.stk.length:Int)-(tk.length:Int))<0:=by omega
 have hnn:((s.stk.length:Int)-(tk.length:Int))=(n:Int):=by omega
 have hdl:(s.stk.drop n).length=tk.length:=by rw [List.length_drop];omega
 have HN:=hide (show s.stk.length-tk.length=n by omega);rw [hnn] at hn0;have oI:=hide (And.intro hn hdl);clear hn hdl;go_wp2_with fail
 go_loopw [13] (fun i wr=>∃k:Nat,k≤tk.length∧i= .int .i64 k∧((((s.stk.drop n).take k).zip (tk.take k)).all fun x=>iD p x.1 x.2)=true∧Below U.heap.size U wr) (fun i _=>tk.length-(intOf i).toNat)
 case atStart=>exact ⟨0,Nat.zero_le _,rfl,rfl,Below.refl _ _⟩
 case round=>
  obtain⟨k,hk,rfl,hall,hbr⟩:=hrel;have IV:=IU.below hbr
  by_cases hlt:k<tk.length
  ·have hnk:n+k<s.stk.length:=by have:=(ah oI).1;omega
   obtain rfl:=hsa (bJ hnk);obtain rfl:=hta (bJ hlt);have x0:=Keeps.of_below IV.bel _ _ (ah vI (n+k) hnk);have y0:=Keeps.of_below hbr _ _ (ah Jz k hlt);have hx:=tS.2 _ (List.getElem_mem hnk);have hy:=hty _ (List.getElem_mem hlt);have hlt2:k<(s.stk.drop n).length:=by rw [(ah oI).2];exact hlt
   have xA:=SE (p:=p) hlt2 hlt;have hNo:=Me (fun x=>iD p x.1 x.2) hlt2 hlt;rw [List.getElem_drop] at xA hNo;have Jy:=hide xA;have Js:=hide hNo;generalize s.stk[n+k]=a at *;generalize tk[k]=t at *;clear xA hNo;have hwr:IntKind.i64.wrap ((n:Int)+(k:Int))=(n:Int)+(k:Int):=by rw [IntKind.wrap_i64];omega
   have htn:((n:Int)+(k:Int)).toNat=n+k:=by omega
   have k0:(0:Int)≤(k:Int):=by omega
   have k1:(k:Int)<(tk.length:Int):=by omega
   have k2:(0:Int)≤(n:Int)+(k:Int):=by omega
   have k3:(n:Int)+(k:Int)<(s.stk.length:Int):=by omega
   go_wp2_with fail
   have HO:=hide (fun Y (hY:Below wr.heap.size wr Y)=>And.intro ((IV.below hY).b0.cell 0) (And.intro ((IV.below hY).b3.cell 2) (And.intro (Keeps.of_below hY _ _ x0) (Keeps.of_below hY _ _ y0))));refine wp_region_noPanic ?_;refine wp_region_held_drew (S:=(fun w'=>w'.cell? ⟨w.heap.size,0,none⟩=some (.slice pa p.length aA)∧w'.cell? ⟨w.heap.size+1+1+1,2,none⟩=some (.slice (some ⟨sb,so,none⟩) s.stk.length scap)∧w'.cell? ⟨sb,so+(n+k),none⟩=some (.int .i64 a)∧w'.cell? ⟨tb,L9+k,none⟩=some (.int .i64 t))) (by kernel_rfl) ?_ (fun hHeld=>?_)
   ·exact (ah HO) _ gq
   refine au 58 0 ?_;refine au 59 1 ?_;refine au 60 2 ?_;refine au 61 3 ?_;refine au 62 4 ?_;refine au 63 5 ?_;refine au 64 6 ?_;refine au 65 7 ?_;refine au 66 8 ?_;refine au 67 9 ?_;refine au 68 10 ?_;refine au 69 11 ?_;refine aW 12 (fun K hK=>?_);go_simp;refine (U8 p _ a t wr.drew (aP (Keeps.of_below gq) (aP (Keeps.of_below IV.bel) (ah HP))) hs hpl hx hy).mono ?_;rintro e w1 ⟨rfl,hb1'⟩;have hb1:Below wr.heap.size wr w1:=⟨hb1'.os,hb1'.tape,hb1'.output,hb1'.size,hb1'.block⟩;have hr1:=hbr.trans (hb1.mono hbr.size);have I1:=IV.below hb1;have Jv:=hide hall;clear hb1' hall
   cases hq:iD p a t with
   | false =>
    have fK:Hid (fP p m ⟨op,xa,xb⟩ s=none):=by
     show _=_
     rw [ah HR];unfold x9;rw [if_neg hlen,ah HN,ah Js hq]
     rfl
    have QB:=I1;clear hq;go_wp2_with fail
    refine hK.out _ _ ((ah HO) _ hb1) (fun hHeld=>?_);clear hK K;try simp only [Act.put,aK,aO,aN]
    refine au 14 13 ?_;refine wpAnyH_done (by kernel_rfl) ?_ _;refine NoPanic.normal ?_;go_wp2_with (refine iZ iV QB.b4 0 [.bool false,.slice none 0 0,.slice none 0 0] rfl (by simp) Ec (.tmp 8) (.tmp 73) rfl rfl rfl rfl ?_;intro w6 dP bK hs6;rw [gB (by rfl)] at dP)
    refine bodyPost_ret (jQ rfl iV dP rfl rfl) rfl ?_;exact⟨fun s' e=>(by rw [ah fK] at e;cases e),fun _=>⟨_,_,_,_,_,_,_,rfl⟩,QB.bel.trans (bK.below QB.bel.size (fun k hk e=>by omega))⟩
   | true =>
    have HQ:Hid (((((s.stk.drop n).take (k+1)).zip (tk.take (k+1))).all fun x=>iD p x.1 x.2)=true):=by
     show _=_
     rw [ah Jy,ah Jv,hq]
     rfl
    clear hq;go_wp2_with fail
    refine hK.out _ _ ((ah HO) _ hb1) (fun hHeld=>?_);clear hK K;try simp only [Act.put,aK,aO,aN]
    refine au 14 13 ?_;refine wpAnyH_done (by kernel_rfl) ?_ _;refine NoPanic.normal ?_;go_wp2_with fail
    exact⟨⟨k+1,by omega,by go_num,ah HQ,hr1⟩,by simp [intOf];omega⟩
  ·obtain rfl:k=tk.length:=by omega
   have hfit:(((s.stk.drop n).zip tk).all fun x=>iD p x.1 x.2)=true:=by
    rw [List.take_length,List.take_of_length_le (by rw [(ah oI).2];exact Nat.le_refl _)] at hall;exact hall
   have HR2:Hid (fP p m ⟨op,xa,xb⟩ s=if (((s.stk.take n++lv.map (fD (s.stk.drop n))).length:Nat):Int)≤m.stack then some ⟨if op=2 then s.loc.set xa.toNat (s.stk.getD n 0) else s.loc,s.stk.take n++lv.map (fD (s.stk.drop n))⟩ else none):=by
    show _=_
    rw [ah HR];unfold x9;rw [if_neg hlen,ah HN,hfit]
    rfl
   have ke:¬(tk.length:Int)<(tk.length:Int):=by omega
   clear hall hfit;have hi0:=IV.bel;have aaH:=IV.b4.lt;have J0:=gW.start (V:=wr) (B:=wr.heap.size+1) hi0;have hbx:=aS wr (.cells #[.bool true,.slice none 0 0,.slice none 0 0] 149);obtain⟨la',abh,hle,xH,Du⟩:=rH (ah BO).1
   cases hle
   obtain⟨a1,n1,cap1,w1,mW,c1,f1,gu,J1⟩:=J0.locals (by omega) (by simp) (by omega) (by omega) s.loc (by omega) la s.loc.length fG rfl (fun e=>⟨by rw [(xH e).1];rfl,(xH e).2⟩) (fun ad e j u h=>Keeps.of_below hbx _ _ (Keeps.of_below hi0 _ _ (Du ad e j u h)));have hS1:ay (fun j=>j=wr.heap.size) w1 (w1.setCell ⟨wr.heap.size,1,none⟩ (.slice a1 n1 cap1)):=(ay.refl (fun j=>j=wr.heap.size) w1).setCell (p:=⟨wr.heap.size,1,none⟩) (fun _=>rfl) _;have mX:Below wr.heap.size wr (w1.setCell ⟨wr.heap.size,1,none⟩ (.slice a1 n1 cap1)):=(hbx.trans (gu.mono hbx.size)).trans (hS1.below (Nat.le_trans hbx.size gu.size) (fun k hk e=>by omega));have K1:=IV.below mX
   have JW:(wr.alloc (.cells #[.bool true,.slice none 0 0,.slice none 0 0] 149)).cell? ⟨w.heap.size+1+1+1,1,none⟩=some (.slice la s.loc.length fG):=(IV.below hbx).b3.cell 1;have hs1:=Nat.le_trans hbx.size (Nat.le_trans gu.size hS1.size);have hs1':=Nat.le_trans gu.size hS1.size;rw [World.size_alloc] at hs1';have uj:=hide (And.intro J1 K1);have cop:(w1.setCell ⟨wr.heap.size,1,none⟩ (.slice a1 n1 cap1)).cell? ⟨w.heap.size+1+1,0,none⟩=some (.int .i64 op):=K1.b2.cell 0;clear J0 J1 gu hS1 K1 xH Du;go_wp2_with (at_builtin;refine wpList_append_run rfl (.tmp 76) (.tmp 78) 40 rfl _ _ rfl rfl mW ?_)
   generalize w1.setCell _ _=W1 at *;clear mW c1 f1 JW cop;obtain⟨W2,loc',hW2,hloc',HJ2⟩:∃W2 loc',W2=W1∧loc'=s.loc∧Hid (gW w W2 (wr.heap.size+1) wr.heap.size (.slice a1 n1 cap1) loc' (.slice none 0 0) []∧pF w W2 p m s op xa xb (.slice pa p.length aA) (.slice aa m.args.length aI) (.slice ca m.code.length aF) (.slice fa m.frames.length aG) (.slice la s.loc.length fG) (.slice sa s.stk.length scap) ib):=⟨W1,s.loc,rfl,rfl,uj⟩;rw [←hW2] at mX hs1' ⊢;clear uj hW2;have z2:W2.cell? ⟨w.heap.size+1+1+1,2,none⟩=some (.slice sa s.stk.length scap):=(ah HJ2).2.b3.cell 2;have z3:W2.cell? ⟨wr.heap.size,2,none⟩=some (.slice none 0 0):=(ah HJ2).1.box.cell 2
   obtain⟨sa',ach,hse,xP,Dz⟩:=rH (ah BO).2
   cases hse
   have Dx:n≤s.stk.length:=by have:=(ah oI).1;omega
   have n0:(0:Int)≤(n:Int):=by omega
   have n1':(n:Int)≤(s.stk.length:Int):=by omega
   have n2':(n:Int)≤(scap:Int):=by omega
   refine wp_region_noPanic ?_;refine wp_region_held_drew (S:=(fun w'=>w'.cell? ⟨w.heap.size+1+1+1,2,none⟩=some (.slice sa s.stk.length scap))) (by kernel_rfl) ?_ (fun hHeld=>?_)
   ·exact z2
   refine au 94 0 ?_;refine au 96 2 ?_;refine au 97 3 ?_;refine au 98 4 ?_;refine dL (some 99) (i:=5) (v:=.slice sa n scap) rfl rfl (by kernel_rfl) (by kernel_rfl) (by kernel_rfl) (fun _ _ _ h=>h) (Or.inl ⟨by rfl,fun w' hSw=>by (try dsimp only at hSw);go_simp⟩) (by assumption) ?_;try simp only [Act.put,aK,aO,aN]
   have BR:=(ah HJ2).1.below gq;have BU:=(ah HJ2).2.below gq;have hsz2:W2.drew.heap.size=W2.heap.size:=rfl
   obtain⟨a3,n3,cap3,w3,Dj,c3,f3,dh,J3⟩:=BR.more (by omega) (by omega) (by omega) (by omega) (by simp) (s.stk.take n) (by rw [List.length_take];omega) sa n scap (by rw [List.length_take];omega) (fun e=>⟨by have:=(xP e).1;rw [this] at Dx;simpa using Dx,(xP e).2⟩) (fun ad e j u h=>Keeps.of_below BU.bel _ _ (Dz ad e j u (by
    rw [List.map_take,List.getElem?_take] at h
    split at h
    ·exact h
    ·cases h)))
   have hS3:ay (fun j=>j=wr.heap.size) w3 (w3.setCell ⟨wr.heap.size,2,none⟩ (.slice a3 n3 cap3)):=(ay.refl (fun j=>j=wr.heap.size) w3).setCell (p:=⟨wr.heap.size,2,none⟩) (fun _=>rfl) _;have xw:Below wr.heap.size W2 w3:=(gq.mono (by omega)).trans (dh.below (by omega) (fun k hk e=>by cases e));have Dl:Below wr.heap.size wr (w3.setCell ⟨wr.heap.size,2,none⟩ (.slice a3 n3 cap3)):=mX.trans (xw.trans (hS3.below (by have:=dh.size;omega) (fun k hk e=>by omega)));have K3:=IV.below Dl;have z4:w3.cell? ⟨w.heap.size+1+1+1,2,none⟩=some (.slice sa s.stk.length scap):=(IV.below (mX.trans xw)).b3.cell 2
   have z5:(w3.setCell ⟨wr.heap.size,2,none⟩ (.slice a3 n3 cap3)).cell? ⟨w.heap.size+1+1+1,2,none⟩=some (.slice sa s.stk.length scap):=K3.b3.cell 2;have Lc:wr.heap.size+1≤(w3.setCell ⟨wr.heap.size,2,none⟩ (.slice a3 n3 cap3)).heap.size:=by have:=dh.size;have:=hS3.size;omega
   have pz:=hide (And.intro J3 K3);clear BR BU J3 K3 dh xw hS3 xP Dz;refine aW 1 (fun K hK=>?_);go_simp;refine hK.out _ _ z2 (fun hHeld=>?_);clear hK K;try simp only [Act.put,aK,aO,aN]
   refine aW 6 (fun K hK=>?_);refine wp_append_run (.tmp 95) (.tmp 99) 40 rfl _ _ rfl rfl Dj ?_;go_simp;refine hK.out _ _ z4 (fun hHeld=>?_);clear hK K;try simp only [Act.put,aK,aO,aN]
   refine au 101 7 ?_;refine aW 8 (fun K hK=>?_);go_simp;refine hK.out _ _ z5 (fun hHeld=>?_);clear hK K;try simp only [Act.put,aK,aO,aN]
   refine wpAnyH_done (by kernel_rfl) ?_ _;refine NoPanic.normal ?_;generalize w3.setCell _ _=W3 at *;clear Dj c3 f3 z2 z3 z4 z5 HJ2 mX;rw [List.nil_append] at pz;obtain⟨zh,vb,vo,fJ,rfl,_,hva,DC⟩:=jo (dA jk hl);have JA:=hide DC;clear DC;have Dq:=hbr;have hkw:=IV;go_wp2_with fail
   obtain⟨w9,rfl⟩:∃w9:World,w9=wr:=⟨_,rfl⟩
   go_loopw [16] (fun i V=>∃(k:Nat) (vs':Value),k≤lv.length∧i= .int .i64 k∧gW w V (w9.heap.size+1) w9.heap.size (.slice a1 n1 cap1) loc' vs' (s.stk.take n++(lv.take k).map (fD (s.stk.drop n)))∧pF w V p m s op xa xb (.slice pa p.length aA) (.slice aa m.args.length aI) (.slice ca m.code.length aF) (.slice fa m.frames.length aG) (.slice la s.loc.length fG) (.slice sa s.stk.length scap) ib∧Below w9.heap.size w9 V∧w9.heap.size+1≤V.heap.size) (fun i _=>lv.length-(intOf i).toNat)
   case atStart=>exact ⟨0,_,Nat.zero_le _,rfl,by simpa using (ah pz).1,(ah pz).2,Dl,Lc⟩
   case round=>
    obtain⟨k,vs',hk,rfl,JJ,KK,eY,Ie⟩:=hrel;obtain⟨D6,D7,rfl⟩:=cZ JJ.rs;obtain⟨sl,hsl⟩:∃sl,sl=(s.stk.take n++(lv.take k).map (fD (s.stk.drop n))).length:=⟨_,rfl⟩;rw [←hsl] at JJ;have HSL:=hide hsl;clear hsl;have z6:wr.cell? ⟨w9.heap.size,2,none⟩=some _:=JJ.box.cell 2;have z7:wr.cell? ⟨w.heap.size+1+1+1,2,none⟩=some (.slice sa s.stk.length scap):=KK.b3.cell 2
    by_cases hlt:k<lv.length
    ·obtain rfl:=hva (bJ hlt);have y0:=Keeps.of_below (Dq.trans (eY.mono Dq.size)) _ _ (ah JA k hlt);have hlk:=List.getElem?_eq_getElem hlt;have hneg:=xM _ (List.getElem_mem hlt);generalize lv[k]=t at *;have k0:(0:Int)≤(k:Int):=by omega
     have k1:(k:Int)<(lv.length:Int):=by omega
     by_cases ht0:t<0
     ·obtain⟨j,hj⟩:∃j:Nat,t= -1-(j:Int):=⟨(-1-t).toNat,by omega⟩;have hjt:j<tk.length:=by have:=hneg ht0;omega
      have yX:n+j<s.stk.length:=by have:=(ah oI).1;omega
      obtain rfl:=hsa (bJ yX);have x0:=Keeps.of_below KK.bel _ _ (ah vI (n+j) yX)
      have hrl:fD (s.stk.drop n) t=s.stk[n+j]:=by
       unfold fD;rw [if_pos ht0,show (-1-t).toNat=j by omega,List.getD_eq_getElem?_getD,List.getElem?_drop,List.getElem?_eq_getElem yX]
       rfl
      generalize s.stk[n+j]=a at *;have q1:(n:Int)-1-t=(n:Int)+(j:Int):=by omega
      have q2:((n:Int)+(j:Int)).toNat=n+j:=by omega
      have q3:(0:Int)≤(n:Int)+(j:Int):=by omega
      have q4:(n:Int)+(j:Int)<(s.stk.length:Int):=by omega
      have q5: -200≤t:=by omega
      have WB:=hide hj;clear hj;obtain⟨a5,n5,cap5,w5,oq,c5,f5,bU,J5⟩:=JJ.one (by omega) (by omega) (by omega) (by omega) (by rw [List.length_append,List.length_take,List.length_map,List.length_take];omega) a;have hS5:ay (fun j=>j=w9.heap.size) w5 (w5.setCell ⟨w9.heap.size,2,none⟩ (.slice a5 n5 cap5)):=(ay.refl (fun j=>j=w9.heap.size) w5).setCell (p:=⟨w9.heap.size,2,none⟩) (fun _=>rfl) _;have jJ:Below w9.heap.size w9 (w5.setCell ⟨w9.heap.size,2,none⟩ (.slice a5 n5 cap5)):=eY.trans ((bU.below eY.size (fun k hk e=>by have:=(JJ.rs.lt k e).1;omega)).trans (hS5.below (Nat.le_trans eY.size bU.size) (fun k hk e=>by omega)))
      have hs5:w9.heap.size+1≤(w5.setCell ⟨w9.heap.size,2,none⟩ (.slice a5 n5 cap5)).heap.size:=by have:=bU.size;have:=hS5.size;omega
      have HE:=hide (And.intro J5 (And.intro (IV.below jJ) (And.intro jJ hs5)));have pX:=hide (show s.stk.take n++(lv.take (k+1)).map (fD (s.stk.drop n))=s.stk.take n++(lv.take k).map (fD (s.stk.drop n))++ [a] by rw [List.take_add_one,hlk,List.map_append,List.append_assoc];simp only [Option.toList_some,List.map_cons,List.map_nil];rw [hrl]);clear J5 bU hS5 jJ;go_wp2_with (at_builtin;refine wpList_append_run rfl (.tmp 123) (.tmp 125) 40 rfl _ _ rfl rfl oq ?_)
      refine⟨⟨k+1,.slice a5 n5 cap5,by omega,by go_num,?_,(ah HE).2.1,(ah HE).2.2.1,(ah HE).2.2.2⟩,by simp [intOf];omega⟩;rw [ah pX];exact (ah HE).1
     ·have hrl:fD (s.stk.drop n) t=t:=by unfold fD;rw [if_neg ht0]
      obtain⟨a5,n5,cap5,w5,oq,c5,f5,bU,J5⟩:=JJ.one (by omega) (by omega) (by omega) (by omega) (by rw [List.length_append,List.length_take,List.length_map,List.length_take];omega) t;have hS5:ay (fun j=>j=w9.heap.size) w5 (w5.setCell ⟨w9.heap.size,2,none⟩ (.slice a5 n5 cap5)):=(ay.refl (fun j=>j=w9.heap.size) w5).setCell (p:=⟨w9.heap.size,2,none⟩) (fun _=>rfl) _;have jJ:Below w9.heap.size w9 (w5.setCell ⟨w9.heap.size,2,none⟩ (.slice a5 n5 cap5)):=eY.trans ((bU.below eY.size (fun k hk e=>by have:=(JJ.rs.lt k e).1;omega)).trans (hS5.below (Nat.le_trans eY.size bU.size) (fun k hk e=>by omega)))
      have hs5:w9.heap.size+1≤(w5.setCell ⟨w9.heap.size,2,none⟩ (.slice a5 n5 cap5)).heap.size:=by have:=bU.size;have:=hS5.size;omega
      have HE:=hide (And.intro J5 (And.intro (IV.below jJ) (And.intro jJ hs5)));have pX:=hide (show s.stk.take n++(lv.take (k+1)).map (fD (s.stk.drop n))=s.stk.take n++(lv.take k).map (fD (s.stk.drop n))++ [t] by rw [List.take_add_one,hlk,List.map_append,List.append_assoc];simp only [Option.toList_some,List.map_cons,List.map_nil];rw [hrl]);clear J5 bU hS5 jJ;go_wp2_with (at_builtin;refine wpList_append_run rfl (.tmp 123) (.tmp 125) 40 rfl _ _ rfl rfl oq ?_)
      refine⟨⟨k+1,.slice a5 n5 cap5,by omega,by go_num,?_,(ah HE).2.1,(ah HE).2.2.1,(ah HE).2.2.2⟩,by simp [intOf];omega⟩;rw [ah pX];exact (ah HE).1
    ·obtain rfl:k=lv.length:=by omega
     have Us:¬(lv.length:Int)<(lv.length:Int):=by omega
     rw [List.take_length] at JJ HSL;have hbW:=KK.bel;go_wp2_with fail
     have g0:wr.cell? ⟨w9.heap.size,0,none⟩=some (.bool true):=JJ.box.cell 0;have g1:wr.cell? ⟨w9.heap.size,1,none⟩=some (.slice a1 n1 cap1):=JJ.box.cell 1;have g3:wr.cell? ⟨w.heap.size+1,4,none⟩=some (.int .i64 m.stack):=KK.b1.cell 4;have Ei:=hide (And.intro JJ KK);have b4:=KK.b4;have hl5:=IV.b4.lt;have Ju:=hide (fun Y (hY:ay (fun k=>k=w.heap.size+1+1+1+1) wr Y)=>And.intro ((JJ.box.mods hY (by omega)).cell 0) (And.intro ((JJ.box.mods hY (by omega)).cell 1) (And.intro ((JJ.box.mods hY (by omega)).cell 2) ((KK.b1.mods hY (by omega)).cell 4))));clear JJ KK;refine wp_region_noPanic ?_
     refine wp_region_held_drew (S:=(fun w'=>w'.cell? ⟨w9.heap.size,0,none⟩=some (.bool true)∧w'.cell? ⟨w9.heap.size,1,none⟩=some (.slice a1 n1 cap1)∧w'.cell? ⟨w9.heap.size,2,none⟩=some (.slice D6 sl D7)∧w'.cell? ⟨w.heap.size+1,4,none⟩=some (.int .i64 m.stack))) (by kernel_rfl) ?_ (fun hHeld=>?_)
     ·exact⟨g0,g1,z6,g3⟩
     refine au 128 0 ?_;refine au 129 1 ?_;refine au 130 2 ?_;refine au 131 3 ?_;refine au 132 4 ?_;refine au 133 5 ?_;refine au 134 6 ?_;refine aW 7 (fun K hK=>?_);refine oZ iV b4.drew 0 [.bool true,.slice a1 n1 cap1,.slice D6 sl D7] rfl (by simp) (fun u hu=>by simp only [List.mem_cons,List.not_mem_nil,or_false] at hu;rcases hu with rfl | rfl | rfl <;> rfl) (.tmp 8) (.tmp 128) rfl rfl rfl ?_;intro w6 dP bK hs6;rw [gB (by rfl)] at dP;have pO:ay (fun k=>k=w.heap.size+1+1+1+1) wr w6:=⟨bK.os,bK.tape,bK.output,bK.size,bK.block⟩;refine hK.out _ _ ((ah Ju) _ pO) (fun hHeld=>?_);clear hK K;try simp only [Act.put]
     refine au 9 8 ?_;refine wpAnyH_done (by kernel_rfl) ?_ _;refine NoPanic.normal ?_;go_wp2_with fail
     refine bodyPost_ret (jQ rfl iV dP rfl rfl) rfl ?_;have hrd:=(ah Ei).1.read;have hfb:=hbW.trans (pO.below hbW.size (fun k hk e=>by omega))
     by_cases sU:(sl:Int)≤m.stack
     ·have oh:fP p m ⟨op,xa,xb⟩ s=some ⟨loc',s.stk.take n++lv.map (fD (s.stk.drop n))⟩:=by
       rw [ah HR2,if_pos (by rw [←ah HSL];exact sU),hloc',if_neg h2]
      refine⟨fun s' e=>?_,fun e=>(by rw [oh] at e;cases e),hfb⟩;rw [oh] at e
      cases e
      refine⟨_,_,(by show Ending.returned (.tuple #[_,.bool (decide _)])=_;rw [decide_eq_true sU]),dG.keep (dR pO fun k _ hk=>⟨fun e=>by omega,by omega⟩) hrd⟩
     ·have oh:fP p m ⟨op,xa,xb⟩ s=none:=by
       rw [ah HR2,if_neg (by rw [←ah HSL];exact sU)]
      refine⟨fun s' e=>(by rw [oh] at e;cases e),fun _=>⟨_,_,_,_,_,_,_,(by show Ending.returned (.tuple #[_,.bool (decide _)])=_;rw [decide_eq_false sU])⟩,hfb⟩
end Go.Proofs.YtiiokkllmchohaaGreat
