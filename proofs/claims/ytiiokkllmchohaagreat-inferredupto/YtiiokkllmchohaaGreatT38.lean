/- Certify: the frames of places. -/
import Derived.Test.YtiiokkllmchohaaGreatT10
import Derived.Test.YtiiokkllmchohaaGreatT26
import Derived.Test.YtiiokkllmchohaaGreatT28
import Derived.Test.YtiiokkllmchohaaGreatT29
import Derived.Test.YtiiokkllmchohaaGreatT37
set_option maxHeartbeats 4000000
set_option maxRecDepth 100000
namespace Go.Proofs.YtiiokkllmchohaaGreat
open Go.RowKit Go.Shelf
attribute [local go_sem ↓] Go.wp_at_zero Go.wp_at_succ
attribute [local go_sem] bW
attribute [local go_sem] Oper.semAt_some
theorem gG.ab6 {w:World}{B:Nat} :∀(l:List bF) (cs:List Value),gG w B cs l→iU 3 (yx (sel (fun k=>B≤k) w)) cs l
 | [], _, h => by
  obtain rfl:_= []:=h;exact iU.nil
 | f :: l, _, ⟨b, c, r, rfl, h2, h3, h4⟩ => (gG.ab6 l r h4).cons (c := [.int .i64 f.pc, b, c]) ⟨b, c, rfl, rQ h2 (fun g hg => (h2.lt g hg).1), rQ h3 (fun g hg => (h3.lt g hg).1)⟩ rfl
def Iu (f:Nat→Bool):List Value:=(Ir 40 f).map Value.bool
theorem ah3 {j:Nat}{f f':Nat→Bool}(hf:∀k,f' k=(f k || (j == k))):(Iu f).set j (.bool true)=Iu f':=by
 unfold Iu;rw [←ah5 hf,List.map_set]
theorem abu {j:Nat}{f:Nat→Bool}(h:j<40):(Iu f)[j]? =some (.bool (f j)):=by
 unfold Iu;rw [List.getElem?_map,ah4 h];rfl
structure jZ (w V:World)(bp:Nat)(ds:List Nat)(f:Nat→Bool):Prop where
 bel:Below w.heap.size w V
 bm:ak V bp 132 (Iu f)
 xR:∀D∈ds,V.heap[D]? =some (.deferred (some []))
 lo:∀D∈ds,w.heap.size≤D
 nd:ds.Nodup
section
variable {w V V' : World} {bp : Nat} {ds : List Nat} {f f' : Nat → Bool}
theorem jZ.mods {S:Nat→Prop}(i:jZ w V bp ds f)(hm:ay S V V')(h1:∀k,k<w.heap.size→¬S k)(h2:¬S bp)(h3:∀D∈ds,¬S D):jZ w V' bp ds f:=
 ⟨i.bel.trans (hm.below i.bel.size h1),i.bm.mods hm h2,fun D hD=>(hm.block D (Array.getElem?_eq_some_iff.1 (i.xR D hD)).1 (h3 D hD)).trans (i.xR D hD),i.lo,i.nd⟩
theorem jZ.below (i:jZ w V bp ds f)(b:Below V.heap.size V V'):jZ w V' bp ds f:=
 i.mods (ay.of_below b) (fun k hk e=>by have:=i.bel.size;omega) (fun e=>by have:=i.bm.lt;omega) (fun D hD e=>by have:=(Array.getElem?_eq_some_iff.1 (i.xR D hD)).1;omega)
theorem jZ.put (i:jZ w V bp ds f)(hb:w.heap.size≤bp){j:Nat}(hf:∀k,f' k=(f k || (j == k))):jZ w (V.setCell ⟨bp,j,none⟩ (.bool true)) bp ds f':=by
 refine⟨i.bel.setCell (p:=⟨bp,j,none⟩) hb _,?_,fun D hD=>?_,i.lo,i.nd⟩
 ·rw [←ah3 hf];exact i.bm.setCell j _
 ·have hk:=i.xR D hD;exact (Below.heap_setCell _ _ _ _ (OM hk i.bm)).trans hk
theorem jZ.mark {w5:World}{f5:Nat→Bool}(i:jZ w V bp ds f)(j:jZ w w5 bp ds f5){D:Nat}(hk:V.heap[D]? =some (.deferred (some [])))(hD:w5.heap.size≤D):jZ w V bp (D::ds) f:=by
 refine⟨i.bel,i.bm,fun E hE=>?_,fun E hE=>?_,List.nodup_cons.2 ⟨fun hE=>?_,i.nd⟩⟩
 ·rcases List.mem_cons.1 hE with rfl | h
  ·exact hk
  ·exact i.xR E h
 ·rcases List.mem_cons.1 hE with rfl | h
  ·have:=j.bel.size;omega
  ·exact i.lo E h
 ·have:=(Array.getElem?_eq_some_iff.1 (j.xR D hE)).1;omega
end
def ac2 (B:Nat)(l:List bF)(w w':World)(e:Ending):Prop:=∃v,e= .returned v∧aV 3 (vk (sel (fun k=>B≤k) w')) v l∧Below w.heap.size w w'
def wH (w V:World)(C:bF→List Value→Prop)(v:Value)(l:List bF):Prop:=∃cs,V.ownsRow w.heap.size 42 3 v l.length cs∧iU 3 C cs l
def V8 (B:Nat)(C:bF→List Value→Prop)(l:List bF)(w w':World)(e:Ending):Prop:=∃v,e= .returned v∧aV 3 (vk (sel (fun k=>B≤k) w')) v l∧(∃cs,w'.ownsRow w.heap.size 42 3 v l.length cs∧iU 3 C cs l)∧Below w.heap.size w w'
def Ef (w V:World)(B:Nat)(v:Value)(l:List bF):Prop:=∃cs,V.ownsRow w.heap.size 42 3 v l.length cs∧iU 3 (yx (sel (fun k=>B≤k) w)) cs l
section
variable {w V V' : World} {B bp : Nat} {ds : List Nat} {f : Nat → Bool} {v : Value} {l : List bF}
theorem Ef.below (F:Ef w V B v l)(b:Below V.heap.size V V'):Ef w V' B v l:=by
 obtain⟨cs,hO,hR⟩:=F;exact⟨cs,eP hO (ay.of_below b) (fun g hg e=>by have:=(hO.lt g hg).2;omega),hR⟩
theorem wH.below {C:bF→List Value→Prop}(F:wH w V C v l)(b:Below V.heap.size V V'):wH w V' C v l:=by
 obtain⟨cs,hO,hR⟩:=F;exact⟨cs,eP hO (ay.of_below b) (fun g hg e=>by have:=(hO.lt g hg).2;omega),hR⟩
theorem wH.snoc {C:bF→List Value→Prop}(F:wH w V C v l)(i:jZ w V bp ds f)(hl:l.length≤40){x:bF}{vl vs:Value}(h1:vl.oneCell'=true)(h2:vs.oneCell'=true)(hC:C x [.int .i64 x.pc,vl,vs])(H:Nat)(hH:V.heap.size=H) :
  ∃a n cap w',(Builtin.append_ #[36,36] 36 #[v,.slice (some ⟨H,0,none⟩) 1 1]).run Tryz.prog (V.alloc (.cells #[.int .i64 x.pc,vl,vs] 42))= .ok (.slice a n cap) w'∧wH w w' C (.slice a n cap) (l++ [x])∧jZ w w' bp ds f:=by
 obtain⟨j0,Kv,Kw,Ky,Kz⟩:=info_parts Ud;obtain⟨cs,hO,hR⟩:=F
 obtain⟨v3,w3,happ,hO3,dh,_⟩:=qN (P:=Tryz.prog) (W:=V) 36 36 42 j0 _ 3 56 Tryz.underlying36 Kv Kw Ky Kz rfl (by decide) w.heap.size _ _ _ hO #[.int .i64 x.pc,vl,vs] rfl
  (fun u hu=>by
    simp only [List.mem_cons,List.not_mem_nil,or_false] at hu
    rcases hu with rfl | rfl | rfl
    ·rfl
    ·exact h1
    ·exact h2) H hH (by unfold maxLen;omega) (by omega) i.bel.size
 obtain⟨a,cap,rfl⟩:=cZ hO3;refine⟨a,_,cap,w3,happ,⟨_,by simpa using hO3,hR.snoc hC rfl⟩,i.mods dh (fun k hk e=>by have:=(hO.lt k e).1;omega) (fun e=>?_) (fun D hD e=>?_)⟩
 ·obtain⟨cur,hb⟩:=lD hO e;exact absurd (hb.uniq i.bm) (by decide)
 ·obtain⟨cur,hb⟩:=lD hO e;exact OM (i.xR D hD) hb rfl
end
def Qi (w:World)(m:aC)(l:List bF)(ra ca:Option Addr)(jA aF bp N:Nat)(a:Act)(V:World):Prop:=
 ∃(k:Nat) (ds:List Nat) (u2 u3 u6 u7 u8 u9 u10 u11 u12 u16 tH tJ tK u20 u21 u22 u23 u24 u25 u26 u27 u28 u29 u30 u31 u32 u33 u34 u35 u36 u37 u38 tN u40 tV u42 tX u44:Value),N+k=l.length∧a= { tmps:= #[.slice ca m.code.length aF,.slice ra l.length jA,u2,u3,.slice none 0 0,.pointer (some ⟨bp,0,none⟩),u6,u7,u8,u9,u10,u11,u12,.slice ra l.length jA,.int .i64 (l.length:Int),.int .i64 (k:Int),u16,tH,tJ,tK,u20,u21,u22,u23,u24,u25,u26,u27,u28,u29,u30,u31,u32,u33,u34,u35,u36,u37,u38,tN,u40,tV,u42,tX,u44],defers:=ds.map FC }∧jZ w V bp ds (jK m (l.take k))
def VY (w:World)(m:aC)(l:List bF)(ra ca:Option Addr)(jA aF bp k:Nat)(a:Act)(V:World):Prop:=
 ∃(ds:List Nat) (u2 u3 u6 u7 u8 u9 u10 u11 u12 u16 tH tJ tK u20 u21 u22 u23 u24 u25 u26 u27 u28 u29 u30 u31 u32 u33 u34 u35 u36 u37 u38 tN u40 tV u42 tX u44:Value),a= { tmps:= #[.slice ca m.code.length aF,.slice ra l.length jA,u2,u3,.slice none 0 0,.pointer (some ⟨bp,0,none⟩),u6,u7,u8,u9,u10,u11,u12,.slice ra l.length jA,.int .i64 (l.length:Int),.int .i64 (k:Int),u16,tH,tJ,tK,u20,u21,u22,u23,u24,u25,u26,u27,u28,u29,u30,u31,u32,u33,u34,u35,u36,u37,u38,tN,u40,tV,u42,tX,u44],defers:=ds.map FC }∧jZ w V bp ds (jK m (l.take (k+1)))
def VZ (w:World)(m:aC)(l:List bF)(ra ca:Option Addr)(jA aF bp:Nat)(a:Act)(V:World):Prop:=
 ∃(ds:List Nat) (u2 u3 u6 u7 u8 u9 u10 u11 u12 u13 u14 u15 u16 tH tJ tK u20 u21 u22 u23 u24 u25 u26 u27 u28 u29 u30 u31 u32 u33 u34 u35 u36 u37 u38 tN u40 tV u42 tX u44:Value),a= { tmps:= #[.slice ca m.code.length aF,.slice ra l.length jA,u2,u3,.slice none 0 0,.pointer (some ⟨bp,0,none⟩),u6,u7,u8,u9,u10,u11,u12,u13,u14,u15,u16,tH,tJ,tK,u20,u21,u22,u23,u24,u25,u26,u27,u28,u29,u30,u31,u32,u33,u34,u35,u36,u37,u38,tN,u40,tV,u42,tX,u44],defers:=ds.map FC }∧jZ w V bp ds (jK m l)
def MF (w:World)(m:aC)(l:List bF)(ra:Option Addr)(C:bF→List Value→Prop)(jA bp N:Nat)(a:Act)(V:World):Prop:=
 ∃(k:Nat) (ds:List Nat) (dH:Value) (u0 u2 u3 u4 u6 u7 u8 u9 u11 u12 u13 u14 u15 u16 tH tJ tK u20 u21 u22 u23 u24 u25 u26 u27 u28 u32 u33 u34 u35 u36 u37 u38 tN u40 tV u42 tX u44:Value),N+k=l.length∧a= { tmps:= #[u0,.slice ra l.length jA,u2,u3,u4,.pointer (some ⟨bp,0,none⟩),u6,u7,u8,u9,dH,u11,u12,u13,u14,u15,u16,tH,tJ,tK,u20,u21,u22,u23,u24,u25,u26,u27,u28,.slice ra l.length jA,.int .i64 (l.length:Int),.int .i64 (k:Int),u32,u33,u34,u35,u36,u37,u38,tN,u40,tV,u42,tX,u44],defers:=ds.map FC }∧jZ w V bp ds (jK m l)∧wH w V C dH ((l.take k).filter fun f=>jK m l f.pc.toNat)
def VX (w:World)(m:aC)(l:List bF)(ra:Option Addr)(C:bF→List Value→Prop)(jA bp:Nat)(a:Act)(V:World):Prop:=
 ∃(ds:List Nat) (dH:Value) (u0 u2 u3 u4 u6 u7 u8 u9 u11 u12 u13 u14 u15 u16 tH tJ tK u20 u21 u22 u23 u24 u25 u26 u27 u28 u29 u30 u31 u32 u33 u34 u35 u36 u37 u38 tN u40 tV u42 tX u44:Value),a= { tmps:= #[u0,.slice ra l.length jA,u2,u3,u4,.pointer (some ⟨bp,0,none⟩),u6,u7,u8,u9,dH,u11,u12,u13,u14,u15,u16,tH,tJ,tK,u20,u21,u22,u23,u24,u25,u26,u27,u28,u29,u30,u31,u32,u33,u34,u35,u36,u37,u38,tN,u40,tV,u42,tX,u44],defers:=ds.map FC }∧jZ w V bp ds (jK m l)∧wH w V C dH (l.filter fun f=>jK m l f.pc.toNat)
theorem abp {P:Program}{fn:Func}{tmps:Array Value}{R:Ending→World→Prop}{u:FrameMode}(hu:u≠ .run):∀(ds:List Nat) (V:World),ds.Nodup→(∀D∈ds,V.heap[D]? =some (.deferred (some [])))→
  (∀V',ay (fun k=>k∈ds) V V'→LeavesIn Fence.wide 0 P fn tmps R [] u V')→LeavesInM Fence.wide 0 P fn tmps R (ds.map FC) u V
 | [], V, _, _, h => h V (ay.refl _ _)
 | D :: ds, V, hn, hk, h => ⟨hu, .inl ⟨D, V.putObj D (.deferred none), rfl, run_takeDeferred (hk D (by simp)), abp hu ds _ (List.nodup_cons.1 hn).2
   (fun E hE=>(World.putObj_heap_other (fun e=>(List.nodup_cons.1 hn).1 (by rw [←e];exact hE))).trans (hk E (by simp [hE])))
   (fun V' hV=>h V' ((ay.putObj (S:=fun k=>k∈D::ds) _ (by simp)).trans hV (fun k _ hk=>List.mem_cons_of_mem _ hk)))⟩⟩
theorem afX {P:Program}{fn:Func}{tmps:Array Value}{w V:World}{B bp:Nat}{ds:List Nat}{f:Nat→Bool}{v:Value}{l:List bF}{C:bF→List Value→Prop}(i:jZ w V bp ds f)(hB:B≤w.heap.size)(hC:∀f c,C f c→yx (sel (fun k=>B≤k) w) f c)(F:wH w V C v l)(hr:∀V',(results fn tmps).run P V'= .ok v V') :
  DJ P fn (fun e w'=>V8 B C l w w' e) .ret { tmps:=tmps,defers:=ds.map FC } V:=by
 obtain⟨cs,hO,hR⟩:=F;refine abp (by simp) ds V i.nd i.xR (fun V' hV=>?_);have hb:=i.bel.trans (hV.below i.bel.size (fun k hk e=>by have:=i.lo k e;omega));refine⟨v,hr V',v,rfl,?_,⟨cs,?_,hR⟩,hb⟩;rotate_left
 ·exact eP hO hV (fun g hg e=>by
   obtain⟨cur,hb⟩:=lD hO hg
   exact OM (i.xR g e) hb rfl)
 have iR:=eP hO hV (fun g hg e=>by
  obtain⟨cur,hb⟩:=lD hO hg
  exact OM (i.xR g e) hb rfl)
 have hle:dM (sel (fun k=>B≤k) w) (sel (fun k=>B≤k) V'):=dR (ay.of_below hb) fun k hk hS=>⟨fun e=>by omega,hS⟩;exact abC iR (hR.mono fun x c hc=>yx.keep hle (hC x c hc)) (fun g hg=>Nat.le_trans hB (hO.lt g hg).1)
def Gf (w:World)(B:Nat)(cs:List Value)(l:List bF)(f:bF)(c:List Value):Prop:=yx (sel (fun k=>B≤k) w) f c∧∃i,l[i]? =some f∧c=(cs.drop (i*3)).take 3
theorem aej (m:aC)(aQ v:Value)(l:List bF)(B:Nat)(w:World)(hc:aV 3 (zO w) aQ m.code)(cs:List Value)(hO:w.ownsRow B 42 3 v l.length cs)(hF:gG w B cs l)(hB:B≤w.heap.size)(aaq:l.length≤40)(dD:m.code.length≤40)(hpc:∀f∈l,0≤f.pc∧f.pc<(m.code.length:Int))
  (hj:∀f∈l,gU (bH m f.pc.toNat)=true→0≤(bH m f.pc.toNat).a∧(bH m f.pc.toNat).a<(m.code.length:Int)) :
  Calls Tryz.prog 164 #[aQ,v] w fun e w'=>V8 B (Gf w B cs l) (l.filter fun f=>jK m l f.pc.toNat) w w' e:=by
 have hG:=gG.ab6 l cs hF;obtain⟨ra,jA,rfl⟩:=cZ hO;obtain⟨ca,cb,off,aF,rfl,TL,hca,hcr⟩:=aZ hc
 have hfr:∀(k:Nat) (hk:k<l.length),∃g vl vs,ra=some ⟨g,0,none⟩∧w.cell? ⟨g,k*3,none⟩=some (.int .i64 l[k].pc)∧w.cell? ⟨g,k*3+1,none⟩=some vl∧w.cell? ⟨g,k*3+2,none⟩=some vs∧aV 1 (fE (sel (fun k=>B≤k) w)) vl l[k].locals∧aV 1 (fE (sel (fun k=>B≤k) w)) vs l[k].stack∧[Value.int .i64 l[k].pc,vl,vs]=(cs.drop (k*3)).take 3:=fun k hk=>by
  obtain⟨g,cap,h1,_,_,h4⟩:=O6 hO (by omega);obtain⟨vl,vs,h5,h6,h7⟩:=hG.2 k _ (List.getElem?_eq_getElem hk);have key:∀i,i<3→w.cell? ⟨g,k*3+i,none⟩= [Value.int .i64 l[k].pc,vl,vs][i]? :=fun i hi=>by rw [h4 _ (by omega),DV hi,h5]
  injection h1 with e1
  exact⟨g,vl,vs,e1,key 0 (by omega),key 1 (by omega),key 2 (by omega),h6,h7,h5.symm⟩
 have zC:=hide hcr;have BH:=hide hfr;clear hcr hc hO hG hF hfr;obtain⟨bp,hbp⟩:∃bp,bp=w.heap.size:=⟨_,rfl⟩;have agt:w.heap.size≤bp:=by omega
 refine Nz Tryz.func164 rfl ?_;simp only [Tryz.ntmps164,List.size_toArray,List.length_cons,List.length_nil,Nat.reduceAdd,Nat.reduceSub,Array.replicate_succ,Array.replicate_zero,List.push_toArray,List.append_toArray,List.nil_append,List.cons_append];refine jY ?_;go_wp2_with fail
 refine jY ?_;go_wp2_with fail
 generalize hW:w.alloc _=W
 have HI0:Hid (jZ w W bp [] (jK m (l.take 0))):=by
  refine⟨by rw [←hW];exact aS _ _,?_,fun _ h=>(by cases h),fun _ h=>(by cases h),List.nodup_nil⟩;rw [←hW,hbp];exact ak.new w _ _
 clear hW;rw [←hbp];clear hbp;refine VK (J:=VZ w m l ra ca jA aF bp) ?rest ?first
 case first=>
  refine jY ?_;go_wp2_with fail
  refine D9 ?_;refine VJ (Qi w m l ra ca jA aF bp) l.length ?start ?round
  case start=>unfold Qi;exact⟨0,[],_,_,_,_,_,_,_,_,_,_,_,_,_,_,_,_,_,_,_,_,_,_,_,_,_,_,_,_,_,_,_,_,_,_,_,_,_,_,by omega,rfl,ah HI0⟩
  case round=>
   clear HI0;intro N a V hX;obtain⟨k,ds,u2,u3,u6,u7,u8,u9,u10,u11,u12,u16,tH,tJ,tK,u20,u21,u22,u23,u24,u25,u26,u27,u28,u29,u30,u31,u32,u33,u34,u35,u36,u37,u38,tN,u40,tV,u42,tX,u44,hN,rfl,hI⟩:=hX;have HI:=hide hI
   by_cases hlt:k<l.length
   ·obtain⟨g,vl,vs,rfl,f0,f1,f2,hvl,hvs,-⟩:=ah BH k hlt;have hmem:=List.getElem_mem hlt;obtain⟨p0,p1⟩:=hpc _ hmem;have hjj:=hj _ hmem;have HJ:=hide (fun k'=>ahx (m:=m) hlt k');generalize l[k]=f at *;obtain⟨pc,EP,fst⟩:=f;dsimp only at *;obtain⟨i,rfl⟩:∃i:Nat,pc=(i:Int):=⟨pc.toNat,by omega⟩;rw [Int.toNat_natCast] at hjj HJ;have hi:i<m.code.length:=by omega
    obtain rfl:=hca (bJ hi);obtain⟨x0,x1,x2⟩:=ah zC i hi;have oM:bH m i=m.code[i]:=by unfold bH;rw [List.getElem?_eq_getElem hi];rfl
    rw [oM] at hjj HJ;generalize m.code[i]=x at *;obtain⟨la,_,_,fG,rfl,_⟩:=hvl;obtain⟨sa,_,_,scap,rfl,_⟩:=hvs;have k0:(0:Int)≤(k:Int):=by omega
    have k1:(k:Int)<(l.length:Int):=by omega
    have g0:=Keeps.of_below hI.bel _ _ f0;have g1:=Keeps.of_below hI.bel _ _ f1;have g2:=Keeps.of_below hI.bel _ _ f2;refine jY ?_;go_wp2_with fail
    refine jY ?_;go_wp2_with fail
    refine VK (J:=VY w m l (some ⟨g,0,none⟩) (some ⟨cb,off,none⟩) jA aF bp k) ?aiE ?aiz
    case aiE=>
     intro a V hX;obtain⟨ds',u2,u3,u6,u7,u8,u9,u10,u11,u12,u16,tH,tJ,tK,u20,u21,u22,u23,u24,u25,u26,u27,u28,u29,u30,u31,u32,u33,u34,u35,u36,u37,u38,tN,u40,tV,u42,tX,u44,rfl,hI'⟩:=hX;refine Ea ?_;go_wp2_with fail
     refine⟨N-1,by omega,?_⟩;unfold Qi;exact⟨k+1,ds',_,_,_,_,_,_,_,_,_,_,_,_,_,_,_,_,_,_,_,_,_,_,_,_,_,_,_,_,_,_,_,_,_,_,_,_,_,_,by omega,rfl,hI'⟩
    case aiz=>
     refine D9 ?_;refine jY ?_;go_wp2_with fail
     have hI1:=hI.below (aS V (.cells #[.int .i64 (i:Int),.slice la EP.length fG,.slice sa fst.length scap] 42));have A1:=ak.new V #[.int .i64 (i:Int),.slice la EP.length fG,.slice sa fst.length scap] 42;have b7:=hI.bel.size;generalize V.alloc _=V1 at *;have d0:V1.cell? ⟨V.heap.size,0,none⟩=some (.int .i64 (i:Int)):=A1.cell 0;clear g0 g1 g2 f0 f1 f2 HI hI A1;refine jY ?_;go_wp2_with fail
     refine (NW _ _ _ _ _).mono ?_;rintro e w4 ⟨rfl,hw4⟩;have oN:Below V1.heap.size V1 w4:=by rw [hw4];exact dS _ _ _
     have o1:w4.cell? ⟨V1.heap.size,0,none⟩=some (.slice (some ⟨cb,off,none⟩) m.code.length aF):=by rw [hw4];exact lZ _ _ _ _ 0
     have o2:w4.cell? ⟨V1.heap.size+1,0,none⟩=some (.int .i64 (i:Int)):=by rw [hw4];exact fC _ _ _ _ 0
     have EW:=hI1.below oN;have Dn:=hI1.bm.lt;have hb4:=EW.bm.lt;have z0:=Keeps.of_below EW.bel _ _ x0;have z1:=Keeps.of_below EW.bel _ _ x1;have z2:=Keeps.of_below EW.bel _ _ x2;have Eo:=hide (OY x i m.code.length aF cb off V1.heap.size (V1.heap.size+1) (fun k=>k=bp) w4 hi (by omega) o1 o2 ⟨z0,z1,z2⟩ (by omega) (fun k e=>by omega));clear hw4 o1 o2 d0 z0 z1 z2 x0 x1 x2;go_wp2_with fail
     refine D9 ?_
     refine PZ Tryz.func164 (gf:=158) (lb:= #[.pointer (some ⟨V1.heap.size,0,none⟩),.pointer (some ⟨V1.heap.size+1,0,none⟩)]) rfl (enters_of Tryz.func158 (by kernel_rfl) rfl) (ah Eo) rfl (fun k e=>by omega)
      (fun xs U=>∃dn,gy x i=dn++xs∧w4.heap.size≤U.heap.size∧jZ w U bp ds (fun j=>jK m (l.take k) j || dn.any fun y=>y.2 && y.1.toNat == j)) (fun _ _=>False) ?aja ⟨[],rfl,Nat.le_refl _,by simpa using EW⟩ ?ra1 ?aiO ?aiP ?aiQ ?ajb
     case aiO=>
      intro l y U K hK;rw [NY];simp only [List.setIfInBounds_toArray,List.set_cons_zero,List.set_cons_succ]
      gi_wp2
      exact hK
     case aja=>
      rintro xs U U' ⟨dn,h1,h2,h3⟩ hm;have:=oN.size;exact⟨dn,h1,Nat.le_trans h2 hm.size,h3.mods hm (fun j hj e=>by omega) (by omega) (fun D hD e=>by have:=(Array.getElem?_eq_some_iff.1 (EW.xR D hD)).1;omega)⟩
     case aiP=>
      rintro lp ⟨y1,y2⟩ xs U ⟨dn,hdn,TA,hU⟩
      cases y2 with
      | false =>
       have HU:Hid (∃dn,gy x i=dn++xs∧w4.heap.size≤U.heap.size∧jZ w U bp ds (fun j=>jK m (l.take k) j || dn.any fun y=>y.2 && y.1.toNat == j)):=⟨dn++ [(y1,false)],by rw [hdn];simp,TA,by simpa using hU⟩;clear hU hdn
       gi_wp2_with fail
       exact⟨ay.refl _ _,ah HU⟩
      | true =>
       have hy:gU x=true∧y1=x.a:=by
        have hm:(y1,true)∈gy x i:=by rw [hdn];simp
        unfold gy at hm
        cases hq:gU x with
        | false =>
         rw [hq] at hm;simp at hm
        | true =>
         rw [hq] at hm;refine⟨rfl,?_⟩;simpa using hm
       obtain⟨hy1,rfl⟩:=hy;obtain⟨q0,q1⟩:=hjj hy1;obtain⟨j,hja⟩:∃j:Nat,x.a=(j:Int):=⟨x.a.toNat,by omega⟩;rw [hja] at hdn q0 q1 ⊢
       have HU:Hid (∃dn,gy x i=dn++xs∧w4.heap.size≤(U.setCell ⟨bp,j,none⟩ (.bool true)).heap.size∧jZ w (U.setCell ⟨bp,j,none⟩ (.bool true)) bp ds (fun j=>jK m (l.take k) j || dn.any fun y=>y.2 && y.1.toNat == j)):=
        ⟨dn++ [((j:Int),true)],by rw [hdn];simp,by simpa using TA,hU.put agt (fun j'=>by simp [Bool.or_assoc])⟩
       have Gs:=hide ((ay.refl (fun j=>j=bp) U).setCell (p:=⟨bp,j,none⟩) (fun _=>rfl) (.bool true));have c5:U.cell? ⟨bp,j,none⟩=some (.bool (jK m (l.take k) j || dn.any fun y=>y.2 && y.1.toNat == j)):=by rw [hU.bm.cell];exact abu (by omega)
       have f5:=hU.bm.frozen j;have j40:(j:Int)<40:=by omega
       clear hU hdn hja hjj hy1
       gi_wp2_with fail
       exact⟨ah Gs,ah HU⟩
     case aiQ=>
      rintro D U hD ⟨dn,hdn,TA,hU⟩ hK;rw [List.append_nil] at hdn
      have hfe:(fun j=>jK m (l.take k) j || dn.any fun y=>y.2 && y.1.toNat == j)=jK m (l.take (k+1)):=by
       funext j
       rw [ah HJ j,←hdn,aic]
      rw [hfe] at hU;simp only [Exit.inBlock,Exit.then];unfold VY;exact⟨D::ds,_,_,_,_,_,_,_,_,_,_,_,_,_,_,_,_,_,_,_,_,_,_,_,_,_,_,_,_,_,_,_,_,_,_,_,_,_,_,rfl,hU.mark EW hK hD⟩
     case ajb=>
      rintro D cc U hD hF;exact hF.elim
   ·obtain rfl:k=l.length:=by omega
    have hk:¬(l.length:Int)<(l.length:Int):=by omega
    rw [List.take_length] at HI;clear hI;refine jY ?_;go_wp2_with fail
    refine jY ?_;go_wp2_with fail
    unfold VZ;exact⟨ds,_,_,_,_,_,_,_,_,_,_,_,_,_,_,_,_,_,_,_,_,_,_,_,_,_,_,_,_,_,_,_,_,_,_,_,_,_,_,_,_,_,rfl,ah HI⟩
 case rest=>
  intro a V hX;obtain⟨ds,u2,u3,u6,u7,u8,u9,u10,u11,u12,u13,u14,u15,u16,tH,tJ,tK,u20,u21,u22,u23,u24,u25,u26,u27,u28,u29,u30,u31,u32,u33,u34,u35,u36,u37,u38,tN,u40,tV,u42,tX,u44,rfl,hI⟩:=hX;have vF:Hid (jZ w V bp ds (jK m l)∧wH w V (Gf w B cs l) (.slice none 0 0) ((l.take 0).filter fun f=>jK m l f.pc.toNat)):=⟨hI,[],World.ownsRow_nil _ _ _ _,iU.nil⟩;clear hI;refine jY ?_;go_wp2_with fail
  refine VK (J:=VX w m l ra (Gf w B cs l) jA bp) ?last ?second
  case last=>
   intro a V hX;obtain⟨ds,dH,u0,u2,u3,u4,u6,u7,u8,u9,u11,u12,u13,u14,u15,u16,tH,tJ,tK,u20,u21,u22,u23,u24,u25,u26,u27,u28,u29,u30,u31,u32,u33,u34,u35,u36,u37,u38,tN,u40,tV,u42,tX,u44,rfl,hI,hF⟩:=hX;obtain⟨cs',iR,hR'⟩:=hF;obtain⟨fa,aG,rfl⟩:=cZ iR;have HL:=hide (And.intro hI (show wH w V (Gf w B cs l) (.slice fa (l.filter fun f=>jK m l f.pc.toNat).length aG) (l.filter fun f=>jK m l f.pc.toNat) from ⟨cs',iR,hR'⟩));clear hI iR hR' vF;refine jY ?_;go_wp2_with fail
   refine Ea ?_;go_wp2_with fail
   exact afX (ah HL).1 hB (fun _ _ h=>h.1) (ah HL).2 (fun V'=>results_tmp (t:=4) rfl _ _ _)
  case second=>
   refine jY ?_;go_wp2_with fail
   refine D9 ?_;refine VJ (MF w m l ra (Gf w B cs l) jA bp) l.length ?aj1 ?ai6
   case aj1=>unfold MF;exact⟨0,ds,_,_,_,_,_,_,_,_,_,_,_,_,_,_,_,_,_,_,_,_,_,_,_,_,_,_,_,_,_,_,_,_,_,_,_,_,_,_,_,_,by omega,rfl,(ah vF).1,(ah vF).2⟩
   case ai6=>
    clear vF;intro N a V hX;obtain⟨k,ds,dH,u0,u2,u3,u4,u6,u7,u8,u9,u11,u12,u13,u14,u15,u16,tH,tJ,tK,u20,u21,u22,u23,u24,u25,u26,u27,u28,u32,u33,u34,u35,u36,u37,u38,tN,u40,tV,u42,tX,u44,hN,rfl,hI,hF⟩:=hX
    by_cases hlt:k<l.length
    ·obtain⟨g,vl,vs,rfl,f0,f1,f2,hvl,hvs,hcut⟩:=ah BH k hlt;have hmem:=List.getElem_mem hlt;obtain⟨p0,p1⟩:=hpc _ hmem;have hfs:=afR (q:=fun f=>jK m l f.pc.toNat) hlt;have hfl:((l.take k).filter fun f=>jK m l f.pc.toNat).length≤40:=Nat.le_trans (List.length_filter_le _ _) (by rw [List.length_take];omega);have hin0:l[k]? =some l[k]:=List.getElem?_eq_getElem hlt;generalize l[k]=f at *;obtain⟨pc,EP,fst⟩:=f;dsimp only at *;obtain⟨i,rfl⟩:∃i:Nat,pc=(i:Int):=⟨pc.toNat,by omega⟩;rw [Int.toNat_natCast] at hfs;have hi:(i:Int)<40:=by omega
     have HVL:Hid (Gf w B cs l ⟨(i:Int),EP,fst⟩ [.int .i64 (i:Int),vl,vs]):=⟨⟨vl,vs,rfl,hvl,hvs⟩,k,hin0,hcut⟩;clear hin0 hcut;obtain⟨la,_,_,fG,rfl,_⟩:=hvl;obtain⟨sa,_,_,scap,rfl,_⟩:=hvs;have k0:(0:Int)≤(k:Int):=by omega
     have k1:(k:Int)<(l.length:Int):=by omega
     have g0:=Keeps.of_below hI.bel _ _ f0;have g1:=Keeps.of_below hI.bel _ _ f1;have g2:=Keeps.of_below hI.bel _ _ f2;have hbx:=aS V (.cells #[.int .i64 (i:Int),.slice la EP.length fG,.slice sa fst.length scap] 42);have hI1:=hI.below hbx;have hF1:=hF.below hbx;have c5:(V.alloc (.cells #[.int .i64 (i:Int),.slice la EP.length fG,.slice sa fst.length scap] 42)).cell? ⟨bp,i,none⟩=some (.bool (jK m l i)):=by rw [hI1.bm.cell];exact abu (by omega)
     have akN:=hI.bm.lt;have hbne:bp≠V.heap.size:=by omega
     cases hq:jK m l i with
     | false =>
      rw [hq] at c5;rw [hq,if_neg (by simp),List.append_nil] at hfs;rw [←hfs] at hF1;have HE:=hide (And.intro hI1 hF1);clear hI hF hI1 hF1 hfs hq f0 f1 f2;refine Ea ?_;go_wp2_with fail
      refine⟨N-1,by omega,?_⟩;unfold MF;exact⟨k+1,ds,_,_,_,_,_,_,_,_,_,_,_,_,_,_,_,_,_,_,_,_,_,_,_,_,_,_,_,_,_,_,_,_,_,_,_,_,_,_,_,_,by omega,rfl,(ah HE).1,(ah HE).2⟩
     | true =>
      rw [hq] at c5;rw [hq,if_pos rfl] at hfs;obtain⟨na,nn,kH,w3,happ,hF3,vW⟩:=hF1.snoc hI1 hfl (x:=⟨(i:Int),EP,fst⟩) rfl rfl (ah HVL) (V.heap.size+1) (by simp);rw [←hfs] at hF3;obtain⟨oL,hO3,oh⟩:=hF;obtain⟨va,fJ,rfl⟩:=cZ hO3;have HE:=hide (And.intro vW hF3);clear hI hI1 hF1 hfs hq f0 f1 f2 hF3 vW hO3 oh;refine Ea ?_;go_wp2_with (at_builtin;refine wpList_append_run rfl (.tmp 39) (.tmp 41) 36 rfl _ _ rfl rfl happ ?_)
      refine⟨N-1,by omega,?_⟩;unfold MF;exact⟨k+1,ds,_,_,_,_,_,_,_,_,_,_,_,_,_,_,_,_,_,_,_,_,_,_,_,_,_,_,_,_,_,_,_,_,_,_,_,_,_,_,_,_,by omega,rfl,(ah HE).1,(ah HE).2⟩
    ·obtain rfl:k=l.length:=by omega
     have hk:¬(l.length:Int)<(l.length:Int):=by omega
     rw [List.take_length] at hF;have HE:=hide (And.intro hI hF);clear hI hF;refine jY ?_;go_wp2_with fail
     refine jY ?_;go_wp2_with fail
     unfold VX;exact⟨ds,_,_,_,_,_,_,_,_,_,_,_,_,_,_,_,_,_,_,_,_,_,_,_,_,_,_,_,_,_,_,_,_,_,_,_,_,_,_,_,_,_,_,_,rfl,(ah HE).1,(ah HE).2⟩
end Go.Proofs.YtiiokkllmchohaaGreat
namespace Go.Proofs.YtiiokkllmchohaaGreat
open Go.RowKit Go.Shelf
attribute [local go_sem ↓] Go.wp_at_zero Go.wp_at_succ
attribute [local go_sem] bW
theorem Hf {cs:List Value}{sz k i:Nat}(u:Value):((cs.set (k*sz+i) u).drop (k*sz)).take sz=((cs.drop (k*sz)).take sz).set i u:=by
 rw [List.drop_set,if_neg (by omega),List.take_set,Nat.add_sub_cancel_left]
theorem He {cs:List Value}{sz k j i:Nat}(hi:i<sz)(hj:j≠k)(u:Value):((cs.set (k*sz+i) u).drop (j*sz)).take sz=(cs.drop (j*sz)).take sz:=by
 rw [List.drop_set]
 split
 ·rfl
 ·rw [List.take_set_of_le]
  rcases Nat.lt_or_ge j k with hlt | hge
  ·have:(j+1)*sz≤k*sz:=Nat.mul_le_mul_right _ hlt;rw [Nat.succ_mul] at this;omega
  ·have:(k+1)*sz≤j*sz:=Nat.mul_le_mul_right _ (by omega);rw [Nat.succ_mul] at this;omega
abbrev Xq (w:World)(v:Value):Nat→Prop:=fun g=>w.heap.size≤g∧v.ownBlock≠some g
def Et (w V:World)(v:Value)(R:Nat→aJ)(k j:Nat)(m:aC)(c:List Value):Prop:=if j<k then qK (sel (Xq w v) V) (jf m (R j)) c else qK w.cell? m c
def Xo (w V:World)(v:Value)(l:List aC)(R:Nat→aJ)(k:Nat)(cs:List Value):Prop:=
 ∃bd:Nat→Nat,w.heap.size≤bd 0∧(∀j,j<k→bd j≤bd (j+1))∧bd k≤V.heap.size∧∀(j:Nat) (m:aC),j<k→l[j]? =some m→∃D,yw V D (kX cs j 7) (jf m (R j))∧∀g,D g→bd j≤g∧g<bd (j+1)∧v.ownBlock≠some g
theorem yK {bd:Nat→Nat}{k:Nat}(h:∀j,j<k→bd j≤bd (j+1)):∀ {i j:Nat},i≤j→j≤k→bd i≤bd j:=by
 intro i j hij
 induction j with
 | zero =>
  intro _;obtain rfl:i=0:=by omega
  exact Nat.le_refl _
 | succ j ih =>
  intro hk
  by_cases e:i=j+1
  ·subst e;exact Nat.le_refl _
  ·exact Nat.le_trans (ih (by omega) (by omega)) (h j (by omega))
structure yF (w V:World)(vp v:Value)(l:List aC)(R:Nat→aJ)(k:Nat):Prop where
 bel:Below w.heap.size w V
 bp:ak V w.heap.size 24 [vp]
 row:∃cs,V.ownsRow (w.heap.size+1) 63 7 v l.length cs∧(∀(j:Nat) (m:aC),l[j]? =some m→(Et w V v R k j m ((cs.drop (j*7)).take 7)))∧Xo w V v l R k cs
theorem yF.next {w V V':World}{vp v:Value}{l:List aC}{R:Nat→aJ}{k g:Nat}{m:aC}(i:yF w V vp v l R k){cs:List Value}(hC:∀(j:Nat) (m:aC),l[j]? =some m→Et w V v R k j m ((cs.drop (j*7)).take 7))(Oh:Xo w V v l R k cs)(hg:v.ownBlock=some g)(hgw:w.heap.size<g)(hk:l[k]? =some m)(hM:ay (fun j=>j=g) V V')
  {slot ret loc stk va va0 vc vc0 vf kL:Value} (hcut:(cs.drop (k*7)).take 7= [slot,va0,ret,loc,stk,vc0,kL]) (hO:V'.ownsRow (w.heap.size+1) 63 7 v l.length (((cs.set (k*7+1) va).set (k*7+5) vc).set (k*7+6) vf))
  (hm:qK (sel (Xq w v) V') (jf m (R k)) [slot,va,ret,loc,stk,vc,vf]) (hE:∃D,yw V' D [slot,va,ret,loc,stk,vc,vf] (jf m (R k))∧∀q,D q→V.heap.size≤q∧v.ownBlock≠some q):yF w V' vp v l R (k+1):=by
 refine⟨i.bel.trans (hM.below i.bel.size (fun j hj e=>by omega)),i.bp.mods hM (by omega),_,hO,fun j x hj=>?_,?_⟩;rotate_left
 ·obtain⟨bd,b0,b1,b2,b3⟩:=Oh;obtain⟨Dk,hE1,hE2⟩:=hE;have hsz:=hM.size;obtain⟨Ry,hlo,hhi⟩:∃f:Nat→Nat,(∀j,j≤k→f j=bd j)∧f (k+1)=V'.heap.size:=⟨fun j=>if j≤k then bd j else V'.heap.size,fun j hj=>if_pos hj,if_neg (by omega)⟩;refine⟨Ry,by rw [hlo 0 (Nat.zero_le _)];exact b0,fun j hj=>?_,by rw [hhi];exact Nat.le_refl _,fun j x hj hx=>?_⟩
  ·by_cases e:j+1≤k
   ·rw [hlo j (by omega),hlo (j+1) e];exact b1 j (by omega)
   ·obtain rfl:j=k:=by omega
    rw [hlo j (Nat.le_refl _),hhi];omega
  ·by_cases e:j=k
   ·subst e;rw [hk] at hx
    cases hx
    rw [hlo j (Nat.le_refl _),hhi];refine⟨Dk,?_,fun q hq=>⟨by have:=(hE2 q hq).1;omega,DN.lt hE1 q hq,(hE2 q hq).2⟩⟩;unfold kX;rw [Hf,Hf,Hf,hcut];exact hE1
   ·rw [hlo j (by omega),hlo (j+1) (by omega)];obtain⟨D,h1,h2⟩:=b3 j x (by omega) hx;have hup:=yK b1 (show j+1≤k by omega) (Nat.le_refl _);refine⟨D,?_,h2⟩;unfold kX;rw [He (by omega) e,He (by omega) e,He (by omega) e];exact DN.stay (fun q hq=>hM.block q (by have:=(h2 q hq).2.1;omega) (fun e=>(h2 q hq).2.2 (by rw [hg,e]))) h1
 by_cases e:j=k
 ·subst e;rw [hk] at hj
  cases hj
  rw [Hf,Hf,Hf,hcut];unfold Et;rw [if_pos (by omega)];exact hm
 ·rw [He (by omega) e,He (by omega) e,He (by omega) e];have h:=hC j x hj;unfold Et at h ⊢
  by_cases hlt:j<k
  ·rw [if_pos hlt] at h;rw [if_pos (by omega)];exact qK.keep (dR hM fun b _ hb=>⟨fun e=>hb.2 (by rw [hg,e]),hb⟩) h
  ·rw [if_neg hlt] at h;rw [if_neg (by omega)];exact h
def Xp (l:List aC)(Q:Nat→Option aJ)(w w':World)(e:Ending):Prop:=
 ((∃v,e= .returned v∧aV 7 (o8 (sel (fun k=>w.heap.size≤k) w')) v (l.mapIdx fun k m=>jf m ((Q k).getD sv0))∧(∃D,mO 63 7 yw w' D v (l.mapIdx fun k m=>jf m ((Q k).getD sv0))∧∀g,D g→w.heap.size≤g)∧∀(k:Nat) (m:aC),l[k]? =some m→Q k≠none)∨(e= .panicked (jB 5)∧∃(k:Nat) (m:aC),l[k]? =some m∧Q k=none))∧Below w.heap.size w w'
theorem yF.fin {w V:World}{vp v:Value}{l:List aC}{R:Nat→aJ}(i:yF w V vp v l R l.length):aV 7 (o8 (sel (fun k=>w.heap.size≤k) V)) v (l.mapIdx fun k m=>jf m (R k)):=by
 obtain⟨cs,hO,hC,_⟩:=i.row;have iR:V.ownsRow (w.heap.size+1) 63 7 v (l.mapIdx fun k m=>jf m (R k)).length cs:=by simpa using hO
 refine abD iR ⟨iR.1,fun j x hj=>?_⟩ (fun g hg=>by have:=(hO.lt g hg).1;omega);rw [List.getElem?_mapIdx] at hj;obtain⟨m,h1,rfl⟩:=Option.map_eq_some_iff.1 hj;have h:=hC j m h1;unfold Et at h;rw [if_pos (List.getElem?_eq_some_iff.1 h1).1] at h;exact qK.keep (dR (ay.refl (fun _=>False) V) fun b _ hb=>⟨fun f=>f,hb.1⟩) h
theorem yF.own {w V:World}{vp v:Value}{l:List aC}{R:Nat→aJ}(i:yF w V vp v l R l.length):∃D,mO 63 7 yw V D v (l.mapIdx fun k m=>jf m (R k))∧∀g,D g→w.heap.size≤g:=by
 obtain⟨cs,hO,_,bd,b0,b1,b2,b3⟩:=i.row;have iR:V.ownsRow (w.heap.size+1) 63 7 v (l.mapIdx fun k m=>jf m (R k)).length cs:=by simpa using hO
 have hD:∀j,∃D:Nat→Prop,∀(hj:j<l.length),yw V D (kX cs j 7) (jf l[j] (R j))∧∀g,D g→bd j≤g∧g<bd (j+1)∧v.ownBlock≠some g:=fun j=>by
  by_cases hj:j<l.length
  ·obtain⟨D,h1,h2⟩:=b3 j _ hj (List.getElem?_eq_getElem hj);exact⟨D,fun _=>⟨h1,h2⟩⟩
  ·exact⟨fun _=>False,fun h=>absurd h hj⟩
 obtain⟨Ds,hDs⟩:∃Ds:Nat→Nat→Prop,∀j (hj:j<l.length),yw V (Ds j) (kX cs j 7) (jf l[j] (R j))∧∀g,Ds j g→bd j≤g∧g<bd (j+1)∧v.ownBlock≠some g:=⟨fun j=>(hD j).choose,fun j=>(hD j).choose_spec⟩;refine⟨fun g=>v.ownBlock=some g∨∃k,k<l.length∧(k<l.length∧Ds k g),⟨_,cs,fun k g=>k<l.length∧Ds k g,iR,fun k x hk=>?_,fun j k g hjk h1 h2=>?_,fun k g h1 h2=>?_,fun g=>by simp⟩,fun g hg=>?_⟩
 ·rw [List.getElem?_mapIdx] at hk;obtain⟨m,h1,rfl⟩:=Option.map_eq_some_iff.1 hk;obtain⟨hkl,e⟩:=List.getElem?_eq_some_iff.1 h1;have h9:=(hDs k hkl).1;rw [e] at h9;obtain⟨va,vc,vf,Df,a1,a2,a3,a4,a5,a6,a7⟩:=h9;exact⟨va,vc,vf,Df,a1,a2,a3,a4,a5,a6,fun g=>⟨fun h=>(a7 g).1 h.2,fun h=>⟨hkl,(a7 g).2 h⟩⟩⟩
 ·obtain⟨hj1,hf1⟩:=h1;obtain⟨hk1,hf2⟩:=h2;have c1:=(hDs j hj1).2 g hf1;have c2:=(hDs k hk1).2 g hf2
  rcases Nat.lt_or_ge j k with h | h
  ·have:=yK b1 (show j+1≤k by omega) (by omega);omega
  ·have:=yK b1 (show k+1≤j by omega) (by omega);omega
 ·exact ((hDs k h1.1).2 g h1.2).2.2 h2
 ·rcases hg with hg | ⟨k,hk,_,hg⟩
  ·have:=(hO.lt g hg).1;omega
  ·have:=((hDs k hk).2 g hg).1;have:=yK b1 (Nat.zero_le k) (by omega);omega
theorem UM {w:World}{B:Nat}{e:TypeId}{sz n:Nat}{v:Value}{cs:List Value}(h:w.ownsRow B e sz v n cs){g:Nat}(hg:v.ownBlock=some g)(j:Nat):w.frozen? ⟨g,j,none⟩=false:=by
 obtain⟨cur,hb⟩:=lD h hg;exact hb.frozen j
theorem abA {w:World}{B:Nat}{e:TypeId}{sz n:Nat}{v:Value}{cs:List Value}(h:w.ownsRow B e sz v n cs){g:Nat}(hg:v.ownBlock=some g){j:Nat}(hj:j<n*sz):w.cell? ⟨g,j,none⟩=cs[j]? :=by
 rcases h.2 with ⟨rfl,_⟩ | ⟨g',cap,cur,rfl,h2,h3,h4,h5,h6,h7⟩
 ·cases hg
 ·cases hg
  rw [←h7,List.getElem?_take,if_pos hj];unfold World.cell?;simp only [h3];simp
theorem UO {w:World}{B:Nat}{e:TypeId}{sz n:Nat}{v:Value}{cs:List Value}(h:w.ownsRow B e sz v n cs){g:Nat}(hg:v.ownBlock=some g)(j:Nat)(u:Value):(w.setCell ⟨g,j,none⟩ u).ownsRow B e sz v n (cs.set j u)∧ay (fun k=>k=g) w (w.setCell ⟨g,j,none⟩ u):=
 ⟨abE h hg j u,(ay.refl (fun k=>k=g) w).setCell (p:=⟨g,j,none⟩) (fun _=>rfl) _⟩
theorem af9 {p:List aj}{c k:Int}{m:aC}{r:aJ}(hF:bD p=0)(hm:bQ p c k=some m):(dX m r m.code.length).length≤40∧(∀f∈dX m r m.code.length,0≤f.pc∧f.pc<(m.code.length:Int))∧
  ∀f∈dX m r m.code.length,gU (bH m f.pc.toNat)=true→0≤(bH m f.pc.toNat).a∧(bH m f.pc.toNat).a<(m.code.length:Int):=by
 obtain⟨_,_,O⟩:=qY hF hm
 have hpc:∀f∈dX m r m.code.length,0≤f.pc∧f.pc<(m.code.length:Int):=fun f hf=>by
  obtain⟨i,h1,_,rfl⟩:=ER hf;exact⟨Int.natCast_nonneg _,by show (i:Int)<_;omega⟩
 refine⟨Nat.le_trans (N8 _ _ _) O.c40,hpc,fun f hf hj=>?_⟩;have hlt:f.pc.toNat<m.code.length:=by have:=hpc f hf;omega
 have hmem:bH m f.pc.toNat∈m.code:=by
  unfold bH;rw [List.getElem?_eq_getElem hlt];exact List.getElem_mem _
 have J:=AO (p:=p) (m:=m) (op:=(bH m f.pc.toNat).op) (a:=(bH m f.pc.toNat).a) (b:=(bH m f.pc.toNat).b) (O.ins _ hmem);refine J.jmp ?_;unfold gU at hj;simp only [Bool.or_eq_true,beq_iff_eq] at hj;omega
theorem aen (m:aC)(r:aJ):∀(i j:Nat) (f g:bF),(mV m r)[i]? =some f→(mV m r)[j]? =some g→f.pc=g.pc→i=j:=by
 have hs:(dX m r m.code.length).Pairwise fun a b=>a.pc<b.pc:=by
  have key:∀n,(dX m r n).Pairwise (fun a b=>a.pc<b.pc)∧∀f∈dX m r n,f.pc<(n:Int):=by
   intro n
   induction n with
   | zero => exact ⟨List.Pairwise.nil, fun f hf => by cases hf⟩
   | succ n ih =>
    unfold dX
    split
    ·refine⟨List.pairwise_append.2 ⟨ih.1,List.pairwise_singleton _ _,fun a ha b hb=>?_⟩,fun f hf=>?_⟩
     ·obtain rfl:=List.mem_singleton.1 hb;exact ih.2 a ha
     ·rcases List.mem_append.1 hf with h | h
      ·have:=ih.2 f h;omega
      ·obtain rfl:=List.mem_singleton.1 h
       show (n:Int)<_
       omega
    ·rw [List.append_nil];exact⟨ih.1,fun f hf=>by have:=ih.2 f hf;omega⟩
  exact (key _).1
 have hc:(mV m r).Pairwise fun a b=>a.pc<b.pc:=hs.filter _;rw [List.pairwise_iff_getElem] at hc;intro i j f g hi hj e;obtain⟨hi',ei⟩:=List.getElem?_eq_some_iff.1 hi;obtain⟨hj',ej⟩:=List.getElem?_eq_some_iff.1 hj
 rcases Nat.lt_trichotomy i j with h | h | h
 ·have:=hc i j hi' hj' h;rw [ei,ej] at this;omega
 ·exact h
 ·have:=hc j i hj' hi' h;rw [ei,ej] at this;omega
theorem aek (p:List aj)(vp:Value)(c:Nat)(w:World)(hp:aX w vp p)(hF:bD p=0)(hz:bn p≤4194304)(Q:Nat→Nat→Option aJ)(hQ:Ends p Q)(hc:c<p.length) :
  Calls Tryz.prog 107 #[.agg #[vp],.int .i64 (c:Int)] w fun e w'=>Xp p[c].aB (Q c) w w' e:=by
 have HP:=hide hp
 have HQ:Hid (∀(k:Nat) (m:aC),p[c].aB[k]? =some m→bQ p (c:Int) (k:Int)=some m∧∃N,jC p m N (dK sv0 0 (dO c m))=some (Q c k)):=fun k m hm=>by
  have:bQ p (c:Int) (k:Int)=some m:=by
   unfold bQ;rw [if_pos ⟨by omega,by omega⟩,Int.toNat_natCast,Int.toNat_natCast,List.getElem?_eq_getElem hc];exact hm
  exact⟨this,hQ c k m this⟩
 obtain⟨pa,pb,dB,aA,rfl,_,hpa,hpr⟩:=aZ hp;obtain rfl:=hpa (bJ hc);obtain⟨vf,vm,c0,c1,c2,hf,hmt⟩:=hpr c hc;have hml:p[c].aB.length≤4194304:=Nat.le_trans (tC _) (Nat.le_trans (nR (List.getElem_mem hc)) hz);have HF:=hide hF;clear hp hQ hpr hpa hf c0 c1 hF;generalize p[c].aB=l at *;generalize Q c=q at *;obtain⟨ma,dW,news,rfl,aar,hnl,hRow,hsrc,hone⟩:=ahZ hmt;clear hmt;have hk0:(0:Int)≤(c:Int):=by omega
 have hk1:(c:Int)<(p.length:Int):=by omega
 have hbW:=aS w (.cells #[.slice (some ⟨pb,dB,none⟩) p.length aA] 24);have A0:=ak.new w #[.slice (some ⟨pb,dB,none⟩) p.length aA] 24;have hWs:(w.alloc (.cells #[.slice (some ⟨pb,dB,none⟩) p.length aA] 24)).heap.size=w.heap.size+1:=by simp
 have c2':=Keeps.of_below hbW _ _ c2;have ak6:=cell_lt c2;go_enter Tryz.func107,Tryz.ntmps107
 go_wp2_with fail
 generalize w.alloc _=W at *;refine (aei ma _ dW news W hnl aar (fun ad e j u h=>Keeps.of_below hbW _ _ (hsrc ad e j u h)) hone hml).mono ?_;rintro e w1 ⟨v0,rfl,hO,hb1⟩;rw [hWs] at hO
 have HI0:Hid (yF w w1 (.slice (some ⟨pb,dB,none⟩) p.length aA) v0 l (fun k=>(q k).getD sv0) 0):=by
  refine⟨hbW.trans (hb1.mono hbW.size),A0.below hb1 A0.lt,news,hO,fun j m hj=>?_,⟨fun _=>w.heap.size,Nat.le_refl _,fun _ h=>by omega,Nat.le_trans hbW.size hb1.size,fun j m h=>by omega⟩⟩;unfold Et;rw [if_neg (by omega)];exact hRow.2 j m hj
 obtain⟨ga,ES,rfl⟩:=cZ hO;clear hO hb1 A0 c2 c2' hbW hWs hRow hsrc hone hnl aar;go_wp2_with fail
 go_loopw [17] (fun i wr=>∃k:Nat,k≤l.length∧i= .int .i64 k∧(∀(j:Nat) (m:aC),j<k→l[j]? =some m→q j≠none)∧yF w wr (.slice (some ⟨pb,dB,none⟩) p.length aA) (.slice ga l.length ES) l (fun k=>(q k).getD sv0) k) (fun i _=>l.length-(intOf i).toNat)
 case atStart=>exact ⟨0,Nat.zero_le _,rfl,fun j m h=>(by omega),ah HI0⟩
 case round=>
  obtain⟨k,hk,rfl,hall,hI⟩:=hrel;have HI:=hide hI;have HA:=hide hall;clear hall
  by_cases hlt:k<l.length
  ·obtain⟨cs,hO,hC,Oh⟩:=hI.row;have HOW:=hide Oh;clear Oh;obtain⟨g,akJ,hge,_,hgb,hcell⟩:=O6 hO (by omega)
   injection hge with e1 e2 e3
   subst e1 e3;have hgw:=(hO.lt g hgb).1;have hgl:=(hO.lt g hgb).2;obtain⟨m,hm⟩:∃m,l[k]? =some m:=⟨_,List.getElem?_eq_getElem hlt⟩;have hck:=hC k m hm;unfold Et at hck;rw [if_neg (by omega)] at hck;obtain⟨va,aQ,dH,hcut,hv⟩:=hck;have key:∀i,i<7→wr.cell? ⟨g,k*7+i,none⟩= [Value.int .i64 m.slot,va,.int .i64 m.ret,.int .i64 m.locals,.int .i64 m.stack,aQ,dH][i]? :=fun i hi=>by rw [hcell _ (by omega),DV hi,hcut]
   obtain⟨hown,N,hN⟩:=ah HQ k m hm;obtain⟨_,_,O⟩:=qY (ah HF) hown;have hl0:=Y4 (ah HF) hown;have G:=CW (ah HF) hz;have HV:=hide hv;obtain⟨aa,aI,rfl,Fa,KL⟩:=rH hv.1;obtain⟨ca,aF,aey,rfl,aac,hcl,aaf,aag,aad⟩:=ahs hv.2.1;obtain⟨fa,_,_,aG,rfl,_⟩:=hv.2.2;have m0:wr.cell? ⟨g,k*7,none⟩=some (.int .i64 m.slot):=key 0 (by omega);have m1:wr.cell? ⟨g,k*7+1,none⟩=some (.slice aa m.args.length aI):=key 1 (by omega);have m2:wr.cell? ⟨g,k*7+2,none⟩=some (.int .i64 m.ret):=key 2 (by omega);have m3:wr.cell? ⟨g,k*7+3,none⟩=some (.int .i64 m.locals):=key 3 (by omega);have m4:wr.cell? ⟨g,k*7+4,none⟩=some (.int .i64 m.stack):=key 4 (by omega)
   have m5:wr.cell? ⟨g,k*7+5,none⟩=some (.slice ca m.code.length aF):=key 5 (by omega);have m6:wr.cell? ⟨g,k*7+6,none⟩=some (.slice fa m.frames.length aG):=key 6 (by omega);have q0:(0:Int)≤(k:Int):=by omega
   have q1:(k:Int)<(l.length:Int):=by omega
   have HC:=hide hC;have Qv:=hide hcut;have HO:=hide hO;have hbx:=aS wr (.cells #[.int .i64 m.slot,.slice aa m.args.length aI,.int .i64 m.ret,.int .i64 m.locals,.int .i64 m.stack,.slice ca m.code.length aF,.slice fa m.frames.length aG] 63);have BX:=ak.new wr #[.int .i64 m.slot,.slice aa m.args.length aI,.int .i64 m.ret,.int .i64 m.locals,.int .i64 m.stack,.slice ca m.code.length aF,.slice fa m.frames.length aG] 63;have hbz:=hI.bel.trans (hbx.mono hI.bel.size);have B0:=hI.bp.below hbx hI.bp.lt;clear key hcell hC hcut hI hO hv;go_wp2_with fail
   generalize wr.alloc _=Z at *;have hv7:=O.a7;have Z7:=O.c40;refine (RP aa _ aI (m.args.map (Value.int .i64)) Z (by simp) (fun e=>⟨by rw [(Fa e).1];rfl,(Fa e).2⟩) (fun ad e j u h=>Keeps.of_below hbz _ _ (KL ad e j u h)) (wC _) (by omega)).mono ?_;rintro e w2 ⟨zh,rfl,nK,hb2⟩;have Zt:aV 1 (fE (sel (fun j=>Z.heap.size≤j) w2)) zh m.args:=rQ nK (fun g hg=>(nK.lt g hg).1);have Gt:Hid (qL w2 43 1 zh m.args.length∧∀q,zh.ownBlock=some q→Z.heap.size≤q):=⟨⟨_,_,nK⟩,fun q hq=>(nK.lt q hq).1⟩;obtain⟨Ci,Cj,rfl⟩:=cZ nK;have hbw2:=hbx.trans (hb2.mono hbx.size)
   have hO2:=eP (ah HO) (ay.of_below hbw2) (fun g' hg' e=>by have:=((ah HO).lt g' hg').2;omega);obtain⟨hO3,dh⟩:=UO hO2 hgb (k*7+1) (.slice Ci m.args.length Cj);have s1:w2.cell? ⟨g,k*7+1,none⟩=some (.slice aa m.args.length aI):=Keeps.of_below hbw2 _ _ m1;have fz1:=UM hO2 hgb (k*7+1);have Qa:=(BX.below hb2 BX.lt).mods dh (by omega);have x5:(w2.setCell ⟨g,k*7+1,none⟩ (.slice Ci m.args.length Cj)).cell? ⟨wr.heap.size,5,none⟩=some (.slice ca m.code.length aF):=Qa.cell 5;have Zz:ay (fun j=>j=g) wr (w2.setCell ⟨g,k*7+1,none⟩ (.slice Ci m.args.length Cj)):=(fB hbw2).trans dh (fun _ _ e=>e);have Gn:=hide Zt
   clear m0 m1 m2 m3 m4 m5 m6 nK hO2 Zt Fa KL;go_wp2_with fail
   generalize w2.setCell _ _=w3 at *;clear s1 fz1 x5;have hbw3:Below w.heap.size w w3:=(ah HI).bel.trans (Zz.below (ah HI).bel.size (fun j hj e=>by omega));refine (aeh ca _ aF aey w3 hcl aac (fun ad e j u h=>Keeps.of_below hbw3 _ _ (aag ad e j u h)) aad (by omega)).mono ?_;rintro e w4 ⟨Bo,rfl,H8,hb4⟩;have Zu:aV 3 (vw (sel (fun j=>w3.heap.size≤j) w4)) Bo m.code:=ait H8 aaf (fun g hg=>(H8.lt g hg).1);have HOC:Hid (qL w4 60 3 Bo m.code.length∧∀q,Bo.ownBlock=some q→w3.heap.size≤q):=⟨⟨_,_,H8⟩,fun q hq=>(H8.lt q hq).1⟩;obtain⟨ca',CB,rfl⟩:=cZ H8;have hO4:=eP hO3 (ay.of_below hb4) (fun g' hg' e=>by have:=(hO3.lt g' hg').2;omega)
   obtain⟨ZC,bU⟩:=UO hO4 hgb (k*7+5) (.slice ca' m.code.length CB)
   have s5:w4.cell? ⟨g,k*7+5,none⟩=some (.slice ca m.code.length aF):=by
    rw [abA hO4 hgb (by omega),List.getElem?_set_ne (by omega),DV (by omega),ah Qv];rfl
   have fz5:=UM hO4 hgb (k*7+5);have Qb:=(Qa.below hb4 Qa.lt).mods bU (by omega);have Ti:ay (fun j=>j=g) wr (w4.setCell ⟨g,k*7+5,none⟩ (.slice ca' m.code.length CB)):=(Zz.trans (fB hb4) (fun _ _ e=>e)).trans bU (fun _ _ e=>e);have QC:=hide Zu;clear H8 hO4 Zu hcl aac aag aad aaf;go_wp2_with fail
   generalize w4.setCell _ _=w5 at *;clear s5 fz5;have qw:Below w.heap.size w w5:=(ah HI).bel.trans (Ti.below (ah HI).bel.size (fun j hj e=>by omega));have P8:=(ah HI).bp.mods Ti (by omega)
   have hold:∀w',Below w5.heap.size w5 w'→(w'.cell? ⟨w.heap.size,0,none⟩=some (.slice (some ⟨pb,dB,none⟩) p.length aA)∧w'.cell? ⟨wr.heap.size,0,none⟩=some (.int .i64 m.slot)∧w'.cell? ⟨wr.heap.size,1,none⟩=some (.slice aa m.args.length aI)∧w'.cell? ⟨wr.heap.size,2,none⟩=some (.int .i64 m.ret)∧w'.cell? ⟨wr.heap.size,3,none⟩=some (.int .i64 m.locals)∧w'.cell? ⟨wr.heap.size,4,none⟩=some (.int .i64 m.stack)∧w'.cell? ⟨wr.heap.size,5,none⟩=some (.slice ca m.code.length aF)∧w'.cell? ⟨wr.heap.size,6,none⟩=some (.slice fa m.frames.length aG)):=fun U hU=>
    have kk:=Qb.below hU Qb.lt
    ⟨(P8.below hU P8.lt).cell 0,kk.cell 0,kk.cell 1,kk.cell 2,kk.cell 3,kk.cell 4,kk.cell 5,kk.cell 6⟩
   have ku:=hide hold;clear hold;refine wp_region_held_drew (S:=(fun w'=>w'.cell? ⟨w.heap.size,0,none⟩=some (.slice (some ⟨pb,dB,none⟩) p.length aA)∧w'.cell? ⟨wr.heap.size,0,none⟩=some (.int .i64 m.slot)∧w'.cell? ⟨wr.heap.size,1,none⟩=some (.slice aa m.args.length aI)∧w'.cell? ⟨wr.heap.size,2,none⟩=some (.int .i64 m.ret)∧w'.cell? ⟨wr.heap.size,3,none⟩=some (.int .i64 m.locals)∧w'.cell? ⟨wr.heap.size,4,none⟩=some (.int .i64 m.stack)∧w'.cell? ⟨wr.heap.size,5,none⟩=some (.slice ca m.code.length aF)∧w'.cell? ⟨wr.heap.size,6,none⟩=some (.slice fa m.frames.length aG))) (by kernel_rfl) ?_ (fun hHeld=>?_)
   ·exact (ah ku) _ ((Below.refl _ _).drew)
   refine au 36 0 ?_;refine au 37 1 ?_;refine au 38 2 ?_;refine au 39 3 ?_;refine au 40 4 ?_;refine au 41 5 ?_;refine au 42 6 ?_;refine aW 7 (fun K hK=>?_);go_simp;refine (acG p _ (c:Int) m _ _ _ _ (aP (Keeps.of_below ((Below.refl _ _).drew)) (aP (Keeps.of_below qw) (ah HP))) (bV.keep (Keeps.of_below ((Below.refl _ _).drew)) (bV.keep (Keeps.of_below qw) (ah HV))) G hk0 hk1 O hl0 N (q k) hN).mono ?_;rintro e w7 ⟨h1,h2,hb7⟩;have Fh:Below w5.heap.size w5 w7:=⟨hb7.os,hb7.tape,hb7.output,hb7.size,hb7.block⟩
   cases hq:q k with
   | none =>
    obtain rfl:=h2 hq;have HR:Hid (Xp l q w w7 (.panicked (jB 5))):=⟨.inr ⟨rfl,k,m,hm,hq⟩,qw.trans (Fh.mono qw.size)⟩;clear h1 h2 hq hN hb7;go_wp2_with fail
    exact⟨rfl,ah HR⟩
   | some r =>
    obtain⟨v8,rfl,hFr⟩:=h1 r hq;obtain⟨ra,jA,rfl⟩:=cZ hFr.choose_spec.1;have Qz:=hide (show lT w7 w5.heap.size _ _ from hFr);have QU:=hide hq;clear h1 h2 hq hN hb7 hFr;go_wp2_with fail
    refine hK.out _ _ ((ah ku) _ Fh) (fun hHeld=>?_);clear hK K;try simp only [Act.put,aK,aO,aN]
    refine aW 8 (fun K hK=>?_);go_simp;have agv:=qw.trans (Fh.mono qw.size);obtain⟨fk1,fk2,fk3⟩:=af9 (r:=r) (ah HF) hown;obtain⟨cs8,ZF,SY,ZB⟩:=ah Qz;refine (aej m _ _ _ w5.heap.size w7 (G8 (Keeps.of_below agv) (ah HV).2.1) cs8 ZF SY Fh.size fk1 Z7 fk2 fk3).mono ?_;rintro e w8 ⟨v9,rfl,Tc,⟨YF,Tq,KE⟩,hb8⟩;rw [←aem] at Tc Tq KE;have HPK:=hide (agd SY ZB (aen m r) Tq KE (fun f c h=>h.2) (fun g _ hg=>hb8.block g hg) Fh.size);clear ZF SY ZB Tq KE;have HFP:=hide Tc;have Om:Below w5.heap.size w5 w8:=Fh.trans (hb8.mono Fh.size)
    have Tn:=eP ZC (ay.of_below Om) (fun g' hg' e=>by have:=(ZC.lt g' hg').2;omega);obtain⟨na,_,_,kH,rfl,_⟩:=Tc;obtain⟨Og,Tf⟩:=UO Tn hgb (k*7+6) (.slice na (mV m r).length kH)
    have s6:w8.cell? ⟨g,k*7+6,none⟩=some (.slice fa m.frames.length aG):=by
     rw [abA Tn hgb (by omega),List.getElem?_set_ne (by omega),List.getElem?_set_ne (by omega),DV (by omega),ah Qv];rfl
    have Zh:=UM Tn hgb (k*7+6);have EX:ay (fun j=>j=g) w5 (w8.setCell ⟨g,k*7+6,none⟩ (.slice na (mV m r).length kH)):=(fB Om).trans Tf (fun _ _ e=>e)
    have HI2:Hid (yF w (w8.setCell ⟨g,k*7+6,none⟩ (.slice na (mV m r).length kH)) (.slice (some ⟨pb,dB,none⟩) p.length aA) (.slice (some ⟨g,0,none⟩) l.length ES) l (fun k=>(q k).getD sv0) (k+1)):=by
     have hz2:=hbx.size;have hz3:=dh.size;have xQ:=hb2.size;have hsw:=(ah HI).bel.size;refine (ah HI).next (ah HC) (ah HOW) hgb (by omega) hm (Ti.trans EX (fun _ _ e=>e)) (ah Qv) Og ⟨_,_,_,rfl,?_,?_,?_⟩ ?_
     ·refine dA (dR ((dh.trans (fB hb4) (fun _ _ e=>e)).trans (bU.trans EX (fun _ _ e=>e)) (fun _ _ e=>e)) fun j hj hS=>⟨fun e=>by omega,by omega,fun e=>?_⟩) (ah Gn);have e':g=j:=Option.some.inj e;omega
     ·refine G8 (dR (bU.trans EX (fun _ _ e=>e)) fun j hj hS=>⟨fun e=>by omega,by omega,fun e=>?_⟩) (ah QC);have e':g=j:=Option.some.inj e;omega
     ·rw [ah QU];have hz6:=bU.size;have hz7:=hb4.size;refine Hz (dR Tf fun j hj hS=>⟨fun e=>by omega,by omega,fun e=>?_⟩) (ah HFP);have e':g=j:=Option.some.inj e;omega
     ·obtain⟨Df,hD1,hD2⟩:=ah HPK;obtain⟨wz,oa2⟩:=ah Gt;obtain⟨wB,oc2⟩:=ah HOC;have hz6:=bU.size;have hz7:=hb4.size;have hz8:=Om.size;have hMa:ay (fun j=>j=g) w2 (w8.setCell ⟨g,k*7+6,none⟩ (.slice na (mV m r).length kH)):=(dh.trans (fB hb4) (fun _ _ e=>e)).trans (bU.trans EX (fun _ _ e=>e)) (fun _ _ e=>e);have hMc:ay (fun j=>j=g) w4 (w8.setCell ⟨g,k*7+6,none⟩ (.slice na (mV m r).length kH)):=bU.trans EX (fun _ _ e=>e);have la:∀q,(Value.slice Ci m.args.length Cj).ownBlock=some q→wr.heap.size≤q∧q<w2.heap.size:=fun q hq=>⟨by have:=oa2 q hq;omega,wz.lt hq⟩
      have lc:∀q,(Value.slice ca' m.code.length CB).ownBlock=some q→w2.heap.size≤q∧q<w4.heap.size:=fun q hq=>⟨by have:=oc2 q hq;omega,wB.lt hq⟩;refine⟨fun q=>(Value.slice Ci m.args.length Cj).ownBlock=some q∨(Value.slice ca' m.code.length CB).ownBlock=some q∨Df q,⟨_,_,_,Df,rfl,wz.stay (fun q hq=>hMa.block q (la q hq).2 (fun e=>by have:=(la q hq).1;omega)),wB.stay (fun q hq=>hMc.block q (lc q hq).2 (fun e=>by have:=(lc q hq).1;omega)),?_,fun q hq=>⟨fun e=>by have:=(la q hq).2;have:=(lc q e).1;omega,fun e=>by have:=(la q hq).2;have:=hD2 q e;omega⟩,fun q hq e=>by have:=(lc q hq).2;have:=hD2 q e;omega,fun q=>Iff.rfl⟩,fun q hq=>?_⟩
      ·show mO 42 3 Ee _ Df _ (mV m ((q k).getD sv0))
       rw [ah QU];exact hD1.stay DL (fun x hx=>Tf.block x (hD1.lt DL x hx) (fun e=>by have:=hD2 x hx;omega))
      ·have hgo:(Value.slice (some ⟨g,0,none⟩) l.length ES).ownBlock=some g:=rfl
       rcases hq with x | x | x
       ·have:=la q x;exact⟨this.1,fun e=>by rw [hgo] at e;cases e;omega⟩
       ·have:=lc q x;exact⟨by omega,fun e=>by rw [hgo] at e;cases e;omega⟩
       ·have:=hD2 q x;exact⟨by omega,fun e=>by rw [hgo] at e;cases e;omega⟩
    have D0:=P8.mods EX (by omega);have DX:=Qb.mods EX (by omega);go_wp2_with fail
    refine hK.out _ _ ((ah ku) _ Om) (fun hHeld=>?_);clear hK K;try simp only [Act.put,aK,aO,aN]
    refine au 45 9 ?_;refine au 46 10 ?_;refine aW 11 (fun K hK=>?_);go_simp;refine hK.out _ _ ⟨D0.cell 0,DX.cell 0,DX.cell 1,DX.cell 2,DX.cell 3,DX.cell 4,DX.cell 5,DX.cell 6⟩ (fun hHeld=>?_);clear hK K;try simp only [Act.put,aK,aO,aN]
    refine wpAnyH_done (by kernel_rfl) ?_ _;go_wp2_with fail
    refine⟨⟨k+1,by omega,by go_num,fun j m' hj' hm'=>?_,ah HI2⟩,by simp [intOf];omega⟩
    by_cases ej:j=k
    ·subst ej;rw [ah QU];simp
    ·exact ah HA j m' (by omega) hm'
  ·obtain rfl:k=l.length:=by omega
   clear hI;go_wp2_with fail
   go_ret;exact⟨.inl ⟨_,rfl,(ah HI).fin,(ah HI).own,fun k m h=>ah HA k m (List.getElem?_eq_some_iff.1 h).1 h⟩,(ah HI).bel⟩
end Go.Proofs.YtiiokkllmchohaaGreat
namespace Go.Proofs.YtiiokkllmchohaaGreat
open Go.RowKit Go.Shelf
def sF (B:Nat)(w:World)(v:Value)(q:List aj):Prop:=aV 3 (lU (sel (fun k=>B≤k) w)) v q
theorem sF.read {B:Nat}{w:World}{v:Value}{q:List aj}(h:sF B w v q):aX w v q:=aP jk h
theorem sF.mods {S:Nat→Prop}{B B':Nat}{w w':World}{v:Value}{q:List aj}(h:sF B w v q)(hm:ay S w w')(hS:∀k,B≤k→¬S k)(hB:B'≤B):sF B' w' v q:=aP (dR hm fun k _ hk=>⟨hS k hk,Nat.le_trans hB hk⟩) h
abbrev Gh (B:Nat)(v:Value):Nat→Prop:=fun g=>B≤g∧v.ownBlock≠some g
structure tZ (w V:World)(vp v:Value)(q:List aj):Prop where
 bel:Below w.heap.size w V
 b0:ak V w.heap.size 24 [vp]
 b1:ak V (w.heap.size+1) 24 [.slice none 0 0]
 b2:ak V (w.heap.size+2) 24 [v]
 row:∃cs,V.ownsRow (w.heap.size+3) 66 3 v q.length cs∧iU 3 (tY (sel (Gh (w.heap.size+3) v) V)) cs q
section
variable {w V W : World} {vp v : Value} {q : List aj}
theorem tZ.below (i:tZ w V vp v q)(h:Below V.heap.size V W):tZ w W vp v q:=by
 obtain⟨cs,hO,hR⟩:=i.row;refine⟨i.bel.trans (h.mono i.bel.size),i.b0.below h i.b0.lt,i.b1.below h i.b1.lt,i.b2.below h i.b2.lt,cs,eP hO (ay.of_below h) (fun g hg e=>by have:=(hO.lt g hg).2;omega),hR.mono fun x c hc=>tY.keep (dR (ay.of_below h) fun k hk hS=>⟨fun e=>by omega,hS⟩) hc⟩
theorem Uc:(Tryz.prog.info? 66).map (fun i=>(i.zero,i.size,i.bytes))=some (some (.agg #[.int .i64 0,.slice none 0 0,.slice none 0 0]),3,56):=by kernel_rfl
theorem tZ.next (i:tZ w V vp v q)(hq:q.length≤4194304){B:Nat}(Ai:∀g,v.ownBlock=some g→g<B)(hB:w.heap.size+3≤B){x:aj}{vf vm:Value}(h1:aV 1 (fE (sel (fun k=>B≤k) V)) vf x.fields)(h2:aV 7 (o8 (sel (fun k=>B≤k) V)) vm x.aB) :
  ∃a n cap w',(Builtin.append_ #[22,22] 22 #[v,.slice (some ⟨V.heap.size,0,none⟩) 1 1]).run Tryz.prog (V.alloc (.cells #[.int .i64 x.sup,vf,vm] 66))= .ok (.slice a n cap) w'∧
   w'.cell? ⟨w.heap.size+2,0,none⟩=some v∧w'.frozen? ⟨w.heap.size+2,0,none⟩=false∧ay (fun k=>v.ownBlock=some k) V w'∧tZ w (w'.setCell ⟨w.heap.size+2,0,none⟩ (.slice a n cap)) vp (.slice a n cap) (q++ [x]):=by
 obtain⟨iC,hC,hC0,Aj,hC2⟩:=info_parts Uc;obtain⟨cs,hO,hR⟩:=i.row;have hlt:=hO.lt;have hsz:=i.bel.size;have h3:=i.b2.lt
 obtain⟨v',w',happ,iR,hM,hv⟩:=qN (P:=Tryz.prog) (W:=V) 22 22 66 iC _ 3 56 Tryz.underlying22 hC hC0 Aj hC2 rfl (by decide) (w.heap.size+3) v q.length cs hO #[.int .i64 x.sup,vf,vm] rfl
  (fun u hu=>by
    simp only [List.mem_cons,List.not_mem_nil,or_false] at hu
    rcases hu with rfl | rfl | rfl
    ·rfl
    ·exact wE h1
    ·exact wE h2) V.heap.size rfl (by unfold maxLen;omega) (by omega) (by omega)
 obtain⟨a,cap,rfl⟩:=cZ iR;have n2:¬v.ownBlock=some (w.heap.size+2):=fun e=>by have:=(hlt _ e).1;omega
 have n1:¬v.ownBlock=some (w.heap.size+1):=fun e=>by have:=(hlt _ e).1;omega
 have n0:¬v.ownBlock=some w.heap.size:=fun e=>by have:=(hlt _ e).1;omega
 have hb2:=i.b2.mods hM n2;have hM2:ay (fun k=>k=w.heap.size+2) w' (w'.setCell ⟨w.heap.size+2,0,none⟩ (.slice a (q.length+1) cap)):=(ay.refl (fun k=>k=w.heap.size+2) w').setCell (p:=⟨w.heap.size+2,0,none⟩) (fun _=>rfl) _
 refine⟨a,_,cap,w',happ,hb2.cell 0,hb2.frozen 0,hM,(i.bel.trans (hM.below hsz (fun k hk e=>by have:=(hlt k e).1;omega))).trans (hM2.below (Nat.le_trans hsz hM.size) (fun k hk e=>by omega)),(i.b0.mods hM n0).mods hM2 (by omega),(i.b1.mods hM n1).mods hM2 (by omega),hb2.setCell 0 _,
  _,by simpa using eP iR hM2 (fun g hg e=>by have:=(iR.lt g hg).1;omega),?_⟩
 have hold:dM (sel (Gh (w.heap.size+3) v) V) (sel (Gh (w.heap.size+3) (.slice a (q.length+1) cap)) (w'.setCell ⟨w.heap.size+2,0,none⟩ (.slice a (q.length+1) cap))):=
  (dR (S':=Gh (w.heap.size+3) (.slice a (q.length+1) cap)) hM fun k hk hS=>⟨hS.2,hS.1,fun e=>by
    rcases hv with hv | ⟨k',hk',hv⟩
    ·exact hS.2 (by rw [←hv];exact e)
    ·rw [hv] at e
     cases e
     omega⟩).trans (dR hM2 fun k hk hS=>⟨fun e=>by have:=hS.1;omega,hS⟩)
 have hnew:dM (sel (fun k=>B≤k) V) (sel (Gh (w.heap.size+3) (.slice a (q.length+1) cap)) (w'.setCell ⟨w.heap.size+2,0,none⟩ (.slice a (q.length+1) cap))):=
  (dR (S':=Gh (w.heap.size+3) (.slice a (q.length+1) cap)) hM fun k hk hS=>⟨fun e=>by have:=Ai k e;omega,by omega,fun e=>by
    rcases hv with hv | ⟨k',hk',hv⟩
    ·have:=Ai k (by rw [←hv];exact e);omega
    ·rw [hv] at e
     cases e
     omega⟩).trans (dR hM2 fun k hk hS=>⟨fun e=>by have:=hS.1;omega,hS⟩)
 exact (hR.mono fun y c hc=>tY.keep hold hc).snoc ⟨vf,vm,rfl,dA hnew h1,sW hnew h2⟩ rfl
theorem tZ.fin (i:tZ w V vp v q):sF w.heap.size (V.setCell ⟨w.heap.size+1,0,none⟩ v) v q:=by
 obtain⟨cs,hO,hR⟩:=i.row;have hM:ay (fun k=>k=w.heap.size+1) V (V.setCell ⟨w.heap.size+1,0,none⟩ v):=(ay.refl (fun k=>k=w.heap.size+1) V).setCell (p:=⟨w.heap.size+1,0,none⟩) (fun _=>rfl) _;have iR:=eP hO hM (fun g hg e=>by have:=(hO.lt g hg).1;omega);exact abB iR (hR.mono fun x c hc=>tY.keep (dR hM fun k _ hk=>⟨fun e=>by have:=hk.1;omega,by have:=hk.1;omega⟩) hc) (fun g hg=>by have:=(hO.lt g hg).1;omega)
end
def vg (w V:World)(v:Value)(q:List aj):Prop:=
 ∃(cs:List Value) (bd:Nat→Nat),V.ownsRow (w.heap.size+3) 66 3 v q.length cs∧w.heap.size+3≤bd 0∧(∀j,j<q.length→bd j≤bd (j+1))∧bd q.length≤V.heap.size∧∀(j:Nat) (x:aj),q[j]? =some x→∃D,yu V D (kX cs j 3) x∧∀g,D g→bd j≤g∧g<bd (j+1)∧v.ownBlock≠some g
theorem vg.start {w V:World}(h:w.heap.size+3≤V.heap.size):vg w V (.slice none 0 0) []:=
 ⟨[],fun _=>w.heap.size+3,World.ownsRow_nil _ _ _ _,Nat.le_refl _,fun _ h=>(by cases h),h,fun j x hj=>(by simp at hj)⟩
theorem ae8 {cs c:List Value}{j sz:Nat}(h:(j+1)*sz≤cs.length):kX (cs++c) j sz=kX cs j sz:=by
 unfold kX;rw [Nat.succ_mul] at h;rw [List.drop_append_of_le_length (by omega),List.take_append_of_le_length (by rw [List.length_drop];omega)]
theorem ae9 {cs c:List Value}{j sz:Nat}(h:cs.length=j*sz)(hc:c.length=sz):kX (cs++c) j sz=c:=by
 unfold kX;rw [←h,List.drop_left,←hc,List.take_length]
theorem vg.next {w V0 V:World}{v:Value}{q:List aj}(i:vg w V0 v q)(hb:Below V0.heap.size V0 V)(hq:q.length≤4194304){x:aj}{vf vm:Value}(hE:∃D,yu V D [.int .i64 x.sup,vf,vm] x∧∀g,D g→V0.heap.size≤g){a:Option Addr}{n cap:Nat}{w':World}
  (happ:(Builtin.append_ #[22,22] 22 #[v,.slice (some ⟨V.heap.size,0,none⟩) 1 1]).run Tryz.prog (V.alloc (.cells #[.int .i64 x.sup,vf,vm] 66))= .ok (.slice a n cap) w'):vg w (w'.setCell ⟨w.heap.size+2,0,none⟩ (.slice a n cap)) (.slice a n cap) (q++ [x]):=by
 obtain⟨iC,hC,hC0,Aj,hC2⟩:=info_parts Uc;obtain⟨cs,bd,KD,b0,b1,b2,b3⟩:=i;obtain⟨Dk,hE1,hE2⟩:=hE;have hsz:=hb.size;have hO:=eP KD (ay.of_below hb) (fun g hg e=>by have:=(KD.lt g hg).2;omega);have h0n:=yK b1 (Nat.zero_le _) (Nat.le_refl _)
 have hone:vf.oneCell'=true∧vm.oneCell'=true:=by
  obtain⟨mF,Jd,Dm,e,⟨_,_,h1⟩,h2,_⟩:=hE1;simp only [List.cons.injEq,and_true,true_and] at e;obtain⟨rfl,rfl⟩:=e;obtain⟨a1,c1,rfl⟩:=cZ h1;obtain⟨a2,c2,rfl⟩:=h2.form;exact⟨rfl,rfl⟩
 obtain⟨v2,w2,yR,iR,hM,hv⟩:=qN (P:=Tryz.prog) (W:=V) 22 22 66 iC _ 3 56 Tryz.underlying22 hC hC0 Aj hC2 rfl (by decide) (w.heap.size+3) v q.length cs hO #[.int .i64 x.sup,vf,vm] rfl
  (fun u hu=>by
    simp only [List.mem_cons,List.not_mem_nil,or_false] at hu
    rcases hu with rfl | rfl | rfl
    ·rfl
    ·exact hone.1
    ·exact hone.2) V.heap.size rfl (by unfold maxLen;omega) (by omega) (by omega)
 rw [happ] at yR;obtain⟨rfl,rfl⟩: .slice a n cap=v2∧w'=w2:=by injection yR with e1 e2;exact⟨e1,e2⟩
 have hM2:ay (fun k=>k=w.heap.size+2) w' (w'.setCell ⟨w.heap.size+2,0,none⟩ (.slice a n cap)):=(ay.refl (fun k=>k=w.heap.size+2) w').setCell (p:=⟨w.heap.size+2,0,none⟩) (fun _=>rfl) _;have hz1:=hM.size;have hz2:=hM2.size;have hlt0:=KD.lt;have hkeep:∀g,g<V.heap.size→v.ownBlock≠some g→g≠w.heap.size+2→(w'.setCell ⟨w.heap.size+2,0,none⟩ (.slice a n cap)).heap[g]? =V.heap[g]? :=fun g h1 h2 h3=>(hM2.block g (by omega) h3).trans (hM.block g h1 h2)
 have hne:∀g,g<V.heap.size→v.ownBlock≠some g→(Value.slice a n cap).ownBlock≠some g:=fun g h1 h2 e=>by
  rcases hv with hv | ⟨k,hk,hv⟩
  ·exact h2 (by rw [←hv];exact e)
  ·rw [hv] at e
   cases e
   omega
 obtain⟨Ry,hlo,hhi⟩:∃f:Nat→Nat,(∀j,j≤q.length→f j=bd j)∧f (q.length+1)=(w'.setCell ⟨w.heap.size+2,0,none⟩ (.slice a n cap)).heap.size:=⟨fun j=>if j≤q.length then bd j else (w'.setCell ⟨w.heap.size+2,0,none⟩ (.slice a n cap)).heap.size,fun j hj=>if_pos hj,if_neg (by omega)⟩;have hql:(q++ [x]).length=q.length+1:=by simp
 refine⟨cs++ [.int .i64 x.sup,vf,vm],Ry,by simpa using eP iR hM2 (fun g hg e=>by have:=(iR.lt g hg).1;omega),by rw [hlo 0 (Nat.zero_le _)];exact b0,fun j hj=>?_,by rw [hql,hhi];exact Nat.le_refl _,fun j y hj=>?_⟩
 ·by_cases e:j+1≤q.length
  ·rw [hlo j (by omega),hlo (j+1) e];exact b1 j (by omega)
  ·obtain rfl:j=q.length:=by omega
   rw [hlo _ (Nat.le_refl _),hhi];omega
 ·rcases Nat.lt_or_ge j q.length with hlt | hge
  ·rw [List.getElem?_append_left hlt] at hj;obtain⟨D,h1,h2⟩:=b3 j y hj;have hup:=yK b1 (show j+1≤q.length by omega) (Nat.le_refl _);have hd0:=yK b1 (Nat.zero_le j) (by omega);rw [hlo j (by omega),hlo (j+1) (by omega),ae8 (by rw [KD.1];exact Nat.mul_le_mul_right _ hlt)];exact⟨D,y8.stay (fun g hg=>(hkeep g (by have:=(h2 g hg).2.1;omega) (h2 g hg).2.2 (by have:=(h2 g hg).1;omega)).trans (hb.block g (by have:=(h2 g hg).2.1;omega))) h1,fun g hg=>⟨(h2 g hg).1,(h2 g hg).2.1,hne g (by have:=(h2 g hg).2.1;omega) (h2 g hg).2.2⟩⟩
  ·obtain rfl:j=q.length:=by
    have:=(List.getElem?_eq_some_iff.1 hj).1;simp at this;omega
   rw [List.getElem?_append_right (Nat.le_refl _),Nat.sub_self] at hj
   cases hj
   rw [hlo _ (Nat.le_refl _),hhi,ae9 KD.1 rfl];have hvn:∀g,Dk g→v.ownBlock≠some g:=fun g hg e=>by have:=hE2 g hg;have:=(hlt0 g e).2;omega
   have hl3:∀g,Dk g→g<V.heap.size:=y8.lt hE1;exact⟨Dk,y8.stay (fun g hg=>hkeep g (hl3 g hg) (hvn g hg) (by have:=hE2 g hg;omega)) hE1,fun g hg=>⟨by have:=hE2 g hg;omega,by have:=hl3 g hg;omega,hne g (hl3 g hg) (hvn g hg)⟩⟩
theorem vg.own {w V V':World}{v:Value}{q:List aj}(i:vg w V v q)(hM:ay (fun k=>k=w.heap.size+1) V V'):∃D,mO 66 3 yu V' D v q∧∀g,D g→w.heap.size≤g:=by
 obtain⟨cs,bd,hO,b0,b1,b2,b3⟩:=i
 have hD:∀j,∃D:Nat→Prop,∀(hj:j<q.length),yu V D (kX cs j 3) q[j]∧∀g,D g→bd j≤g∧g<bd (j+1)∧v.ownBlock≠some g:=fun j=>by
  by_cases hj:j<q.length
  ·obtain⟨D,h1,h2⟩:=b3 j _ (List.getElem?_eq_getElem hj);exact⟨D,fun _=>⟨h1,h2⟩⟩
  ·exact⟨fun _=>False,fun h=>absurd h hj⟩
 obtain⟨Ds,hDs⟩:∃Ds:Nat→Nat→Prop,∀j (hj:j<q.length),yu V (Ds j) (kX cs j 3) q[j]∧∀g,Ds j g→bd j≤g∧g<bd (j+1)∧v.ownBlock≠some g:=⟨fun j=>(hD j).choose,fun j=>(hD j).choose_spec⟩
 have hge:∀k (hk:k<q.length) g,Ds k g→w.heap.size+3≤g:=fun k hk g hg=>by
  have:=((hDs k hk).2 g hg).1;have:=yK b1 (Nat.zero_le k) (by omega);omega
 refine⟨fun g=>v.ownBlock=some g∨∃k,k<q.length∧(k<q.length∧Ds k g),⟨_,cs,fun k g=>k<q.length∧Ds k g,eP hO hM (fun g hg e=>by have:=(hO.lt g hg).1;omega),fun k x hk=>?_,fun j k g hjk h1 h2=>?_,fun k g h1 h2=>?_,fun g=>by simp⟩,fun g hg=>?_⟩
 ·obtain⟨hkl,e⟩:=List.getElem?_eq_some_iff.1 hk;have h9:=y8.stay (w':=V') (fun g hg=>hM.block g (y8.lt (hDs k hkl).1 g hg) (fun e=>by have:=hge k hkl g hg;omega)) (hDs k hkl).1;rw [e] at h9;obtain⟨vf,vm,Dm,a1,a2,a3,a4,a5⟩:=h9;exact⟨vf,vm,Dm,a1,a2,a3,a4,fun g=>⟨fun h=>(a5 g).1 h.2,fun h=>⟨hkl,(a5 g).2 h⟩⟩⟩
 ·obtain⟨hj1,hf1⟩:=h1;obtain⟨hk1,hf2⟩:=h2;have c1:=(hDs j hj1).2 g hf1;have c2:=(hDs k hk1).2 g hf2
  rcases Nat.lt_or_ge j k with h | h
  ·have:=yK b1 (show j+1≤k by omega) (by omega);omega
  ·have:=yK b1 (show k+1≤j by omega) (by omega);omega
 ·exact ((hDs k h1.1).2 g h1.2).2.2 h2
 ·rcases hg with hg | ⟨k,hk,_,hg⟩
  ·have:=(hO.lt g hg).1;omega
  ·have:=hge k hk g hg;omega
end Go.Proofs.YtiiokkllmchohaaGreat
