/- The code looks whether an instruction fits: all of them. -/
import Derived.Test.YtiiokkllmchohaaGreatT14
import Derived.Test.YtiiokkllmchohaaGreatT21
import Derived.Test.YtiiokkllmchohaaGreatT22
set_option maxHeartbeats 4000000
set_option maxRecDepth 100000
namespace Go.Proofs.YtiiokkllmchohaaGreat
open Go.RowKit
attribute [local go_sem ↓] Go.wp_at_zero Go.wp_at_succ
attribute [local go_sem] bW
theorem afz (a b:Int)(p:List aj)(vc:Value)(m:aC)(s:aH)(w0 w:World)(bl:Nat)(pre:List Value)(h:fQ w0 w bl p vc m pre s) :
  Calls Tryz.prog 156 #[.pointer (some ⟨bl,0,none⟩),.agg #[.int .i64 7,.int .i64 a,.int .i64 b]] w fun e w'=>eu p m ⟨7,a,b⟩ s w0 w w' bl vc pre e:=by
 have HT:Hid (aY p m ⟨7,a,b⟩ s=some s):=rfl;have HW:=hide (h.below (aS w (.cells #[.int .i64 7,.int .i64 a,.int .i64 b] 60)));have HM:=hide (fB (S:=fun k=>k=bl) (aS w (.cells #[.int .i64 7,.int .i64 a,.int .i64 b] 60)));clear h;go_enter Tryz.func156,Tryz.ntmps156
 go_wp2_with fail
 go_end0;exact eu.ok (ah HT) (ah HW) (ah HM)

structure Good (p:List aj):Prop where
 sup:aU p p.length
 sz:bn p≤4194304
 pJ:∀(a:Int) (j:Nat),0≤a→a<(p.length:Int)→j<(fieldsOf p a).length→bT p.length (jm p a j)
 arg:∀(a b:Int),0≤a→a<(p.length:Int)→(fO p a b).isSome=true→(∀x∈(cO p a b).args,bT p.length x)∧bT p.length (cO p a b).ret
structure vJ (p:List aj)(m:aC):Prop where
 stk:m.stack≤8
 loc:m.locals≤8
 ret:bT p.length m.ret

theorem ahV (i:eF)(p:List aj)(vc:Value)(m:aC)(s:aH)(w0 w:World)(bl:Nat)(pre:List Value)(h:fQ w0 w bl p vc m pre s)(G:Good p)(M:vJ p m)(hi:bC p m i=true) :
  Calls Tryz.prog 156 #[.pointer (some ⟨bl,0,none⟩),.agg #[.int .i64 i.op,.int .i64 i.a,.int .i64 i.b]] w fun e w'=>eu p m i s w0 w w' bl vc pre e:=by
 obtain⟨op,a,b⟩:=i;have hs:=G.sup;have hz:=G.sz;have h8:=M.stk;have AA:=M.loc
 have hop:0≤op∧op≤20:=by
  unfold bC at hi;dsimp only at hi
  repeat' split at hi
  all_goals first | omega | (simp only [Bool.and_eq_true,oU] at hi;omega)
 have hcls:(op=9∨op=17∨op=10∨op=11∨op=12)→0≤a∧a<(p.length:Int):=by
  intro ho;unfold bC at hi;dsimp only at hi
  rcases ho with rfl | rfl | rfl | rfl | rfl <;> simp [oU] at hi <;> exact hi.1
 have hloc:(op=1∨op=2)→0≤a∧a<m.locals:=by
  intro ho;unfold bC at hi;dsimp only at hi
  rcases ho with rfl | rfl <;> simp [oU] at hi <;> exact hi.1
 have hfld:(op=10∨op=11)→0≤b∧b<((fieldsOf p a).length:Int):=by
  intro ho;unfold bC at hi;dsimp only at hi
  rcases ho with rfl | rfl <;> simp [oU] at hi <;> exact hi.2
 have hcall:op=12→(fO p a b).isSome=true:=by
  rintro rfl;unfold bC at hi;dsimp only at hi;simp [oU] at hi;exact hi.2
 clear hi;obtain rfl | rfl | rfl | rfl | rfl | rfl | rfl | rfl | rfl | rfl | rfl | rfl | rfl | rfl | rfl | rfl | rfl | rfl | rfl | rfl | rfl:op=0∨op=1∨op=2∨op=3∨op=4∨op=5∨op=6∨op=7∨op=8∨op=9∨op=10∨op=11∨op=12∨op=13∨op=14∨op=15∨op=16∨op=17∨op=18∨op=19∨op=20:=by omega
 ·exact afh a b p vc m s w0 w bl pre h hs hz h8
 ·obtain⟨h0,h1⟩:=hloc (by omega);obtain⟨k,rfl⟩:=Int.eq_ofNat_of_zero_le h0;exact afi k b p vc m s w0 w bl pre h h8 (by omega)
 ·obtain⟨h0,h1⟩:=hloc (by omega);obtain⟨k,rfl⟩:=Int.eq_ofNat_of_zero_le h0;exact aft k b p vc m s w0 w bl pre h (by omega)
 ·exact afv a b p vc m s w0 w bl pre h hs hz h8
 ·exact afw a b p vc m s w0 w bl pre h hs hz h8
 ·exact afx a b p vc m s w0 w bl pre h hs hz h8
 ·exact afy a b p vc m s w0 w bl pre h hs hz h8
 ·exact afz a b p vc m s w0 w bl pre h
 ·exact afA a b p vc m s w0 w bl pre h hs hz h8
 ·exact afB a b p vc m s w0 w bl pre h hs hz h8 (hcls (by omega)).1 (hcls (by omega)).2
 ·obtain⟨h0,h1⟩:=hfld (by omega);obtain⟨k,rfl⟩:=Int.eq_ofNat_of_zero_le h0;obtain⟨ha0,ha1⟩:=hcls (by omega);exact afj a k p vc m s w0 w bl pre h hs hz h8 ha0 ha1 (by omega) (G.pJ a k ha0 ha1 (by omega))
 ·obtain⟨h0,h1⟩:=hfld (by omega);obtain⟨k,rfl⟩:=Int.eq_ofNat_of_zero_le h0;obtain⟨ha0,ha1⟩:=hcls (by omega);exact afk a k p vc m s w0 w bl pre h hs hz ha0 ha1 (by omega) (G.pJ a k ha0 ha1 (by omega))
 ·obtain⟨ha0,ha1⟩:=hcls (by omega);exact afl a b p vc m s w0 w bl pre h hs hz h8 ha0 ha1 (hcall rfl) (G.arg a b ha0 ha1 (hcall rfl)).1 (G.arg a b ha0 ha1 (hcall rfl)).2
 ·exact afm a b p vc m s w0 w bl pre h hs hz h8 M.ret
 ·exact afn a b p vc m s w0 w bl pre h hs hz h8
 ·exact afo a b p vc m s w0 w bl pre h hs hz h8
 ·exact afp a b p vc m s w0 w bl pre h hs hz h8
 ·exact afq a b p vc m s w0 w bl pre h hs hz h8 (hcls (by omega)).1 (hcls (by omega)).2
 ·exact afr a b p vc m s w0 w bl pre h hs hz h8
 ·exact afs a b p vc m s w0 w bl pre h hs hz h8
 ·exact afu a b p vc m s w0 w bl pre h hs hz h8
end Go.Proofs.YtiiokkllmchohaaGreat
namespace Go.Proofs.YtiiokkllmchohaaGreat
open Go.RowKit Go.Shelf
attribute [local go_sem ↓] Go.wp_at_zero Go.wp_at_succ
attribute [local go_sem] bW
attribute [local go_sem] Oper.semAt_some
theorem adB:ni Tryz.prog 222 25:=⟨by kernel_rfl,by kernel_rfl⟩
theorem IK {P:Program}{fn:Func}{t:Tmp}{ty t':TypeId}{n g:Nat}{w:World}{vs:List Value}{tmps:Array Value}(h:fn.results= #[.cell t ty])(hA:ni P ty n)(hB:ak w g t' vs)(hl:vs.length=n)(hx:tmps.getD t undef= .pointer (some ⟨g,0,none⟩)) :
  (results fn tmps).run P w= .ok (.agg vs.toArray) w:=by
 have:=Va hA hB 0 vs hl (fun j v e=>by simpa using e);have hx':tmps[t]?.getD undef= .pointer (some ⟨g,0,none⟩):=by rw [←hx];simp
 simp [results,h,hx',asAddr,this]
theorem NY (t:Array Value)(y:Int×Bool)(i j:Tmp):((#[i,j]).zip (CQ y)).foldl (fun t (p,v)=>t.setIfInBounds p v) t=(t.setIfInBounds i (.int .i64 y.1)).setIfInBounds j (.bool y.2):=by simp [CQ]
theorem abq {P:Program}{fn:Func}{R:Ending→World→Prop}{c:List PanicEntry}{tmps:Array Value}{w:World}(hR:R (.panicked c) w):DJ P fn R (.panic c) { tmps:=tmps,defers:= [] } w:=hR
theorem UC {P:Program}{fn:Func}{R:Ending→World→Prop}{c:List PanicEntry}{tmps:Array Value}{w:World}{D:Nat}(hk:w.heap[D]? =some (.deferred (some [])))(hR:R (.panicked c) (w.putObj D (.deferred none))) :
  DJ P fn R (.panic c) { tmps:=tmps,defers:= [{ target:=.collected D,args:= #[] }] } w:=⟨by simp,.inl ⟨D,_,rfl,run_takeDeferred hk,hR⟩⟩
theorem UD {P:Program}{fn:Func}{R:Ending→World→Prop}{tmps:Array Value}{w:World}{D:Nat}{v:Value}(hk:w.heap[D]? =some (.deferred (some [])))(hv:(results fn tmps).run P (w.putObj D (.deferred none))= .ok v (w.putObj D (.deferred none)))(hR:R (.returned v) (w.putObj D (.deferred none))) :
  DJ P fn R .ret { tmps:=tmps,defers:= [{ target:=.collected D,args:= #[] }] } w:=⟨by simp,.inl ⟨D,_,rfl,run_takeDeferred hk,v,hv,hR⟩⟩
theorem XO {B:Nat}{w w':World}(h:Below B w w'){D:Nat}(hD:B≤D)(o:Obj):Below B w (w'.putObj D o):=⟨h.os,h.tape,h.output,by have:=h.size;simpa using this,fun i hi=>(World.putObj_heap_other (by omega)).trans (h.block i hi)⟩
theorem ak.putObj {w:World}{g:Nat}{t:TypeId}{cs:List Value}(h:ak w g t cs){D:Nat}(hD:g≠D)(o:Obj):ak (w.putObj D o) g t cs:=(World.putObj_heap_other hD).trans h
theorem Y3 (n:Nat):∀(cs:List Value) (k:Nat) (pre tl:List Value),pre.length=n+k→tl.length=cs.length→
  List.foldl (fun (a:Array Value) (x:Value×Nat)=>a.setIfInBounds (n+x.2) x.1) (pre++tl).toArray (cs.zipIdx k)=(pre++cs).toArray
 | [], k, pre, tl, _, h => by
  rw [List.eq_nil_of_length_eq_zero (by simpa using h:tl.length=0)];rfl
 | c :: cs, k, pre, [], _, h => by simp at h
 | c :: cs, k, pre, t :: tl, hp, h => by
  have ih:=Y3 n cs (k+1) (pre++ [c]) tl (by simp [hp];omega) (by simpa using h);rw [List.zipIdx_cons,List.foldl_cons]
  have e:(pre++t::tl).toArray.setIfInBounds (n+k) c=((pre++ [c])++tl).toArray:=by
   rw [List.setIfInBounds_toArray,List.set_append_right _ _ (by omega),hp,Nat.sub_self];simp
  rw [e,ih];simp
theorem afW {cs:List Value}(h:cs.length=17)(v0 v1 v2 v3 v4 v5 v6 v7:Value) :
  List.foldl (fun (a:Array Value) (x:Value×Nat)=>a.setIfInBounds (8+x.2) x.1) ([v0,v1,v2,v3,v4,v5,v6,v7]++List.replicate 17 (Value.int .i64 0)).toArray cs.zipIdx=([v0,v1,v2,v3,v4,v5,v6,v7]++cs).toArray:=
 Y3 8 cs 0 _ _ rfl (by simp [h])
def adw (p:List aj)(m:aC)(pc:Nat)(s:aH)(w w':World)(e:Ending):Prop:=
 (∀s',jy p m pc s=some s'→∃cs',e= .returned (.agg cs'.toArray)∧eX s' cs'∧kV p.length m.stack s')∧(jy p m pc s=none→e= .panicked (jB 5))∧Below w.heap.size w w'

theorem NV (p:List aj)(vc:Value)(m:aC)(va aQ vf:Value)(pc:Nat)(s:aH)(cs:List Value)(w:World)(hp:aX w vc p)(hv:bV w.cell? m va aQ vf)(hpc:pc<m.code.length)(dD:m.code.length≤40)
  (hS:eX s cs) (hT:kV p.length m.stack s) (G:Good p) (M:vJ p m) (hi:∀i∈m.code,bC p m i=true) :
  Calls Tryz.prog 102 #[.agg #[vc],bP m va aQ vf,.int .i64 (pc:Int),.agg cs.toArray] w fun e w'=>adw p m pc s w w' e:=by
 unfold bP;have HP:=hide hp;have hcl:=hS.len;obtain⟨hva,kG,hvf⟩:=hv;obtain⟨aa,_,_,aI,rfl,_⟩:=hva;obtain⟨fa,_,_,aG,rfl,_⟩:=hvf;obtain⟨pa,_,_,aA,rfl,_⟩:=hp;obtain⟨ca,cb,off,aF,rfl,TL,hca,hcr⟩:=aZ kG;obtain rfl:=hca (bJ hpc);have hX:=hcr pc hpc;have hiX:=hi _ (List.getElem_mem hpc);have oM:bH m pc=m.code[pc]:=by unfold bH;rw [List.getElem?_eq_getElem hpc];rfl
 generalize m.code[pc]=x at *;obtain⟨x0,x1,x2⟩:=hX;clear hcr kG;have HM:=hide M;have HI:=hide hi;clear hi M;refine Nz Tryz.func102 rfl ?_;simp only [Tryz.ntmps102,List.size_toArray,List.length_cons,List.length_nil,Nat.reduceAdd,Nat.reduceSub,Array.replicate_succ,Array.replicate_zero,List.push_toArray,List.append_toArray,List.nil_append,List.cons_append];refine jY ?_;go_wp2_with fail
 generalize hW:(((w.alloc _).alloc _).alloc _).alloc _=W;have hbel:Below w.heap.size w W:=by rw [←hW];exact (((aS w _).alloc (by simp) _).alloc (by simp;omega) _).alloc (by simp;omega) _
 have JB:Hid (W.heap.size=w.heap.size+1+1+1+1):=by show _=_;rw [←hW];simp
 have B0:ak W w.heap.size 24 [.slice pa p.length aA]:=by rw [←hW];exact (((ak.new w _ _).alloc _).alloc _).alloc _
 have B1:ak W (w.heap.size+1) 63 [.int .i64 m.slot,.slice aa m.args.length aI,.int .i64 m.ret,.int .i64 m.locals,.int .i64 m.stack,.slice (some ⟨cb,off,none⟩) m.code.length aF,.slice fa m.frames.length aG]:=by
  rw [←hW];have:=(((ak.new (w.alloc (.cells #[.slice pa p.length aA] 24)) #[.int .i64 m.slot,.slice aa m.args.length aI,.int .i64 m.ret,.int .i64 m.locals,.int .i64 m.stack,.slice (some ⟨cb,off,none⟩) m.code.length aF,.slice fa m.frames.length aG] 63))).alloc (.cells cs.toArray 130);rw [World.size_alloc] at this;exact this.alloc _
 have B2:ak W (w.heap.size+1+1) 130 cs:=by
  rw [←hW];have:=ak.new ((w.alloc (.cells #[.slice pa p.length aA] 24)).alloc (.cells #[.int .i64 m.slot,.slice aa m.args.length aI,.int .i64 m.ret,.int .i64 m.locals,.int .i64 m.stack,.slice (some ⟨cb,off,none⟩) m.code.length aF,.slice fa m.frames.length aG] 63)) cs.toArray 130;rw [World.size_alloc,World.size_alloc] at this;exact this.alloc _
 have B3:ak W (w.heap.size+1+1+1) 130 (List.replicate 17 (.int .i64 0)):=by
  rw [←hW];have:=ak.new (((w.alloc (.cells #[.slice pa p.length aA] 24)).alloc (.cells #[.int .i64 m.slot,.slice aa m.args.length aI,.int .i64 m.ret,.int .i64 m.locals,.int .i64 m.stack,.slice (some ⟨cb,off,none⟩) m.code.length aF,.slice fa m.frames.length aG] 63)).alloc (.cells cs.toArray 130)) (List.replicate 17 (.int .i64 0)).toArray 130;rw [World.size_alloc,World.size_alloc,World.size_alloc] at this;exact this
 clear hW;have k0:W.cell? ⟨w.heap.size,0,none⟩=some (.slice pa p.length aA):=B0.cell 0;have m0:W.cell? ⟨w.heap.size+1,0,none⟩=some (.int .i64 m.slot):=B1.cell 0;have m1:W.cell? ⟨w.heap.size+1,1,none⟩=some (.slice aa m.args.length aI):=B1.cell 1;have m2:W.cell? ⟨w.heap.size+1,2,none⟩=some (.int .i64 m.ret):=B1.cell 2;have m3:W.cell? ⟨w.heap.size+1,3,none⟩=some (.int .i64 m.locals):=B1.cell 3;have m4:W.cell? ⟨w.heap.size+1,4,none⟩=some (.int .i64 m.stack):=B1.cell 4;have m5:W.cell? ⟨w.heap.size+1,5,none⟩=some (.slice (some ⟨cb,off,none⟩) m.code.length aF):=B1.cell 5;have m6:W.cell? ⟨w.heap.size+1,6,none⟩=some (.slice fa m.frames.length aG):=B1.cell 6
 have Wu:=hide (afW hcl (.slice pa p.length aA) (.int .i64 m.slot) (.slice aa m.args.length aI) (.int .i64 m.ret) (.int .i64 m.locals) (.int .i64 m.stack) (.slice (some ⟨cb,off,none⟩) m.code.length aF) (.slice fa m.frames.length aG))
 have hone:∀v∈[.slice pa p.length aA,.int .i64 m.slot,.slice aa m.args.length aI,.int .i64 m.ret,.int .i64 m.locals,.int .i64 m.stack,.slice (some ⟨cb,off,none⟩) m.code.length aF,.slice fa m.frames.length aG]++cs,v.oneCell'=true:=by
  intro v hv
  rcases List.mem_append.1 hv with h | h
  ·simp only [List.mem_cons,List.not_mem_nil,or_false] at h
   rcases h with rfl | rfl | rfl | rfl | rfl | rfl | rfl | rfl <;> rfl
  ·exact hS.one v h
 have WY:=hide hone;clear hone;refine jY ?_
 go_wp2_with (first
  | refine yj fM B2 0 cs hcl (fun j v e => by simpa using e) (.tmp 7) rfl rfl rfl ?_
  | (refine iZ adB (ak.new W _ _) 0 _ (by simp [hcl]) (by simp) (ah WY) (.tmp 9) (.tmp 14) rfl rfl rfl (congrArg Value.agg (ah Wu)) ?_; intro w2 hB2 hM2 hs2))
 rw [gB (by simp [hcl])] at hB2;have hb2:Below W.heap.size W w2:=(aS W _).trans (hM2.below (by simp) (fun k hk e=>by omega));have hbw:Below w.heap.size w w2:=hbel.trans (hb2.mono hbel.size)
 have HL:Hid (fQ w w2 W.heap.size p (.slice pa p.length aA) m [.slice pa p.length aA,.int .i64 m.slot,.slice aa m.args.length aI,.int .i64 m.ret,.int .i64 m.locals,.int .i64 m.stack,.slice (some ⟨cb,off,none⟩) m.code.length aF,.slice fa m.frames.length aG] s):=
  ⟨⟨rfl,cs,hS,hB2⟩,ah HP,hbw,hbel.size,rfl,rfl,rfl,hT⟩
 have C1:=B1.below hb2 B1.lt;have C3:=B3.below hb2 B3.lt;have n5:w2.cell? ⟨w.heap.size+1,5,none⟩=some (.slice (some ⟨cb,off,none⟩) m.code.length aF):=C1.cell 5;have y0:=Keeps.of_below hbw _ _ x0;have y1:=Keeps.of_below hbw _ _ x1;have y2:=Keeps.of_below hbw _ _ x2;have hbl:W.heap.size<w2.heap.size:=hB2.lt;have e1:w.heap.size+1≠W.heap.size:=by have:=ah JB;omega
 have e3:w.heap.size+1+1+1≠W.heap.size:=by have:=ah JB;omega
 have pc0:(0:Int)≤(pc:Int):=by omega
 have pc1:(pc:Int)<(m.code.length:Int):=by omega
 clear m0 m1 m2 m3 m4 m5 m6 k0 hB2 hM2 hs2 Wu WY B0 B1 B2 B3 hb2 hS hT;refine jY ?_;go_wp2_with fail
 refine (ahV x p _ m s w _ _ _ (ah HL) G (ah HM) hiX).mono ?_;rintro e w3 ⟨h1,h2,mm⟩;have hb3:Below w.heap.size w2 w3:=mm.below hbw.size (fun k hk e=>by have:=ah JB;omega);have hbw3:=hbw.trans hb3
 cases hr:aY p m x s with
 | none =>
  obtain rfl:=h2 hr;have HN:Hid (jy p m pc s=none):=by show _=_;unfold jy;rw [oM,hr];rfl
  clear hr h1 h2;go_wp2_with fail
  exact abq ⟨fun s' e=>(by rw [ah HN] at e;cases e),fun _=>rfl,hbw3⟩
 | some s1 =>
  obtain⟨rfl,hL3⟩:=h1 s1 hr;have HN:Hid (jy p m pc s=if uH m pc then none else some s1):=by show _=_;unfold jy;rw [oM,hr];rfl
  have BM:=hide hL3;have D1:=C1.mods mm e1;have D3:=C3.mods mm e3;have q5:w3.cell? ⟨w.heap.size+1,5,none⟩=some (.slice (some ⟨cb,off,none⟩) m.code.length aF):=D1.cell 5;clear hr h1 h2 hL3;go_wp2_with fail
  refine P5 ?_;refine jY ?_;go_wp2_with fail
  refine (NW _ _ _ _ _).mono ?_;rintro e w4 ⟨rfl,hw4⟩;have hb4:Below w3.heap.size w3 w4:=by rw [hw4];exact dS _ _ _
  have o1:w4.cell? ⟨w3.heap.size,0,none⟩=some (.slice (some ⟨cb,off,none⟩) m.code.length aF):=by rw [hw4];exact lZ _ _ _ _ 0
  have o2:w4.cell? ⟨w3.heap.size+1,0,none⟩=some (.int .i64 (pc:Int)):=by rw [hw4];exact fC _ _ _ _ 0
  clear hw4;have E1:=D1.below hb4 D1.lt;have E3:=D3.below hb4 D3.lt;have jM:=hbw3.trans (hb4.mono (hbw3.size));have z0:=Keeps.of_below jM _ _ x0;have z1:=Keeps.of_below jM _ _ x1;have z2:=Keeps.of_below jM _ _ x2;have Eo:=hide (OY x pc m.code.length aF cb off w3.heap.size (w3.heap.size+1) (fun _=>False) w4 hpc (by omega) o1 o2 ⟨z0,z1,z2⟩ (fun h=>h) (fun _ h=>h.elim));obtain⟨cs1,S1,L1,VQ,_⟩:=(ah BM).lk.state;have F1:=VQ.below hb4 VQ.lt;go_wp2_with fail
  refine D9 ?_
  refine PZ Tryz.func102 (gf:=158) (lb:= #[.pointer (some ⟨w3.heap.size,0,none⟩),.pointer (some ⟨w3.heap.size+1,0,none⟩)]) rfl (enters_of Tryz.func158 (by kernel_rfl) rfl) (ah Eo) rfl (fun _ h=>h.elim)
   (fun xs V=>(∃dn,gy x pc=dn++xs∧∀y∈dn,y.1≠(m.code.length:Int))∧Below w.heap.size w V∧w4.heap.size≤V.heap.size∧ak V (w.heap.size+1) 63 [.int .i64 m.slot,.slice aa m.args.length aI,.int .i64 m.ret,.int .i64 m.locals,.int .i64 m.stack,.slice (some ⟨cb,off,none⟩) m.code.length aF,.slice fa m.frames.length aG]∧ak V (w.heap.size+1+1+1) 130 (List.replicate 17 (.int .i64 0))∧ak V W.heap.size 222 ([.slice pa p.length aA,.int .i64 m.slot,.slice aa m.args.length aI,.int .i64 m.ret,.int .i64 m.locals,.int .i64 m.stack,.slice (some ⟨cb,off,none⟩) m.code.length aF,.slice fa m.frames.length aG]++cs1))
   (fun c V=>c=jB 5∧(gy x pc).any (fun y=>y.1 == (m.code.length:Int))=true∧Below w.heap.size w V) ?own ⟨⟨[],rfl,fun _ h=>(by cases h)⟩,jM,Nat.le_refl _,E1,E3,F1⟩ ?a1 ?assign ?body ?done ?panic
  case assign=>
   intro l y V K hK;rw [NY];simp only [List.setIfInBounds_toArray,List.set_cons_zero,List.set_cons_succ]
   gi_wp2
   exact hK
  case own=>
   rintro xs V V' ⟨hd,hb,hs,v1,v3,vl⟩ hm;have l1:=E1.lt;have l3:=E3.lt;have ll:=F1.lt;exact⟨hd,hb.trans (hm.below hb.size (fun k hk e=>by have:=jM.size;omega)),Nat.le_trans hs hm.size,v1.mods hm (by omega),v3.mods hm (by omega),vl.mods hm (by omega)⟩
  case body=>
   rintro l y xs V ⟨⟨dn,hdn,hok⟩,E5,ZI,V1,V3,VL⟩;have q5:V.cell? ⟨w.heap.size+1,5,none⟩=some (.slice (some ⟨cb,off,none⟩) m.code.length aF):=V1.cell 5
   by_cases hq:y.1=(m.code.length:Int)
   ·have hq':(y.1 == (m.code.length:Int))=true:=by simpa using hq
    have hany:(gy x pc).any (fun y=>y.1 == (m.code.length:Int))=true:=by rw [hdn];simp [hq]
    have HA:=hide hany;clear hany hq
    gi_wp2_with fail
    refine⟨trivial,rfl,?_⟩;refine (CallsIn.inRound l (callsIn_wide.2 (Hw _))).mono ?_;rintro e w' ⟨rfl,rfl⟩
    gi_wp2_with fail
    exact⟨rfl,ay.refl _ _,rfl,ah HA,E5⟩
   ·have hq':(y.1 == (m.code.length:Int))=false:=by simpa using hq
    have HI2:Hid (∃dn,gy x pc=dn++xs∧∀y∈dn,y.1≠(m.code.length:Int)):=⟨dn++ [y],by rw [hdn];simp,fun z hz=>by
     rcases List.mem_append.1 hz with h | h
     ·exact hok z h
     ·obtain rfl:=List.mem_singleton.1 h;exact hq⟩
    clear hq hok hdn
    gi_wp2_with fail
    exact⟨ay.refl _ _,ah HI2,E5,ZI,V1,V3,VL⟩
  case done=>
   rintro D V hD ⟨⟨dn,hdn,hok⟩,E5,ZI,V1,V3,VL⟩ hK
   have hend:uH m pc=false:=by
    unfold uH;rw [oM,hdn,List.append_nil]
    cases h:dn.any (fun y=>y.1 == (m.code.length:Int)) with
    | false => rfl
    | true =>
     obtain⟨y,hy,hy'⟩:=List.any_eq_true.1 h;exact absurd (by simpa using hy') (hok y hy)
   have HN':Hid (jy p m pc s=some s1):=by show _=_;rw [ah HN,hend];rfl
   have l3:=E3.lt;clear hend hdn hok HN;simp only [Exit.inBlock,Exit.then];refine jY ?_
   go_wp2_with (first
    | refine yj fM VL 8 cs1 L1 (fun j v e => by rw [Ag rfl]; exact e) (.tmp 33) rfl rfl rfl ?_
    | (refine iZ fM V3 0 cs1 L1 (by simp) S1.one (.tmp 8) (.tmp 34) rfl rfl rfl rfl ?_; intro w7 iw kZ hs7))
   rw [gB (by simp [L1])] at iw;have hK7:=(kZ.block D (Array.getElem?_eq_some_iff.1 hK).1 (by omega)).trans hK;have hb7:Below w.heap.size w w7:=E5.trans (kZ.below E5.size (fun k hk e=>by omega));refine Ea ?_;go_wp2_with fail
   refine UD hK7 (IK rfl fM (iw.putObj (by omega) _) L1 rfl) ?_;refine⟨fun s' e=>?_,fun e=>(by rw [ah HN'] at e;cases e),XO hb7 (by have:=jM.size;omega) _⟩;rw [ah HN'] at e;obtain rfl:=Option.some.inj e;exact⟨cs1,rfl,S1,(ah BM).ty⟩
  case panic=>
   rintro D c V hD ⟨rfl,hany,E5⟩ hK
   have hend:uH m pc=true:=by
    unfold uH;rw [oM];exact hany
   have HN':Hid (jy p m pc s=none):=by show _=_;rw [ah HN,hend];rfl
   simp only [Exit.inBlock,Exit.then];refine UC hK ?_;exact⟨fun s' e=>(by rw [ah HN'] at e;cases e),fun _=>rfl,XO E5 (by have:=jM.size;omega) _⟩
end Go.Proofs.YtiiokkllmchohaaGreat
namespace Go.Proofs.YtiiokkllmchohaaGreat
open Go.RowKit Go.Shelf
attribute [local go_sem ↓] Go.wp_at_zero Go.wp_at_succ
attribute [local go_sem] bW
theorem ae7 {P:Program}{w:World}(t ty e:TypeId)(i:TypeInfo)(size:Nat)(ht:P.underlying t=some (.slice e))(hi:P.info? e=some i)(hsize:i.size=size)
  (g o dLen dCap:Nat) (sa:Option Addr) (m c:Nat) (hm:m≤dLen) (hnil:sa=none→m=0∧c=0) (cs:List Value) (hl:cs.length=m*size)
  (hsrc:∀ad,sa=some ad→∀j v,cs[j]? =some v→w.cell? (ad.add j)=some v) (et:TypeId) (cur:List Value) (hg:ak w g et cur) (hfit:o+cs.length≤cur.length) (h1:∀v∈cs,v.oneCell'=true) :
  ∃w',(Builtin.copy_ #[t,t] ty #[.slice (some ⟨g,o,none⟩) dLen dCap,.slice sa m c]).run P w= .ok (goInt m) w'∧ak w' g et (putAt cur o cs)∧ay (fun k=>k=g) w w'∧w'.heap.size=w.heap.size:=by
 subst hsize;have hmin:Nat.min m dLen=m:=Nat.min_eq_left hm
 cases sa with
 | none =>
  obtain⟨rfl,rfl⟩:=hnil rfl;obtain rfl:cs= []:=List.eq_nil_of_length_eq_zero (by simpa using hl);refine⟨w,?_,by simpa [putAt] using hg,ay.refl _ _,rfl⟩;simp [Builtin.copy_,run_underlying ht,Builtin.lenOf,Builtin.firstCells,sizeOf,typeInfo,hi,storeCells]
 | some ad =>
  have hld:=run_loadCells_list (P:=P) w ad cs (hsrc ad rfl);have hst:=run_storeCells_at P g o et cs 0 cur.toArray w hg (by simpa using hfit) h1;simp only [Nat.add_zero] at hst;refine⟨w.setRow g (putAt cur o cs).toArray,?_,setRow_heap w g cur.toArray _ et (0,0) hg,⟨rfl,rfl,rfl,by simp [World.setRow],fun k _ hk=>setRow_other w g k _ hk⟩,by simp [World.setRow]⟩
  ·simp [Builtin.copy_,run_underlying ht,Builtin.lenOf,Builtin.firstCells,sizeOf,typeInfo,hi,hmin,←hl,hld,hst,putAt]
theorem wp_copy_run {P:Program}{w w':World}{o:Oper}{a:Act}{K:Act→World→Prop}{Q:Exit→Act→World→Prop}(s x:Operand)(t:TypeId)
  (ho:o.op= .call { callee:=.builtin .copy,args:= #[s,x],argTypes:= #[t,t] }) (v u:Value) (hs:a.eval s=v) (hx:a.eval x=u) {v':Value}
  (hr:(Builtin.copy_ #[t,t] o.type #[v,u]).run P w= .ok v' w') (h:K (a.put o.dst v') w'):o.wp P a w K Q:=by
 unfold Oper.wp execOp;simp only [ho,resolve,invoke,builtin,Sem.run_bind,Sem.run_pure,Result.andThen_ok,List.map_toArray,List.map_cons,List.map_nil,hs,hx,hr];exact h

def uV (s:aH):List Value:=s.loc.map (Value.int .i64)++(s.stk.map (Value.int .i64)++List.replicate (8-s.stk.length) (.int .i64 0))++ [.int .i64 (s.stk.length:Int)]
theorem LV {s:aH}(h:okS s):(uV s).length=17:=by
 have:=h.1;have:=h.2;simp [uV];omega
theorem Rx {s:aH}(h:okS s):eX s (uV s):=by
 have h1:=h.1;have h2:=h.2;refine⟨h,LV h,fun v hv=>?_,fun i x e=>?_,fun i x e=>?_,?_⟩
 ·simp only [uV,List.mem_append,List.mem_map,List.mem_replicate,List.mem_singleton] at hv
  rcases hv with (⟨x,_,rfl⟩ | ⟨x,_,rfl⟩ | ⟨_,rfl⟩) | rfl <;> exact⟨_,rfl⟩
 ·have hi:i<s.loc.length:=(List.getElem?_eq_some_iff.1 e).1;unfold uV;rw [List.append_assoc,List.getElem?_append_left (by simpa using hi),List.getElem?_map,e];rfl
 ·have hi:i<s.stk.length:=(List.getElem?_eq_some_iff.1 e).1;unfold uV;rw [List.append_assoc,List.getElem?_append_right (by simp;omega),List.length_map,h1,Nat.add_sub_cancel_left,List.append_assoc,List.getElem?_append_left (by simpa using hi),List.getElem?_map,e];rfl
 ·unfold uV;rw [List.getElem?_append_right (by simp;omega)];have:16-(s.loc.map (Value.int .i64)++(s.stk.map (Value.int .i64)++List.replicate (8-s.stk.length) (Value.int .i64 0))).length=0:=by simp;omega
  rw [this];rfl

def zV:List Value:=List.replicate 8 (.int .i64 2)++List.replicate 9 (.int .i64 0)
theorem adV:zV.length=17:=rfl
theorem XP:∀v∈zV,v.oneCell'=true:=by
 intro v hv;simp only [zV,List.mem_append,List.mem_replicate] at hv
 rcases hv with ⟨_,rfl⟩ | ⟨_,rfl⟩ <;> rfl
theorem adW {k:Nat}(hk:k<8):(List.replicate k (Value.int .i64 2)++List.replicate (17-k) (Value.int .i64 0)).set k (.int .i64 2)=List.replicate (k+1) (Value.int .i64 2)++List.replicate (17-(k+1)) (Value.int .i64 0):=by
 obtain⟨n,hn⟩:∃n,17-k=n+1:=⟨16-k,by omega⟩;have hn':17-(k+1)=n:=by omega
 rw [hn,hn',List.set_append_right _ _ (by simp),List.replicate_succ,List.length_replicate,Nat.sub_self,List.set_cons_zero,List.replicate_succ' (n:=k)];simp
theorem ajW (w:World):Calls Tryz.prog 143 #[] w fun e w'=>e= .returned (.agg zV.toArray)∧Below w.heap.size w w':=by
 go_enter Tryz.func143,Tryz.ntmps143
 go_wp2_with fail
 go_loopw [3] (fun i wr=>∃k:Nat,k≤8∧i= .int .i64 k∧ak wr w.heap.size 130 (List.replicate 17 (.int .i64 0))∧ak wr (w.heap.size+1) 130 (List.replicate k (.int .i64 2)++List.replicate (17-k) (.int .i64 0))∧Below w.heap.size w wr) (fun i _=>8-(intOf i).toNat)
 case atStart=>
  refine⟨0,by omega,rfl,?_,?_,?_⟩
  ·exact (ak.new w _ _).alloc _
  ·have:=ak.new (w.alloc (.cells (List.replicate 17 (.int .i64 0)).toArray 130)) (List.replicate 17 (.int .i64 0)).toArray 130;rw [World.size_alloc] at this;exact this
  ·exact dS _ _ _
 case round=>
  obtain⟨k,hk,rfl,b0,b1,hb⟩:=hrel;have l1:=b1.lt
  by_cases hlt:k<8
  ·have c0:wr.cell? ⟨w.heap.size+1,k,none⟩=some (.int .i64 0):=by
    rw [b1.cell,List.getElem?_append_right (by simp),List.length_replicate,Nat.sub_self,List.getElem?_replicate,if_pos (by omega)]
   have f0:=b1.frozen k;have Z:=b1.setCell k (.int .i64 2);rw [adW hlt] at Z;have HZ:=hide (And.intro (b0.iq (p:=⟨w.heap.size+1,k,none⟩) (by simp) (.int .i64 2)) (And.intro Z (hb.setCell (p:=⟨w.heap.size+1,k,none⟩) (by simp) (.int .i64 2))));have hlt':(k:Int)<8:=by omega
   have h0:(0:Int)≤(k:Int):=by omega
   clear Z b0 b1 hb hlt;go_wp2_with fail
   obtain⟨z1,z2,z3⟩:=ah HZ;exact⟨⟨k+1,by omega,by go_num,z1,z2,z3⟩,by simp [intOf];omega⟩
  ·obtain rfl:k=8:=by omega
   have hlt':¬((8:Nat):Int)<8:=by omega
   go_wp2_with (first
    | refine yj fM b1 0 _ rfl (fun j v e => by simpa using e) (.tmp 1) rfl rfl rfl ?_
    | (refine iZ fM b0 0 _ rfl (by simp) XP (.tmp 0) (.tmp 10) rfl rfl rfl rfl ?_; intro w7 iw kZ hs7))
   rw [gB (by rfl:zV.length=(List.replicate 17 (Value.int .i64 0)).length)] at iw;refine bodyPost_ret (IK rfl fM iw rfl rfl) rfl ?_;exact⟨rfl,hb.trans (kZ.below hb.size (fun k hk e=>by omega))⟩
theorem adQ {c:Int}{m:aC}(h:m.args.length≤7):putAt (zV.set 0 (.int .i64 (c+3))) 1 (m.args.map (Value.int .i64))=uV (dO c m):=by
 have e:zV.set 0 (.int .i64 (c+3))= .int .i64 (c+3)::(List.replicate 7 (.int .i64 2)++List.replicate 9 (.int .i64 0)):=rfl;rw [e];unfold putAt uV dO;rw [List.length_map,Nat.add_comm 1,List.drop_succ_cons,List.drop_append_of_le_length (by simpa using h),List.drop_replicate];simp only [List.take_succ_cons,List.take_zero,List.map_cons,List.map_append,List.map_replicate,List.map_nil,List.length_nil,List.nil_append,List.cons_append,Nat.sub_zero,List.append_assoc]
 rfl
theorem ajV (c:Int)(m:aC)(va aQ vf:Value)(w:World)(hc0:0≤c)(hc1:c≤4194304)(hv:bV w.cell? m va aQ vf)(h7:m.args.length≤7) :
  Calls Tryz.prog 79 #[.int .i64 c,bP m va aQ vf] w fun e w'=>e= .returned (.agg (uV (dO c m)).toArray)∧Below w.heap.size w w':=by
 unfold bP;obtain⟨i0,hi0,hz0,hz1,hz2⟩:=info_parts infoType;obtain⟨hva,kG,hvf⟩:=hv;obtain⟨fa,_,_,aG,rfl,_⟩:=hvf;obtain⟨ca,_,_,aF,rfl,_⟩:=kG;obtain⟨aa,aI,rfl,hnil,hsrc⟩:=rH hva;have HB:=hide (adQ (c:=c) h7);go_enter Tryz.func79,Tryz.ntmps79
 go_wp2_with fail
 have hb0:Below w.heap.size w ((w.alloc (.cells #[.int .i64 m.slot,.slice aa m.args.length aI,.int .i64 m.ret,.int .i64 m.locals,.int .i64 m.stack,.slice ca m.code.length aF,.slice fa m.frames.length aG] 63)).alloc (.cells (List.replicate 17 (.int .i64 0)).toArray 130)):=dS _ _ _;have A0:=(ak.new w #[.int .i64 m.slot,.slice aa m.args.length aI,.int .i64 m.ret,.int .i64 m.locals,.int .i64 m.stack,.slice ca m.code.length aF,.slice fa m.frames.length aG] 63).alloc (.cells (List.replicate 17 (.int .i64 0)).toArray 130)
 have A1:=ak.new (w.alloc (.cells #[.int .i64 m.slot,.slice aa m.args.length aI,.int .i64 m.ret,.int .i64 m.locals,.int .i64 m.stack,.slice ca m.code.length aF,.slice fa m.frames.length aG] 63)) (List.replicate 17 (.int .i64 0)).toArray 130;rw [World.size_alloc] at A1;refine (ajW _).mono ?_;rintro e w1 ⟨rfl,hb1⟩;have hb1':Below w.heap.size w w1:=hb0.trans (hb1.mono (by simp;omega));replace A0:=A0.below hb1 A0.lt;replace A1:=A1.below hb1 A1.lt;have l0:=A0.lt;have l1:=A1.lt;clear hb0 hb1;go_wp2_with (refine iZ fM (ak.new _ _ _) 0 zV rfl (by simp) XP (.tmp 5) (.tmp 6) rfl rfl rfl rfl ?_;intro w2 hB2 hM2 hs2)
 rw [gB (by rfl:zV.length=_)] at hB2;have hb2:Below w1.heap.size w1 w2:=(aS w1 _).trans (hM2.below (by simp) (fun k hk e=>by omega));have hb2':Below w.heap.size w w2:=hb1'.trans (hb2.mono hb1'.size);replace A0:=A0.below hb2 A0.lt;replace A1:=A1.below hb2 A1.lt;have c0:w2.cell? ⟨w1.heap.size,0,none⟩=some (.int .i64 2):=hB2.cell 0;have f0:=hB2.frozen 0;have hs:w.heap.size≤w1.heap.size:=hb1'.size;clear hb2 hM2 hs2 hb1';refine (CO c (by omega) (by omega) _).mono ?_;rintro e w' ⟨rfl,rfl⟩;go_wp2_with fail
 have hb3:=hb2'.setCell (p:=⟨w1.heap.size,0,none⟩) hs (.int .i64 (c+3));have B3:=hB2.setCell 0 (.int .i64 (c+3));replace A0:=A0.iq (p:=⟨w1.heap.size,0,none⟩) (by dsimp only;omega) (.int .i64 (c+3));replace A1:=A1.iq (p:=⟨w1.heap.size,0,none⟩) (by dsimp only;omega) (.int .i64 (c+3));generalize w'.setCell _ _=W3 at *;have a1:W3.cell? ⟨w.heap.size,1,none⟩=some (.slice aa m.args.length aI):=A0.cell 1
 obtain⟨w4,hcopy,hB4,jI,hs4⟩:=ae7 (P:=Tryz.prog) (w:=W3.drew) 40 3 43 i0 1 Tryz.underlying40 hi0 hz1 w1.heap.size 1 7 7 aa m.args.length aI h7
  (fun e=>by obtain⟨h,h'⟩:=hnil e;rw [h];exact⟨rfl,h'⟩) (m.args.map (Value.int .i64)) (by simp) (fun ad e j u h=>Keeps.of_below hb3.drew _ _ (hsrc ad e j u h)) 130 _ B3.drew (by simp [adV];omega) (wC _)
 rw [ah HB] at hB4;have hb4:Below w.heap.size w w4:=hb3.drew.trans (jI.below hb3.size (fun k hk e=>by omega));have A14:=A1.drew.mods jI (by omega);have yI:=jI.cell (w:=W3.drew) a1 (by dsimp only;omega);clear c0 f0 hsrc hnil hva;refine wp_region_noPanic ?_;refine wp_region_held_drew (S:=(fun w'=>w'.cell? ⟨w.heap.size,1,none⟩=some (.slice aa m.args.length aI))) (by kernel_rfl) ?_ (fun hHeld=>?_)
 ·exact a1
 refine au 11 0 ?_;refine au 12 1 ?_;refine au 13 2 ?_;refine au 14 3 ?_;refine aW 4 (fun K hK=>?_);refine wp_copy_run (.tmp 12) (.tmp 14) 40 rfl _ _ rfl rfl hcopy ?_;go_simp;refine hK.out _ _ yI (fun hHeld=>?_);clear hK K;try simp only [Act.put,aK,aO,aN]
 refine wpAnyH_done (by kernel_rfl) ?_ _;refine NoPanic.normal ?_;have hok:=OX (c:=c) h7
 go_wp2_with (first
  | refine yj fM hB4 0 _ (LV hok) (fun j v e => by simpa using e) (.tmp 5) rfl rfl rfl ?_
  | (refine iZ fM A14 0 _ (LV hok) (by simp) (Rx hok).one (.tmp 4) (.tmp 16) rfl rfl rfl rfl ?_; intro w7 iw kZ hs7))
 rw [gB (by rw [LV hok];rfl)] at iw;refine bodyPost_ret (IK rfl fM iw (LV hok) rfl) rfl ?_;exact⟨rfl,hb4.trans (kZ.below hb4.size (fun k hk e=>by omega))⟩
theorem XE:ni Tryz.prog 128 8:=⟨by kernel_rfl,by kernel_rfl⟩
theorem acX {ops:Array Oper}{rest:List Oper}{o:Oper}{a:Act}{w:World}{Q:Exit→Act→World→Prop}(x y:Operand)(hgd:o.guard=none)(ho:o.op= .index 128 x y)(cs:List Value)(k:Nat)(v:Value)(hx:a.eval x= .agg cs.toArray)(hy:a.eval y= .int .i64 (k:Int))(hk:k<8)(hv:cs[k]? =some v)
  (hK:wpList Tryz.prog ops Q rest (a.put o.dst v) w):wpList Tryz.prog ops Q (o::rest) a w:=by
 refine wpList_plain hgd fun K hK'=>?_
 have hr:(Instr.index 128 (.agg cs.toArray) (.int .i64 (k:Int))).run Tryz.prog w= .ok v w:=by
  have hu:Tryz.prog.underlying 128=some (.array 8 43):=by kernel_rfl
  obtain⟨i0,hi0,hz0,hz1,hz2⟩:=info_parts infoType;simp [Instr.index,asIntOf,run_underlying hu,part,sizeOf,typeInfo,hi0,hz1,hk,hv]
 unfold Oper.wp execOp;simp only [ho,hx,hy,Sem.run_bind,Sem.run_pure,Result.andThen_ok,hr];exact hK' _ _ hK
theorem acZ {p:List aj}{l o:List Int}{k:Nat}(h1:k<l.length)(h2:k<o.length):((l.zip o).take (k+1)).all (fun x=>bf p x.1 x.2)=(((l.zip o).take k).all (fun x=>bf p x.1 x.2) && bf p l[k] o[k]):=by
 have hk:k<(l.zip o).length:=by simp;omega
 rw [vM hk,List.getElem_zip]
theorem acY {p:List aj}{l o:List Int}{k:Nat}(h1:k<l.length)(h2:k<o.length)(h:bf p l[k] o[k]=false):(l.zip o).all (fun x=>bf p x.1 x.2)=false:=by
 rw [List.all_eq_false];exact⟨(l[k],o[k]),by rw [←List.getElem_zip (h:=by simp;omega)];exact List.getElem_mem _,by simp [h]⟩
theorem acB (p:List aj)(vc:Value)(s t:aH)(cs ds:List Value)(w:World)(hp:aX w vc p)(hs:aU p p.length)(hz:p.length≤4194304)(hS:eX s cs)(hT:eX t ds)(ts:∀x∈s.loc,bT p.length x)(ts':∀x∈s.stk,bT p.length x)(tt:∀x∈t.loc,bT p.length x)(Vy:∀x∈t.stk,bT p.length x) :
  Calls Tryz.prog 141 #[.agg cs.toArray,.agg #[vc],.agg ds.toArray] w fun e w'=>e= .returned (.bool (jw p s t))∧Below w.heap.size w w':=by
 have HP:=hide hp;have sl:=hS.ok.1;have tl:=hT.ok.1;have s8:=hS.ok.2;obtain⟨pa,_,_,aA,rfl,_⟩:=hp;have hbel:Below w.heap.size w (((w.alloc (.cells cs.toArray 130)).alloc (.cells #[.slice pa p.length aA] 24)).alloc (.cells ds.toArray 130)):=((aS w _).alloc (by simp) _).alloc (by simp;omega) _;have B0:ak (((w.alloc (.cells cs.toArray 130)).alloc (.cells #[.slice pa p.length aA] 24)).alloc (.cells ds.toArray 130)) w.heap.size 130 cs:=((ak.new w cs.toArray _).alloc _).alloc _
 have B1:ak (((w.alloc (.cells cs.toArray 130)).alloc (.cells #[.slice pa p.length aA] 24)).alloc (.cells ds.toArray 130)) (w.heap.size+1) 24 [.slice pa p.length aA]:=by
  have:=ak.new (w.alloc (.cells cs.toArray 130)) #[.slice pa p.length aA] 24;rw [World.size_alloc] at this;exact this.alloc _
 have B2:ak (((w.alloc (.cells cs.toArray 130)).alloc (.cells #[.slice pa p.length aA] 24)).alloc (.cells ds.toArray 130)) (w.heap.size+1+1) 130 ds:=by
  have:=ak.new ((w.alloc (.cells cs.toArray 130)).alloc (.cells #[.slice pa p.length aA] 24)) ds.toArray 130;rw [World.size_alloc,World.size_alloc] at this;exact this
 have h0:((((w.alloc (.cells cs.toArray 130)).alloc (.cells #[.slice pa p.length aA] 24)).alloc (.cells ds.toArray 130))).cell? ⟨w.heap.size,16,none⟩=some (.int .i64 (s.stk.length:Int)):=by rw [B0.cell];exact hS.ht
 have h2:((((w.alloc (.cells cs.toArray 130)).alloc (.cells #[.slice pa p.length aA] 24)).alloc (.cells ds.toArray 130))).cell? ⟨w.heap.size+1+1,16,none⟩=some (.int .i64 (t.stk.length:Int)):=by rw [B2.cell];exact hT.ht
 by_cases hlen:s.stk.length=t.stk.length
 ·have hq:((s.stk.length:Int) != (t.stk.length:Int))=false:=by rw [hlen];simp
  have HB0:Hid (jw p s t=((s.loc.zip t.loc).all (fun x=>bf p x.1 x.2) && (s.stk.zip t.stk).all (fun x=>bf p x.1 x.2))):=by
   show _=_
   unfold jw;rw [hlen];simp
  have HLEN:=hide hlen;clear hlen;go_enter Tryz.func141,Tryz.ntmps141
  go_wp2_with (refine yj XE B0 0 (s.loc.map (Value.int .i64)) (by simp [sl]) (fun j v e=>by
    rw [List.getElem?_map] at e
    cases e':s.loc[j]? with
    | none => rw [e'] at e; cases e
    | some x => rw [e'] at e; cases e; rw [Nat.zero_add]; exact hS.loc j x e') (.tmp 16) rfl rfl rfl ?_)
  generalize ((w.alloc _).alloc _).alloc _=W at *
  go_loopw [18] (fun i wr=>∃k:Nat,k≤8∧i= .int .i64 k∧((s.loc.zip t.loc).take k).all (fun x=>bf p x.1 x.2)=true∧Below W.heap.size W wr) (fun i _=>8-(intOf i).toNat)
  case atStart=>exact ⟨0,by omega,rfl,by simp,Below.refl _ _⟩
  case round=>
   obtain⟨k,hk,rfl,hall,hb⟩:=hrel;have C0:=B0.below hb B0.lt;have C1:=B1.below hb B1.lt;have C2:=B2.below hb B2.lt;have HC:=hide (And.intro C0 (And.intro C1 C2));have o9:=hide hb;have nG:=hide hall;have jc:=hide (aP (Keeps.of_below (hbel.trans (hb.mono hbel.size))) (ah HP));clear hall
   by_cases hlt:k<8
   ·have hk1:k<s.loc.length:=by omega
    have hk2:k<t.loc.length:=by omega
    have hx:=ts _ (List.getElem_mem hk1);have hy:=tt _ (List.getElem_mem hk2);have c1:wr.cell? ⟨w.heap.size+1,0,none⟩=some (.slice pa p.length aA):=C1.cell 0;have c2:wr.cell? ⟨w.heap.size+1+1,k,none⟩=some (.int .i64 t.loc[k]):=by rw [C2.cell];exact hT.loc k _ (List.getElem?_eq_getElem hk2)
    have QY:=hide (acZ (p:=p) hk1 hk2);have HBAD:=hide (acY (p:=p) hk1 hk2);have hv:(s.loc.map (Value.int .i64))[k]? =some (.int .i64 s.loc[k]):=by rw [List.getElem?_map,List.getElem?_eq_getElem hk1];rfl
    generalize s.loc[k]=x at *;generalize t.loc[k]=y at *;have hlt':(k:Int)<8:=by omega
    have k0:(0:Int)≤(k:Int):=by omega
    clear C0 C1 C2 hb;go_wp2_with (refine acX (.tmp 17) (.tmp 18) rfl rfl (s.loc.map (Value.int .i64)) k (.int .i64 x) rfl rfl hlt hv ?_)
    refine wp_region_noPanic ?_;refine wp_region_held_drew (S:=(fun w'=>w'.cell? ⟨w.heap.size+1,0,none⟩=some (.slice pa p.length aA)∧w'.cell? ⟨w.heap.size+1+1,k,none⟩=some (.int .i64 y))) (by kernel_rfl) ?_ (fun hHeld=>?_)
    ·exact (And.intro c1 c2)
    refine au 22 0 ?_;refine au 23 1 ?_;refine au 24 2 ?_;refine au 25 3 ?_;refine au 26 4 ?_;refine au 27 5 ?_;refine aW 6 (fun K hK=>?_);go_simp;refine (Ko p _ x y _ (aP (Keeps.of_below ((Below.refl _ _).drew)) (ah jc)) hs hz hx hy).mono ?_;rintro e w3 ⟨rfl,hb3⟩;have dY:Below wr.heap.size wr w3:=⟨hb3.os,hb3.tape,hb3.output,hb3.size,hb3.block⟩;have kk:=Keeps.of_below dY;go_wp2_with fail
    refine hK.out _ _ (And.intro (kk _ _ c1) (kk _ _ c2)) (fun hHeld=>?_);clear hK K;try simp only [Act.put,aK,aO,aN]
    refine au 29 7 ?_;refine wpAnyH_done (by kernel_rfl) ?_ _;refine NoPanic.normal ?_
    cases hq:bf p x y with
    | false =>
     have HN:Hid (jw p s t=false):=by show _=_;rw [ah HB0,ah HBAD hq];rfl
     have HF:=hide (hbel.trans (((ah o9).trans (dY.mono (ah o9).size)).mono hbel.size));clear hq;go_wp2_with fail
     go_ret;rw [ah HN];exact⟨rfl,ah HF⟩
    | true =>
     have HN:Hid (((s.loc.zip t.loc).take (k+1)).all (fun x=>bf p x.1 x.2)=true):=by show _=_;rw [ah QY,ah nG,hq];rfl
     have HF:=hide ((ah o9).trans (dY.mono (ah o9).size));clear hq;go_wp2_with fail
     exact⟨⟨k+1,by omega,by go_num,ah HN,ah HF⟩,by simp [intOf];omega⟩
   ·obtain rfl:k=8:=by omega
    have HA:Hid ((s.loc.zip t.loc).all (fun x=>bf p x.1 x.2)=true):=by
     have:=ah nG
     rwa [List.take_of_length_le (by simp;omega)] at this
    have HB1:Hid (jw p s t=(s.stk.zip t.stk).all (fun x=>bf p x.1 x.2)):=by show _=_;rw [ah HB0,ah HA,Bool.true_and]
    have q0:wr.cell? ⟨w.heap.size,16,none⟩=some (.int .i64 (s.stk.length:Int)):=by rw [C0.cell];exact hS.ht
    have n0:(0:Int)≤(s.stk.length:Int):=by omega
    have n8:(s.stk.length:Int)≤8:=by omega
    have hlt':¬((8:Nat):Int)<8:=by omega
    clear nG hlt;have HLs:=HLEN;clear hq h0 h2;go_wp2_with fail
    generalize wr=V at *;have eY:=hbel.trans (hb.mono hbel.size);clear o9 hb HA jc q0
    go_loopw [36] (fun i wr=>∃k:Nat,k≤s.stk.length∧i= .int .i64 k∧((s.stk.zip t.stk).take k).all (fun x=>bf p x.1 x.2)=true∧Below V.heap.size V wr) (fun i _=>s.stk.length-(intOf i).toNat)
    case atStart=>exact ⟨0,by omega,rfl,by simp,Below.refl _ _⟩
    case round=>
     obtain⟨k,hk,rfl,hall,hb⟩:=hrel;have D0:=C0.below hb C0.lt;have D1:=C1.below hb C1.lt;have D2:=C2.below hb C2.lt;have o9:=hide hb;have nG:=hide hall;have jc:=hide (aP (Keeps.of_below (eY.trans (hb.mono eY.size))) (ah HP));clear hall
     by_cases hlt:k<s.stk.length
     ·have hk2:k<t.stk.length:=by have:=ah HLs;omega
      have hx:=ts' _ (List.getElem_mem hlt);have hy:=Vy _ (List.getElem_mem hk2);have c1:wr.cell? ⟨w.heap.size+1,0,none⟩=some (.slice pa p.length aA):=D1.cell 0;have c2:wr.cell? ⟨w.heap.size+1+1,8+k,none⟩=some (.int .i64 t.stk[k]):=by rw [D2.cell];exact hT.stk k _ (List.getElem?_eq_getElem hk2)
      have c0:wr.cell? ⟨w.heap.size,8+k,none⟩=some (.int .i64 s.stk[k]):=by rw [D0.cell];exact hS.stk k _ (List.getElem?_eq_getElem hlt)
      have QY:=hide (acZ (p:=p) hlt hk2);have HBAD:=hide (acY (p:=p) hlt hk2);generalize s.stk[k]=x at *;generalize t.stk[k]=y at *;have hlt':(k:Int)<(s.stk.length:Int):=by omega
      have agP:(k:Int)<8:=by omega
      have k0:(0:Int)≤(k:Int):=by omega
      clear C0 C1 C2 D0 D1 D2 hb;go_wp2_with fail
      refine wp_region_noPanic ?_;refine wp_region_held_drew (S:=(fun w'=>w'.cell? ⟨w.heap.size+1,0,none⟩=some (.slice pa p.length aA)∧w'.cell? ⟨w.heap.size+1+1,8+k,none⟩=some (.int .i64 y))) (by kernel_rfl) ?_ (fun hHeld=>?_)
      ·exact (And.intro c1 c2)
      refine au 41 0 ?_;refine au 42 1 ?_;refine au 43 2 ?_;refine au 44 3 ?_;refine au 45 4 ?_;refine au 46 5 ?_;refine aW 6 (fun K hK=>?_);go_simp;refine (Ko p _ x y _ (aP (Keeps.of_below ((Below.refl _ _).drew)) (ah jc)) hs hz hx hy).mono ?_;rintro e w3 ⟨rfl,hb3⟩;have dY:Below wr.heap.size wr w3:=⟨hb3.os,hb3.tape,hb3.output,hb3.size,hb3.block⟩;have kk:=Keeps.of_below dY;go_wp2_with fail
      refine hK.out _ _ (And.intro (kk _ _ c1) (kk _ _ c2)) (fun hHeld=>?_);clear hK K;try simp only [Act.put,aK,aO,aN]
      refine au 48 7 ?_;refine wpAnyH_done (by kernel_rfl) ?_ _;refine NoPanic.normal ?_
      cases hq:bf p x y with
      | false =>
       have HN:Hid (jw p s t=false):=by show _=_;rw [ah HB1,ah HBAD hq]
       have HF:=hide (eY.trans (((ah o9).trans (dY.mono (ah o9).size)).mono eY.size));clear hq;go_wp2_with fail
       go_ret;rw [ah HN];exact⟨rfl,ah HF⟩
      | true =>
       have HN:Hid (((s.stk.zip t.stk).take (k+1)).all (fun x=>bf p x.1 x.2)=true):=by show _=_;rw [ah QY,ah nG,hq];rfl
       have HF:=hide ((ah o9).trans (dY.mono (ah o9).size));clear hq;go_wp2_with fail
       exact⟨⟨k+1,by omega,by go_num,ah HN,ah HF⟩,by simp [intOf];omega⟩
     ·have HA:Hid (jw p s t=true):=by
       have:=ah nG;rw [List.take_of_length_le (by simp;omega)] at this
       show _=_
       rw [ah HB1,this]
      have hlt':¬(k:Int)<(s.stk.length:Int):=by omega
      have HF:=hide (eY.trans ((ah o9).mono eY.size));clear hlt;go_wp2_with fail
      go_ret;rw [ah HA];exact⟨rfl,ah HF⟩
 ·have hq:((s.stk.length:Int) != (t.stk.length:Int))=true:=by simp;omega
  have HN:Hid (jw p s t=false):=by
   show _=_
   unfold jw;have:(s.stk.length == t.stk.length)=false:=by simpa using hlen
   rw [this];rfl
  clear hlen;go_enter Tryz.func141,Tryz.ntmps141
  go_wp2_with fail
  go_ret;rw [ah HN];exact⟨rfl,hbel⟩
def uZ (p:List aj)(b:Int)(l:List Nat):Int:=match l.find? (fun (c:Nat)=>bf p b ((c:Int)+3)) with
 | some c => (c : Int) + 3
 | none => 2
def dJ (p:List aj)(a b:Int):Int:=if bf p a b then b else if 3≤a then uZ p b (chainOf p (a-3)) else 2
theorem acL {p:List aj}{b:Int}{c:Nat}{l:List Nat}(h:bf p b ((c:Int)+3)=true):uZ p b (c::l)=(c:Int)+3:=by
 unfold uZ;rw [List.find?_cons_of_pos (p:=fun (c:Nat)=>bf p b ((c:Int)+3)) h]
theorem VA {p:List aj}{b:Int}{c:Nat}{l:List Nat}(h:bf p b ((c:Int)+3)=false):uZ p b (c::l)=uZ p b l:=by
 unfold uZ;rw [List.find?_cons_of_neg (p:=fun (c:Nat)=>bf p b ((c:Int)+3)) (by simp [h])]
theorem YB (p:List aj)(vc:Value)(a b:Int)(w:World)(hp:aX w vc p)(hs:aU p p.length)(hz:p.length≤4194304)(ha:bT p.length a)(hb:bT p.length b) :
  Calls Tryz.prog 199 #[.agg #[vc],.int .i64 a,.int .i64 b] w fun e w'=>e= .returned (.int .i64 (dJ p a b))∧Below w.heap.size w w':=by
 have HP:=hide hp;obtain⟨pa,pb,dB,aA,rfl,hcap,hpa,hpr⟩:=aZ hp;have kP:=hide hpr;clear hpr hp;have hbel:Below w.heap.size w (w.alloc (.cells #[.slice pa p.length aA] 24)):=aS _ _;have B0:ak (w.alloc (.cells #[.slice pa p.length aA] 24)) w.heap.size 24 [.slice pa p.length aA]:=ak.new w _ _;have jc:=hide (aP (Keeps.of_below hbel) (ah HP));go_enter Tryz.func199,Tryz.ntmps199
 go_wp2_with fail
 refine (Ko p _ a b _ (ah jc) hs hz ha hb).mono ?_;rintro e w1 ⟨rfl,hb1⟩;replace B0:=B0.below hb1 B0.lt;have hbw:=hbel.trans (hb1.mono hbel.size);clear hbel hb1 jc
 cases hq:bf p a b with
 | true =>
  have HJ:Hid (dJ p a b=b):=by show _=_;unfold dJ;rw [if_pos hq]
  clear hq;go_wp2_with fail
  go_ret;rw [ah HJ];exact⟨rfl,hbw⟩
 | false =>
  have HJ:Hid (dJ p a b=if 3≤a then uZ p b (chainOf p (a-3)) else 2):=by show _=_;unfold dJ;rw [hq];rfl
  clear hq;go_wp2_with fail
  refine (J9 a _).mono ?_;rintro e w2 ⟨rfl,rfl⟩
  by_cases h3:3≤a
  ·have HJ2:Hid (dJ p a b=uZ p b (chainOf p (a-3))):=by show _=_;rw [ah HJ,if_pos h3]
   have h3':decide (3≤a)=true:=by simpa using h3
   rw [h3'];go_wp2_with fail
   refine (RS a (by omega) (by have:=ha.2;omega) _).mono ?_;rintro e w3 ⟨rfl,rfl⟩;have hlt:=ha.2;clear HJ h3';go_wp2_with fail
   go_loopw [7] (fun s7 wr=>∃c:Int,-1≤c∧c<(p.length:Int)∧s7= .int .i64 c∧dJ p a b=uZ p b (chainOf p c)∧Below w3.heap.size w3 wr) (fun s7 _=>(intOf s7+1).toNat)
   case atStart=>exact ⟨a-3,by omega,by omega,rfl,ah HJ2,Below.refl _ _⟩
   case round=>
    obtain⟨c,hc1,hc2,rfl,hj,hbr⟩:=hrel;have QE:=hide hj;have o9:=hide hbr;have hbw3:=hbw.trans (hbr.mono hbw.size);have C0:=B0.below hbr B0.lt;have q0:wr.cell? ⟨w.heap.size,0,none⟩=some (.slice pa p.length aA):=C0.cell 0;have jc:=hide (aP (Keeps.of_below hbw3) (ah HP));clear hj hbr HJ2
    rcases Int.lt_or_le c 0 with hneg | hpos
    ·have pz:Hid (dJ p a b=2):=by show _=_;rw [ah QE,CJ p hneg];rfl
     have hneg':¬0≤c:=by omega
     go_wp2_with fail
     go_ret;rw [ah pz];exact⟨rfl,hbw3⟩
    ·obtain⟨i,rfl⟩:=Int.eq_ofNat_of_zero_le hpos;have hi:i<p.length:=by omega
     obtain rfl:=hpa (bJ hi);have hX:=List.getElem?_eq_getElem hi;have hsup:=pV (hs i _ hi hX);have rY:=hide (CG p hs hi hX);obtain⟨vf,vm,c0,_,_,_,_⟩:=ah kP i hi;have d0:=Keeps.of_below hbw3 _ _ c0;clear c0 hX;generalize p[i]=x at *;go_wp2_with fail
     refine wp_region_noPanic ?_;refine wp_region_held_drew (S:=(fun w'=>w'.cell? ⟨w.heap.size,0,none⟩=some (.slice (some ⟨pb,dB,none⟩) p.length aA))) (by kernel_rfl) ?_ (fun hHeld=>?_)
     ·exact q0
     refine au 25 0 ?_;refine au 26 1 ?_;refine au 27 2 ?_;refine aW 3 (fun K hK=>?_);go_simp;refine (CO i (by omega) (by omega) _).mono ?_;rintro e w4 ⟨rfl,rfl⟩;go_wp2_with fail
     refine hK.out _ _ q0 (fun hHeld=>?_);clear hK K;try simp only [Act.put,aK,aO,aN]
     refine aW 4 (fun K hK=>?_);go_simp;refine (Ko p _ b ((i:Int)+3) _ (aP (Keeps.of_below ((Below.refl _ _).drew)) (ah jc)) hs hz hb ⟨by omega,by omega⟩).mono ?_;rintro e w5 ⟨rfl,hb5⟩;have Fg:Below wr.heap.size wr w5:=⟨hb5.os,hb5.tape,hb5.output,hb5.size,hb5.block⟩;have C5:=C0.below Fg C0.lt;have q5:w5.cell? ⟨w.heap.size,0,none⟩=some (.slice (some ⟨pb,dB,none⟩) p.length aA):=C5.cell 0;have d5:=Keeps.of_below Fg _ _ d0;go_wp2_with fail
     refine hK.out _ _ q5 (fun hHeld=>?_);clear hK K;try simp only [Act.put,aK,aO,aN]
     refine wpAnyH_done (by kernel_rfl) ?_ _;refine NoPanic.normal ?_;have qw:=hbw3.trans (Fg.mono hbw3.size)
     cases hq:bf p b ((i:Int)+3) with
     | true =>
      have pz:Hid (dJ p a b=(i:Int)+3):=by show _=_;rw [ah QE,ah rY,acL hq]
      clear hq;go_wp2_with fail
      refine (CO i (by omega) (by omega) _).mono ?_;rintro e w6 ⟨rfl,rfl⟩;go_wp2_with fail
      go_ret;rw [ah pz];exact⟨rfl,qw⟩
     | false =>
      have pz:Hid (dJ p a b=uZ p b (chainOf p x.sup)):=by show _=_;rw [ah QE,ah rY,VA hq]
      have Ql:=hide ((ah o9).trans (Fg.mono (ah o9).size));clear hq;go_wp2_with fail
      exact⟨⟨x.sup,hsup.1,by omega,rfl,ah pz,ah Ql⟩,by simp [intOf];omega⟩
  ·have HJ2:Hid (dJ p a b=2):=by show _=_;rw [ah HJ,if_neg h3]
   have h3':decide (3≤a)=false:=by simpa using h3
   rw [h3'];clear HJ h3';go_wp2_with fail
   go_ret;rw [ah HJ2];exact⟨rfl,hbw⟩
end Go.Proofs.YtiiokkllmchohaaGreat
namespace Go.Proofs.YtiiokkllmchohaaGreat
open Go.RowKit
def IY (s:aH)(i:Nat)(t:Int):aH:= { s with stk:=s.stk.set i t }
def oP (p:List aj)(s t:aH):Nat→aH
 | 0 => s
 | k + 1 => xZ (oP p s t k) k (dJ p (s.loc.getD k 0) (t.loc.getD k 0))
def qx (p:List aj)(s t:aH):Nat→aH
 | 0 => oP p s t 8
 | k + 1 => IY (qx p s t k) k (dJ p (s.stk.getD k 0) (t.stk.getD k 0))
def jh (p:List aj)(s t:aH):aH:=qx p s t s.stk.length
theorem Le (p:List aj)(s t:aH):∀k,(oP p s t k).stk=s.stk
 | 0 => rfl
 | k + 1 => Le p s t k
theorem Uj (p:List aj)(s t:aH):∀k,(oP p s t k).loc.length=s.loc.length
 | 0 => rfl
 | k + 1 => by
  show ((oP p s t k).loc.set k _).length=_
  rw [List.length_set,Uj p s t k]
theorem aaT (p:List aj)(s t:aH)(i:Nat):∀k,k≤i→(oP p s t k).loc[i]? =s.loc[i]?
 | 0, _ => rfl
 | k + 1, h => by
  show ((oP p s t k).loc.set k _)[i]? =_
  rw [List.getElem?_set_ne (by omega),aaT p s t i k (by omega)]
theorem Lj (p:List aj)(s t:aH):∀k,(qx p s t k).stk.length=s.stk.length
 | 0 => by
  show (oP p s t 8).stk.length=_
  rw [Le]
 | k + 1 => by
  show ((qx p s t k).stk.set k _).length=_
  rw [List.length_set,Lj p s t k]
theorem aaW (p:List aj)(s t:aH)(i:Nat):∀k,k≤i→(qx p s t k).stk[i]? =s.stk[i]?
 | 0, _ => by
  show (oP p s t 8).stk[i]? =_
  rw [Le]
 | k + 1, h => by
  show ((qx p s t k).stk.set k _)[i]? =_
  rw [List.getElem?_set_ne (by omega),aaW p s t i k (by omega)]
theorem eX.ajP {s:aH}{cs:List Value}(h:eX s cs)(i:Nat)(t:Int)(hi:i<s.stk.length):eX (IY s i t) (cs.set (8+i) (.int .i64 t)):=by
 have h8:=h.ok.2;have hl:=h.ok.1;have hc:=h.len;refine⟨⟨hl,by simpa [IY] using h8⟩,by simpa using hc,ints_set h.ints _ _,fun j x e=>?_,fun j x e=>?_,?_⟩
 ·have hj:j<s.loc.length:=(List.getElem?_eq_some_iff.1 e).1;rw [List.getElem?_set_ne (by omega)];exact h.loc j x e
 ·have e':(s.stk.set i t)[j]? =some x:=e
  by_cases hij:i=j
  ·subst hij;rw [List.getElem?_set_self hi] at e';obtain rfl:=Option.some.inj e';rw [List.getElem?_set_self (by omega)]
  ·rw [List.getElem?_set_ne hij] at e';rw [List.getElem?_set_ne (by omega)];exact h.stk j x e'
 ·rw [List.getElem?_set_ne (by omega)];have:(IY s i t).stk.length=s.stk.length:=by simp [IY]
  rw [this];exact h.ht
end Go.Proofs.YtiiokkllmchohaaGreat
namespace Go.Proofs.YtiiokkllmchohaaGreat
open Go.RowKit Go.Shelf
attribute [local go_sem ↓] Go.wp_at_zero Go.wp_at_succ
attribute [local go_sem] bW
theorem jQ {P:Program}{fn:Func}{t u:Tmp}{ty t':TypeId}{n g:Nat}{w:World}{vs:List Value}{tmps:Array Value}(h:fn.results= #[.cell t ty,.tmp u])(hA:ni P ty n)(hB:ak w g t' vs)(hl:vs.length=n)(hx:tmps.getD t undef= .pointer (some ⟨g,0,none⟩)) :
  (results fn tmps).run P w= .ok (.tuple #[.agg vs.toArray,tmps.getD u undef]) w:=by
 have:=Va hA hB 0 vs hl (fun j v e=>by simpa using e);have hx':tmps[t]?.getD undef= .pointer (some ⟨g,0,none⟩):=by rw [←hx];simp
 simp [results,h,hx',asAddr,this]

def ac3 (p:List aj)(m:aC):Prop:=∀f∈m.frames,f.locals.length≤8∧f.stack.length≤8∧kV p.length m.stack (akk f)
def eH:List Value:=List.replicate 17 (.int .i64 0)
theorem VN:∀v∈eH,v.oneCell'=true:=by
 intro v hv;simp only [eH,List.mem_replicate] at hv
 rcases hv with ⟨_,rfl⟩;rfl
end Go.Proofs.YtiiokkllmchohaaGreat
namespace Go.Proofs.YtiiokkllmchohaaGreat
open Go.RowKit Go.Shelf
attribute [local go_sem ↓] Go.wp_at_zero Go.wp_at_succ
attribute [local go_sem] bW
attribute [local go_sem] Oper.semAt_some
section
variable {P : Program} {f : FuncId} {Q : Exit → Act → World → Prop} {a : Act} {w : World}
theorem VK {x y:Code}{J:Act→World→Prop}(h2:∀a w,J a w→ng P f y Q a w)(h1:ng P f x (Exit.then J Q) a w):ng P f (x.seq y) Q a w:=
 P5 (aks h1 fun e _ _ h=>match e,h with
  | .normal, h => h2 _ _ h
  | .exit _, h => h
  | .goto _, h => h
  | .ret, h => h
  | .panic _, h => h
  | .outgrown, h => h)
end
def FC (D:Nat):Deferred:= { target:=.collected D,args:= #[] }
theorem acW {F:Fence}{N:Nat}{P:Program}{ty:TypeId}{n:Nat}(h:ni P ty n){w:World}{g:Nat}{t:TypeId}{cur:List Value}(hB:ak w g t cur)(off:Nat)(vs:List Value)(hl:vs.length=n)(hv:∀j v,vs[j]? =some v→cur[off+j]? =some v)
  {ops:Array Oper} {rest:List Oper} {o:Oper} {a:Act} {Q:Exit→Act→World→Prop} (x:Operand) (hgd:o.guard=none) (ho:o.op= .load ty x) (hx:a.eval x= .pointer (some ⟨g,off,none⟩))
  (hK:wpListIn F N P ops Q rest (a.put o.dst (.agg vs.toArray)) w):wpListIn F N P ops Q (o::rest) a w:=by
 refine wpListIn_plain hgd fun K hK'=>?_;unfold Oper.wpIn;refine⟨by simp [Oper.about,ho],?_⟩;rw [Oper.semAt_plain F _ _ (by rw [ho];intro c hc';cases hc'),qQ h hB off vs hl hv ho hx];exact hK' _ _ hK
theorem OM {V:World}{D g:Nat}{t:TypeId}{cs:List Value}{x:Option (List Deferred)}(h1:V.heap[D]? =some (.deferred x))(h2:ak V g t cs):D≠g:=by
 rintro rfl;unfold ak at h2;rw [h1] at h2
 cases h2
section
variable {w V V' : World} {p : List aj} {m : aC} {bh ba : Nat} {vp : Value} {mc : List Value} {ds : List Nat} {h : Option aH}
end
end Go.Proofs.YtiiokkllmchohaaGreat
namespace Go.Proofs.YtiiokkllmchohaaGreat
open Go.RowKit Go.Shelf
attribute [local go_sem ↓] Go.wp_at_zero Go.wp_at_succ
attribute [local go_sem] bW
theorem nH:ni Tryz.prog 63 7:=⟨by kernel_rfl,by kernel_rfl⟩
def jE:List Value:= [.int .i64 0,.slice none 0 0,.int .i64 0,.int .i64 0,.int .i64 0,.slice none 0 0,.slice none 0 0]
theorem Eb:∀v∈jE,v.oneCell'=true:=by
 intro v hv;simp only [jE,List.mem_cons,List.not_mem_nil,or_false] at hv
 rcases hv with rfl | rfl | rfl | rfl | rfl | rfl | rfl <;> rfl
def bQ (p:List aj)(c k:Int):Option aC:=if 0≤c∧0≤k then (p[c.toNat]?).bind fun x=>x.aB[k.toNat]? else none
theorem ais {p:List aj}{c k:Nat}(hc:c<p.length)(hk:k<p[c].aB.length):bQ p c k=some p[c].aB[k]:=by
 unfold bQ;rw [if_pos ⟨by omega,by omega⟩,Int.toNat_natCast,Int.toNat_natCast,List.getElem?_eq_getElem hc,Option.bind_some,List.getElem?_eq_getElem hk]
def adx (p:List aj)(c k:Int)(w0 w w':World)(e:Ending):Prop:=
 (∀m,bQ p c k=some m→∃va aQ vf,e= .returned (.tuple #[bP m va aQ vf,.bool true])∧bV w0.cell? m va aQ vf)∧(bQ p c k=none→e= .returned (.tuple #[.agg jE.toArray,.bool false]))∧Below w.heap.size w w'
theorem ae3 (p:List aj)(vc:Value)(c k:Int)(w0 w:World)(hp:aX w0 vc p)(hb0:Below w0.heap.size w0 w)(hpl:p.length≤4194304) :
  Calls Tryz.prog 77 #[.agg #[vc],.int .i64 c,.int .i64 k] w fun e w'=>adx p c k w0 w w' e:=by
 have HP:=hide hp;obtain⟨pa,pb,dB,aA,rfl,hcap,hpa,hpr⟩:=aZ hp;have kP:=hide hpr;clear hpr hp;have hbel:Below w.heap.size w ((w.alloc (.cells #[.slice pa p.length aA] 24)).alloc (.cells jE.toArray 63)):=dS _ _ _;have B0:ak ((w.alloc (.cells #[.slice pa p.length aA] 24)).alloc (.cells jE.toArray 63)) w.heap.size 24 [.slice pa p.length aA]:=(ak.new w _ _).alloc _
 have B1:ak ((w.alloc (.cells #[.slice pa p.length aA] 24)).alloc (.cells jE.toArray 63)) (w.heap.size+1) 63 jE:=by
  have:=ak.new (w.alloc (.cells #[.slice pa p.length aA] 24)) jE.toArray 63;rw [World.size_alloc] at this;exact this
 have jc:=hide (aP (Keeps.of_below (hb0.trans (hbel.mono hb0.size))) (ah HP));go_enter Tryz.func77,Tryz.ntmps77
 go_wp2_with fail
 refine (Yx p _ c _ (ah jc) hpl).mono ?_;rintro e w1 ⟨rfl,hb1⟩;replace B0:=B0.below hb1 B0.lt;replace B1:=B1.below hb1 B1.lt;have hbw:=hbel.trans (hb1.mono hbel.size);have hbw0:=hb0.trans (hbw.mono hb0.size);have c0:w1.cell? ⟨w.heap.size,0,none⟩=some (.slice pa p.length aA):=B0.cell 0;have c6:∃v,w1.cell? ⟨w.heap.size+1,0,none⟩=some v:=⟨_,B1.cell 0⟩;clear hbel hb1 jc c6
 by_cases hc:0≤c∧c<(p.length:Int)
 ·obtain⟨n,rfl⟩:=Int.eq_ofNat_of_zero_le hc.1;have hn:n<p.length:=by omega
  obtain rfl:=hpa (bJ hn);have hpb:dV (n:Int) p.length=true:=by rw [oU];omega
  obtain⟨vf,vm,d0,d1,d2,hf,hmm⟩:=ah kP n hn;obtain⟨ma,mb,fH,dW,rfl,yV,hma,hmr⟩:=aZ hmm;have e2:=Keeps.of_below hbw0 _ _ d2;have hn1:(n:Int)<(p.length:Int):=by omega
  have hn0:(0:Int)≤(n:Int):=by omega
  clear d0 d1 d2 hf hmm;rw [hpb]
  by_cases hk:0≤k∧k<((p[n].aB.length:Nat):Int)
  ·obtain⟨j,rfl⟩:=Int.eq_ofNat_of_zero_le hk.1;have hj:j<p[n].aB.length:=by omega
   obtain rfl:=hma (bJ hj);have wL:=hide (ais hn hj);obtain⟨va,aQ,vf,hv,g0,g1,g2,g3,g4,g5,g6⟩:=hmr j hj;have HV:=hide hv;obtain⟨hva,kG,hvf⟩:=hv;obtain⟨aa,_,_,aI,rfl,_⟩:=hva;obtain⟨ca,_,_,aF,rfl,_⟩:=kG;obtain⟨fa,_,_,aG,rfl,_⟩:=hvf;have kp:=Keeps.of_below hbw0;replace g0:=kp _ _ g0;replace g1:=kp _ _ g1;replace g2:=kp _ _ g2;replace g3:=kp _ _ g3;replace g4:=kp _ _ g4;replace g5:=kp _ _ g5;replace g6:=kp _ _ g6;have hj0:¬(j:Int)<0:=by omega
   have hj1:¬((p[n].aB.length:Nat):Int)≤(j:Int):=by omega
   have hj2:(j:Int)<((p[n].aB.length:Nat):Int):=by omega
   have hj3:(0:Int)≤(j:Int):=by omega
   clear hmr kp hc hk;generalize p[n].aB[j]=m at *;generalize p[n].aB.length=ml at *;go_wp2_with (refine iZ nH B1 0 [_,_,_,_,_,_,_] rfl (by simp [jE]) (fun v hv=>by simp only [List.mem_cons,List.not_mem_nil,or_false] at hv;rcases hv with rfl | rfl | rfl | rfl | rfl | rfl | rfl <;> rfl) (.tmp 6) (.tmp 36) rfl rfl rfl rfl ?_;intro w7 iw kZ hs7)
   rw [gB (by rfl)] at iw;refine bodyPost_ret (jQ rfl nH iw rfl rfl) rfl ?_;refine⟨fun m' e=>?_,fun e=>(by rw [ah wL] at e;cases e),hbw.trans (kZ.below hbw.size (fun k hk e=>by omega))⟩;rw [ah wL] at e;obtain rfl:=Option.some.inj e;exact⟨_,_,_,rfl,ah HV⟩
  ·have wL:Hid (bQ p n k=none):=by
    show _=_
    unfold bQ
    split
    ·rw [Int.toNat_natCast,List.getElem?_eq_getElem hn,Option.bind_some,List.getElem?_eq_none (by omega)]
    ·rfl
   clear hmr hma;generalize p[n].aB.length=ml at *
   by_cases hk0:k<0
   ·clear hk hc;go_wp2_with (refine iZ nH B1 0 jE rfl (by simp [jE]) Eb (.tmp 6) (.tmp 27) rfl rfl rfl rfl ?_;intro w7 iw kZ hs7)
    rw [gB (by rfl)] at iw;refine bodyPost_ret (jQ rfl nH iw rfl rfl) rfl ?_;exact⟨fun m e=>(by rw [ah wL] at e;cases e),fun _=>rfl,hbw.trans (kZ.below hbw.size (fun k hk e=>by omega))⟩
   ·have hk1:(ml:Int)≤k:=by omega
    clear hk hc;go_wp2_with (refine iZ nH B1 0 jE rfl (by simp [jE]) Eb (.tmp 6) (.tmp 27) rfl rfl rfl rfl ?_;intro w7 iw kZ hs7)
    rw [gB (by rfl)] at iw;refine bodyPost_ret (jQ rfl nH iw rfl rfl) rfl ?_;exact⟨fun m e=>(by rw [ah wL] at e;cases e),fun _=>rfl,hbw.trans (kZ.below hbw.size (fun k hk e=>by omega))⟩
 ·have wL:Hid (bQ p c k=none):=by
   show _=_
   unfold bQ
   split
   ·rw [List.getElem?_eq_none (by omega)];rfl
   ·rfl
  have hpb:dV c p.length=false:=by
   cases h:dV c p.length with
   | false => rfl
   | true => exact absurd (oU.1 h) hc
  rw [hpb];clear hc;go_wp2_with (refine iZ nH B1 0 jE rfl (by simp [jE]) Eb (.tmp 6) (.tmp 27) rfl rfl rfl rfl ?_;intro w7 iw kZ hs7)
  rw [gB (by rfl)] at iw;refine bodyPost_ret (jQ rfl nH iw rfl rfl) rfl ?_;exact⟨fun m e=>(by rw [ah wL] at e;cases e),fun _=>rfl,hbw.trans (kZ.below hbw.size (fun k hk e=>by omega))⟩
end Go.Proofs.YtiiokkllmchohaaGreat
namespace Go.Proofs.YtiiokkllmchohaaGreat
open Go.RowKit Go.Shelf
attribute [local go_sem ↓] Go.wp_at_zero Go.wp_at_succ
attribute [local go_sem] bW
attribute [local go_sem] Oper.semAt_some
end Go.Proofs.YtiiokkllmchohaaGreat
