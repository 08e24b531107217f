/- The document's solver: its rows of states, as they lie. -/
import Derived.Test.YtiiokkllmchohaaGreatT01
import Derived.Test.YtiiokkllmchohaaGreatT34
import Derived.Test.YtiiokkllmchohaaGreatT35
import Derived.Test.YtiiokkllmchohaaGreatT36
import Derived.Test.YtiiokkllmchohaaGreatT38
set_option maxHeartbeats 4000000
set_option maxRecDepth 100000
namespace Go.Proofs.YtiiokkllmchohaaGreat
open Go.RowKit Go.Shelf
structure sH (V:World)(p:List aj)(m:aC)(B lb:Nat)(R:List (Option aH))(cs:List Value):Prop where
 blk:ak V lb 149 cs
 len:cs.length=R.length*3
 row:∀i r,R[i]? =some r→∃vl vs,cs[i*3]? =some (.bool r.isSome)∧cs[i*3+1]? =some vl∧cs[i*3+2]? =some vs∧dG (sel (fun k=>B≤k∧k≠lb) V) (xE r) vl vs∧∀s,r=some s→qM p m s
section
variable {w V V' : World} {p : List aj} {m : aC} {B lb : Nat} {R : List (Option aH)} {cs : List Value} {vp mJ mM lS : Value}
theorem sH.below (h:sH V p m B lb R cs)(b:Below V.heap.size V V'):sH V' p m B lb R cs:=
 ⟨h.blk.below b h.blk.lt,h.len,fun i r e=>by
  obtain⟨vl,vs,a,b',c,d,f⟩:=h.row i r e;exact⟨vl,vs,a,b',c,dG.keep (dR (ay.of_below b) fun k hk hS=>⟨fun e=>by omega,hS⟩) d,f⟩⟩
theorem sH.set (h:sH V p m B lb R cs){i:Nat}(hi:i<R.length){g:aH}{vl vs:Value}(hM:ay (fun k=>k=lb) V V')(hB:ak V' lb 149 (putAt cs (i*3) [.bool true,vl,vs]))(hS:dG (sel (fun k=>B≤k∧k≠lb) V) g vl vs)(hO:qM p m g):sH V' p m B lb (R.set i (some g)) (putAt cs (i*3) [.bool true,vl,vs]):=by
 have hf:i*3+ [Value.bool true,vl,vs].length≤cs.length:=by have:=h.len;simp;omega
 have h3: [Value.bool true,vl,vs].length=3:=rfl;refine⟨hB,by rw [aiF hf,List.length_set];exact h.len,fun j r e=>?_⟩
 by_cases ej:j=i
 ·subst ej;rw [List.getElem?_set_self hi] at e
  cases e
  refine⟨vl,vs,?_,?_,?_,dG.keep (dR hM fun k _ hk=>⟨hk.2,hk⟩) hS,fun s e=>by cases e;exact hO⟩
  ·rw [O9 hf,if_neg (by omega),if_pos (by omega),show j*3-j*3=0 by omega];rfl
  ·rw [O9 hf,if_neg (by omega),if_pos (by omega),show j*3+1-j*3=1 by omega];rfl
  ·rw [O9 hf,if_neg (by omega),if_pos (by omega),show j*3+2-j*3=2 by omega];rfl
 ·rw [List.getElem?_set_ne (fun e=>ej e.symm)] at e;obtain⟨vl',vs',a,b,c,d,f⟩:=h.row j r e
  have key:∀d v,d<3→cs[j*3+d]? =some v→(putAt cs (i*3) [.bool true,vl,vs])[j*3+d]? =some v:=fun d v hd e=>by
   rw [O9 hf]
   by_cases q:j*3+d<i*3
   ·rw [if_pos q];exact e
   ·rw [if_neg q,if_neg (by omega)];exact e
  exact⟨vl',vs',key 0 _ (by omega) a,key 1 _ (by omega) b,key 2 _ (by omega) c,dG.keep (dR hM fun k _ hk=>⟨hk.2,hk⟩) d,f⟩
theorem sH.new {n:Nat}(hB:ak V lb 149 (madeCells (Value.agg #[.bool false,.slice none 0 0,.slice none 0 0]).cells (n*3)).toList):sH V p m B lb (List.replicate n none) (madeCells (Value.agg #[.bool false,.slice none 0 0,.slice none 0 0]).cells (n*3)).toList:=by
 refine⟨hB,by rw [Io,List.length_replicate],fun i r e=>?_⟩;rw [List.getElem?_replicate] at e
 split at e
 ·rename_i hi
  cases e
  refine⟨.slice none 0 0,.slice none 0 0,?_,?_,?_,⟨yZ,yZ⟩,fun s e=>by cases e⟩
  ·rw [UA _ _ _ (by omega) (by decide),show i*3 % (Value.agg #[.bool false,.slice none 0 0,.slice none 0 0]).cells.size=0 from by show i*3 % 3=0;omega];rfl
  ·rw [UA _ _ _ (by omega) (by decide),show (i*3+1) % (Value.agg #[.bool false,.slice none 0 0,.slice none 0 0]).cells.size=1 from by show (i*3+1) % 3=1;omega];rfl
  ·rw [UA _ _ _ (by omega) (by decide),show (i*3+2) % (Value.agg #[.bool false,.slice none 0 0,.slice none 0 0]).cells.size=2 from by show (i*3+2) % 3=2;omega];rfl
 ·cases e
structure vK (w V:World)(p:List aj)(m:aC)(lb:Nat)(vp mJ mM lS:Value)(R:List (Option aH))(cs:List Value):Prop where
 bel:Below w.heap.size w V
 b0:ak V w.heap.size 24 [vp]
 b1:ak V (w.heap.size+1) 63 [.int .i64 m.slot,mJ,.int .i64 m.ret,.int .i64 m.locals,.int .i64 m.stack,mM,lS]
 rows:sH V p m w.heap.size lb R cs
 len:R.length=m.code.length
 lo:w.heap.size+1<lb
theorem vK.below (i:vK w V p m lb vp mJ mM lS R cs)(b:Below V.heap.size V V'):vK w V' p m lb vp mJ mM lS R cs:=
 ⟨i.bel.trans (b.mono i.bel.size),i.b0.below b i.b0.lt,i.b1.below b i.b1.lt,i.rows.below b,i.len,i.lo⟩
theorem vK.set (i:vK w V p m lb vp mJ mM lS R cs){k:Nat}(hk:k<R.length){g:aH}{vl vs:Value}(hM:ay (fun k=>k=lb) V V')(hB:ak V' lb 149 (putAt cs (k*3) [.bool true,vl,vs]))(hS:dG (sel (fun k=>w.heap.size≤k∧k≠lb) V) g vl vs)(hO:qM p m g):vK w V' p m lb vp mJ mM lS (R.set k (some g)) (putAt cs (k*3) [.bool true,vl,vs]):=by
 have hlo:=i.lo;exact⟨i.bel.trans (hM.below i.bel.size (fun k hk e=>by omega)),i.b0.mods hM (by omega),i.b1.mods hM (by omega),i.rows.set hk hM hB hS hO,by rw [List.length_set];exact i.len,i.lo⟩
theorem sH.at_ (h:sH V p m B lb R cs){i:Nat}(hi:i<R.length):∃a n c a' n' c',V.cell? ⟨lb,i*3,none⟩=some (.bool (R.getD i none).isSome)∧V.cell? ⟨lb,i*3+1,none⟩=some (.slice a n c)∧V.cell? ⟨lb,i*3+2,none⟩=some (.slice a' n' c')∧dG (sel (fun k=>B≤k∧k≠lb) V) (xE (R.getD i none)) (.slice a n c) (.slice a' n' c')∧∀s,R.getD i none=some s→qM p m s:=by
 have e:R[i]? =some (R.getD i none):=by rw [List.getD_eq_getElem?_getD,List.getElem?_eq_getElem hi];rfl
 obtain⟨vl,vs,h0,h1,h2,hS,hO⟩:=h.row i _ e;obtain⟨a,_,_,c,rfl,_⟩:=hS.1;obtain⟨a',_,_,c',rfl,_⟩:=hS.2;exact⟨_,_,_,_,_,_,(h.blk.cell _).trans h0,(h.blk.cell _).trans h1,(h.blk.cell _).trans h2,hS,hO⟩
end
structure BZ (V:World)(p:List aj)(m:aC)(B lb bo:Nat)(out:aH)(vl vs:Value):Prop where
 blk:ak V bo 149 [.bool true,vl,vs]
 st:dG (sel (fun k=>B≤k∧k≠lb) V) out vl vs
 ok:qM p m out
 ne:lb<bo
theorem BZ.below {V V':World}{p:List aj}{m:aC}{B lb bo:Nat}{out:aH}{vl vs:Value}(i:BZ V p m B lb bo out vl vs)(b:Below V.heap.size V V'):BZ V' p m B lb bo out vl vs:=
 ⟨i.blk.below b i.blk.lt,dG.keep (dR (ay.of_below b) fun k hk hS=>⟨fun e=>by omega,hS⟩) i.st,i.ok,i.ne⟩
theorem BZ.mods {V V':World}{p:List aj}{m:aC}{B lb bo:Nat}{out:aH}{vl vs:Value}(i:BZ V p m B lb bo out vl vs)(hM:ay (fun k=>k=lb) V V'):BZ V' p m B lb bo out vl vs:=
 ⟨i.blk.mods hM (by have:=i.ne;omega),dG.keep (dR hM fun k _ hk=>⟨hk.2,hk⟩) i.st,i.ok,i.ne⟩
theorem agi {p:List aj}{m:aC}{x:eF}{k:Nat}(hi:bC p m x=true){y:Int}(hy:y∈qZ x k):0≤y:=by
 unfold qZ at hy
 rcases List.mem_append.1 hy with h | h
 ·split at h
  ·obtain rfl:=List.mem_singleton.1 h;omega
  ·cases h
 ·split at h
  ·rename_i hj;obtain rfl:=List.mem_singleton.1 h;have J:=AO (p:=p) (m:=m) (op:=x.op) (a:=x.a) (b:=x.b) hi;have ha:=J.jmp (by unfold gU at hj;simp only [Bool.or_eq_true,beq_iff_eq] at hj;omega);omega
  ·cases h
def adA (p:List aj)(m:aC)(r:Option (List (Option aH)))(w w':World)(e:Ending):Prop:=
 (r=none→e= .returned (.tuple #[.slice none 0 0,.bool false]))∧(∀R,r=some R→∃lb cs,e= .returned (.tuple #[.slice (some ⟨lb,0,none⟩) m.code.length m.code.length,.bool true])∧sH w' p m w.heap.size lb R cs∧R.length=m.code.length∧w.heap.size≤lb)∧Below w.heap.size w w'
theorem ahr:(Tryz.prog.info? 149).map (fun i=>(i.zero,i.size,i.bytes))=some (some (.agg #[.bool false,.slice none 0 0,.slice none 0 0]),3,56):=by kernel_rfl
theorem JH.form {p:List aj}{r:Option aH}{out:aH}{oa jW:Option Addr}{on oc on' oc':Nat}{w w':World}{e:Ending}{S:Nat→Prop} [DecidablePred S] (h:JH p r.isSome true (xE r) out (.slice oa on oc) (.slice jW on' oc') w w' e)(hS:dG (sel S w) out (.slice oa on oc) (.slice jW on' oc'))(hw:∀k,w.heap.size≤k→S k) :
  ∃q a n c a' n' c' ok,e= .returned (.tuple #[.agg #[.bool q,.slice a n c,.slice a' n' c'],.bool ok])∧(∀g,qh p r out=some g→q=true∧ok=true∧dG (sel S w') g (.slice a n c) (.slice a' n' c'))∧(qh p r out=none→ok=false)∧Below w.heap.size w w':=by
 obtain⟨h1,h2,h3,hb⟩:=h;have hk:dM (sel S w) (sel S w'):=dR (ay.of_below hb) fun k hk hS=>⟨fun e=>by omega,hS⟩
 cases r with
 | none =>
  have e1:=h1 rfl;exact⟨true,_,_,_,_,_,_,true,e1,fun g e=>(by cases e;exact⟨rfl,rfl,dG.keep hk hS⟩),fun e=>(by cases e),hb⟩
 | some t =>
  by_cases hn:t.stk.length=out.stk.length
  ·obtain⟨vl,vs,rfl,hN⟩:=h3 rfl hn;have hN':=dG.keep (g':=sel S w') (dR (ay.refl (fun _=>False) w') fun k hk hS=>⟨fun e=>e,hw k hS⟩) hN;obtain⟨a,_,_,c,rfl,_⟩:=hN'.1;obtain⟨a',_,_,c',rfl,_⟩:=hN'.2;refine⟨true,_,_,_,_,_,_,true,rfl,fun g e=>?_,fun e=>?_,hb⟩
   ·unfold qh at e;dsimp only at e;rw [if_pos hn] at e
    cases e
    exact⟨rfl,rfl,hN'⟩
   ·unfold qh at e;dsimp only at e;rw [if_pos hn] at e
    cases e
  ·have e1:=h2 rfl hn;refine⟨false,_,_,_,_,_,_,false,e1,fun g e=>?_,fun _=>rfl,hb⟩;unfold qh at e;dsimp only at e;rw [if_neg hn] at e
   cases e
end Go.Proofs.YtiiokkllmchohaaGreat
namespace Go.Proofs.YtiiokkllmchohaaGreat
open Go.RowKit Go.Shelf
attribute [local go_sem ↓] Go.wp_at_zero Go.wp_at_succ
attribute [local go_sem] bW
theorem acd (p:List aj)(vc:Value)(c:Int)(m:aC)(va aQ vf:Value)(w:World)(hp:aX w vc p)(hv:bV w.cell? m va aQ vf)(hF:bD p=0)(hz:bn p≤4194304)(M:vJ p m)(hins:∀i∈m.code,bC p m i=true)(dD:m.code.length≤40)(hc0:0≤c)(hc1:c<(p.length:Int))(h1:1+(m.args.length:Int)≤m.locals)(hb:wF p m (dO c m))(hcl:1≤m.code.length)(N:Nat)(r:Option (List (Option aH)))(hN:yL p m N (Ny c m)=some r) :
  Calls Tryz.prog 52 #[.agg #[vc],.int .i64 c,bP m va aQ vf] w fun e w'=>adA p m r w w' e:=by
 have HP:=hide hp;have HV:=hide hv;have HN:=hide hN;have G:=CW hF hz;have h6:=(qX hF).1.2;have hpl:p.length≤4194304:=Nat.le_trans (eG p) hz;have Wi:=hide (fun w hv=>ajc c m va aQ vf w hv hc0 (by omega) h1 M.loc);have HST:=hide (fun (x:eF) s ib vl vs w hp hv hi hS tS hl hk=>ajj p vc m va aQ vf x s ib vl vs w hp hv hF hz M hi hS tS hl hk);have Wx:=hide (fun (i:Nat) w hv hi=>ajd m va aQ vf i w hv hi dD);have WA:=hide (fun s t ia ib val nT mg mD w hp hA hB tA tB l1 l2 hll=>ajh p vc s t ia ib val nT mg mD w hp G.sup h6 hA hB tA tB l1 l2 hll)
 have HUN:=hide (fun s t ia ib val nT mg mD w hp hA hB tA tB l1 l2=>ajn p vc s t ia ib val nT mg mD w hp G.sup hpl hA hB tA tB l1 l2);unfold bP at Wi HST Wx ⊢;obtain⟨iS,hiS,hi0,hi1,hi2⟩:=info_parts ahr;obtain⟨pa,_,_,aA,rfl,_⟩:=hp;obtain⟨aa,_,_,aI,rfl,_⟩:=hv.1;obtain⟨ca,cb,off,aF,rfl,_,hca,hcr⟩:=aZ hv.2.1;obtain⟨fa,_,_,aG,rfl,_⟩:=hv.2.2;obtain rfl:=hca (bJ (show 0<m.code.length by omega));have zC:=hide hcr;clear hcr hv hca hN
 have hbel:Below w.heap.size w ((w.alloc (.cells #[.slice pa p.length aA] 24)).alloc (.cells #[.int .i64 m.slot,.slice aa m.args.length aI,.int .i64 m.ret,.int .i64 m.locals,.int .i64 m.stack,.slice (some ⟨cb,off,none⟩) m.code.length aF,.slice fa m.frames.length aG] 63)):=dS _ _ _;have B0:=(ak.new w #[.slice pa p.length aA] 24).alloc (.cells #[.int .i64 m.slot,.slice aa m.args.length aI,.int .i64 m.ret,.int .i64 m.locals,.int .i64 m.stack,.slice (some ⟨cb,off,none⟩) m.code.length aF,.slice fa m.frames.length aG] 63)
 have B1:=ak.new (w.alloc (.cells #[.slice pa p.length aA] 24)) #[.int .i64 m.slot,.slice aa m.args.length aI,.int .i64 m.ret,.int .i64 m.locals,.int .i64 m.stack,.slice (some ⟨cb,off,none⟩) m.code.length aF,.slice fa m.frames.length aG] 63;rw [World.size_alloc] at B1;have hW2:((w.alloc (.cells #[.slice pa p.length aA] 24)).alloc (.cells #[.int .i64 m.slot,.slice aa m.args.length aI,.int .i64 m.ret,.int .i64 m.locals,.int .i64 m.stack,.slice (some ⟨cb,off,none⟩) m.code.length aF,.slice fa m.frames.length aG] 63)).heap.size=w.heap.size+1+1:=by simp
 go_enter Tryz.func52,Tryz.ntmps52
 go_upto_region 1 with fail
 generalize (w.alloc _).alloc _=W at *;have d5:W.cell? ⟨w.heap.size+1,5,none⟩=some (.slice (some ⟨cb,off,none⟩) m.code.length aF):=B1.cell 5;have HW2:=hide hW2;clear hW2;go_upto_region 2 with (at_make;refine Jg rfl (.tmp 20) (.tmp 20) 99 rfl 149 iS (.agg #[.bool false,.slice none 0 0,.slice none 0 0]) 3 56 Tryz.underlying99 hiS hi0 hi1 hi2 _ _ _ m.code.length rfl rfl (by omega) (by omega) (by omega) ?_;intro w2 hb2 hm2 hs2)
 have hbw2:Below w.heap.size w w2:=hbel.trans (hm2.below hbel.size (fun k hk e=>e));have R0:=sH.new (p:=p) (m:=m) (B:=w.heap.size) hb2;have C0:=B0.mods hm2 (fun e=>e);have C1:=B1.mods hm2 (fun e=>e);obtain⟨lb,hlb⟩:∃lb,lb=W.heap.size:=⟨_,rfl⟩;have hlo:w.heap.size+1<lb:=by have:=ah HW2;omega
 rw [←hlb] at hb2 R0 ⊢;have m0:w2.cell? ⟨w.heap.size+1,0,none⟩=some (.int .i64 m.slot):=C1.cell 0;have m1:w2.cell? ⟨w.heap.size+1,1,none⟩=some (.slice aa m.args.length aI):=C1.cell 1;have m2:w2.cell? ⟨w.heap.size+1,2,none⟩=some (.int .i64 m.ret):=C1.cell 2;have m3:w2.cell? ⟨w.heap.size+1,3,none⟩=some (.int .i64 m.locals):=C1.cell 3;have m4:w2.cell? ⟨w.heap.size+1,4,none⟩=some (.int .i64 m.stack):=C1.cell 4;have m5:w2.cell? ⟨w.heap.size+1,5,none⟩=some (.slice (some ⟨cb,off,none⟩) m.code.length aF):=C1.cell 5;have m6:w2.cell? ⟨w.heap.size+1,6,none⟩=some (.slice fa m.frames.length aG):=C1.cell 6
 have HI0:Hid (vK w w2 p m lb (.slice pa p.length aA) (.slice aa m.args.length aI) (.slice (some ⟨cb,off,none⟩) m.code.length aF) (.slice fa m.frames.length aG) (List.replicate m.code.length none) (madeCells (Value.agg #[.bool false,.slice none 0 0,.slice none 0 0]).cells (m.code.length*3)).toList):=⟨hbw2,C0,C1,R0,by simp,hlo⟩;clear hlb hs2 hm2 hb2 R0 C0 C1 B0 B1 hbel d5 HW2;go_wp2_with fail
 refine (ah Wi w2 (bV.keep (Keeps.of_below hbw2) (ah HV))).mono ?_;rintro e V3 ⟨vl0,rfl,hS0,hb3⟩;obtain⟨a0,n0,c0,rfl⟩:∃a n c,vl0= .slice a n c:=by obtain⟨a,_,_,c,rfl,_⟩:=hS0.1;exact⟨a,_,c,rfl⟩
 have I3:=(ah HI0).below hb3;have hz0:=(ah HI0).rows.blk.lt;have hbz:=hbw2.size;have hcb:qM p m (dQ m (dO c m)):=⟨⟨fun x hx=>hb.2.2.2.1 x (List.mem_of_mem_take hx),hb.2.2.2.2⟩,Sm (by omega) M.loc hb.1,hb.2.2.1⟩;have yD:Hid (dG (sel (fun k=>w.heap.size≤k∧k≠lb) V3) (dQ m (dO c m)) (.slice a0 n0 c0) (.slice none 0 0)):=dG.keep (dR (ay.refl (fun _=>False) V3) fun k hk hS=>⟨fun e=>e,by (try dsimp only at hS);omega,by (try dsimp only at hS);omega⟩) hS0;have hB3:=I3.rows.blk;have hl3:=I3.rows.len;have hln:(List.replicate m.code.length (none:Option aH)).length=m.code.length:=by simp
 have k00:(0:Int)<(m.code.length:Int):=by omega
 have HI3:=hide I3;clear I3 hS0 m0 m1 m2 m3 m4 m5 m6 HI0;obtain⟨cz,hcz⟩:∃cz,cz=(madeCells (Value.agg #[.bool false,.slice none 0 0,.slice none 0 0]).cells (m.code.length*3)).toList:=⟨_,rfl⟩;rw [←hcz] at hB3 hl3 HI3;go_upto_region 3 with (refine iZ iV hB3 0 [.bool true,.slice a0 n0 c0,.slice none 0 0] rfl (by rw [hl3,hln];omega) Iz (.tmp 26) (.tmp 25) rfl rfl rfl rfl ?_;intro V4 hB4 jI hs4)
 have HI4:Hid (vK w V4 p m lb (.slice pa p.length aA) (.slice aa m.args.length aI) (.slice (some ⟨cb,off,none⟩) m.code.length aF) (.slice fa m.frames.length aG) (Ny c m) (putAt cz (0*3) [.bool true,.slice a0 n0 c0,.slice none 0 0])):=(ah HI3).set (k:=0) (by rw [hln];omega) jI hB4 (ah yD) hcb;clear hB4 jI hs4 hB3 hl3 hcz HI3 yD hb3 hbw2 hcb hz0 hbz;go_wp2_with fail
 go_loopg [9] N (fun g q V=>∃(b:Bool) (R:List (Option aH)) (cs:List Value),q= .bool b∧vK w V p m lb (.slice pa p.length aA) (.slice aa m.args.length aI) (.slice (some ⟨cb,off,none⟩) m.code.length aF) (.slice fa m.frames.length aG) R cs∧(b=true→yL p m g R=some r)∧(b=false→r=some R))
 case atStart=>exact ⟨true,_,_,rfl,ah HI4,fun _=>ah HN,fun e=>by cases e⟩
 case round=>
  clear HI4 HN hln
  rename World=>Wr1
  obtain⟨b,R,cs,rfl,hI,hbt,hbf⟩:=hrel;have HI:=hide hI
  cases b with
  | false =>
   have HR:=hide (hbf rfl);clear hbf hbt hI;go_wp2_with fail
   go_ret2
   exact⟨fun e=>(by rw [ah HR] at e;cases e),fun R' e=>(by rw [ah HR] at e;cases e;exact⟨lb,cs,rfl,(ah HI).rows,(ah HI).len,by omega⟩),(ah HI).bel⟩
  | true =>
   have hC:=hbt rfl;clear hbf hbt hI
   cases gk with
   | zero => cases hC
   | succ g1 =>
   have HC:=hide hC;clear hC;go_wp2_with fail
   go_loopg [9,10] m.code.length (fun g q i V=>∃(k:Nat) (b:Bool) (R2:List (Option aH)) (cs2:List Value),k≤m.code.length∧g=m.code.length-k∧q= .bool b∧i= .int .i64 k∧qj p m R k=some (R2,b)∧vK w V p m lb (.slice pa p.length aA) (.slice aa m.args.length aI) (.slice (some ⟨cb,off,none⟩) m.code.length aF) (.slice fa m.frames.length aG) R2 cs2)
   case atStart=>exact ⟨0,false,R,cs,Nat.zero_le _,rfl,rfl,rfl,rfl,ah HI⟩
   case round=>
    clear HI
    rename World=>jv
    obtain⟨k,b,R2,cs2,hk,hgk,rfl,rfl,hR2,hI2⟩:=hrel;have HI2:=hide hI2;have HR2:=hide hR2;have uh:=hide hgk;have hl2:=hI2.len;clear hR2 hgk
    by_cases hlt:k<m.code.length
    rotate_left
    ·obtain rfl:k=m.code.length:=by omega
     have ke:¬(m.code.length:Int)<(m.code.length:Int):=by omega
     have HE:Hid ((b=true→yL p m g1 R2=some r)∧(b=false→r=some R2)):=by
      have h9:=ah HC;unfold yL at h9;rw [ah HR2] at h9
      cases b with
      | true => exact ⟨fun _ => h9, fun e => by cases e⟩
      | false => exact ⟨fun e => (by cases e), fun _ => by cases h9; rfl⟩
     clear hI2;go_wp2_with fail
     go_roundg g1
     case measure=>exact Nat.lt_succ_self _
     case rel=>exact ⟨b,R2,cs2,rfl,ah HI2,(ah HE).1,(ah HE).2⟩
    have k0:(0:Int)≤(k:Int):=by omega
    have k1:(k:Int)<(m.code.length:Int):=by omega
    obtain⟨ra,rn,rc,oH,rn',rc',r0,r1,r2,hRS,Oi⟩:=hI2.rows.at_ (i:=k) (by omega);obtain⟨rr,hrr⟩:∃rr,rr=R2.getD k none:=⟨_,rfl⟩;rw [←hrr] at r0 hRS Oi;have HRR:=hide hrr;clear hrr
    cases rr with
    | none =>
     dsimp only [Option.isSome] at r0
     have HE:Hid (qj p m R (k+1)=some (R2,b)):=by
      show _=_
      unfold qj;rw [ah HR2,Option.bind_some];unfold EK;rw [←ah HRR]
     clear hI2 hRS Oi r1 r2;go_wp2_with fail
     go_roundg (m.code.length-(k+1))
     case measure=>have:=ah uh;omega
     case rel=>exact ⟨k+1,b,R2,cs2,by omega,rfl,rfl,by go_num,ah HE,ah HI2⟩
    | some s =>
    dsimp only [Option.isSome] at r0;have Am:=Oi s rfl;have hSS:dG (sel (fun k=>w.heap.size≤k∧k≠lb) jv) s (.slice ra rn rc) (.slice oH rn' rc'):=hRS;have oM:bH m k=m.code[k]:=by unfold bH;rw [List.getElem?_eq_getElem hlt];rfl
    have hmem:bH m k∈m.code:=by rw [oM];exact List.getElem_mem _
    obtain⟨x0,x1,x2⟩:=ah zC k hlt;rw [←oM] at x0 x1 x2;obtain⟨x,hx⟩:∃x,x=bH m k:=⟨_,rfl⟩;rw [←hx] at x0 x1 x2 hmem;have HX:=hide hx;have MW:=hide (And.intro r0 (And.intro r1 r2))
    have HO:=hide (fun Y (hY:Below jv.heap.size jv Y)=>And.intro ((((ah HI2).below hY).b0.cell 0)) (And.intro ((((ah HI2).below hY).b1.cell 0)) (And.intro ((((ah HI2).below hY).b1.cell 1)) (And.intro ((((ah HI2).below hY).b1.cell 2)) (And.intro ((((ah HI2).below hY).b1.cell 3)) (And.intro ((((ah HI2).below hY).b1.cell 4)) (And.intro ((((ah HI2).below hY).b1.cell 5)) (And.intro ((((ah HI2).below hY).b1.cell 6)) (And.intro (Keeps.of_below hY _ _ (ah MW).1) (And.intro (Keeps.of_below hY _ _ (ah MW).2.1) (And.intro (Keeps.of_below hY _ _ (ah MW).2.2) (And.intro (Keeps.of_below (((ah HI2).below hY).bel) _ _ x0) (And.intro (Keeps.of_below (((ah HI2).below hY).bel) _ _ x1) (Keeps.of_below (((ah HI2).below hY).bel) _ _ x2))))))))))))))
    have agJ:=hI2.rows.blk.lt;clear hx oM x0 x1 x2 hRS Oi r1 r2;go_upto_region 10 with fail
    go_cut [11,12] (fun s11 s12 wx=>(fP p m x s=none∧s12= .bool false∧Below w.heap.size w wx)∨∃(out:aH) (bo:Nat) (oa jW:Option Addr) (on oc on' oc':Nat),fP p m x s=some out∧s11= .pointer (some ⟨bo,0,none⟩)∧s12= .bool true∧vK w wx p m lb (.slice pa p.length aA) (.slice aa m.args.length aI) (.slice (some ⟨cb,off,none⟩) m.code.length aF) (.slice fa m.frames.length aG) R2 cs2∧BZ wx p m w.heap.size lb bo out (.slice oa on oc) (.slice jW on' oc'))
    case first=>
     clear r0;refine wp_region_noPanic ?_
     refine wp_region_held_drew (S:=(fun w'=>w'.cell? ⟨w.heap.size,0,none⟩=some (.slice pa p.length aA)∧w'.cell? ⟨w.heap.size+1,0,none⟩=some (.int .i64 m.slot)∧w'.cell? ⟨w.heap.size+1,1,none⟩=some (.slice aa m.args.length aI)∧w'.cell? ⟨w.heap.size+1,2,none⟩=some (.int .i64 m.ret)∧w'.cell? ⟨w.heap.size+1,3,none⟩=some (.int .i64 m.locals)∧w'.cell? ⟨w.heap.size+1,4,none⟩=some (.int .i64 m.stack)∧w'.cell? ⟨w.heap.size+1,5,none⟩=some (.slice (some ⟨cb,off,none⟩) m.code.length aF)∧w'.cell? ⟨w.heap.size+1,6,none⟩=some (.slice fa m.frames.length aG)∧w'.cell? ⟨lb,k*3,none⟩=some (.bool true)∧w'.cell? ⟨lb,k*3+1,none⟩=some (.slice ra rn rc)∧w'.cell? ⟨lb,k*3+2,none⟩=some (.slice oH rn' rc')∧w'.cell? ⟨cb,off+k*3,none⟩=some (.int .i64 x.op)∧w'.cell? ⟨cb,off+k*3+1,none⟩=some (.int .i64 x.a)∧w'.cell? ⟨cb,off+k*3+2,none⟩=some (.int .i64 x.b))) (by kernel_rfl) ?_ (fun hHeld=>?_)
     ·exact (ah HO) _ gq
     refine au 41 0 ?_;refine au 42 1 ?_;refine au 43 2 ?_;refine au 44 3 ?_;refine au 45 4 ?_;refine au 46 5 ?_;refine au 47 6 ?_;refine au 48 7 ?_;refine au 49 8 ?_;refine au 50 9 ?_;refine au 51 10 ?_;refine wpAnyH_ready (rs:= [11,15]) (by kernel_rfl) (by simp) ?_;refine AllReadyH.cons rfl (fun K hK=>?_) (AllReadyH.cons rfl (fun K hK=>?_) AllReadyH.nil)
     ·go_simp;refine (ah HST x s true _ _ jv.drew (aP (Keeps.of_below gq) (aP (Keeps.of_below hI2.bel) (ah HP))) (bV.keep (Keeps.of_below gq) (bV.keep (Keeps.of_below hI2.bel) (ah HV))) (hins _ hmem) (dG.keep (Keeps.of_below gq) (dG.keep jk hSS)) Am.1 Am.2.1 Am.2.2).mono ?_;rintro e w2 hSt;have hdr:jv.drew.heap.size=jv.heap.size:=rfl;obtain⟨q2,oa,on,oc,jW,on',oc',ok,rfl,hS1,hS2,hb2'⟩:=hSt.form;have hb2:Below jv.heap.size jv w2:=⟨hb2'.os,hb2'.tape,hb2'.output,hb2'.size,hb2'.block⟩;have hz2:=hb2.size;have HS:=hide (And.intro hS1 hS2);clear hSt hb2';go_wp2_with fail
      refine hK.out _ _ ((ah HO) _ hb2) (fun hHeld=>?_);clear hK K;try simp only [Act.put,aK,aO,aN]
      refine au 40 12 ?_;refine au 53 13 ?_;refine au 54 14 ?_;refine aW 15 (fun K hK=>?_);go_simp;have hb3:Below jv.heap.size jv (w2.alloc (.cells #[.bool false,.slice none 0 0,.slice none 0 0] 149)):=hb2.alloc hb2.size _;have B4:=ak.new w2 #[.bool false,.slice none 0 0,.slice none 0 0] 149;refine hK.out _ _ ((ah HO) _ hb3) (fun hHeld=>?_);clear hK K;try simp only [Act.put,aK,aO,aN]
      obtain⟨b4,hb4⟩:∃b,b=w2.heap.size:=⟨_,rfl⟩;have iY:jv.heap.size≤b4:=by omega
      rw [←hb4] at B4 ⊢;have hnot:Hid (∀s',fP p m x s=some s'→dG (sel (fun k=>(w.heap.size≤k∧k≠lb)∧k≠b4) (w2.alloc (.cells #[.bool false,.slice none 0 0,.slice none 0 0] 149))) s' (.slice oa on oc) (.slice jW on' oc')):=fun s' e=>dG.keep (dR (ay.of_below (aS w2 _)) fun k hk hS=>⟨fun e=>by omega,⟨by have:=hI2.bel.size;(try dsimp only at hS);omega,by (try dsimp only at hS);omega⟩,by omega⟩) ((ah HS).1 s' e).2.2;generalize w2.alloc _=V at *;clear hb4 hb2 hz2 hHeld hdr;refine aW 16 (fun K hK=>?_);refine oZ iV B4 0 [.bool q2,.slice oa on oc,.slice jW on' oc'] rfl (by simp) Iz (.tmp 11) (.tmp 53) rfl rfl rfl ?_;intro w6 dP bK hs6
      rw [gB (by rfl)] at dP;have hb6:Below jv.heap.size jv w6:=hb3.trans (bK.below hb3.size (fun k hk e=>by omega));refine hK.out _ _ ((ah HO) _ hb6) (fun hHeld=>?_);clear hK K;try simp only [Act.put,List.setIfInBounds_toArray]
      refine au 12 17 ?_;refine wpAnyH_done (by kernel_rfl) ?_ _;refine NoPanic.normal ?_;have I6:=(ah HI2).below hb6;have ET:Hid (∀s',fP p m x s=some s'→dG (sel (fun k=>w.heap.size≤k∧k≠lb) w6) s' (.slice oa on oc) (.slice jW on' oc')):=fun s' e=>dG.keep (dR bK fun k hk hS=>⟨hS.2,hS.1⟩) (ah hnot s' e);clear hHeld bK hs6 B4 hnot hb3;go_wp2_with fail
      go_meet
      case rel=>
       cases hr:fP p m x s with
       | none => exact .inl ⟨rfl, by rw [(ah HS).2 hr], I6.bel⟩
       | some out =>
        obtain⟨e1,e2,_⟩:=(ah HS).1 out hr;subst e1 e2;exact .inr ⟨out,b4,oa,jW,on,oc,on',oc',rfl,rfl,rfl,I6,dP,ah ET out hr,abP G M (hins _ hmem) Am hr,by omega⟩
     ·go_simp;have hz1:=aS jv.drew (.cells #[.bool false,.slice none 0 0,.slice none 0 0] 149);have hz2:Below jv.heap.size jv (jv.drew.alloc (.cells #[.bool false,.slice none 0 0,.slice none 0 0] 149)):=⟨hz1.os,hz1.tape,hz1.output,hz1.size,hz1.block⟩;have hsz:(jv.drew.alloc (.cells #[.bool false,.slice none 0 0,.slice none 0 0] 149)).heap.size=jv.heap.size+1:=by simp
      obtain⟨b4,hb4⟩:∃b,b=jv.heap.size:=⟨_,rfl⟩;refine hK.out _ _ ((ah HO) _ hz2) (fun hHeld=>?_);clear hK K;try simp only [Act.put,aK,aO,aN]
      refine aW 11 (fun K hK=>?_);go_simp;refine (ah HST x s true _ _ _ (aP (Keeps.of_below hz2) (aP (Keeps.of_below hI2.bel) (ah HP))) (bV.keep (Keeps.of_below hz2) (bV.keep (Keeps.of_below hI2.bel) (ah HV))) (hins _ hmem) (dG.keep (Keeps.of_below hz2) (dG.keep jk hSS)) Am.1 Am.2.1 Am.2.2).mono ?_;rintro e V hSt;obtain⟨q2,oa,on,oc,jW,on',oc',ok,rfl,hS1,hS2,hb2'⟩:=hSt.form;have hb2:Below (jv.heap.size+1) (jv.drew.alloc (.cells #[.bool false,.slice none 0 0,.slice none 0 0] 149)) V:=⟨hb2'.os,hb2'.tape,hb2'.output,by have:=hb2'.size;simpa using this,fun i hi=>hb2'.block i (by simpa using hi)⟩
      have hb3:Below jv.heap.size jv V:=hz2.trans (hb2.mono (by simp));have BA:ak (jv.drew.alloc (.cells #[.bool false,.slice none 0 0,.slice none 0 0] 149)) jv.heap.size 149 [.bool false,.slice none 0 0,.slice none 0 0]:=ak.new jv.drew #[.bool false,.slice none 0 0,.slice none 0 0] 149;have B4:=BA.below hb2 (by omega);have HS:=hide (And.intro hS1 hS2)
      have hnot:Hid (∀s',fP p m x s=some s'→dG (sel (fun k=>(w.heap.size≤k∧k≠lb)∧k≠b4) V) s' (.slice oa on oc) (.slice jW on' oc')):=fun s' e=>dG.keep (dR (ay.refl (fun _=>False) V) fun k hk hS=>⟨fun e=>e,⟨by have:=hI2.bel.size;(try dsimp only at hS);omega,by (try dsimp only at hS);omega⟩,by (try dsimp only at hS);omega⟩) ((ah HS).1 s' e).2.2;clear hSt hb2' hsz;go_wp2_with fail
      refine hK.out _ _ ((ah HO) _ hb3) (fun hHeld=>?_);clear hK K;try simp only [Act.put,aK,aO,aN]
      refine au 40 12 ?_;refine au 53 13 ?_;refine au 54 14 ?_;have iY:jv.heap.size≤b4:=by omega
      rw [←hb4] at B4 ⊢;clear hb4 hb2 hz2 hz1 hHeld BA;refine aW 16 (fun K hK=>?_);refine oZ iV B4 0 [.bool q2,.slice oa on oc,.slice jW on' oc'] rfl (by simp) Iz (.tmp 11) (.tmp 53) rfl rfl rfl ?_;intro w6 dP bK hs6;rw [gB (by rfl)] at dP;have hb6:Below jv.heap.size jv w6:=hb3.trans (bK.below hb3.size (fun k hk e=>by omega));refine hK.out _ _ ((ah HO) _ hb6) (fun hHeld=>?_);clear hK K;try simp only [Act.put,List.setIfInBounds_toArray]
      refine au 12 17 ?_;refine wpAnyH_done (by kernel_rfl) ?_ _;refine NoPanic.normal ?_;have I6:=(ah HI2).below hb6;have ET:Hid (∀s',fP p m x s=some s'→dG (sel (fun k=>w.heap.size≤k∧k≠lb) w6) s' (.slice oa on oc) (.slice jW on' oc')):=fun s' e=>dG.keep (dR bK fun k hk hS=>⟨hS.2,hS.1⟩) (ah hnot s' e);clear hHeld bK hs6 B4 hnot hb3;go_wp2_with fail
      go_meet
      case rel=>
       cases hr:fP p m x s with
       | none => exact .inl ⟨rfl, by rw [(ah HS).2 hr], I6.bel⟩
       | some out =>
        obtain⟨e1,e2,_⟩:=(ah HS).1 out hr;subst e1 e2;exact .inr ⟨out,b4,oa,jW,on,oc,on',oc',rfl,rfl,rfl,I6,dP,ah ET out hr,abP G M (hins _ hmem) Am hr,by omega⟩
    case rest=>
     rename World=>U3
     clear r0 HO MW hSS Am agJ hI2 HI2
     rcases hcut with ⟨hn,rfl,hbl⟩ | ⟨out,bo,oa,jW,on,oc,on',oc',hs,rfl,rfl,I4,OB⟩
     ·have fK:Hid (r=none):=RN (ah HC) (show k+1≤m.code.length by omega) (by unfold qj;rw [ah HR2,Option.bind_some];unfold EK;rw [←ah HRR];dsimp only;rw [←ah HX,hn];rfl);clear hn;go_wp2_with fail
      go_ret2
      exact⟨fun _=>rfl,fun R' e=>(by rw [ah fK] at e;cases e),hbl⟩
     obtain⟨gl,hgl⟩:∃gl,gl=qZ x k:=⟨_,rfl⟩
     have HG:Hid (qj p m R (k+1)=l9 p m.code.length out gl (R2,b)):=by
      show _=_
      unfold qj;rw [ah HR2,Option.bind_some];unfold EK;rw [←ah HRR];dsimp only;rw [←ah HX,hs,Option.bind_some,hgl]
     have m0:U3.cell? ⟨w.heap.size+1,0,none⟩=some (.int .i64 m.slot):=I4.b1.cell 0;have m1:U3.cell? ⟨w.heap.size+1,1,none⟩=some (.slice aa m.args.length aI):=I4.b1.cell 1;have m2:U3.cell? ⟨w.heap.size+1,2,none⟩=some (.int .i64 m.ret):=I4.b1.cell 2;have m3:U3.cell? ⟨w.heap.size+1,3,none⟩=some (.int .i64 m.locals):=I4.b1.cell 3;have m4:U3.cell? ⟨w.heap.size+1,4,none⟩=some (.int .i64 m.stack):=I4.b1.cell 4;have m5:U3.cell? ⟨w.heap.size+1,5,none⟩=some (.slice (some ⟨cb,off,none⟩) m.code.length aF):=I4.b1.cell 5;have m6:U3.cell? ⟨w.heap.size+1,6,none⟩=some (.slice fa m.frames.length aG):=I4.b1.cell 6;have HI4:=hide I4;have WV:=hide OB
     have hnn:∀y∈gl,0≤y:=fun y hy=>agi (hins _ hmem) (by rw [←hgl];exact hy);have MS:=hide hnn;clear hs I4 OB hnn;go_wp2_with fail
     refine (ah Wx k U3 (bV.keep (Keeps.of_below (ah HI4).bel) (ah HV)) hlt).mono ?_;rintro e V6 ⟨v,rfl,hL,hb6⟩;rw [←ah HX,←hgl] at hL;obtain⟨la,lq,lo,lc,rfl,_,hlh,hlr⟩:=aht hL;have pq:=hide ((ah HI4).below hb6);have WW:=hide ((ah WV).below hb6);have WE:Hid (∀(j:Nat) (hj:j<gl.length),sel (fun k=>k≠lb) V6 ⟨lq,lo+j,none⟩=some (.int .i64 gl[j])):=fun j hj=>dR (ay.refl (fun _=>False) V6) (fun k hk hS=>⟨fun e=>e,by have:=(ah HI4).rows.blk.lt;(try dsimp only at hS);omega⟩) _ _ (hlr j hj);have hg2:gl.length≤2:=by rw [hgl];unfold qZ;cases qW x <;> cases gU x <;> simp
     have HLH:=hide hlh;clear m0 m1 m2 m3 m4 m5 m6 hL hlr hlh hgl hb6 HI4 WV;go_wp2_with fail
     go_loopg [9,14] gl.length (fun g q i V=>∃(j:Nat) (b3:Bool) (R3:List (Option aH)) (oL:List Value),j≤gl.length∧g=gl.length-j∧q= .bool b3∧i= .int .i64 j∧l9 p m.code.length out (gl.take j) (R2,b)=some (R3,b3)∧vK w V p m lb (.slice pa p.length aA) (.slice aa m.args.length aI) (.slice (some ⟨cb,off,none⟩) m.code.length aF) (.slice fa m.frames.length aG) R3 oL∧BZ V p m w.heap.size lb bo out (.slice oa on oc) (.slice jW on' oc')∧∀(j:Nat) (hj:j<gl.length),sel (fun k=>k≠lb) V ⟨lq,lo+j,none⟩=some (.int .i64 gl[j]))
     case atStart=>exact ⟨0,b,R2,_,Nat.zero_le _,rfl,rfl,rfl,rfl,ah pq,ah WW,ah WE⟩
     case round=>
      clear pq WW WE
      rename World=>je
      obtain⟨j,b3,R3,oL,hj,hgj,rfl,rfl,hgo,I7,JF,L7⟩:=hrel;have Gp:=hide I7;have zK:=hide JF;have WG:=hide L7;have zG:=hide hgj;have HR3:=hide hgo;have hl3:=I7.len;clear hgj hgo
      by_cases hjl:j<gl.length
      rotate_left
      ·obtain rfl:j=gl.length:=by omega
       have Us:¬(gl.length:Int)<(gl.length:Int):=by omega
       have HE:Hid (qj p m R (k+1)=some (R3,b3)):=by
        show _=_
        rw [ah HG,←ah HR3,List.take_length]
       clear I7 JF L7;go_wp2_with fail
       go_roundg (m.code.length-(k+1))
       case measure=>have:=ah uh;omega
       case rel=>exact ⟨k+1,b3,R3,oL,by omega,rfl,rfl,by go_num,ah HE,ah Gp⟩
      obtain rfl:=ah HLH (bJ hjl);have j0:(0:Int)≤(j:Int):=by omega
      have j1:(j:Int)<(gl.length:Int):=by omega
      have y0:=(DW (L7 j hjl)).2;obtain⟨y,hy⟩:∃y,y=gl[j]:=⟨_,rfl⟩
      have jd:Hid (l9 p m.code.length out (gl.take (j+1)) (R2,b)=if (m.code.length:Int)≤y then none else vT p out y.toNat (R3,b3)):=by
       show _=_
       rw [List.take_add_one,List.getElem?_eq_getElem hjl,←hy]
       show l9 p m.code.length out (gl.take j++ [y]) (R2,b)=_
       rw [ad7,ah HR3,Option.bind_some]
      have hy0:0≤y:=ah MS y (by rw [hy];exact List.getElem_mem hjl);rw [←hy] at y0;have QJ:Hid (sel (fun k=>k≠lb) je ⟨lq,lo+j,none⟩=some (.int .i64 y)):=by rw [hy];exact L7 j hjl
      clear hy
      by_cases hyl:(m.code.length:Int)≤y
      ·have fK:Hid (r=none):=RN (ah HC) (show k+1≤m.code.length by omega) (by rw [ah HG];exact X6 (j:=j+1) (by rw [ah jd,if_pos hyl]));have hbl:=I7.bel;clear I7 JF L7;go_wp2_with fail
       go_ret2
       exact⟨fun _=>rfl,fun R' e=>(by rw [ah fK] at e;cases e),hbl⟩
      obtain⟨yn,rfl⟩:=Int.eq_ofNat_of_zero_le hy0;have QV:Hid (l9 p m.code.length out (gl.take (j+1)) (R2,b)=vT p out yn (R3,b3)):=by show _=_;rw [ah jd,if_neg hyl,Int.toNat_natCast]
      have hyn:(yn:Int)<(m.code.length:Int):=by omega
      obtain⟨ta,tn,tc,ta',Vx,Vw,t0,t1,t2,Ap,Dh⟩:=I7.rows.at_ (i:=yn) (by omega);obtain⟨r3,hr3⟩:∃r3,r3=R3.getD yn none:=⟨_,rfl⟩;rw [←hr3] at t0 Ap Dh;have HR:=hide hr3;have HO:=hide (fun Y (hY:Below je.heap.size je Y)=>And.intro ((((ah Gp).below hY).b0.cell 0)) (And.intro (Keeps.of_below hY _ _ (DW (ah QJ)).2) (And.intro (Keeps.of_below hY _ _ t0) (And.intro (Keeps.of_below hY _ _ t1) (And.intro (Keeps.of_below hY _ _ t2) (And.intro (((ah zK).below hY).blk.cell 0) (And.intro (((ah zK).below hY).blk.cell 1) (((ah zK).below hY).blk.cell 2))))))));have agK:=I7.rows.blk.lt;have iw:=I7.bel.size;have hmb:=M.loc;have hmk:=M.stk;have OD:=JF.ok
      have AL:(xE r3).loc.length≤8∧(xE r3).stk.length≤8∧(r3.isSome=true→(xE r3).loc.length=out.loc.length)∧gI p (xE r3):=by
       cases r3 with
       | none => exact ⟨by simp [xE], by simp [xE], fun e => (by cases e), fun x hx => (by cases hx), fun x hx => (by cases hx)⟩
       | some s3 =>
        obtain⟨o1,o2,o3⟩:=Dh s3 rfl;have e2:=OD.2.1;exact⟨by show s3.loc.length≤8;omega,by show s3.stk.length≤8;omega,fun _=>by show s3.loc.length=_;omega,o1⟩
      have HTS:=hide Ap;have HTO:=hide Dh;clear hr3 t0 t1 t2 Dh I7 JF L7;go_upto_region 19 with fail
      go_cut [15,16] (fun s15 s16 wx=>∃(bx:Nat) (q2:Bool) (wz AU:Option Addr) (AX wB AY AV:Nat) (ok:Bool),s15= .pointer (some ⟨bx,0,none⟩)∧s16= .bool ok∧ak wx bx 149 [.bool q2,.slice wz AX wB,.slice AU AY AV]∧(∀g,qh p r3 out=some g→q2=true∧ok=true∧dG (sel (fun k=>w.heap.size≤k∧k≠lb) wx) g (.slice wz AX wB) (.slice AU AY AV))∧(qh p r3 out=none→ok=false)∧lb<bx∧Below je.heap.size je wx)
      case first=>
       clear y0;refine wp_region_noPanic ?_;refine wp_region_held_drew (S:=(fun w'=>w'.cell? ⟨w.heap.size,0,none⟩=some (.slice pa p.length aA)∧w'.cell? ⟨lq,lo+j,none⟩=some (.int .i64 yn)∧w'.cell? ⟨lb,yn*3,none⟩=some (.bool r3.isSome)∧w'.cell? ⟨lb,yn*3+1,none⟩=some (.slice ta tn tc)∧w'.cell? ⟨lb,yn*3+2,none⟩=some (.slice ta' Vx Vw)∧w'.cell? ⟨bo,0,none⟩=some (.bool true)∧w'.cell? ⟨bo,1,none⟩=some (.slice oa on oc)∧w'.cell? ⟨bo,2,none⟩=some (.slice jW on' oc'))) (by kernel_rfl) ?_ (fun hHeld=>?_)
       ·exact (ah HO) _ gq
       refine au 74 0 ?_;refine au 75 1 ?_;refine au 76 2 ?_;refine au 77 3 ?_;refine au 78 4 ?_;refine au 79 5 ?_;refine au 80 6 ?_;refine au 81 7 ?_;refine au 82 8 ?_;refine wpAnyH_ready (rs:= [9,13]) (by kernel_rfl) (by simp) ?_;refine AllReadyH.cons rfl (fun K hK=>?_) (AllReadyH.cons rfl (fun K hK=>?_) AllReadyH.nil)
       ·go_simp;refine (ah WA (xE r3) out r3.isSome true _ _ _ _ je.drew (aP (Keeps.of_below gq) (aP (Keeps.of_below (ah Gp).bel) (ah HP))) (dG.keep (Keeps.of_below gq) (dG.keep jk Ap)) (dG.keep (Keeps.of_below gq) (dG.keep jk (ah zK).st)) AL.2.2.2 OD.1 AL.1 AL.2.1 AL.2.2.1).mono ?_;rintro e w2 hSt;have hdr:je.drew.heap.size=je.heap.size:=rfl;obtain⟨q2,oa,on,oc,jW,on',oc',ok,rfl,hS1,hS2,hb2'⟩:=JH.form (S:=fun k=>w.heap.size≤k∧k≠lb) hSt (dG.keep (dR (ay.of_below gq) fun k hk hS=>⟨fun e=>by omega,hS⟩) (ah zK).st) (fun k hk=>⟨by omega,by omega⟩)
        have hb2:Below je.heap.size je w2:=⟨hb2'.os,hb2'.tape,hb2'.output,hb2'.size,hb2'.block⟩;have hz2:=hb2.size;have HS:=hide (And.intro hS1 hS2);clear hSt hb2';go_wp2_with fail
        refine hK.out _ _ ((ah HO) _ hb2) (fun hHeld=>?_);clear hK K;try simp only [Act.put,aK,aO,aN]
        refine au 73 10 ?_;refine au 84 11 ?_;refine au 85 12 ?_;refine aW 13 (fun K hK=>?_);go_simp;have hb3:Below je.heap.size je (w2.alloc (.cells #[.bool false,.slice none 0 0,.slice none 0 0] 149)):=hb2.alloc hb2.size _;have B4:=ak.new w2 #[.bool false,.slice none 0 0,.slice none 0 0] 149;refine hK.out _ _ ((ah HO) _ hb3) (fun hHeld=>?_);clear hK K;try simp only [Act.put,aK,aO,aN]
        obtain⟨b4,hb4⟩:∃b,b=w2.heap.size:=⟨_,rfl⟩;have iY:je.heap.size≤b4:=by omega
        rw [←hb4] at B4 ⊢;have hnot:Hid (∀g,qh p r3 out=some g→dG (sel (fun k=>(w.heap.size≤k∧k≠lb)∧k≠b4) (w2.alloc (.cells #[.bool false,.slice none 0 0,.slice none 0 0] 149))) g (.slice oa on oc) (.slice jW on' oc')):=fun s' e=>dG.keep (dR (ay.of_below (aS w2 _)) fun k hk hS=>⟨fun e=>by omega,hS,by omega⟩) ((ah HS).1 s' e).2.2;generalize w2.alloc _=V at *;clear hb4 hb2 hz2 hHeld hdr;refine aW 14 (fun K hK=>?_);refine oZ iV B4 0 [.bool q2,.slice oa on oc,.slice jW on' oc'] rfl (by simp) Iz (.tmp 15) (.tmp 84) rfl rfl rfl ?_;intro w6 dP bK hs6;rw [gB (by rfl)] at dP
        have hb6:Below je.heap.size je w6:=hb3.trans (bK.below hb3.size (fun k hk e=>by omega));refine hK.out _ _ ((ah HO) _ hb6) (fun hHeld=>?_);clear hK K;try simp only [Act.put,List.setIfInBounds_toArray]
        refine au 16 15 ?_;refine wpAnyH_done (by kernel_rfl) ?_ _;refine NoPanic.normal ?_;have ET:Hid (∀g,qh p r3 out=some g→dG (sel (fun k=>w.heap.size≤k∧k≠lb) w6) g (.slice oa on oc) (.slice jW on' oc')):=fun s' e=>dG.keep (dR bK fun k hk hS=>⟨hS.2,hS.1⟩) (ah hnot s' e);clear hHeld bK hs6 B4 hnot hb3;go_wp2_with fail
        go_meet
        case rel=>exact ⟨b4,q2,oa,jW,on,oc,on',oc',ok,rfl,rfl,dP,fun g e=>⟨((ah HS).1 g e).1,((ah HS).1 g e).2.1,ah ET g e⟩,(ah HS).2,by omega,hb6⟩
       ·go_simp;have hz1:=aS je.drew (.cells #[.bool false,.slice none 0 0,.slice none 0 0] 149);have hz2:Below je.heap.size je (je.drew.alloc (.cells #[.bool false,.slice none 0 0,.slice none 0 0] 149)):=⟨hz1.os,hz1.tape,hz1.output,hz1.size,hz1.block⟩;have hsz:(je.drew.alloc (.cells #[.bool false,.slice none 0 0,.slice none 0 0] 149)).heap.size=je.heap.size+1:=by simp
        obtain⟨b4,hb4⟩:∃b,b=je.heap.size:=⟨_,rfl⟩;refine hK.out _ _ ((ah HO) _ hz2) (fun hHeld=>?_);clear hK K;try simp only [Act.put,aK,aO,aN]
        refine aW 9 (fun K hK=>?_);go_simp;refine (ah WA (xE r3) out r3.isSome true _ _ _ _ _ (aP (Keeps.of_below hz2) (aP (Keeps.of_below (ah Gp).bel) (ah HP))) (dG.keep (Keeps.of_below hz2) (dG.keep jk Ap)) (dG.keep (Keeps.of_below hz2) (dG.keep jk (ah zK).st)) AL.2.2.2 OD.1 AL.1 AL.2.1 AL.2.2.1).mono ?_;rintro e V hSt;obtain⟨q2,oa,on,oc,jW,on',oc',ok,rfl,hS1,hS2,hb2'⟩:=JH.form (S:=fun k=>(w.heap.size≤k∧k≠lb)∧k≠b4) hSt (dG.keep (dR (ay.of_below hz2) fun k hk hS=>⟨fun e=>by omega,hS,by omega⟩) (ah zK).st) (fun k hk=>by rw [hsz] at hk;exact⟨⟨by omega,by omega⟩,by omega⟩)
        have hb2:Below (je.heap.size+1) (je.drew.alloc (.cells #[.bool false,.slice none 0 0,.slice none 0 0] 149)) V:=⟨hb2'.os,hb2'.tape,hb2'.output,by have:=hb2'.size;simpa using this,fun i hi=>hb2'.block i (by simpa using hi)⟩;have hb3:Below je.heap.size je V:=hz2.trans (hb2.mono (by simp));have BA:ak (je.drew.alloc (.cells #[.bool false,.slice none 0 0,.slice none 0 0] 149)) je.heap.size 149 [.bool false,.slice none 0 0,.slice none 0 0]:=ak.new je.drew #[.bool false,.slice none 0 0,.slice none 0 0] 149;have B4:=BA.below hb2 (by omega);have HS:=hide (And.intro hS1 hS2)
        have hnot:Hid (∀g,qh p r3 out=some g→dG (sel (fun k=>(w.heap.size≤k∧k≠lb)∧k≠b4) V) g (.slice oa on oc) (.slice jW on' oc')):=fun s' e=>((ah HS).1 s' e).2.2;clear hSt hb2' hsz;go_wp2_with fail
        refine hK.out _ _ ((ah HO) _ hb3) (fun hHeld=>?_);clear hK K;try simp only [Act.put,aK,aO,aN]
        refine au 73 10 ?_;refine au 84 11 ?_;refine au 85 12 ?_;have iY:je.heap.size≤b4:=by omega
        rw [←hb4] at B4 ⊢;clear hb4 hb2 hz2 hz1 hHeld BA;refine aW 14 (fun K hK=>?_);refine oZ iV B4 0 [.bool q2,.slice oa on oc,.slice jW on' oc'] rfl (by simp) Iz (.tmp 15) (.tmp 84) rfl rfl rfl ?_;intro w6 dP bK hs6;rw [gB (by rfl)] at dP;have hb6:Below je.heap.size je w6:=hb3.trans (bK.below hb3.size (fun k hk e=>by omega));refine hK.out _ _ ((ah HO) _ hb6) (fun hHeld=>?_);clear hK K;try simp only [Act.put,List.setIfInBounds_toArray]
        refine au 16 15 ?_;refine wpAnyH_done (by kernel_rfl) ?_ _;refine NoPanic.normal ?_;have ET:Hid (∀g,qh p r3 out=some g→dG (sel (fun k=>w.heap.size≤k∧k≠lb) w6) g (.slice oa on oc) (.slice jW on' oc')):=fun s' e=>dG.keep (dR bK fun k hk hS=>⟨hS.2,hS.1⟩) (ah hnot s' e);clear hHeld bK hs6 B4 hnot hb3;go_wp2_with fail
        go_meet
        case rel=>exact ⟨b4,q2,oa,jW,on,oc,on',oc',ok,rfl,rfl,dP,fun g e=>⟨((ah HS).1 g e).1,((ah HS).1 g e).2.1,ah ET g e⟩,(ah HS).2,by omega,hb6⟩
      case rest=>
       rename World=>U4
       obtain⟨bx,q2,wz,AU,AX,wB,AY,AV,ok,rfl,rfl,hBx,hJ1,hJ2,hbx,hb4⟩:=hcut;have I8:=(ah Gp).below hb4;have Np:=(ah zK).below hb4;have WH:Hid (∀(j:Nat) (hj:j<gl.length),sel (fun k=>k≠lb) U4 ⟨lq,lo+j,none⟩=some (.int .i64 gl[j])):=fun j' hj'=>dR (ay.of_below hb4) (fun k hk hS=>⟨fun e=>by omega,hS⟩) _ _ (ah WG j' hj');have WI:Hid (sel (fun k=>k≠lb) U4 ⟨lq,lo+j,none⟩=some (.int .i64 yn)):=dR (ay.of_below hb4) (fun k hk hS=>⟨fun e=>by omega,hS⟩) _ _ (ah QJ);clear y0 HO HTS HTO Gp zK WG QJ hb4 AL Ap agK iw
       cases hcj:qh p r3 out with
       | none =>
        have fK:Hid (r=none):=RN (ah HC) (show k+1≤m.code.length by omega) (by rw [ah HG];exact X6 (j:=j+1) (by rw [ah QV,X7,←ah HR,hcj];rfl));obtain rfl:=hJ2 hcj;have hbl:=I8.bel;clear hcj hJ1 hJ2 I8 Np;go_wp2_with fail
        go_ret2
        exact⟨fun _=>rfl,fun R' e=>(by rw [ah fK] at e;cases e),hbl⟩
       | some g =>
       obtain⟨rfl,rfl,hgS⟩:=hJ1 g hcj;have Qs:Hid (vT p out yn (R3,b3)=if JX p r3 g then some (R3,b3) else some (R3.set yn (some g),true)):=by show _=_;rw [X7,←ah HR,hcj,Option.bind_some]
       have Ox:qM p m g:=ad5 (fun s e=>(by obtain⟨_,_,_,_,_,_,_,_,_,_,h9⟩:=I8.rows.at_ (i:=yn) (by omega);exact h9 s (by rw [←ah HR];exact e))) OD hcj;obtain⟨ta,tn,tc,ta',Vx,Vw,t0,t1,t2,Ap,Dh⟩:=I8.rows.at_ (i:=yn) (by omega);rw [←ah HR] at t0 Ap Dh;have y0:=(DW (ah WI)).2;have g0:U4.cell? ⟨bx,0,none⟩=some (.bool true):=hBx.cell 0;have g1':U4.cell? ⟨bx,1,none⟩=some (.slice wz AX wB):=hBx.cell 1;have g2':U4.cell? ⟨bx,2,none⟩=some (.slice AU AY AV):=hBx.cell 2;have p0:U4.cell? ⟨w.heap.size,0,none⟩=some (.slice pa p.length aA):=I8.b0.cell 0
       have HO:=hide (fun Y (hY:Below U4.heap.size U4 Y)=>And.intro ((I8.below hY).b0.cell 0) (And.intro (Keeps.of_below hY _ _ y0) (And.intro ((hBx.below hY hBx.lt).cell 0) (And.intro ((hBx.below hY hBx.lt).cell 1) (And.intro ((hBx.below hY hBx.lt).cell 2) (And.intro (Keeps.of_below hY _ _ t0) (And.intro (Keeps.of_below hY _ _ t1) (Keeps.of_below hY _ _ t2))))))));have HI8:=hide I8;have ado:=hide Np;have Qp:=hide hBx;have QD:=hide hgS;have ada:=hide Ox;clear hcj hJ1 hJ2 t1 t2 g0 g1' g2' p0 hgS hBx;go_upto_if 96 with fail
       go_cut [17] (fun s17 wx=>s17= .bool (JX p r3 g)∧Below U4.heap.size U4 wx)
       case first=>
        cases r3 with
        | none =>
         dsimp only [Option.isSome] at *;go_wp2_with fail
         go_meet
         case rel=>exact ⟨rfl,Below.refl _ _⟩
        | some t3 =>
         dsimp only [Option.isSome] at *;clear y0 t0;have htt:=Dh t3 rfl;go_upto_region 24 with fail
         refine wp_region_noPanic ?_;refine wp_region_held_drew (S:=(fun w'=>w'.cell? ⟨w.heap.size,0,none⟩=some (.slice pa p.length aA)∧w'.cell? ⟨lq,lo+j,none⟩=some (.int .i64 yn)∧w'.cell? ⟨bx,0,none⟩=some (.bool true)∧w'.cell? ⟨bx,1,none⟩=some (.slice wz AX wB)∧w'.cell? ⟨bx,2,none⟩=some (.slice AU AY AV)∧w'.cell? ⟨lb,yn*3,none⟩=some (.bool true)∧w'.cell? ⟨lb,yn*3+1,none⟩=some (.slice ta tn tc)∧w'.cell? ⟨lb,yn*3+2,none⟩=some (.slice ta' Vx Vw))) (by kernel_rfl) ?_ (fun hHeld=>?_)
         ·exact (ah HO) _ gq
         refine au 97 0 ?_;refine au 98 1 ?_;refine au 99 2 ?_;refine au 100 3 ?_;refine au 101 4 ?_;refine au 102 5 ?_;refine au 103 6 ?_;refine au 104 7 ?_;refine au 105 8 ?_;refine aW 9 (fun K hK=>?_);go_simp;refine (ah HUN g t3 true true _ _ _ _ U4.drew (aP (Keeps.of_below gq) (aP (Keeps.of_below I8.bel) (ah HP))) (dG.keep (Keeps.of_below gq) (dG.keep jk (ah QD))) (dG.keep (Keeps.of_below gq) (dG.keep jk Ap)) Ox.1 htt.1 (by have:=Ox.2.1;omega) (by have:=Ox.2.2;omega)).mono ?_;rintro e w1 ⟨rfl,hb1'⟩
         have hb1:Below U4.heap.size U4 w1:=⟨hb1'.os,hb1'.tape,hb1'.output,hb1'.size,hb1'.block⟩;obtain⟨uu,TW⟩:∃uu,uu=uY p g t3:=⟨_,rfl⟩;rw [←TW];have HUU:=hide TW;clear hb1' TW;go_wp2_with fail
         refine hK.out _ _ ((ah HO) _ hb1) (fun hHeld=>?_);clear hK K;try simp only [Act.put,aK,aO,aN]
         refine au 17 10 ?_;refine wpAnyH_done (by kernel_rfl) ?_ _;refine NoPanic.normal ?_;go_wp2_with fail
         go_meet
         case rel=>exact ⟨by rw [ah HUU];rfl,hb1⟩
       case rest=>
        rename World=>U5
        obtain⟨rfl,hb5⟩:=hcut;have I9:=I8.below hb5;have Xt:=Np.below hb5;have QG:Hid (∀(j:Nat) (hj:j<gl.length),sel (fun k=>k≠lb) U5 ⟨lq,lo+j,none⟩=some (.int .i64 gl[j])):=fun j' hj'=>dR (ay.of_below hb5) (fun k hk hS=>⟨fun e=>by omega,hS⟩) _ _ (ah WH j' hj');have y1:=Keeps.of_below hb5 _ _ y0;have xk:=(ah Qp).below hb5 (ah Qp).lt;have ZG:dG (sel (fun k=>w.heap.size≤k∧k≠lb) U5) g (.slice wz AX wB) (.slice AU AY AV):=dG.keep (dR (ay.of_below hb5) fun k hk hS=>⟨fun e=>by omega,hS⟩) (ah QD);have Z8:=I9.rows.blk;have Z9:=I9.rows.len;have g0:U5.cell? ⟨bx,0,none⟩=some (.bool true):=xk.cell 0
        have g1':U5.cell? ⟨bx,1,none⟩=some (.slice wz AX wB):=xk.cell 1;have g2':U5.cell? ⟨bx,2,none⟩=some (.slice AU AY AV):=xk.cell 2;have ku:=hide (fun Y (hY:Below U5.heap.size U5 Y)=>And.intro (Keeps.of_below hY _ _ y1) (And.intro ((xk.below hY xk.lt).cell 0) (And.intro ((xk.below hY xk.lt).cell 1) ((xk.below hY xk.lt).cell 2))));have Wy:=hide I9;have WX:=hide Xt;have HS9:=hide ZG;clear HO t0 Ap Dh y0 I8 Np HI8 ado Qp QD WH WI hb5 I9 Xt ZG;obtain⟨sm,hsm⟩:∃sm,sm=JX p r3 g:=⟨_,rfl⟩;rw [←hsm] at Qs ⊢;clear hsm
        cases sm with
        | true =>
         have HE:Hid (l9 p m.code.length out (gl.take (j+1)) (R2,b)=some (R3,b3)):=by show _=_;rw [ah QV,ah Qs];rfl
         clear y1 g0 g1' g2' xk ku;go_wp2_with fail
         go_roundg (gl.length-(j+1))
         case measure=>have:=ah zG;omega
         case rel=>exact ⟨j+1,b3,R3,oL,by omega,rfl,rfl,by go_num,ah HE,ah Wy,ah WX,ah QG⟩
        | false =>
         have HE:Hid (l9 p m.code.length out (gl.take (j+1)) (R2,b)=some (R3.set yn (some g),true)):=by show _=_;rw [ah QV,ah Qs];rfl
         clear y1 g0 g1' g2';go_upto_region 26 with fail
         refine wp_region_noPanic ?_;refine wp_region_held_drew (S:=(fun w'=>w'.cell? ⟨lq,lo+j,none⟩=some (.int .i64 yn)∧w'.cell? ⟨bx,0,none⟩=some (.bool true)∧w'.cell? ⟨bx,1,none⟩=some (.slice wz AX wB)∧w'.cell? ⟨bx,2,none⟩=some (.slice AU AY AV))) (by kernel_rfl) ?_ (fun hHeld=>?_)
         ·exact (ah ku) _ gq
         refine au 109 0 ?_;refine au 110 1 ?_;refine au 111 2 ?_;refine au 112 3 ?_;refine au 113 4 ?_;refine au 114 5 ?_;refine au 115 6 ?_;refine aW 7 (fun K hK=>?_);refine oZ iV Z8.drew (yn*3) [.bool true,.slice wz AX wB,.slice AU AY AV] rfl (by rw [Z9];omega) Iz (.tmp 115) (.tmp 114) rfl (by go_simp) rfl ?_;intro w6 dP bK hs6;have pO:ay (fun k=>k=lb) U5 w6:=((ay.refl _ U5).drew).trans bK (fun _ _ e=>e);have hne5:lq≠lb:=(DW (ah QG j hjl)).1
         have hk6:∀a v,a.block≠lb→U5.cell? a=some v→w6.cell? a=some v:=fun a v ha e=>(DW (dR (S:=fun k=>k≠lb) (S':=fun k=>k≠lb) pO (fun k _ hk=>⟨hk,hk⟩) a v (by rw [Bd ha];exact e))).2;have TK:bx≠lb:=by omega
         obtain⟨z0,z1,z2,z3⟩:=(ah ku) _ (Below.refl _ _);refine hK.out _ _ ⟨hk6 _ _ hne5 z0,hk6 _ _ TK z1,hk6 _ _ TK z2,hk6 _ _ TK z3⟩ (fun hHeld=>?_);clear hK K z0 z1 z2 z3;try simp only [Act.put,List.setIfInBounds_toArray]
         refine wpAnyH_done (by kernel_rfl) ?_ _;refine NoPanic.normal ?_;have I10:=(ah Wy).set (k:=yn) (by omega) pO dP (ah HS9) (ah ada);have Xr:=(ah WX).mods pO;have adf:Hid (∀(j:Nat) (hj:j<gl.length),sel (fun k=>k≠lb) w6 ⟨lq,lo+j,none⟩=some (.int .i64 gl[j])):=fun j' hj'=>dR pO (fun k _ hk=>⟨hk,hk⟩) _ _ (ah QG j' hj');have ade:=hide I10;have adn:=hide Xr;clear I10 Xr hk6 dP bK pO hs6 hHeld ku Z8 Z9 xk;go_wp2_with fail
         go_roundg (gl.length-(j+1))
         case measure=>have:=ah zG;omega
         case rel=>exact ⟨j+1,true,_,_,by omega,rfl,rfl,by go_num,ah HE,ah ade,ah adn,ah adf⟩
theorem Ef.add {w V:World}{B:Nat}{v:Value}{l:List bF}(F:Ef w V B v l)(hb:Below w.heap.size w V)(hl:l.length≤40){x:bF}{vl vs:Value}(h1:aV 1 (fE (sel (fun k=>B≤k) w)) vl x.locals)(h2:aV 1 (fE (sel (fun k=>B≤k) w)) vs x.stack)(H:Nat)(hH:V.heap.size=H) :
  ∃a n cap w',(Builtin.append_ #[36,36] 36 #[v,.slice (some ⟨H,0,none⟩) 1 1]).run Tryz.prog (V.alloc (.cells #[.int .i64 x.pc,vl,vs] 42))= .ok (.slice a n cap) w'∧Ef w w' B (.slice a n cap) (l++ [x])∧ay (fun k=>v.ownBlock=some k) V w':=by
 obtain⟨j0,Kv,Kw,Ky,Kz⟩:=info_parts Ud;obtain⟨cs,hO,hR⟩:=F
 obtain⟨v3,w3,happ,hO3,dh,_⟩:=qN (P:=Tryz.prog) (W:=V) 36 36 42 j0 _ 3 56 Tryz.underlying36 Kv Kw Ky Kz rfl (by decide) w.heap.size _ _ _ hO #[.int .i64 x.pc,vl,vs] rfl
  (fun u hu=>by
    simp only [List.mem_cons,List.not_mem_nil,or_false] at hu
    rcases hu with rfl | rfl | rfl
    ·rfl
    ·exact wE h1
    ·exact wE h2) H hH (by unfold maxLen;omega) (by omega) hb.size
 obtain⟨a,cap,rfl⟩:=cZ hO3;exact⟨a,_,cap,w3,happ,⟨_,by simpa using hO3,hR.snoc ⟨vl,vs,rfl,h1,h2⟩ rfl⟩,dh⟩
theorem Y6 (m:aC)(R:List (Option aH))(pl:Bool):∀n,(kE m R pl n).length≤n
 | 0 => Nat.le_refl _
 | n + 1 => by
  unfold kE;rw [List.length_append];have:=Y6 m R pl n
  split <;> simp <;> omega
structure Gg (w V:World)(m:aC)(B:Nat)(mc:List Value)(v:Value)(l:List bF):Prop where
 bel:Below w.heap.size w V
 bm:ak V w.heap.size 63 mc
 fr:Ef w V B v l
theorem Gg.add {w V:World}{m:aC}{B:Nat}{mc:List Value}{v:Value}{l:List bF}(i:Gg w V m B mc v l)(hl:l.length≤40){x:bF}{vl vs:Value}(h1:aV 1 (fE (sel (fun k=>B≤k) w)) vl x.locals)(h2:aV 1 (fE (sel (fun k=>B≤k) w)) vs x.stack)(H:Nat)(hH:V.heap.size=H) :
  ∃a n cap w',(Builtin.append_ #[36,36] 36 #[v,.slice (some ⟨H,0,none⟩) 1 1]).run Tryz.prog (V.alloc (.cells #[.int .i64 x.pc,vl,vs] 42))= .ok (.slice a n cap) w'∧Gg w w' m B mc (.slice a n cap) (l++ [x]):=by
 obtain⟨a,n,cap,w',happ,hF,hM⟩:=i.fr.add i.bel hl h1 h2 H hH;obtain⟨cs,hO,_⟩:=i.fr;refine⟨a,n,cap,w',happ,i.bel.trans (hM.below i.bel.size (fun k hk e=>by have:=(hO.lt k e).1;omega)),i.bm.mods hM (fun e=>?_),hF⟩;obtain⟨cur,hb⟩:=lD hO e;exact absurd (hb.uniq i.bm) (by decide)
theorem ab8 (p:List aj)(m:aC)(va aQ vf:Value)(pl:Bool)(R:List (Option aH))(cs:List Value)(B lb:Nat)(w:World)(hv:bV w.cell? m va aQ vf)(hR:sH w p m B lb R cs)(hl:R.length=m.code.length)(dD:m.code.length≤40)(hB:B≤w.heap.size) :
  Calls Tryz.prog 53 #[bP m va aQ vf,.slice (some ⟨lb,0,none⟩) m.code.length m.code.length,.bool pl] w fun e w'=>ac2 B (kE m R pl m.code.length) w w' e:=by
 unfold bP;obtain⟨aa,_,_,aI,rfl,_⟩:=hv.1;obtain⟨ca,cb,off,aF,rfl,_,hca,hcr⟩:=aZ hv.2.1;obtain⟨fa,_,_,aG,rfl,_⟩:=hv.2.2;have zC:=hide hcr;have HC0:=hide hca;clear hcr hv hca;have HI0:Hid (Gg w (w.alloc (.cells #[.int .i64 m.slot,.slice aa m.args.length aI,.int .i64 m.ret,.int .i64 m.locals,.int .i64 m.stack,.slice ca m.code.length aF,.slice fa m.frames.length aG] 63)) m B [.int .i64 m.slot,.slice aa m.args.length aI,.int .i64 m.ret,.int .i64 m.locals,.int .i64 m.stack,.slice ca m.code.length aF,.slice fa m.frames.length aG] (.slice none 0 0) (kE m R pl 0)):=⟨aS w _,ak.new w _ _,[],World.ownsRow_nil _ _ _ _,iU.nil⟩;go_enter Tryz.func53,Tryz.ntmps53
 go_wp2_with fail
 generalize w.alloc _=W at *
 go_loopg [7,8] m.code.length (fun g v i V=>∃k:Nat,k≤m.code.length∧g=m.code.length-k∧i= .int .i64 k∧Gg w V m B [.int .i64 m.slot,.slice aa m.args.length aI,.int .i64 m.ret,.int .i64 m.locals,.int .i64 m.stack,.slice ca m.code.length aF,.slice fa m.frames.length aG] v (kE m R pl k))
 case atStart=>exact ⟨0,Nat.zero_le _,rfl,rfl,ah HI0⟩
 case round=>
  clear HI0
  rename World=>W1
  rename Value=>dH
  obtain⟨k,hk,hgk,rfl,hI⟩:=hrel;have uh:=hide hgk;clear hgk;obtain⟨cs7,ZE,hR7⟩:=hI.fr;obtain⟨va7,vc7,hv7⟩:=cZ ZE;obtain⟨fl,hfl⟩:∃fl,fl=(kE m R pl k).length:=⟨_,rfl⟩;rw [←hfl] at hv7;subst hv7;clear ZE hR7 hfl;have HI1:=hide hI
  by_cases hlt:k<m.code.length
  rotate_left
  ·obtain rfl:k=m.code.length:=by omega
   have ke:¬(m.code.length:Int)<(m.code.length:Int):=by omega
   clear hI;go_wp2_with fail
   go_ret;obtain⟨YF,Og,KE⟩:=(ah HI1).fr;exact⟨_,rfl,abC Og (KE.mono fun x c h=>yx.keep (dR (ay.of_below (ah HI1).bel) fun k hk hS=>⟨fun e=>by omega,hS⟩) h) (fun g hg=>by have:=(Og.lt g hg).1;omega),(ah HI1).bel⟩
  obtain rfl:=ah HC0 (bJ hlt);have k0:(0:Int)≤(k:Int):=by omega
  have k1:(k:Int)<(m.code.length:Int):=by omega
  have m5:W1.cell? ⟨w.heap.size,5,none⟩=some (.slice (some ⟨cb,off,none⟩) m.code.length aF):=hI.bm.cell 5;have hbl:=hI.bel;clear hI;go_wp2_with fail
  go_loopg [9,10] m.code.length (fun g q i V=>∃(j:Nat) (b:Bool),j≤m.code.length∧g=m.code.length-j∧q= .bool b∧i= .int .i64 j∧b=(!pl || sZ m R k j)∧V=W1)
  case atStart=>exact ⟨0,_,Nat.zero_le _,rfl,rfl,rfl,by show _=(!pl || false);simp,rfl⟩
  case round=>
   obtain⟨j,b,hj,hgj,rfl,rfl,hb,rfl⟩:=hrel
   rename World=>W2
   have zG:=hide hgj;have HB0:=hide hb;clear hgj hb
   by_cases hjl:j<m.code.length
   rotate_left
   ·obtain rfl:j=m.code.length:=by omega
    have ke:¬(m.code.length:Int)<(m.code.length:Int):=by omega
    obtain⟨a,n,c,a',n',c',r0,r1,r2,hS,_⟩:=hR.at_ (i:=k) (by omega);have s0:=Keeps.of_below hbl _ _ r0;have s1:=Keeps.of_below hbl _ _ r1;have s2:=Keeps.of_below hbl _ _ r2;obtain⟨rr,hrr⟩:∃rr,rr=R.getD k none:=⟨_,rfl⟩;rw [←hrr] at s0 hS;have HRR:=hide hrr;clear hrr r0
    cases b with
    | false =>
     have HC:Hid (((!pl || sZ m R k m.code.length) && (R.getD k none).isSome)=false):=by show _=_;rw [←ah HB0];rfl
     clear s0 s1 s2 r1 r2;have hfr:kE m R pl (k+1)=kE m R pl k++(if (!pl || sZ m R k m.code.length) && (R.getD k none).isSome then [⟨(k:Int),((R.getD k none).getD ⟨[],[]⟩).loc,((R.getD k none).getD ⟨[],[]⟩).stk⟩] else []):=rfl;have HE:Hid (kE m R pl (k+1)=kE m R pl k):=by show _=_;rw [hfr,ah HC];simp
     clear hfr;rw [←ah HE] at HI1;go_wp2_with fail
     go_roundg (m.code.length-(k+1))
     case measure=>have:=ah uh;omega
     case rel=>exact ⟨k+1,by omega,rfl,by go_num,ah HI1⟩
    | true =>
     cases rr with
     | none =>
      dsimp only [Option.isSome] at s0;have HC:Hid (((!pl || sZ m R k m.code.length) && (R.getD k none).isSome)=false):=by show _=_;rw [←ah HRR];simp
      clear s1 s2 r1 r2;have hfr:kE m R pl (k+1)=kE m R pl k++(if (!pl || sZ m R k m.code.length) && (R.getD k none).isSome then [⟨(k:Int),((R.getD k none).getD ⟨[],[]⟩).loc,((R.getD k none).getD ⟨[],[]⟩).stk⟩] else []):=rfl;have HE:Hid (kE m R pl (k+1)=kE m R pl k):=by show _=_;rw [hfr,ah HC];simp
      clear hfr;rw [←ah HE] at HI1;go_wp2_with fail
      go_roundg (m.code.length-(k+1))
      case measure=>have:=ah uh;omega
      case rel=>exact ⟨k+1,by omega,rfl,by go_num,ah HI1⟩
     | some s =>
      dsimp only [Option.isSome] at s0
      have HE:Hid (kE m R pl (k+1)=kE m R pl k++ [⟨(k:Int),s.loc,s.stk⟩]):=by
       show _=_
       have hfr:kE m R pl (k+1)=kE m R pl k++(if (!pl || sZ m R k m.code.length) && (R.getD k none).isSome then [⟨(k:Int),((R.getD k none).getD ⟨[],[]⟩).loc,((R.getD k none).getD ⟨[],[]⟩).stk⟩] else []):=rfl;rw [hfr,←ah HB0,←ah HRR]
       rfl
      have hS':dG (sel (fun k=>B≤k) w) s (.slice a n c) (.slice a' n' c'):=dG.keep (dR (ay.refl (fun _=>False) w) fun k hk hS=>⟨fun e=>e,hS.1⟩) hS;have HO:=hide (fun Y (hY:Below W2.heap.size W2 Y)=>And.intro (Keeps.of_below hY _ _ s1) (Keeps.of_below hY _ _ s2));have I2:Gg w W2.drew m B _ _ _:=⟨(ah HI1).bel.drew,(ah HI1).bm.drew,(ah HI1).fr.below gq⟩;have hln:=Y6 m R pl k;obtain⟨na,nn,kH,w3,happ,I3⟩:=I2.add (by omega) (x:=⟨(k:Int),s.loc,s.stk⟩) hS'.1 hS'.2 W2.heap.size rfl;rw [←ah HE] at I3;have HI3:=hide I3;have hb3:Below w.heap.size w w3:=I3.bel;have q1:=Keeps.of_below hb3 _ _ r1;have q2:=Keeps.of_below hb3 _ _ r2;clear I2 I3 m5
      go_upto_region 12 with fail
      refine wp_region_noPanic ?_;refine wp_region_held_drew (S:=(fun w'=>w'.cell? ⟨lb,k*3+1,none⟩=some (.slice a n c)∧w'.cell? ⟨lb,k*3+2,none⟩=some (.slice a' n' c'))) (by kernel_rfl) ?_ (fun hHeld=>?_)
      ·exact (ah HO) _ gq
      refine au 70 0 ?_;refine au 71 1 ?_;refine au 72 2 ?_;refine au 73 3 ?_;refine au 74 4 ?_;refine au 75 5 ?_;refine au 76 6 ?_;refine au 77 7 ?_;refine au 78 8 ?_;refine au 79 9 ?_;refine au 80 10 ?_;refine au 81 11 ?_;refine au 82 12 ?_;refine aW 13 (fun K hK=>?_);go_simp;have hz1:=aS W2.drew (.cells #[.int .i64 (k:Int),.slice a n c,.slice a' n' c'] 42);have hz2:Below W2.heap.size W2 (W2.drew.alloc (.cells #[.int .i64 (k:Int),.slice a n c,.slice a' n' c'] 42)):=⟨hz1.os,hz1.tape,hz1.output,hz1.size,hz1.block⟩;refine hK.out _ _ ((ah HO) _ hz2) (fun hHeld=>?_);clear hK K;try simp only [Act.put,aK,aO,aN]
      refine aW 14 (fun K hK=>?_);refine wp_append_run (.tmp 70) (.tmp 83) 36 rfl _ _ rfl rfl happ ?_;go_simp;refine hK.out _ _ ⟨q1,q2⟩ (fun hHeld=>?_);clear hK K;try simp only [Act.put,aK,aO,aN]
      refine au 7 15 ?_;refine wpAnyH_done (by kernel_rfl) ?_ _;refine NoPanic.normal ?_;clear hHeld happ hz1 hz2 q1 q2 r1 r2 s0 s1 s2;go_wp2_with fail
      go_roundg (m.code.length-(k+1))
      case measure=>have:=ah uh;omega
      case rel=>exact ⟨k+1,by omega,rfl,by go_num,ah HI3⟩
   obtain⟨a,n,c,a',n',c',r0,_,_,_,_⟩:=hR.at_ (i:=j) (by omega);have s0:=Keeps.of_below hbl _ _ r0;have oM:bH m j=m.code[j]:=by unfold bH;rw [List.getElem?_eq_getElem hjl];rfl
   obtain⟨x0,x1,_⟩:=ah zC j hjl;rw [←oM] at x0 x1;have y0:=Keeps.of_below hbl _ _ x0;have y1:=Keeps.of_below hbl _ _ x1;have j0:(0:Int)≤(j:Int):=by omega
   have j1:(j:Int)<(m.code.length:Int):=by omega
   have HP:Hid (sZ m R k (j+1)=(sZ m R k j || ((R.getD j none).isSome && gU (bH m j) && ((bH m j).a == (k:Int))))):=rfl;generalize bH m j=x at *;generalize (R.getD j none).isSome=ii at *;clear x0 x1 r0 oM;have HE:Hid ((b || (ii && gU x && (x.a == (k:Int))))=(!pl || sZ m R k (j+1))):=by show _=_;rw [ah HP,ah HB0];cases pl <;> simp
   ·have HJ:Hid (gU x=(x.op == 7 || x.op == 8 || x.op == 18)):=rfl
    cases b with
    | true =>
     have HB:Hid ((true || (ii && gU x && (x.a == (k:Int))))=true):=rfl;clear HB0 HP;go_wp2_with fail
     go_roundg (m.code.length-(j+1))
     case measure=>have:=ah zG;omega
     case rel=>exact ⟨j+1,_,by omega,rfl,rfl,by go_num,by rw [←ah HE,ah HB],rfl⟩
    | false =>
     cases ii with
     | false =>
      have HB:Hid ((false || (false && gU x && (x.a == (k:Int))))=false):=rfl;clear HB0 HP;go_wp2_with fail
      go_roundg (m.code.length-(j+1))
      case measure=>have:=ah zG;omega
      case rel=>exact ⟨j+1,_,by omega,rfl,rfl,by go_num,by rw [←ah HE,ah HB],rfl⟩
     | true =>
      by_cases e7:x.op=7
      ·have f7:(x.op == 7)=true:=by simpa using e7
       have HB:Hid ((false || (true && gU x && (x.a == (k:Int))))=(x.a == (k:Int))):=by show _=_;rw [ah HJ,f7];simp
       clear e7;clear HB0 HP;go_wp2_with fail
       go_roundg (m.code.length-(j+1))
       case measure=>have:=ah zG;omega
       case rel=>exact ⟨j+1,_,by omega,rfl,rfl,by go_num,by rw [←ah HE,ah HB],rfl⟩
      have f7:(x.op == 7)=false:=by simpa using e7
      by_cases e8:x.op=8
      ·have f8:(x.op == 8)=true:=by simpa using e8
       have HB:Hid ((false || (true && gU x && (x.a == (k:Int))))=(x.a == (k:Int))):=by show _=_;rw [ah HJ,f7,f8];simp
       clear e7 e8;clear HB0 HP;go_wp2_with fail
       go_roundg (m.code.length-(j+1))
       case measure=>have:=ah zG;omega
       case rel=>exact ⟨j+1,_,by omega,rfl,rfl,by go_num,by rw [←ah HE,ah HB],rfl⟩
      have f8:(x.op == 8)=false:=by simpa using e8
      by_cases e18:x.op=18
      ·have f18:(x.op == 18)=true:=by simpa using e18
       have HB:Hid ((false || (true && gU x && (x.a == (k:Int))))=(x.a == (k:Int))):=by show _=_;rw [ah HJ,f7,f8,f18];simp
       clear e7 e8 e18;clear HB0 HP;go_wp2_with fail
       go_roundg (m.code.length-(j+1))
       case measure=>have:=ah zG;omega
       case rel=>exact ⟨j+1,_,by omega,rfl,rfl,by go_num,by rw [←ah HE,ah HB],rfl⟩
      have f18:(x.op == 18)=false:=by simpa using e18
      have HB:Hid ((false || (true && gU x && (x.a == (k:Int))))=false):=by show _=_;rw [ah HJ,f7,f8,f18];simp
      clear e7 e8 e18;clear HB0 HP;go_wp2_with fail
      go_roundg (m.code.length-(j+1))
      case measure=>have:=ah zG;omega
      case rel=>exact ⟨j+1,_,by omega,rfl,rfl,by go_num,by rw [←ah HE,ah HB],rfl⟩
end Go.Proofs.YtiiokkllmchohaaGreat
