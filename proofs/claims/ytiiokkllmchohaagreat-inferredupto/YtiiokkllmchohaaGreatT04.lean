/- The law's lend: what its loops over classes and methods keep. -/
import Derived.Test.YtiiokkllmchohaaGreatT03
set_option maxHeartbeats 4000000
set_option maxRecDepth 100000
namespace Go.Proofs.YtiiokkllmchohaaGreat
open Go.RowKit
theorem aaO:(Tryz.prog.info? 63).map (fun i=>(i.zero,i.size,i.bytes))=some (some (.agg #[.int .i64 0,.slice none 0 0,.int .i64 0,.int .i64 0,.int .i64 0,.slice none 0 0,.slice none 0 0]),7,104):=by kernel_rfl
theorem aaP:(Tryz.prog.info? 64).map (fun i=>(i.zero,i.size,i.bytes))=some (some (.slice none 0 0),1,24):=by kernel_rfl
theorem aaL:(Tryz.prog.info? 66).map (fun i=>(i.zero,i.size,i.bytes))=some (some (.agg #[.int .i64 0,.slice none 0 0,.slice none 0 0]),3,56):=by kernel_rfl
theorem aaM:(Tryz.prog.info? 22).map (fun i=>(i.zero,i.size,i.bytes))=some (some (.slice none 0 0),1,24):=by kernel_rfl

def zY (n:Nat)(T:List TypeId)(w:World)(a:Addr):Option Value:=if a.block<n then cellS T w a else none
theorem aeb (n:Nat)(T:List TypeId)(w:World):dM (zY n T w) (cellS T w):=fun p v h=>by
 unfold zY at h
 split at h
 ·exact h
 ·cases h
theorem aec (T:List TypeId)(w:World){n:Nat}(hn:w.heap.size≤n):dM (cellS T w) (zY n T w):=fun p v h=>by
 unfold zY;rw [if_pos (Nat.lt_of_lt_of_le (cell_lt (EN T w p v h)) hn)];exact h
theorem JY {n:Nat}{T:List TypeId}{w w':World}{S:Nat→Prop}(m:ay S w w')(hS:∀k t cs,k<n→ak w k t cs→t∈T→¬S k):dM (zY n T w) (zY n T w'):=fun p v h=>by
 unfold zY at h ⊢
 split at h
 ·rename_i hp;rw [if_pos hp];obtain⟨⟨t,cs,hb,ht⟩,h⟩:=ND h;have hn:=hS _ _ _ hp hb ht;rw [NC ⟨t,cs,hb.mods m hn,ht⟩];exact m.cell h hn
 ·cases h

theorem akg {t:TypeId}(h:t∈t3):t∈t4:=by
 simp only [List.mem_cons,List.not_mem_nil,or_false] at h
 rcases h with rfl | rfl | rfl <;> decide
theorem Vu {t:TypeId}(h:t∈t4):t∈t5:=by
 simp only [List.mem_cons,List.not_mem_nil,or_false] at h
 rcases h with rfl | rfl | rfl | rfl <;> decide
def Nl (g:Addr→Option Value)(cm:List Value)(m:aC)(j:Nat):Prop:=
 ∃va vc vf,bV g m va vc vf∧cm[j*7]? =some (.int .i64 m.slot)∧cm[j*7+1]? =some va∧cm[j*7+2]? =some (.int .i64 m.ret)∧cm[j*7+3]? =some (.int .i64 m.locals)∧cm[j*7+4]? =some (.int .i64 m.stack)∧cm[j*7+5]? =some vc∧cm[j*7+6]? =some vf
theorem Nl.keep {g g':Addr→Option Value}{cm Ym:List Value}{m:aC}{j:Nat}(h:Nl g cm m j)(hg:dM g g')(hc:∀k,k<j*7+7→Ym[k]? =cm[k]?):Nl g' Ym m j:=by
 obtain⟨va,vc,vf,h0,h1,h2,h3,h4,h5,h6,h7⟩:=h;exact⟨va,vc,vf,h0.keep hg,by rw [hc _ (by omega)];exact h1,by rw [hc _ (by omega)];exact h2,by rw [hc _ (by omega)];exact h3,by rw [hc _ (by omega)];exact h4,by rw [hc _ (by omega)];exact h5,by rw [hc _ (by omega)];exact h6,by rw [hc _ (by omega)];exact h7⟩
def Ed (g:Addr→Option Value)(cl:List Value)(x:aj)(j:Nat):Prop:=
 ∃vf vm,cl[j*3]? =some (.int .i64 x.sup)∧cl[j*3+1]? =some vf∧cl[j*3+2]? =some vm∧aV 1 (fE g) vf x.fields∧aV 7 (o8 g) vm x.aB
theorem Ed.keep {g g':Addr→Option Value}{cl cl':List Value}{x:aj}{j:Nat}(h:Ed g cl x j)(hg:dM g g')(hc:∀k,k<j*3+3→cl'[k]? =cl[k]?):Ed g' cl' x j:=by
 obtain⟨vf,vm,h0,h1,h2,h3,h4⟩:=h;exact⟨vf,vm,by rw [hc _ (by omega)];exact h0,by rw [hc _ (by omega)];exact h1,by rw [hc _ (by omega)];exact h2,dA hg h3,sW hg h4⟩

def rV (l:List Value)(k:Nat)(a b c d e f g:Value):List Value:=((((((l.set k a).set (k+1) b).set (k+2) c).set (k+3) d).set (k+4) e).set (k+5) f).set (k+6) g
theorem LQ (l:List Value)(k:Nat)(a b c d e f g:Value):(rV l k a b c d e f g).length=l.length:=by simp [rV]
theorem Ve {l:List Value}{k j:Nat}{a b c d e f g:Value}(h:j<k∨k+6<j):(rV l k a b c d e f g)[j]? =l[j]? :=by
 unfold rV;rw [List.getElem?_set_ne (by omega),List.getElem?_set_ne (by omega),List.getElem?_set_ne (by omega),List.getElem?_set_ne (by omega),List.getElem?_set_ne (by omega),List.getElem?_set_ne (by omega),List.getElem?_set_ne (by omega)]
theorem Vd {l:List Value}{k:Nat}{a b c d e f g:Value}(h:k+6<l.length):(rV l k a b c d e f g)[k]? =some a∧(rV l k a b c d e f g)[k+1]? =some b∧(rV l k a b c d e f g)[k+2]? =some c∧(rV l k a b c d e f g)[k+3]? =some d∧(rV l k a b c d e f g)[k+4]? =some e∧(rV l k a b c d e f g)[k+5]? =some f∧(rV l k a b c d e f g)[k+6]? =some g:=by
 unfold rV;refine⟨?_,?_,?_,?_,?_,?_,?_⟩
 ·rw [List.getElem?_set_ne (by omega),List.getElem?_set_ne (by omega),List.getElem?_set_ne (by omega),List.getElem?_set_ne (by omega),List.getElem?_set_ne (by omega),List.getElem?_set_ne (by omega),List.getElem?_set_self (by omega)]
 ·rw [List.getElem?_set_ne (by omega),List.getElem?_set_ne (by omega),List.getElem?_set_ne (by omega),List.getElem?_set_ne (by omega),List.getElem?_set_ne (by omega),List.getElem?_set_self (by simp;omega)]
 ·rw [List.getElem?_set_ne (by omega),List.getElem?_set_ne (by omega),List.getElem?_set_ne (by omega),List.getElem?_set_ne (by omega),List.getElem?_set_self (by simp;omega)]
 ·rw [List.getElem?_set_ne (by omega),List.getElem?_set_ne (by omega),List.getElem?_set_ne (by omega),List.getElem?_set_self (by simp;omega)]
 ·rw [List.getElem?_set_ne (by omega),List.getElem?_set_ne (by omega),List.getElem?_set_self (by simp;omega)]
 ·rw [List.getElem?_set_ne (by omega),List.getElem?_set_self (by simp;omega)]
 ·rw [List.getElem?_set_self (by simp;omega)]
def Bg (w:World)(g k:Nat)(a b c d e f h:Value):World:=
 ((((((w.setCell ⟨g,k,none⟩ a).setCell ⟨g,k+1,none⟩ b).setCell ⟨g,k+2,none⟩ c).setCell ⟨g,k+3,none⟩ d).setCell ⟨g,k+4,none⟩ e).setCell ⟨g,k+5,none⟩ f).setCell ⟨g,k+6,none⟩ h
theorem Pv {w:World}{g k:Nat}{t:TypeId}{cs:List Value}(hb:ak w g t cs)(a b c d e f h:Value):ak (Bg w g k a b c d e f h) g t (rV cs k a b c d e f h):=
 ((((((hb.setCell k a).setCell (k+1) b).setCell (k+2) c).setCell (k+3) d).setCell (k+4) e).setCell (k+5) f).setCell (k+6) h
theorem Px (w:World)(g k:Nat)(a b c d e f h:Value):ay (fun i=>i=g) w (Bg w g k a b c d e f h):=
 (((((((ay.refl (fun i=>i=g) w).setCell (p:=⟨g,k,none⟩) (fun _=>rfl) a).setCell (p:=⟨g,k+1,none⟩) (fun _=>rfl) b).setCell (p:=⟨g,k+2,none⟩) (fun _=>rfl) c).setCell (p:=⟨g,k+3,none⟩) (fun _=>rfl) d).setCell (p:=⟨g,k+4,none⟩) (fun _=>rfl) e).setCell (p:=⟨g,k+5,none⟩) (fun _=>rfl) f).setCell (p:=⟨g,k+6,none⟩) (fun _=>rfl) h
theorem ajN (w:World)(g k:Nat)(a b c d e f h:Value):(Bg w g k a b c d e f h).heap.size=w.heap.size:=by simp [Bg]
def Bf (w:World)(g k:Nat)(a b c:Value):World:=((w.setCell ⟨g,k,none⟩ a).setCell ⟨g,k+1,none⟩ b).setCell ⟨g,k+2,none⟩ c
theorem DY {w:World}{g k:Nat}{t:TypeId}{cs:List Value}(hb:ak w g t cs)(a b c:Value):ak (Bf w g k a b c) g t (nO cs k a b c):=((hb.setCell k a).setCell (k+1) b).setCell (k+2) c
theorem DZ (w:World)(g k:Nat)(a b c:Value):ay (fun i=>i=g) w (Bf w g k a b c):=
 (((ay.refl (fun i=>i=g) w).setCell (p:=⟨g,k,none⟩) (fun _=>rfl) a).setCell (p:=⟨g,k+1,none⟩) (fun _=>rfl) b).setCell (p:=⟨g,k+2,none⟩) (fun _=>rfl) c
theorem ajM (w:World)(g k:Nat)(a b c:Value):(Bf w g k a b c).heap.size=w.heap.size:=by simp [Bf]

structure zM (w wr:World)(bh:Nat)(cs0:List Value)(p:List aj)(vp:Value)(gl c:Nat)(vt vi vf vm:Value)(ts is fs ms:List (Nat×Nat))(cs cl:List Value)(nb:Nat):Prop where
 hs:HS wr w.heap.size bh cs vt vi vf ts is fs
 m:Ep wr w.heap.size vm ms
 c3:cs[3]? =some vm
 c4:cs[4]? =some (.slice none 0 0)
 rest:∀j,5≤j→cs[j]? =cs0[j]?
 mods:ay (fun k=>k=bh) w wr
 b0:ak wr w.heap.size 24 [vp]
 b1:ak wr (w.heap.size+1) 24 [.slice none 0 0]
 lb:ak wr gl 66 cl
 ll:cl.length=(p.length+1)*3
 done:∀(j:Nat) (hj:j<p.length),j<c→Ed (cellS t4 wr) cl p[j] j
 tl:ts.length≤nb
 il:is.length≤nb
 fl:fs.length≤nb
 ml:ms.length=c
 xU:w.heap.size+2≤gl

structure qI (w wr:World)(bh:Nat)(cs0:List Value)(p:List aj)(vp:Value)(gl c:Nat)(x:aj)(lG lH:Value)(gx gm k:Nat)(vt vi vf vm:Value)(ts is fs ms:List (Nat×Nat))(cs cl cm:List Value)(nb:Nat):Prop where
 hs:HS wr w.heap.size bh cs vt vi vf ts is fs
 m:Ep wr w.heap.size vm ms
 c3:cs[3]? =some vm
 c4:cs[4]? =some (.slice none 0 0)
 rest:∀j,5≤j→cs[j]? =cs0[j]?
 mods:ay (fun k=>k=bh) w wr
 b0:ak wr w.heap.size 24 [vp]
 b1:ak wr (w.heap.size+1) 24 [.slice none 0 0]
 bx:ak wr gx 66 [.int .i64 x.sup,lG,lH]
 lb:ak wr gl 66 cl
 ll:cl.length=(p.length+1)*3
 done:∀(j:Nat) (hj:j<p.length),j<c→Ed (zY gm t4 wr) cl p[j] j
 mb:ak wr gm 63 cm
 OT:cm.length=(x.aB.length+1)*7
 UF:∀(j:Nat) (hj:j<x.aB.length),j<k→Nl (cellS t3 wr) cm x.aB[j] j
 tl:ts.length≤nb
 il:is.length≤nb
 fl:fs.length≤nb
 ml:ms.length=c
 xU:w.heap.size+2≤gl
 Iw:w.heap.size+2≤gx
 OV:w.heap.size+2≤gm
 lx:gl≠gx
 old:∀e∈ms,e.1<gm

section
variable {w wr : World} {bh : Nat} {cs0 : List Value} {p : List aj} {vp : Value} {gl c : Nat} {x : aj} {lG lH : Value} {gx gm k : Nat} {vt vi vf vm : Value} {ts is fs ms : List (Nat × Nat)} {cs cl cm : List Value} {nb : Nat}

theorem qI.rows (h:qI w wr bh cs0 p vp gl c x lG lH gx gm k vt vi vf vm ts is fs ms cs cl cm nb){i:Nat}(hi:i<w.heap.size)(hr:uo bh vt vi vf i):i=bh:=by
 rcases (h.hs.rows hr).1 with e | e
 ·exact e
 ·omega
theorem qI.call (h:qI w wr bh cs0 p vp gl c x lG lH gx gm k vt vi vf vm ts is fs ms cs cl cm nb){w':World}{m:aC}{g1 gc gf:Nat}{jD Bq mF:Value}{ts' is' fs':List (Nat×Nat)}{cs':List Value}
  (L:Xm wr w' w.heap.size bh cs m vt vi vf ts is fs g1 gc gf jD Bq mF ts' is' fs' cs'):qI w w' bh cs0 p vp gl c x lG lH gx gm k jD Bq mF vm ts' is' fs' ms cs' cl cm (nb+dN m):=by
 have h8:8≤dN m:=by unfold dN;omega
 have hn:∀ {i t c},ak wr i t c→¬(t=53∨t=40∨t=61∨t=36)→¬uo bh vt vi vf i:=fun hb ht=>h.hs.other hb ht
 refine⟨L.hs,h.m.mods L.mods (fun i c hb=>hn hb (by decide)) (fun i c hb=>hn hb (by decide)),by rw [L.rest 3 (by omega)];exact h.c3,by rw [L.rest 4 (by omega)];exact h.c4,fun j hj=>by rw [L.rest j (by omega)];exact h.rest j hj,h.mods.trans L.mods (fun i hi hr=>h.rows hi hr),h.b0.mods L.mods (hn h.b0 (by decide)),h.b1.mods L.mods (hn h.b1 (by decide)),h.bx.mods L.mods (hn h.bx (by decide)),h.lb.mods L.mods (hn h.lb (by decide)),h.ll,
  fun j hj hjc=>(h.done j hj hjc).keep (JY L.mods (fun i t c _ hb ht=>h.hs.abx hb (Vu ht))) (fun _ _=>rfl),h.mb.mods L.mods (hn h.mb (by decide)),h.OT,fun j hj hjk=>(h.UF j hj hjk).keep (nI L.mods (fun i t c hb ht=>h.hs.abx hb (Vu (akg ht)))) (fun _ _=>rfl),
  ?_,?_,?_,h.ml,h.xU,h.Iw,h.OV,h.lx,h.old⟩
 ·have:=L.tl;have:=h.tl;omega
 ·have:=L.il;have:=h.il;omega
 ·have:=L.fl;have:=h.fl;omega
theorem qI.put (h:qI w wr bh cs0 p vp gl c x lG lH gx gm k vt vi vf vm ts is fs ms cs cl cm nb)(hk:k<x.aB.length){va vc kL:Value}(hv:bV (cellS t3 wr) x.aB[k] va vc kL) :
  qI w (Bg wr gm (k*7) (.int .i64 x.aB[k].slot) va (.int .i64 x.aB[k].ret) (.int .i64 x.aB[k].locals) (.int .i64 x.aB[k].stack) vc kL) bh cs0 p vp gl c x lG lH gx gm (k+1) vt vi vf vm ts is fs ms cs cl
   (rV cm (k*7) (.int .i64 x.aB[k].slot) va (.int .i64 x.aB[k].ret) (.int .i64 x.aB[k].locals) (.int .i64 x.aB[k].stack) vc kL) nb:=by
 have hm:=Px wr gm (k*7) (.int .i64 x.aB[k].slot) va (.int .i64 x.aB[k].ret) (.int .i64 x.aB[k].locals) (.int .i64 x.aB[k].stack) vc kL;have hb:=Pv (k:=k*7) h.mb (.int .i64 x.aB[k].slot) va (.int .i64 x.aB[k].ret) (.int .i64 x.aB[k].locals) (.int .i64 x.aB[k].stack) vc kL;have hl:=h.OT;have hnm:=h.OV;have hne:∀ {i t c},ak wr i t c→t≠63→¬(i=gm):=fun hb' ht e=>by subst e;exact ht (hb'.uniq h.mb)
 have hge:dM (cellS t3 wr) (cellS t3 (Bg wr gm (k*7) (.int .i64 x.aB[k].slot) va (.int .i64 x.aB[k].ret) (.int .i64 x.aB[k].locals) (.int .i64 x.aB[k].stack) vc kL)):=
  nI hm (fun i t c hb' ht=>hne hb' (fun e=>by subst e;exact absurd ht (by decide)))
 refine⟨h.hs.stay hm (fun i t c hb' hi ht=>?_),h.m.OU hm (fun i c hb'=>hne hb' (by decide)) (fun e he hi=>by have:=h.old e he;omega),h.c3,h.c4,h.rest,h.mods.trans hm (fun i hi e=>by omega),h.b0.mods hm (hne h.b0 (by decide)),h.b1.mods hm (hne h.b1 (by decide)),h.bx.mods hm (hne h.bx (by decide)),h.lb.mods hm (hne h.lb (by decide)),h.ll,
  fun j hj hjc=>(h.done j hj hjc).keep (JY hm (fun i t c hi _ _ e=>by omega)) (fun _ _=>rfl),hb,by rw [LQ];exact hl,fun j hj hjk=>?_,h.tl,h.il,h.fl,h.ml,h.xU,h.Iw,h.OV,h.lx,h.old⟩
 ·refine hne hb' ?_ hi
  rcases ht with rfl | rfl | rfl | rfl | rfl | rfl | rfl <;> decide
 ·rcases Nat.lt_or_ge j k with g | g
  ·exact (h.UF j hj g).keep hge (fun i hi=>Ve (by omega))
  ·obtain rfl:j=k:=by omega
   obtain⟨s0,s1,s2,s3,s4,s5,s6⟩:=Vd (l:=cm) (k:=j*7) (a:=.int .i64 x.aB[j].slot) (b:=va) (c:=.int .i64 x.aB[j].ret) (d:=.int .i64 x.aB[j].locals) (e:=.int .i64 x.aB[j].stack) (f:=vc) (g:=kL) (by omega);exact⟨va,vc,kL,hv.keep hge,s0,s1,s2,s3,s4,s5,s6⟩
theorem qI.sK (h:qI w wr bh cs0 p vp gl c x lG lH gx gm k vt vi vf vm ts is fs ms cs cl cm nb)(i:Nat)(hi:i<(x.aB.length+1)*7):∃u,wr.cell? ⟨gm,i,none⟩=some u:=
 ⟨cm[i]'(by rw [h.OT];exact hi),by rw [h.mb.cell];exact List.getElem?_eq_getElem _⟩

structure uw (w wr:World)(bh:Nat)(cs0:List Value)(p:List aj)(vp:Value)(gl c:Nat)(x:aj)(lG lH:Value)(gx gm:Nat)(vt vi vf vm:Value)(ts is fs ms:List (Nat×Nat))(cs cl:List Value)(nb:Nat):Prop where
 hs:HS wr w.heap.size bh cs vt vi vf ts is fs
 m:Ep wr w.heap.size vm ms
 c3:cs[3]? =some vm
 c4:cs[4]? =some (.slice none 0 0)
 rest:∀j,5≤j→cs[j]? =cs0[j]?
 mods:ay (fun k=>k=bh) w wr
 b0:ak wr w.heap.size 24 [vp]
 b1:ak wr (w.heap.size+1) 24 [.slice none 0 0]
 bx:ak wr gx 66 [.int .i64 x.sup,lG,lH]
 lb:ak wr gl 66 cl
 ll:cl.length=(p.length+1)*3
 done:∀(j:Nat) (hj:j<p.length),j<c→Ed (cellS t4 wr) cl p[j] j
 aB:aV 7 (o8 (cellS t4 wr)) (.slice (some ⟨gm,0,none⟩) x.aB.length (x.aB.length+1)) x.aB
 tl:ts.length≤nb
 il:is.length≤nb
 fl:fs.length≤nb
 ml:ms.length=c+1
 xU:w.heap.size+2≤gl
 Iw:w.heap.size+2≤gx
 lx:gl≠gx

theorem qI.fin {ma:Option Addr}{dW:Nat}(h:qI w wr bh cs0 p vp gl c x lG lH gx gm x.aB.length vt vi vf (.slice ma ms.length dW) ts is fs ms cs cl cm nb)(hms:ms.length+1≤16777216)(hml:x.aB.length≤1048576) :
  ∃ma' oD w6,(Builtin.append_ #[48,48] 48 #[.slice ma ms.length dW,.slice (some ⟨wr.heap.size,0,none⟩) 1 1]).run Tryz.prog
    ((Bg wr gm (x.aB.length*7) (.int .i64 (-77000000)) (.slice none 0 0) (.int .i64 0) (.int .i64 0) (.int .i64 0) (.slice none 0 0) (.slice none 0 0)).alloc (.cells #[.slice (some ⟨gm,0,none⟩) (x.aB.length+1) (x.aB.length+1)] 64))= .ok (.slice ma' (ms.length+1) oD) w6∧
   ak w6 bh 53 cs∧wr.heap.size≤w6.heap.size∧
   uw w (w6.setCell ⟨bh,3,none⟩ (.slice ma' (ms.length+1) oD)) bh cs0 p vp gl c x lG lH gx gm vt vi vf (.slice ma' (ms.length+1) oD) ts is fs (ms++ [(gm,x.aB.length+1)]) (cs.set 3 (.slice ma' (ms.length+1) oD)) cl nb:=by
 obtain⟨iM,hM,hM0,hM1,hM2⟩:=info_parts aaP;have hlt:=h.hs.lt;have hle:=h.hs.le;have hlen:=h.OT;have hnm:=h.OV;have hsz:=h.mods.size;have ou:=Px wr gm (x.aB.length*7) (.int .i64 (-77000000)) (.slice none 0 0) (.int .i64 0) (.int .i64 0) (.int .i64 0) (.slice none 0 0) (.slice none 0 0);have hbX:=Pv (k:=x.aB.length*7) h.mb (.int .i64 (-77000000)) (.slice none 0 0) (.int .i64 0) (.int .i64 0) (.int .i64 0) (.slice none 0 0) (.slice none 0 0);have Fv:=ajN wr gm (x.aB.length*7) (.int .i64 (-77000000)) (.slice none 0 0) (.int .i64 0) (.int .i64 0) (.int .i64 0) (.slice none 0 0) (.slice none 0 0)
 generalize Bg wr gm (x.aB.length*7) (.int .i64 (-77000000)) (.slice none 0 0) (.int .i64 0) (.int .i64 0) (.int .i64 0) (.slice none 0 0) (.slice none 0 0)=X at ou hbX Fv ⊢;have hne:∀ {i t c},ak wr i t c→t≠63→¬(i=gm):=fun hb' ht e=>by subst e;exact ht (hb'.uniq h.mb)
 have kY:HS X w.heap.size bh cs vt vi vf ts is fs:=h.hs.stay ou (fun i t c hb' hi ht=>by
  refine hne hb' ?_ hi
  rcases ht with rfl | rfl | rfl | rfl | rfl | rfl | rfl <;> decide)
 have Oc:Ep X w.heap.size (.slice ma ms.length dW) ms:=h.m.OU ou (fun i c hb'=>hne hb' (by decide)) (fun e he hi=>by have:=h.old e he;omega);obtain⟨lS,w6,happ,hown6,nM,H9⟩:=qN (P:=Tryz.prog) (W:=X) 48 48 64 iM (.slice none 0 0) 1 24 Tryz.underlying48 hM hM0 hM1 hM2 rfl (by decide) w.heap.size (.slice ma ms.length dW) ms.length (ms.map rW) Oc.row #[.slice (some ⟨gm,0,none⟩) (x.aB.length+1) (x.aB.length+1)] rfl (by simp [Value.oneCell']) wr.heap.size Fv (by unfold maxLen;omega) (by omega) (by omega);obtain⟨ma',oD,rfl⟩:=cZ hown6;have hrow:∀i,(Value.slice ma ms.length dW).ownBlock=some i→∃c,ak X i 64 c:=fun i e=>lD Oc.row e
 have hnr:∀ {i t c},ak X i t c→t≠64→¬((Value.slice ma ms.length dW).ownBlock=some i):=fun hb' ht e=>by obtain⟨c',TG⟩:=hrow _ e;exact ht (hb'.uniq TG)
 have mY:ak w6 bh 53 cs:=kY.hands.1.mods nM (hnr kY.hands.1 (by decide));have hs6:=nM.size;refine⟨ma',oD,w6,happ,mY,by omega,?_⟩;have iy:ay (fun i=>i=bh∨(Value.slice ma ms.length dW).ownBlock=some i) X (w6.setCell ⟨bh,3,none⟩ (.slice ma' (ms.length+1) oD)):=(nM.mono (fun _ _ e=>.inr e)).setCell (fun _=>.inl rfl) _;have KN:=mY.setCell 3 (.slice ma' (ms.length+1) oD);have Ic:=eP (S:=fun i=>i=bh) hown6 ((ay.refl (fun i=>i=bh) w6).setCell (p:=⟨bh,3,none⟩) (fun _=>rfl) (.slice ma' (ms.length+1) oD)) (fun g e=>by have:=hown6.lt g e;omega);generalize w6.setCell ⟨bh,3,none⟩ (.slice ma' (ms.length+1) oD)=Y at iy KN Ic ⊢
 have hS:∀ {i t c},ak X i t c→t≠53→t≠64→¬(i=bh∨(Value.slice ma ms.length dW).ownBlock=some i):=fun hb' h1 h2 hk=>by
  rcases hk with rfl | hk
  ·exact h1 (hb'.uniq kY.hands.1)
  ·exact hnr hb' h2 hk
 have xK:∀ {i t c},ak wr i t c→t≠63→t≠53→t≠64→ak Y i t c:=fun hb' h0 h1 h2=>(hb'.mods ou (hne hb' h0)).mods iy (hS (hb'.mods ou (hne hb' h0)) h1 h2);have hc19:=h.hs.hands.2;have ZY:=hbX.mods iy (hS hbX (by decide) (by decide));have agF:dM (cellS t3 wr) (cellS t4 Y):=(nI ou (fun i t c hb' ht=>hne hb' (fun e=>by subst e;exact absurd ht (by decide)))).trans ((nI iy (fun i t c hb' ht=>hS hb' (fun e=>by subst e;exact absurd ht (by decide)) (fun e=>by subst e;exact absurd ht (by decide)))).trans (NG (by simp) Y))
 refine⟨⟨⟨KN,by rw [List.length_set];exact hc19⟩,by rw [List.getElem?_set_ne (by omega)];exact h.hs.c0,by rw [List.getElem?_set_ne (by omega)];exact h.hs.c1,by rw [List.getElem?_set_ne (by omega)];exact h.hs.c2,kY.t.mods iy (fun i c hb'=>hS hb' (by decide) (by decide)) (fun i c hb'=>hS hb' (by decide) (by decide)),kY.i.mods iy (fun i c hb'=>hS hb' (by decide) (by decide)) (fun i c hb'=>hS hb' (by decide) (by decide)),kY.f.mods iy (fun i c hb'=>hS hb' (by decide) (by decide)) (fun i c hb'=>hS hb' (by decide) (by decide)),hlt,Nat.le_trans kY.le iy.size⟩,
  ?_,by rw [List.getElem?_set_self (by omega)],by rw [List.getElem?_set_ne (by omega)];exact h.c4,fun j hj=>by rw [List.getElem?_set_ne (by omega)];exact h.rest j hj,(h.mods.trans ou (fun i hi e=>by omega)).trans iy (fun i hi e=>?_),xK h.b0 (by decide) (by decide) (by decide),xK h.b1 (by decide) (by decide) (by decide),xK h.bx (by decide) (by decide) (by decide),xK h.lb (by decide) (by decide) (by decide),h.ll,fun j hj hjc=>(h.done j hj hjc).keep ?_ (fun _ _=>rfl),?_,h.tl,h.il,h.fl,by rw [List.length_append,List.length_singleton,h.ml],h.xU,h.Iw,h.lx⟩
 ·refine⟨by rw [List.length_append,List.map_append];exact Ic,fun e he=>?_,?_⟩
  ·rcases List.mem_append.1 he with he | he
   ·obtain⟨h1,h2,h3,c,h4,h5⟩:=Oc.ent e he;exact⟨h1,h2,h3,c,h4.mods iy (hS h4 (by decide) (by decide)),h5⟩
   ·rw [List.mem_singleton] at he;subst he;obtain⟨s0,s1,s2,s3,s4,s5,s6⟩:=Vd (l:=cm) (k:=x.aB.length*7) (a:=.int .i64 (-77000000)) (b:=.slice none 0 0) (c:=.int .i64 0) (d:=.int .i64 0) (e:=.int .i64 0) (f:=.slice none 0 0) (g:=.slice none 0 0) (by omega);refine⟨by show w.heap.size≤gm;omega,by show 1≤x.aB.length+1;omega,by show x.aB.length+1≤1048577;omega,_,ZY,by rw [LQ];exact hlen,?_⟩;rw [show x.aB.length+1-1=x.aB.length by omega];exact afH (by rw [LQ];omega) s0 s1 s2 s3 s4 s5 s6
  ·rw [List.map_append,List.nodup_append];refine⟨h.m.nodup,by simp,fun a ha b hb'=>?_⟩;obtain⟨e,he,rfl⟩:=List.mem_map.1 ha;have:b=gm:=by simpa using hb'
   have:=h.old e he;omega
 ·rcases e with e | e
  ·exact e
  ·have:=Oc.row.lt i e;omega
 ·exact ((JY ou (fun i t c hi _ _ e=>by omega)).trans (JY iy (fun i t c hi hb' ht=>hS hb' (fun e=>by subst e;exact absurd ht (by decide)) (fun e=>by subst e;exact absurd ht (by decide))))).trans (aeb gm t4 Y)
 ·refine⟨_,gm,0,_,rfl,by omega,⟨fun _=>rfl,.inr (.inl rfl)⟩,fun j y hj=>?_⟩;obtain⟨hj1,rfl⟩:=List.getElem?_eq_some_iff.1 hj;obtain⟨va,vc,kL,f0,f1,f2,f3,f4,f5,f6,f7⟩:=h.UF j hj1 hj1;have hcell:∀r,r<7→cellS t4 Y ⟨gm,0+j*7+r,none⟩=cm[j*7+r]? :=fun r hr=>by rw [EM ZY (by simp),Nat.zero_add,Ve (by omega)]
  exact⟨va,vc,kL,f0.keep agF,(hcell 0 (by omega)).trans f1,(hcell 1 (by omega)).trans f2,(hcell 2 (by omega)).trans f3,(hcell 3 (by omega)).trans f4,(hcell 4 (by omega)).trans f5,(hcell 5 (by omega)).trans f6,(hcell 6 (by omega)).trans f7⟩
end
section
variable {w wr : World} {bh : Nat} {cs0 : List Value} {p : List aj} {vp : Value} {gl c : Nat} {x : aj} {lG lH : Value} {gx gm k : Nat} {vt vi vf vm : Value} {ts is fs ms : List (Nat × Nat)} {cs cl cm : List Value} {nb : Nat}

theorem uw.far (h:uw w wr bh cs0 p vp gl c x lG lH gx gm vt vi vf vm ts is fs ms cs cl nb){i:Nat}{t:TypeId}{c':List Value}(hb:ak wr i t c')(h1:t≠53)(h2:t≠40):¬(i=bh∨vt.ownBlock=some i):=fun hk=>by
 rcases hk with rfl | hk
 ·exact h1 (hb.uniq h.hs.hands.1)
 ·obtain⟨c',hb'⟩:=lD h.hs.t.row hk;exact h2 (hb.uniq hb')
theorem uw.drew (h:uw w wr bh cs0 p vp gl c x lG lH gx gm vt vi vf vm ts is fs ms cs cl nb):uw w wr.drew bh cs0 p vp gl c x lG lH gx gm vt vi vf vm ts is fs ms cs cl nb:=by
 have hm:ay (fun _=>False) wr wr.drew:=(ay.refl _ _).drew;exact⟨h.hs.stay hm (fun _ _ _ _ f=>f.elim),h.m.mods hm (fun _ _ _ f=>f) (fun _ _ _ f=>f),h.c3,h.c4,h.rest,h.mods.drew,h.b0,h.b1,h.bx,h.lb,h.ll,fun j hj hjc=>(h.done j hj hjc).keep (nI hm (fun _ _ _ _ _ f=>f)) (fun _ _=>rfl),sW (nI hm (fun _ _ _ _ _ f=>f)) h.aB,h.tl,h.il,h.fl,h.ml,h.xU,h.Iw,h.lx⟩
theorem uw.DI (h:uw w wr bh cs0 p vp gl c x lG lH gx gm vt vi vf vm ts is fs ms cs cl nb){l:List Int}{w':World}{g:Nat}{jD:Value}(hl:l.length≤1048576)(L:JE wr w' bh cs vt w.heap.size ts l g jD) :
  uw w w' bh cs0 p vp gl c x lG lH gx gm jD vi vf vm (ts++ [(g,l.length+1)]) is fs ms (cs.set 0 jD) cl (nb+1):=by
 have h4:∀ {i t c'},ak wr i t c'→t∈t4→¬(i=bh∨vt.ownBlock=some i):=fun hb ht=>h.far hb (fun e=>by subst e;exact absurd ht (by decide)) (fun e=>by subst e;exact absurd ht (by decide))
 refine⟨h.hs.DI hl L,h.m.mods L.mods (fun i c hb=>h.far hb (by decide) (by decide)) (fun i c hb=>h.far hb (by decide) (by decide)),by rw [List.getElem?_set_ne (by omega)];exact h.c3,by rw [List.getElem?_set_ne (by omega)];exact h.c4,fun j hj=>by rw [List.getElem?_set_ne (by omega)];exact h.rest j hj,h.mods.trans L.mods (fun i hi hr=>?_),h.b0.mods L.mods (h.far h.b0 (by decide) (by decide)),h.b1.mods L.mods (h.far h.b1 (by decide) (by decide)),h.bx.mods L.mods (h.far h.bx (by decide) (by decide)),h.lb.mods L.mods (h.far h.lb (by decide) (by decide)),h.ll,
  fun j hj hjc=>(h.done j hj hjc).keep (nI L.mods (fun i t c hb ht=>h4 hb ht)) (fun _ _=>rfl),sW (nI L.mods (fun i t c hb ht=>h4 hb ht)) h.aB,?_,?_,?_,h.ml,h.xU,h.Iw,h.lx⟩
 ·rcases hr with hr | hr
  ·exact hr
  ·have:=h.hs.t.row.lt i hr;omega
 ·rw [List.length_append,List.length_singleton];have:=h.tl;omega
 ·have:=h.il;omega
 ·have:=h.fl;omega
theorem uw.cellL (h:uw w wr bh cs0 p vp gl c x lG lH gx gm vt vi vf vm ts is fs ms cs cl nb)(i:Nat)(hi:i<(p.length+1)*3):∃u,wr.cell? ⟨gl,i,none⟩=some u:=
 ⟨cl[i]'(by rw [h.ll];exact hi),by rw [h.lb.cell];exact List.getElem?_eq_getElem _⟩
theorem uw.put (h:uw w wr bh cs0 p vp gl c x lG lH gx gm vt vi vf vm ts is fs ms cs cl nb)(hc:c<p.length)(hx:p[c]=x){kL:Value}(hf:aV 1 (fE (cellS tT wr)) kL x.fields) :
  zM w (Bf wr gl (c*3) (.int .i64 x.sup) kL (.slice (some ⟨gm,0,none⟩) x.aB.length (x.aB.length+1))) bh cs0 p vp gl (c+1) vt vi vf vm ts is fs ms cs (nO cl (c*3) (.int .i64 x.sup) kL (.slice (some ⟨gm,0,none⟩) x.aB.length (x.aB.length+1))) nb:=by
 have hm:=DZ wr gl (c*3) (.int .i64 x.sup) kL (.slice (some ⟨gm,0,none⟩) x.aB.length (x.aB.length+1));have hb:=DY (k:=c*3) h.lb (.int .i64 x.sup) kL (.slice (some ⟨gm,0,none⟩) x.aB.length (x.aB.length+1));have hl:=h.ll;have hnl:=h.xU;have hne:∀ {i t c},ak wr i t c→t≠66→¬(i=gl):=fun hb' ht e=>by subst e;exact ht (hb'.uniq h.lb)
 have hge:dM (cellS t4 wr) (cellS t4 (Bf wr gl (c*3) (.int .i64 x.sup) kL (.slice (some ⟨gm,0,none⟩) x.aB.length (x.aB.length+1)))):=
  nI hm (fun i t c hb' ht=>hne hb' (fun e=>by subst e;exact absurd ht (by decide)))
 refine⟨h.hs.stay hm (fun i t c hb' hi ht=>?_),h.m.mods hm (fun i c hb'=>hne hb' (by decide)) (fun i c hb'=>hne hb' (by decide)),h.c3,h.c4,h.rest,h.mods.trans hm (fun i hi e=>by omega),h.b0.mods hm (hne h.b0 (by decide)),h.b1.mods hm (hne h.b1 (by decide)),hb,by rw [uU];exact hl,fun j hj hjc=>?_,h.tl,h.il,h.fl,h.ml,h.xU⟩
 ·refine hne hb' ?_ hi
  rcases ht with rfl | rfl | rfl | rfl | rfl | rfl | rfl <;> decide
 ·rcases Nat.lt_or_ge j c with g | g
  ·exact (h.done j hj g).keep hge (fun i hi=>FP (by omega))
  ·obtain rfl:j=c:=by omega
   rw [hx];exact⟨kL,_,IQ (by omega),IW (by omega),IX (by omega),dA ((NG (by simp) wr).trans hge) hf,sW hge h.aB⟩
theorem zM.cellL (h:zM w wr bh cs0 p vp gl c vt vi vf vm ts is fs ms cs cl nb)(i:Nat)(hi:i<(p.length+1)*3):∃u,wr.cell? ⟨gl,i,none⟩=some u:=
 ⟨cl[i]'(by rw [h.ll];exact hi),by rw [h.lb.cell];exact List.getElem?_eq_getElem _⟩
theorem zM.begin (h:zM w wr bh cs0 p vp gl c vt vi vf vm ts is fs ms cs cl nb){w2:World}{lG lH:Value}(hx:ak w2 gx 66 [.int .i64 x.sup,lG,lH])(hxn:wr.heap.size≤gx)
  (hmb:ak w2 gm 63 cm) (hmn:wr.heap.size≤gm) (hml:cm.length=(x.aB.length+1)*7) (hm:ay (fun _=>False) wr w2):qI w w2 bh cs0 p vp gl c x lG lH gx gm 0 vt vi vf vm ts is fs ms cs cl cm nb:=by
 have hsz:=h.b1.lt;have hl:=h.lb.lt;refine⟨h.hs.stay hm (fun _ _ _ _ f=>f.elim),h.m.mods hm (fun _ _ _ f=>f) (fun _ _ _ f=>f),h.c3,h.c4,h.rest,h.mods.trans hm (fun _ _ f=>f.elim),h.b0.mods hm (fun f=>f),h.b1.mods hm (fun f=>f),hx,h.lb.mods hm (fun f=>f),h.ll,fun j hj hjc=>(h.done j hj hjc).keep ((aec t4 wr hmn).trans (JY hm (fun _ _ _ _ _ _ f=>f))) (fun _ _=>rfl),hmb,hml,fun j _ hj=>absurd hj (Nat.not_lt_zero j),h.tl,h.il,h.fl,h.ml,h.xU,by omega,by omega,by omega,fun e he=>?_⟩;obtain⟨_,_,_,c,hb,_⟩:=h.m.ent e he;have:=hb.lt;omega

structure Xn (w w':World)(bh:Nat)(cs0:List Value)(p:List aj)(gl:Nat)(vt vi vf vm vc:Value)(ts is fs ms ks:List (Nat×Nat))(cs:List Value):Prop where
 hs:HS w' w.heap.size bh cs vt vi vf ts is fs
 m:Ep w' w.heap.size vm ms
 c:Rf w' w.heap.size vc ks
 c3:cs[3]? =some vm
 c4:cs[4]? =some vc
 rest:∀j,5≤j→cs[j]? =cs0[j]?
 mods:ay (fun k=>k=bh) w w'
 prog:aV 3 (lU (cellS t5 w')) (.slice (some ⟨gl,0,none⟩) p.length (p.length+1)) p

theorem zM.fin (h:zM w wr bh cs0 p vp gl p.length vt vi vf vm ts is fs ms cs cl nb)(hpl:p.length≤1048576) :
  ∃ca aF w6,(Builtin.append_ #[49,49] 49 #[.slice none 0 0,.slice (some ⟨wr.heap.size,0,none⟩) 1 1]).run Tryz.prog
    ((Bf wr gl (p.length*3) (.int .i64 (-77000000)) (.slice none 0 0) (.slice none 0 0)).alloc (.cells #[.slice (some ⟨gl,0,none⟩) (p.length+1) (p.length+1)] 22))= .ok (.slice ca 1 aF) w6∧
   ak w6 bh 53 cs∧ak w6 (w.heap.size+1) 24 [.slice none 0 0]∧wr.heap.size≤w6.heap.size∧
   (∀w7,ay (fun i=>i=w.heap.size+1) (w6.setCell ⟨bh,4,none⟩ (.slice ca 1 aF)) w7→Xn w w7 bh cs0 p gl vt vi vf vm (.slice ca 1 aF) ts is fs ms [(gl,p.length+1)] (cs.set 4 (.slice ca 1 aF))):=by
 obtain⟨iC,hC,hC0,Aj,hC2⟩:=info_parts aaM;have hlt:=h.hs.lt;have hle:=h.hs.le;have hlen:=h.ll;have hnl:=h.xU;have hsz:=h.mods.size;have ou:=DZ wr gl (p.length*3) (.int .i64 (-77000000)) (.slice none 0 0) (.slice none 0 0);have hbX:=DY (k:=p.length*3) h.lb (.int .i64 (-77000000)) (.slice none 0 0) (.slice none 0 0);have Fv:=ajM wr gl (p.length*3) (.int .i64 (-77000000)) (.slice none 0 0) (.slice none 0 0);generalize Bf wr gl (p.length*3) (.int .i64 (-77000000)) (.slice none 0 0) (.slice none 0 0)=X at ou hbX Fv ⊢;have hne:∀ {i t c},ak wr i t c→t≠66→¬(i=gl):=fun hb' ht e=>by subst e;exact ht (hb'.uniq h.lb)
 have kY:HS X w.heap.size bh cs vt vi vf ts is fs:=h.hs.stay ou (fun i t c hb' hi ht=>by
  refine hne hb' ?_ hi
  rcases ht with rfl | rfl | rfl | rfl | rfl | rfl | rfl <;> decide)
 obtain⟨vc6,w6,happ,hown6,nM,H9⟩:=qN (P:=Tryz.prog) (W:=X) 49 49 22 iC (.slice none 0 0) 1 24 Tryz.underlying49 hC hC0 Aj hC2 rfl (by decide) w.heap.size (.slice none 0 0) 0 [] (World.ownsRow_nil _ _ _ _) #[.slice (some ⟨gl,0,none⟩) (p.length+1) (p.length+1)] rfl (by simp [Value.oneCell']) wr.heap.size Fv (by unfold maxLen;omega) (by omega) (by omega);have TQ:ay (fun _=>False) X w6:=nM.mono (fun i _ e=>by cases e);obtain⟨ca,aF,rfl⟩:=cZ hown6;have mY:ak w6 bh 53 cs:=kY.hands.1.mods TQ (fun f=>f);have hs6:=nM.size;have hb16:ak w6 (w.heap.size+1) 24 [.slice none 0 0]:=(h.b1.mods ou (hne h.b1 (by decide))).mods TQ (fun f=>f)
 refine⟨ca,aF,w6,happ,mY,hb16,by omega,fun w7 Dw=>?_⟩;have iy:ay (fun i=>i=bh) X (w6.setCell ⟨bh,4,none⟩ (.slice ca 1 aF)):=(TQ.mono (T:=fun i=>i=bh) (fun _ _ f=>f.elim)).setCell (p:=⟨bh,4,none⟩) (fun _=>rfl) _;have KN:=mY.setCell 4 (.slice ca 1 aF);have Ic:=eP (S:=fun i=>i=bh) hown6 ((ay.refl (fun i=>i=bh) w6).setCell (p:=⟨bh,4,none⟩) (fun _=>rfl) (.slice ca 1 aF)) (fun g e=>by have:=hown6.lt g e;omega);have ZT:=hb16.iq (p:=⟨bh,4,none⟩) (by show w.heap.size+1≠bh;omega) (.slice ca 1 aF);generalize w6.setCell ⟨bh,4,none⟩ (.slice ca 1 aF)=Y at iy KN Ic ZT Dw
 have hS:∀ {i t c},ak X i t c→t≠53→¬(i=bh):=fun hb' h1 hk=>by subst hk;exact h1 (hb'.uniq kY.hands.1)
 have hS7:∀ {i t c},ak Y i t c→t≠24→¬(i=w.heap.size+1):=fun hb' h1 hk=>by subst hk;exact h1 (hb'.uniq ZT)
 have hc19:=h.hs.hands.2;have xK:∀ {i t c},ak wr i t c→t≠66→t≠53→t≠24→ak w7 i t c:=fun hb' h0 h1 h2=>((hb'.mods ou (hne hb' h0)).mods iy (hS (hb'.mods ou (hne hb' h0)) h1)).mods Dw (hS7 ((hb'.mods ou (hne hb' h0)).mods iy (hS (hb'.mods ou (hne hb' h0)) h1)) h2);have ZX:=hbX.mods iy (hS hbX (by decide));have hb7:=ZX.mods Dw (hS7 ZX (by decide))
 have hge:dM (cellS t4 wr) (cellS t5 w7):=(nI ou (fun i t c hb' ht=>hne hb' (fun e=>by subst e;exact absurd ht (by decide)))).trans ((nI iy (fun i t c hb' ht=>hS hb' (fun e=>by subst e;exact absurd ht (by decide)))).trans ((nI Dw (fun i t c hb' ht=>hS7 hb' (fun e=>by subst e;exact absurd ht (by decide)))).trans (NG (fun t ht=>Vu ht) w7)))
 have hY:HS Y w.heap.size bh (cs.set 4 (.slice ca 1 aF)) vt vi vf ts is fs:=⟨⟨KN,by rw [List.length_set];exact hc19⟩,by rw [List.getElem?_set_ne (by omega)];exact h.hs.c0,by rw [List.getElem?_set_ne (by omega)];exact h.hs.c1,by rw [List.getElem?_set_ne (by omega)];exact h.hs.c2,kY.t.mods iy (fun i c hb'=>hS hb' (by decide)) (fun i c hb'=>hS hb' (by decide)),kY.i.mods iy (fun i c hb'=>hS hb' (by decide)) (fun i c hb'=>hS hb' (by decide)),kY.f.mods iy (fun i c hb'=>hS hb' (by decide)) (fun i c hb'=>hS hb' (by decide)),hlt,Nat.le_trans kY.le iy.size⟩
 refine⟨hY.stay Dw (fun i t c hb' hi ht=>?_),((h.m.mods ou (fun i c hb'=>hne hb' (by decide)) (fun i c hb'=>hne hb' (by decide))).mods iy (fun i c hb'=>hS hb' (by decide)) (fun i c hb'=>hS hb' (by decide))).mods Dw (fun i c hb'=>hS7 hb' (by decide)) (fun i c hb'=>hS7 hb' (by decide)),?_,by rw [List.getElem?_set_ne (by omega)];exact h.c3,by rw [List.getElem?_set_self (by omega)],fun j hj=>by rw [List.getElem?_set_ne (by omega)];exact h.rest j hj,((h.mods.trans ou (fun i hi e=>by omega)).trans iy (fun i hi e=>e)).trans Dw (fun i hi e=>by omega),?_⟩
 ·refine hS7 hb' ?_ hi
  rcases ht with rfl | rfl | rfl | rfl | rfl | rfl | rfl <;> decide
 ·refine⟨eP Ic Dw (fun g e=>?_),fun e he=>?_,by simp⟩
  ·obtain⟨c',hb'⟩:=lD Ic e;exact hS7 hb' (by decide)
  ·rw [List.mem_singleton] at he;subst he;refine⟨by show w.heap.size≤gl;omega,by show 1≤p.length+1;omega,by show p.length+1≤1048577;omega,_,hb7,by rw [uU];exact hlen,?_⟩;rw [show p.length+1-1=p.length by omega];exact Sv (by rw [uU];omega) (IQ (by omega)) (IW (by omega)) (IX (by omega))
 ·refine⟨_,gl,0,_,rfl,by omega,⟨fun _=>rfl,.inr (.inl rfl)⟩,fun j y hj=>?_⟩;obtain⟨hj1,rfl⟩:=List.getElem?_eq_some_iff.1 hj;obtain⟨kL,vm0,f0,f1,f2,f3,f4⟩:=h.done j hj1 hj1;have hcell:∀r,r<3→cellS t5 w7 ⟨gl,0+j*3+r,none⟩=cl[j*3+r]? :=fun r hr=>by rw [EM hb7 (by simp),Nat.zero_add,FP (by omega)]
  exact⟨kL,vm0,(hcell 0 (by omega)).trans f0,(hcell 1 (by omega)).trans f1,(hcell 2 (by omega)).trans f2,dA hge f3,sW hge f4⟩
end
end Go.Proofs.YtiiokkllmchohaaGreat
namespace Go.Proofs.YtiiokkllmchohaaGreat
open Go.RowKit
attribute [local go_sem ↓] Go.wp_at_zero Go.wp_at_succ
theorem X9 {b n:Nat}{w w1 w2:World}{S T:Nat→Prop}(m1:ay S w w1)(m2:ay T w w2)(hn:n≤w.heap.size)(h:∀k,k≠b∧k<n→¬(S k∨T k)):dM (jV b n w1) (jV b n w2):=fun p v e=>by
 have hp:=JZ e;unfold jV at e ⊢;rw [if_pos hp] at e ⊢;have h1:=m1.block p.block (by omega) (fun s=>h _ hp (.inl s));have h2:=m2.block p.block (by omega) (fun s=>h _ hp (.inr s));rw [World.cell?_of_block (w:=w1) (h2.trans h1.symm)];exact e
theorem acE {α :Type}(f: α→Nat){l:List α}{k:Nat}(hk:k<l.length):((l.take (k+1)).map f).sum=((l.take k).map f).sum+f l[k]:=by
 rw [List.take_add_one,List.getElem?_eq_getElem hk,List.map_append,List.sum_append];simp

theorem abk (p:List aj)(vp:Value)(w:World)(bh:Nat)(cs0:List Value)(hp:aV 3 (lU (jV bh w.heap.size w)) vp p)(hh:ug w bh cs0)(Dp:bh<w.heap.size)(n0:cs0[0]? =some (.slice none 0 0))(n1:cs0[1]? =some (.slice none 0 0))(n2:cs0[2]? =some (.slice none 0 0))(n3:cs0[3]? =some (.slice none 0 0))(n4:cs0[4]? =some (.slice none 0 0))
  (hz:bn p≤1048576) :
  Calls Tryz.prog 42 #[.pointer (some ⟨bh,0,none⟩),.agg #[vp]] w fun e w'=>∃gl,e= .returned (.agg #[.slice (some ⟨gl,0,none⟩) p.length (p.length+1)])∧
   ∃vt vi vf vm vc ts is fs ms ks cs,Xn w w' bh cs0 p gl vt vi vf vm vc ts is fs ms ks cs∧(ts.length≤1048576∧is.length≤1048576∧fs.length≤1048576∧ms.length≤1048576∧ks.length≤1048576):=by
 obtain⟨iM,hM,hM0,hM1,hM2⟩:=info_parts aaO;obtain⟨iC,hC,hC0,Aj,hC2⟩:=info_parts aaL;have hpl:p.length≤1048576:=Nat.le_trans (eG p) hz;obtain⟨pa,pb,dB,aA,rfl,Dy,hpa,hpr⟩:=aZ hp;have kP:=hide hpr;have HH:=hide hh;clear hp hpr;go_enter Tryz.func42,Tryz.ntmps42
 go_wp2_with (first
  | (at_make; refine Jg rfl (.tmp 15) (.tmp 15) 22 rfl 66 iC (.agg #[.int .i64 0, .slice none 0 0, .slice none 0 0]) 3 56 Tryz.underlying22 hC hC0 Aj hC2 _ _ _ (p.length + 1) rfl rfl (by omega) (by omega) (by omega) ?_; intro w2 hb2 hm2 hs2
     have hb2':ak w2 (w.heap.size+2) 66 (madeCells (Value.agg #[.int .i64 0,.slice none 0 0,.slice none 0 0]).cells ((p.length+1)*3)).toList:=by simpa using hb2
     have HB2:=hide hb2';have lW:=hide hm2
     clear hb2 hm2 hs2 hb2'))
 have yB:Hid (zM w w2 bh cs0 p (.slice pa p.length aA) (w.heap.size+2) 0 (.slice none 0 0) (.slice none 0 0) (.slice none 0 0) (.slice none 0 0) [] [] [] [] cs0 (madeCells (Value.agg #[.int .i64 0,.slice none 0 0,.slice none 0 0]).cells ((p.length+1)*3)).toList 0):=by
  have hm2:=ah lW;have hmw:ay (fun _=>False) w w2:=(((ay.refl _ w).alloc _).alloc _).trans hm2 (fun _ _ f=>f);have b0:ak ((w.alloc (.cells #[.slice pa p.length aA] 24)).alloc (.cells #[.slice none 0 0] 24)) w.heap.size 24 [.slice pa p.length aA]:=(ak.new _ _ _).alloc _;have b1:ak ((w.alloc (.cells #[.slice pa p.length aA] 24)).alloc (.cells #[.slice none 0 0] 24)) (w.heap.size+1) 24 [.slice none 0 0]:=by simpa using ak.new (w.alloc (.cells #[.slice pa p.length aA] 24)) #[.slice none 0 0] 24
  refine⟨⟨⟨(ah HH).1.mods hmw (fun f=>f),(ah HH).2⟩,n0,n1,n2,jS.nil _ _ _ _ _ _,jS.nil _ _ _ _ _ _,jS.nil _ _ _ _ _ _,Dp,hmw.size⟩,jS.nil _ _ _ _ _ _,n3,n4,fun _ _=>rfl,hmw.mono (fun _ _ f=>f.elim),b0.mods hm2 (fun f=>f),b1.mods hm2 (fun f=>f),ah HB2,by rw [Io],fun j _ hj=>absurd hj (Nat.not_lt_zero j),Nat.le_refl _,Nat.le_refl _,Nat.le_refl _,rfl,Nat.le_refl _⟩
 go_loopw [7] (fun s wr=>∃c:Nat,c≤p.length∧s= .int .i64 c∧∃vt vi vf vm ts is fs ms cs cl nb,zM w wr bh cs0 p (.slice pa p.length aA) (w.heap.size+2) c vt vi vf vm ts is fs ms cs cl nb∧nb≤((p.take c).map gJ).sum) (fun s _=>p.length-(intOf s).toNat)
 case atStart=>exact ⟨0,Nat.zero_le _,rfl,_,_,_,_,_,_,_,_,_,_,_,ah yB,Nat.zero_le _⟩
 case round=>
  obtain⟨c,hc,rfl,vt,vi,vf,vm,ts,is,fs,ms,cs,cl,nb,hst,hnb⟩:=hrel;have q0:wr.cell? ⟨w.heap.size,0,none⟩=some (.slice pa p.length aA):=hst.b0.cell 0;have ST:=hide hst;clear hst
  by_cases hlt:c<p.length
  ·obtain rfl:=hpa (bJ hlt);have hkl:=uz (b:=bh) (n:=w.heap.size) (ah ST).mods (fun k hk e=>by omega);obtain⟨lG,lH,d0,d1,d2,hf,hm⟩:=(ah kP c hlt).keep hkl;have hpb:pb≠bh∧pb<w.heap.size:=JZ d0;have c0:=mQ bh w.heap.size wr _ _ d0;have c1:=mQ bh w.heap.size wr _ _ d1;have c2:=mQ bh w.heap.size wr _ _ d2;have hxl:gJ p[c]≤1048576:=Nat.le_trans (nR (List.getElem_mem hlt)) hz;have hsum:=acE gJ hlt;have alj:=Ja gJ (c+1) p;have alk:((p.map gJ).sum)≤1048576:=hz;generalize hxe:p[c]=x at *;have Q7:=hide hxe;clear hxe;have hms:x.aB.length≤1048576:=Nat.le_trans (tC x) hxl
   have hfl:x.fields.length≤1048576:=Nat.le_trans (Bh x) hxl;have HF:=hide hf;have Gs:=hide hm;obtain⟨fa,fb,kU,aG,rfl,_⟩:=aZ hf;obtain⟨ma,mb,fH,dW,rfl,_,hma,hmr⟩:=aZ hm;have pY:=hide hmr;have hwr:=(ah ST).mods.size;have hcl:=cell_lt c0;clear hf hm hmr d0 d1 d2 hkl;obtain⟨wo,rfl⟩:∃wo:World,wo=wr:=⟨_,rfl⟩
   go_wp2_with (first
    | (at_make; refine Jg rfl (.tmp 30) (.tmp 30) 64 rfl 63 iM (.agg #[.int .i64 0, .slice none 0 0, .int .i64 0, .int .i64 0, .int .i64 0, .slice none 0 0, .slice none 0 0]) 7 104 Tryz.underlying64 hM hM0 hM1 hM2 _ _ _ (x.aB.length + 1) rfl rfl (by omega) (by omega) (by omega) ?_; intro w3 hb3 oO hs3
       have dY:ak w3 (wo.heap.size+1) 63 (madeCells (Value.agg #[.int .i64 0,.slice none 0 0,.int .i64 0,.int .i64 0,.int .i64 0,.slice none 0 0,.slice none 0 0]).cells ((x.aB.length+1)*7)).toList:=by simpa using hb3
       have HB3:=hide dY;have BN:=hide oO
       clear hb3 oO hs3 dY))
   have Jq:Hid (qI w w3 bh cs0 p (.slice (some ⟨pb,dB,none⟩) p.length aA) (w.heap.size+2) c x (.slice fa x.fields.length aG) (.slice ma x.aB.length dW) wo.heap.size (wo.heap.size+1) 0 vt vi vf vm ts is fs ms cs cl (madeCells (Value.agg #[.int .i64 0,.slice none 0 0,.int .i64 0,.int .i64 0,.int .i64 0,.slice none 0 0,.slice none 0 0]).cells ((x.aB.length+1)*7)).toList nb):=
    (ah ST).begin ((ak.new _ _ _).mods (ah BN) (fun f=>f)) (Nat.le_refl _) (ah HB3) (by omega) (by rw [Io]) (((ay.refl (fun _=>False) wo).alloc _).trans (ah BN) (fun _ _ f=>f))
   clear q0 c0 c1 c2
   go_loopw [10] (fun s wi=>∃k:Nat,k≤x.aB.length∧s= .int .i64 k∧∃vt vi vf ts is fs cs cm nb,qI w wi bh cs0 p (.slice (some ⟨pb,dB,none⟩) p.length aA) (w.heap.size+2) c x (.slice fa x.fields.length aG) (.slice ma x.aB.length dW) wo.heap.size (wo.heap.size+1) k vt vi vf vm ts is fs ms cs cl cm nb∧nb≤((p.take c).map gJ).sum+((x.aB.take k).map dN).sum) (fun s _=>x.aB.length-(intOf s).toNat)
   case atStart=>exact ⟨0,Nat.zero_le _,rfl,_,_,_,_,_,_,_,_,_,ah Jq,by omega⟩
   case round=>
    clear Jq HB3 BN;obtain⟨k,hk,rfl,vt,vi,vf,ts,is,fs,cs,cm,nb2,hst2,ak4⟩:=hrel;have x2:wr.cell? ⟨wo.heap.size,2,none⟩=some (.slice ma x.aB.length dW):=hst2.bx.cell 2;have alp:((x.aB.map dN).sum)+4≤gJ x:=by unfold gJ;omega
    have MT:=hide hst2;clear hst2
    by_cases hk2:k<x.aB.length
    ·obtain rfl:=hma (bJ hk2);have hkl:=(uz (b:=bh) (n:=w.heap.size) (ah ST).mods (fun k hk e=>by omega));have hkl2:dM (jV bh w.heap.size wo) (jV bh w.heap.size wr):=X9 (ah ST).mods (ah MT).mods (Nat.le_refl _) (fun k hk e=>by omega);obtain⟨va,eU,dH,hmv,m0,m1,m2,m3,m4,m5,m6⟩:=(ah pY k hk2).keep hkl2
     have hml:dN x.aB[k]≤1048576:=by
      have:=Bj (List.getElem_mem hk2);omega
     have hsm:=acE dN hk2;have alh:=Ja dN (k+1) x.aB;have r0:=mQ bh w.heap.size wr _ _ m0;have r1:=mQ bh w.heap.size wr _ _ m1;have r2:=mQ bh w.heap.size wr _ _ m2;have r3:=mQ bh w.heap.size wr _ _ m3;have r4:=mQ bh w.heap.size wr _ _ m4;have r5:=mQ bh w.heap.size wr _ _ m5;have r6:=mQ bh w.heap.size wr _ _ m6;generalize hme:x.aB[k]=m at *;have zJ:=hide hme;have um:=hide hmv;obtain⟨ha1,hc1,hf1⟩:=hmv;obtain⟨aa,_,_,aI,rfl,_⟩:=aZ ha1;obtain⟨ca,_,_,aF,rfl,_⟩:=aZ hc1;obtain⟨vV,_,_,Zc,rfl,_⟩:=aZ hf1;have aki:=(ah MT).tl;have ilen:=(ah MT).il;have akH:=(ah MT).fl
     clear ha1 hc1 hf1 hme m0 m1 m2 m3 m4 m5 m6 hkl hkl2;go_wp2_with fail
     refine (ahR m _ _ _ wr w.heap.size bh cs vt vi vf ts is fs (ah um) (ah MT).hs hml (by omega) (by omega) (by omega)).mono ?_;rintro e w5 ⟨g1,gc,gf,rfl,vt5,vi5,vf5,ts5,is5,fs5,Sj,L5⟩;have zN:=hide ((ah MT).call L5);have V5:=hide L5.vals;obtain⟨u0,y0⟩:=(ah zN).sK (k*7) (by omega);obtain⟨u1,y1⟩:=(ah zN).sK (k*7+1) (by omega);obtain⟨u2,y2⟩:=(ah zN).sK (k*7+2) (by omega);obtain⟨u3,y3⟩:=(ah zN).sK (k*7+3) (by omega);obtain⟨u4,y4⟩:=(ah zN).sK (k*7+4) (by omega);obtain⟨u5,y5⟩:=(ah zN).sK (k*7+5) (by omega);obtain⟨u6,y6⟩:=(ah zN).sK (k*7+6) (by omega);have yf:=(ah zN).mb.frozen;clear L5 r0 r1 r2 r3 r4 r5 r6 x2
     go_wp2
     have hme:=ah zJ;have hput:=(ah zN).put hk2 (va:=.slice (some ⟨g1,0,none⟩) m.args.length (m.args.length+1)) (vc:=.slice (some ⟨gc,0,none⟩) m.code.length (m.code.length+1)) (kL:=.slice (some ⟨gf,0,none⟩) m.frames.length (m.frames.length+1)) (by rw [hme];exact ah V5);rw [hme] at hput;exact⟨⟨k+1,by omega,by go_num,_,_,_,_,_,_,_,_,_,hput,by omega⟩,by simp [intOf];omega⟩
    ·obtain rfl:k=x.aB.length:=by omega
     obtain⟨Uz,UE,hvm⟩:=cZ (ah MT).m.row;subst hvm;obtain⟨ma3,ahY,w6,happ,mY,Ig,hX⟩:=(ah MT).fin (by have:=(ah MT).ml;omega) hms;unfold Bg at happ;obtain⟨u0,y0⟩:=(ah MT).sK (x.aB.length*7) (by omega);obtain⟨u1,y1⟩:=(ah MT).sK (x.aB.length*7+1) (by omega);obtain⟨u2,y2⟩:=(ah MT).sK (x.aB.length*7+2) (by omega);obtain⟨u3,y3⟩:=(ah MT).sK (x.aB.length*7+3) (by omega);obtain⟨u4,y4⟩:=(ah MT).sK (x.aB.length*7+4) (by omega);obtain⟨u5,y5⟩:=(ah MT).sK (x.aB.length*7+5) (by omega);obtain⟨u6,y6⟩:=(ah MT).sK (x.aB.length*7+6) (by omega);have yf:=(ah MT).mb.frozen;have hwo:=(ah ST).mods.size
     have hg2:bh≠wo.heap.size+1:=by omega
     have k3:wr.cell? ⟨bh,3,none⟩=some (.slice Uz ms.length UE):=by rw [(ah MT).hs.hands.1.cell];exact (ah MT).c3
     have v3:w6.cell? ⟨bh,3,none⟩=some (.slice Uz ms.length UE):=by rw [mY.cell];exact (ah MT).c3
     have v3f:=mY.frozen 3;have XT:=hide hX;clear hX mY;go_wp2_with (at_builtin;refine wpList_append_run rfl (.tmp 59) (.tmp 61) 48 rfl _ _ rfl rfl happ ?_)
     generalize w6.setCell ⟨bh,3,none⟩ (.slice ma3 (ms.length+1) ahY)=Y at XT ⊢;have c0:Y.cell? ⟨wo.heap.size,0,none⟩=some (.int .i64 x.sup):=(ah XT).bx.cell 0;have c1:Y.cell? ⟨wo.heap.size,1,none⟩=some (.slice fa x.fields.length aG):=(ah XT).bx.cell 1;have c2:Y.cell? ⟨wo.heap.size,2,none⟩=some (.slice ma x.aB.length dW):=(ah XT).bx.cell 2;have XD:=hide (ah XT).drew;have HFY:=hide (dA ((X9 (ah ST).mods (ah XT).mods (Nat.le_refl _) (fun k hk e=>by omega)).trans (mQ bh w.heap.size Y)) (ah HF));have aki:=(ah XT).tl;have ali:=Ja dN x.aB.length x.aB
     have hgl:wo.heap.size≠w.heap.size+2:=fun e=>(ah MT).lx e.symm;have hci:(c:Int)<(p.length:Int)+1:=by omega
     have hcz:(0:Int)≤(c:Int):=by omega
     have rD:(x.aB.length:Int)≤(x.aB.length:Int)+1:=by omega
     have hmz:(0:Int)≤(x.aB.length:Int):=by omega
     clear y0 y1 y2 y3 y4 y5 y6 yf k3 v3 v3f x2
     go_region_held3 (fun w'=>w'.cell? ⟨wo.heap.size,0,none⟩=some (.int .i64 x.sup)∧w'.cell? ⟨wo.heap.size,1,none⟩=some (.slice fa x.fields.length aG)∧w'.cell? ⟨wo.heap.size,2,none⟩=some (.slice ma x.aB.length dW))
      (first | go_keep | (exact⟨a0,a1,a2⟩) | (exact⟨(EO hgl _ _ _ _ _ _ _ _).trans a0,(EO hgl _ _ _ _ _ _ _ _).trans a1,(EO hgl _ _ _ _ _ _ _ _).trans a2⟩))
      (first
        | ((go_at_call 83; refine (OL x.fields _ Y.drew bh _ _ w.heap.size _ (ah HFY) (ah XD).hs.hands (ah XD).hs.c0 (ah XD).hs.t.row (ah XD).hs.le Dp hfl (by omega)).mono ?_); rintro e w7 ⟨g7, rfl, vt7, L7⟩
           have Cc:=hide ((ah XD).DI hfl L7);have a0:w7.cell? ⟨wo.heap.size,0,none⟩=some (.int .i64 x.sup):=(ah Cc).bx.cell 0;have a1:w7.cell? ⟨wo.heap.size,1,none⟩=some (.slice fa x.fields.length aG):=(ah Cc).bx.cell 1;have a2:w7.cell? ⟨wo.heap.size,2,none⟩=some (.slice ma x.aB.length dW):=(ah Cc).bx.cell 2;have V7:=hide (Ij (T:=tT) (cap:=x.fields.length+1) L7.blk (by simp) (by omega));obtain⟨u0,z0⟩:=(ah Cc).cellL (c*3) (by omega);obtain⟨u1,z1⟩:=(ah Cc).cellL (c*3+1) (by omega);obtain⟨u2,z2⟩:=(ah Cc).cellL (c*3+2) (by omega);have zf:=(ah Cc).lb.frozen
           clear L7))
     have QS:=hide ((ah Cc).put hlt (ah Q7) (ah V7))
     go_wp2
     exact⟨⟨c+1,by omega,by go_num,_,_,_,_,_,_,_,_,_,_,_,ah QS,by omega⟩,by simp [intOf];omega⟩
  ·obtain rfl:c=p.length:=by omega
   have HBD:Hid (ts.length≤1048576∧is.length≤1048576∧fs.length≤1048576∧ms.length≤1048576∧[(w.heap.size+2,p.length+1)].length≤1048576):=by
    have h1:=Ja gJ p.length p;have h2:(p.map gJ).sum=bn p:=rfl;have:=(ah ST).tl;have:=(ah ST).il;have:=(ah ST).fl;have:=(ah ST).ml;exact⟨by omega,by omega,by omega,by omega,by simp⟩
   obtain⟨ca,aF,w6,happ,mY,hb16,Ig,hP⟩:=(ah ST).fin hpl;unfold Bf at happ;obtain⟨u0,y0⟩:=(ah ST).cellL (p.length*3) (by omega);obtain⟨u1,y1⟩:=(ah ST).cellL (p.length*3+1) (by omega);obtain⟨u2,y2⟩:=(ah ST).cellL (p.length*3+2) (by omega);have yf:=(ah ST).lb.frozen;have hwr:=(ah ST).mods.size;have hg2:bh≠w.heap.size+2:=by omega
   have hg3:bh≠w.heap.size+1:=by omega
   have k4:wr.cell? ⟨bh,4,none⟩=some (.slice none 0 0):=by rw [(ah ST).hs.hands.1.cell];exact (ah ST).c4
   have v4:w6.cell? ⟨bh,4,none⟩=some (.slice none 0 0):=by rw [mY.cell];exact (ah ST).c4
   have v4f:=mY.frozen 4;have o0:w6.cell? ⟨w.heap.size+1,0,none⟩=some (.slice none 0 0):=hb16.cell 0;have o0f:=hb16.frozen 0;have HPP:=hide hP;have ac4:=hide hb16;clear hP mY hb16;go_wp2_with (at_builtin;refine wpList_append_run rfl (.tmp 88) (.tmp 90) 49 rfl _ _ rfl rfl happ ?_)
   generalize hZ:(w6.setCell ⟨bh,4,none⟩ (.slice ca 1 aF)).setCell ⟨w.heap.size+1,0,none⟩ (.slice (some ⟨w.heap.size+1+1,0,none⟩) p.length (p.length+1))=Z;have Ia:ay (fun i=>i=w.heap.size+1) (w6.setCell ⟨bh,4,none⟩ (.slice ca 1 aF)) Z:=by rw [←hZ];exact (ay.refl (fun i=>i=w.heap.size+1) _).setCell (p:=⟨w.heap.size+1,0,none⟩) (fun _=>rfl) _
   have s0:Z.cell? ⟨w.heap.size+1,0,none⟩=some (.slice (some ⟨w.heap.size+2,0,none⟩) p.length (p.length+1)):=by rw [←hZ];exact (((ah ac4).iq (p:=⟨bh,4,none⟩) (fun e=>hg3 e.symm) (.slice ca 1 aF)).setCell 0 (.slice (some ⟨w.heap.size+2,0,none⟩) p.length (p.length+1))).cell 0
   exact bodyPost_ret (v:=.agg #[.slice (some ⟨w.heap.size+2,0,none⟩) p.length (p.length+1)]) (by simp [results,Tryz.results42,go_sem,s0]) rfl ⟨w.heap.size+2,rfl,_,_,_,_,_,_,_,_,_,_,_,ah HPP Z Ia,ah HBD⟩
end Go.Proofs.YtiiokkllmchohaaGreat
namespace Go.Proofs.YtiiokkllmchohaaGreat
open Go.RowKit
def fV (es:List (Nat×Nat))(i:Nat)(k:Nat):Prop:=∃e∈es.take i,e.1=k
theorem fV.mem {es:List (Nat×Nat)}{i k:Nat}(h:fV es i k):∃e∈es,e.1=k:=by
 obtain⟨e,he,hk⟩:=h;exact⟨e,List.mem_of_mem_take he,hk⟩
theorem fV.succ {es:List (Nat×Nat)}{i k:Nat}(h:fV es i k):fV es (i+1) k:=by
 obtain⟨e,he,hk⟩:=h;exact⟨e,by rw [List.take_add_one];exact List.mem_append_left _ he,hk⟩
theorem fV.last {es:List (Nat×Nat)}{i:Nat}(hi:i<es.length):fV es (i+1) es[i].1:=
 ⟨es[i],by rw [List.mem_iff_getElem];exact⟨i,by rw [List.length_take];omega,by rw [List.getElem_take]⟩,rfl⟩
theorem fV.LH {es:List (Nat×Nat)}{i:Nat}(hn:(es.map Prod.fst).Nodup)(hi:i<es.length):¬fV es i es[i].1:=by
 rintro ⟨e,he,hk⟩;obtain⟨j,hj,rfl⟩:=List.getElem_of_mem he;rw [List.length_take] at hj;rw [List.getElem_take] at hk;have:=List.getElem_inj (h₀ :=by simp;omega) (h₁ :=by simpa using hi) hn (i:=j) (j:=i);have h2:(es.map Prod.fst)[j]'(by simp;omega)=(es.map Prod.fst)[i]'(by simpa using hi):=by simpa using hk
 have h3:=this.1 h2;omega

theorem jS.at {w:World}{B:Nat}{eo ei:TypeId}{sz:Nat}{nN:List Value}{v:Value}{es:List (Nat×Nat)}(h:jS w B eo ei sz nN v es){i:Nat}(hi:i<es.length) :
  ∃g cap,v= .slice (some ⟨g,0,none⟩) es.length cap∧B≤g∧(∃c,ak w g eo c)∧w.cell? ⟨g,i,none⟩=some (rW es[i]):=by
 rcases h.row.2 with ⟨_,h0⟩ | ⟨g,cap,cur,hv,hb,hg,hnc,_,hcs,htk⟩
 ·omega
 ·subst hv;refine⟨g,cap,rfl,hb,lD h.row rfl,?_⟩;have h1:(es.map rW)[i]? =some (rW es[i]):=by rw [List.getElem?_map,List.getElem?_eq_getElem hi];rfl
  rw [←htk,List.getElem?_take] at h1;unfold World.cell?;simp only [hg]
  split at h1
  ·simpa using h1
  ·cases h1
theorem jS.Kr {w:World}{B:Nat}{eo ei:TypeId}{sz:Nat}{nN:List Value}{v:Value}{es:List (Nat×Nat)}(h:jS w B eo ei sz nN v es){i:Nat}(hi:i<es.length) :
  ∃b m cs,es[i]=(b,m+1)∧B≤b∧m≤1048576∧ak w b ei cs∧cs.length=(m+1)*sz∧cs.drop (m*sz)=nN:=by
 obtain⟨h1,h2,h3,cs,h4,h5,h6⟩:=h.ent _ (List.getElem_mem hi);generalize es[i]=e at *;obtain⟨b,n⟩:=e;simp only at h1 h2 h3 h4 h5 h6;obtain⟨m,rfl⟩:∃m,n=m+1:=⟨n-1,by omega⟩;exact⟨b,m,cs,rfl,h1,by omega,h4,h5,by simpa using h6⟩
theorem lK {w:World}{b:Nat}{t:TypeId}{cs:List Value}(h:ak w b t cs){i:Nat}(hi:i<cs.length):∃u,w.cell? ⟨b,i,none⟩=some u:=⟨cs[i],by rw [h.cell];exact List.getElem?_eq_getElem hi⟩
theorem pI {α :Type}{l r:List α}{k j:Nat}(h:l.drop k=r):l[k+j]? =r[j]? :=by rw [←h,List.getElem?_drop]

theorem ahM (w:World)(B E bh:Nat)(cs:List Value)(vf vm vc:Value)(fs ms ks:List (Nat×Nat))(hh:ug w bh cs)(hbB:bh<B)(c2:cs[2]? =some vf)(c3:cs[3]? =some vm)(c4:cs[4]? =some vc)(hF:Xj w B vf fs)(hM:Ep w B vm ms)(hC:Rf w B vc ks)
  (hfs:fs.length≤16777216) (hms:ms.length≤16777216) (hks:ks.length≤16777216) (NM:∀e∈fs,e.1<E) (NQ:∀e∈ms,e.1<E) (NP:∀e∈ks,e.1<E) :
  Calls Tryz.prog 84 #[.pointer (some ⟨bh,0,none⟩)] w fun e w'=>e= .returned (.bool true)∧ay (fun k=>B≤k∧k<E) w w':=by
 obtain⟨Hr,Ht,hvf⟩:=cZ hF.row;obtain⟨mma,ah1,hvm⟩:=cZ hM.row;obtain⟨cca,ad9,kG⟩:=cZ hC.row;subst hvf hvm kG;have HB:=hide hh.1;have HF:=hide hF;have HM:=hide hM;have HC:=hide hC;have k2:w.cell? ⟨bh,2,none⟩=some (.slice Hr fs.length Ht):=by rw [hh.1.cell];exact c2
 have k3:w.cell? ⟨bh,3,none⟩=some (.slice mma ms.length ah1):=by rw [hh.1.cell];exact c3
 have k4:w.cell? ⟨bh,4,none⟩=some (.slice cca ks.length ad9):=by rw [hh.1.cell];exact c4
 clear hh hF hM hC c2 c3 c4;go_enter Tryz.func84,Tryz.ntmps84
 go_wp2_with fail
 go_loopw [3,4] (fun s3 s4 wr=>∃i:Nat,i≤fs.length∧s4= .int .i64 i∧s3= .bool true∧ay (fV fs i) w wr) (fun _ s4 _=>fs.length-(intOf s4).toNat)
 case atStart=>exact ⟨0,Nat.zero_le _,rfl,rfl,ay.refl _ _⟩
 case round=>
  obtain⟨i,hi,rfl,rfl,hmo⟩:=hrel
  have hbne:∀i,¬fV fs i bh:=fun i h=>by
   obtain⟨e,he,hk⟩:=h.mem;have:=((ah HF).ent e he).1;have:=NM e he;omega
  have q2:=hmo.cell k2 (hbne i)
  by_cases hlt:i<fs.length
  ·obtain⟨g,cap,hv,hg,⟨cg,hgb⟩,hrow⟩:=(ah HF).at hlt;obtain⟨b,m,ce,lg,hb,hm,hbe,hce,hdr⟩:=(ah HF).Kr hlt
   injection hv with hv1 _ hv2
   subst hv1 hv2
   have Az:¬fV fs i g:=fun h=>by
    obtain⟨e,he,hk⟩:=h.mem;obtain⟨_,_,_,c,h4,_⟩:=(ah HF).ent e he;rw [hk] at h4;exact absurd (h4.uniq hgb) (by decide)
   have Ar:¬fV fs i b:=by
    have:=fV.LH (ah HF).nodup hlt
    rwa [lg] at this
   have q3:=hmo.cell hrow Az;rw [lg] at q3;unfold rW at q3;simp only at q3;have hbw:=hbe.mods hmo Ar;have l0:wr.cell? ⟨b,m*3,none⟩=some (.int .i64 (-77000000)):=by rw [hbw.cell];exact (pI (j:=0) hdr)
   have l1:wr.cell? ⟨b,m*3+1,none⟩=some (.slice none 0 0):=by rw [hbw.cell];exact (pI (j:=1) hdr)
   have l2:wr.cell? ⟨b,m*3+2,none⟩=some (.slice none 0 0):=by rw [hbw.cell];exact (pI (j:=2) hdr)
   have zD:=hide lg;have zy:=hide hbw;have zA:=hide hce;have lX:=hide hmo;have hbl:=hbw.lt;clear lg hbw hmo hrow hgb hbe hdr hce;obtain⟨wo,rfl⟩:∃wo:World,wo=wr:=⟨_,rfl⟩;go_wp2_with fail
   generalize hY:wo.alloc _=Y;have iy:ay (fun _=>False) wo Y:=by rw [←hY];exact (ay.refl _ _).alloc _
   clear hY
   go_loopw [7] (fun s wi=>∃k:Nat,k≤m+1∧s= .int .i64 k∧(∃c,ak wi b 42 c∧c.length=(m+1)*3)∧ay (fun k=>k=b) Y wi) (fun s _=>m+1-(intOf s).toNat)
   case atStart=>exact ⟨0,Nat.zero_le _,rfl,⟨_,(ah zy).mods iy (fun f=>f),ah zA⟩,ay.refl _ _⟩
   case round=>
    obtain⟨k,hk,rfl,⟨cc,hcc,hcl⟩,rD⟩:=hrel;have rY:=hide hcc;have rZ:=hide rD;have zB:=hide hcl
    by_cases hk2:k<m+1
    ·obtain⟨u0,y0⟩:=lK hcc (i:=k*3) (by omega);obtain⟨u1,y1⟩:=lK hcc (i:=k*3+1) (by omega);obtain⟨u2,y2⟩:=lK hcc (i:=k*3+2) (by omega);have yf:=hcc.frozen;clear hcc rD l0 l1 l2 q2 q3 hcl;go_wp2_with fail
     exact⟨⟨k+1,by omega,by go_num,⟨_,DY (ah rY) _ _ _,by rw [uU];exact ah zB⟩,(ah rZ).trans (DZ _ _ _ _ _ _) (fun _ _ e=>e)⟩,by simp [intOf];omega⟩
    ·go_wp2_with fail
     have hlast:=fV.last hlt;rw [ah zD] at hlast;exact⟨⟨i+1,by omega,by go_num,rfl,(((ah lX).mono (fun _ _ e=>e.succ)).trans iy (fun _ _ f=>f.elim)).trans (ah rZ) (fun _ _ e=>e▸hlast)⟩,by simp [intOf];omega⟩
  ·obtain rfl:i=fs.length:=by omega
   have lX:=hide hmo;go_wp2_with fail
   clear q2
   have hnot:∀ {k t c},ak w k t c→t≠42→¬fV fs fs.length k:=fun hb ht h=>by
    obtain⟨e,he,hk⟩:=h.mem;obtain⟨_,_,_,c,h4,_⟩:=(ah HF).ent e he;rw [hk] at h4;exact ht (hb.uniq h4)
   have lW:=hide ((ah HM).mods hmo (fun k c hb=>hnot hb (by decide)) (fun k c hb=>hnot hb (by decide)));have HC2:=hide ((ah HC).mods hmo (fun k c hb=>hnot hb (by decide)) (fun k c hb=>hnot hb (by decide)));have k3b:=hmo.cell k3 (hbne _);have k4b:=hmo.cell k4 (hbne _)
   have Em:Hid (ay (fun k=>B≤k∧k<E) w wr):=hmo.mono (fun k _ h=>by
    obtain⟨e,he,hk⟩:=h.mem;have:=((ah HF).ent e he).1;have:=NM e he
    omega)
   clear hmo hnot lX hbne k2 k3 k4;obtain⟨W2,rfl⟩:∃W2:World,W2=wr:=⟨_,rfl⟩
   go_loopw [3,8] (fun s3 s4 wr=>∃i:Nat,i≤ms.length∧s4= .int .i64 i∧s3= .bool true∧ay (fV ms i) W2 wr) (fun _ s4 _=>ms.length-(intOf s4).toNat)
   case atStart=>exact ⟨0,Nat.zero_le _,rfl,rfl,ay.refl _ _⟩
   case round=>
    obtain⟨i,hi,rfl,rfl,hmo⟩:=hrel
    have hbne:∀i,¬fV ms i bh:=fun i h=>by
     obtain⟨e,he,hk⟩:=h.mem;have:=((ah lW).ent e he).1;have:=NQ e he;omega
    have q2:=hmo.cell k3b (hbne i)
    by_cases hlt:i<ms.length
    ·obtain⟨g,cap,hv,hg,⟨cg,hgb⟩,hrow⟩:=(ah lW).at hlt;obtain⟨b,m,ce,lg,hb,hm,hbe,hce,hdr⟩:=(ah lW).Kr hlt
     injection hv with hv1 _ hv2
     subst hv1 hv2
     have Az:¬fV ms i g:=fun h=>by
      obtain⟨e,he,hk⟩:=h.mem;obtain⟨_,_,_,c,h4,_⟩:=(ah lW).ent e he;rw [hk] at h4;exact absurd (h4.uniq hgb) (by decide)
     have Ar:¬fV ms i b:=by
      have:=fV.LH (ah lW).nodup hlt
      rwa [lg] at this
     have q3:=hmo.cell hrow Az;rw [lg] at q3;unfold rW at q3;simp only at q3;have hbw:=hbe.mods hmo Ar;have l0:wr.cell? ⟨b,m*7,none⟩=some (.int .i64 (-77000000)):=by rw [hbw.cell];exact (pI (j:=0) hdr)
     have l1:wr.cell? ⟨b,m*7+1,none⟩=some (.slice none 0 0):=by rw [hbw.cell];exact (pI (j:=1) hdr)
     have l2:wr.cell? ⟨b,m*7+2,none⟩=some (.int .i64 0):=by rw [hbw.cell];exact (pI (j:=2) hdr)
     have l3:wr.cell? ⟨b,m*7+3,none⟩=some (.int .i64 0):=by rw [hbw.cell];exact (pI (j:=3) hdr)
     have l4:wr.cell? ⟨b,m*7+4,none⟩=some (.int .i64 0):=by rw [hbw.cell];exact (pI (j:=4) hdr)
     have l5:wr.cell? ⟨b,m*7+5,none⟩=some (.slice none 0 0):=by rw [hbw.cell];exact (pI (j:=5) hdr)
     have l6:wr.cell? ⟨b,m*7+6,none⟩=some (.slice none 0 0):=by rw [hbw.cell];exact (pI (j:=6) hdr)
     have zD:=hide lg;have zy:=hide hbw;have zA:=hide hce;have lX:=hide hmo;have hbl:=hbw.lt;clear lg hbw hmo hrow hgb hbe hdr hce;obtain⟨wo,rfl⟩:∃wo:World,wo=wr:=⟨_,rfl⟩;go_wp2_with fail
     generalize hY:wo.alloc _=Y;have iy:ay (fun _=>False) wo Y:=by rw [←hY];exact (ay.refl _ _).alloc _
     clear hY
     go_loopw [11] (fun s wi=>∃k:Nat,k≤m+1∧s= .int .i64 k∧(∃c,ak wi b 63 c∧c.length=(m+1)*7)∧ay (fun k=>k=b) Y wi) (fun s _=>m+1-(intOf s).toNat)
     case atStart=>exact ⟨0,Nat.zero_le _,rfl,⟨_,(ah zy).mods iy (fun f=>f),ah zA⟩,ay.refl _ _⟩
     case round=>
      obtain⟨k,hk,rfl,⟨cc,hcc,hcl⟩,rD⟩:=hrel;have rY:=hide hcc;have rZ:=hide rD;have zB:=hide hcl
      by_cases hk2:k<m+1
      ·obtain⟨u0,y0⟩:=lK hcc (i:=k*7) (by omega);obtain⟨u1,y1⟩:=lK hcc (i:=k*7+1) (by omega);obtain⟨u2,y2⟩:=lK hcc (i:=k*7+2) (by omega);obtain⟨u3,y3⟩:=lK hcc (i:=k*7+3) (by omega);obtain⟨u4,y4⟩:=lK hcc (i:=k*7+4) (by omega);obtain⟨u5,y5⟩:=lK hcc (i:=k*7+5) (by omega);obtain⟨u6,y6⟩:=lK hcc (i:=k*7+6) (by omega);have yf:=hcc.frozen;clear hcc rD l0 l1 l2 l3 l4 l5 l6 q2 q3 hcl;go_wp2_with fail
       exact⟨⟨k+1,by omega,by go_num,⟨_,Pv (ah rY) _ _ _ _ _ _ _,by rw [LQ];exact ah zB⟩,(ah rZ).trans (Px _ _ _ _ _ _ _ _ _ _) (fun _ _ e=>e)⟩,by simp [intOf];omega⟩
      ·go_wp2_with fail
       have hlast:=fV.last hlt;rw [ah zD] at hlast;exact⟨⟨i+1,by omega,by go_num,rfl,(((ah lX).mono (fun _ _ e=>e.succ)).trans iy (fun _ _ f=>f.elim)).trans (ah rZ) (fun _ _ e=>e▸hlast)⟩,by simp [intOf];omega⟩
    ·obtain rfl:i=ms.length:=by omega
     have lX:=hide hmo;go_wp2_with fail
     clear q2
     have hnot:∀ {k t c},ak W2 k t c→t≠63→¬fV ms ms.length k:=fun hb ht h=>by
      obtain⟨e,he,hk⟩:=h.mem;obtain⟨_,_,_,c,h4,_⟩:=(ah lW).ent e he;rw [hk] at h4;exact ht (hb.uniq h4)
     have BD:=hide ((ah HC2).mods hmo (fun k c hb=>hnot hb (by decide)) (fun k c hb=>hnot hb (by decide)));have k4c:=hmo.cell k4b (hbne _)
     have QL:Hid (ay (fun k=>B≤k∧k<E) w wr):=(ah Em).trans hmo (fun k _ h=>by
      obtain⟨e,he,hk⟩:=h.mem;have:=((ah lW).ent e he).1;have:=NQ e he
      omega)
     clear hmo hnot lX hbne k3b k4b;obtain⟨W3,rfl⟩:∃W3:World,W3=wr:=⟨_,rfl⟩
     go_loopw [3,12] (fun s3 s4 wr=>∃i:Nat,i≤ks.length∧s4= .int .i64 i∧s3= .bool true∧ay (fV ks i) W3 wr) (fun _ s4 _=>ks.length-(intOf s4).toNat)
     case atStart=>exact ⟨0,Nat.zero_le _,rfl,rfl,ay.refl _ _⟩
     case round=>
      obtain⟨i,hi,rfl,rfl,hmo⟩:=hrel
      have hbne:∀i,¬fV ks i bh:=fun i h=>by
       obtain⟨e,he,hk⟩:=h.mem;have:=((ah BD).ent e he).1;have:=NP e he;omega
      have q2:=hmo.cell k4c (hbne i)
      by_cases hlt:i<ks.length
      ·obtain⟨g,cap,hv,hg,⟨cg,hgb⟩,hrow⟩:=(ah BD).at hlt;obtain⟨b,m,ce,lg,hb,hm,hbe,hce,hdr⟩:=(ah BD).Kr hlt
       injection hv with hv1 _ hv2
       subst hv1 hv2
       have Az:¬fV ks i g:=fun h=>by
        obtain⟨e,he,hk⟩:=h.mem;obtain⟨_,_,_,c,h4,_⟩:=(ah BD).ent e he;rw [hk] at h4;exact absurd (h4.uniq hgb) (by decide)
       have Ar:¬fV ks i b:=by
        have:=fV.LH (ah BD).nodup hlt
        rwa [lg] at this
       have q3:=hmo.cell hrow Az;rw [lg] at q3;unfold rW at q3;simp only at q3;have hbw:=hbe.mods hmo Ar;have l0:wr.cell? ⟨b,m*3,none⟩=some (.int .i64 (-77000000)):=by rw [hbw.cell];exact (pI (j:=0) hdr)
       have l1:wr.cell? ⟨b,m*3+1,none⟩=some (.slice none 0 0):=by rw [hbw.cell];exact (pI (j:=1) hdr)
       have l2:wr.cell? ⟨b,m*3+2,none⟩=some (.slice none 0 0):=by rw [hbw.cell];exact (pI (j:=2) hdr)
       have zD:=hide lg;have zy:=hide hbw;have zA:=hide hce;have lX:=hide hmo;have hbl:=hbw.lt;clear lg hbw hmo hrow hgb hbe hdr hce;obtain⟨wo,rfl⟩:∃wo:World,wo=wr:=⟨_,rfl⟩;go_wp2_with fail
       generalize hY:wo.alloc _=Y;have iy:ay (fun _=>False) wo Y:=by rw [←hY];exact (ay.refl _ _).alloc _
       clear hY
       go_loopw [15] (fun s wi=>∃k:Nat,k≤m+1∧s= .int .i64 k∧(∃c,ak wi b 66 c∧c.length=(m+1)*3)∧ay (fun k=>k=b) Y wi) (fun s _=>m+1-(intOf s).toNat)
       case atStart=>exact ⟨0,Nat.zero_le _,rfl,⟨_,(ah zy).mods iy (fun f=>f),ah zA⟩,ay.refl _ _⟩
       case round=>
        obtain⟨k,hk,rfl,⟨cc,hcc,hcl⟩,rD⟩:=hrel;have rY:=hide hcc;have rZ:=hide rD;have zB:=hide hcl
        by_cases hk2:k<m+1
        ·obtain⟨u0,y0⟩:=lK hcc (i:=k*3) (by omega);obtain⟨u1,y1⟩:=lK hcc (i:=k*3+1) (by omega);obtain⟨u2,y2⟩:=lK hcc (i:=k*3+2) (by omega);have yf:=hcc.frozen;clear hcc rD l0 l1 l2 q2 q3 hcl;go_wp2_with fail
         exact⟨⟨k+1,by omega,by go_num,⟨_,DY (ah rY) _ _ _,by rw [uU];exact ah zB⟩,(ah rZ).trans (DZ _ _ _ _ _ _) (fun _ _ e=>e)⟩,by simp [intOf];omega⟩
        ·go_wp2_with fail
         have hlast:=fV.last hlt;rw [ah zD] at hlast;exact⟨⟨i+1,by omega,by go_num,rfl,(((ah lX).mono (fun _ _ e=>e.succ)).trans iy (fun _ _ f=>f.elim)).trans (ah rZ) (fun _ _ e=>e▸hlast)⟩,by simp [intOf];omega⟩
      ·obtain rfl:i=ks.length:=by omega
       have lX:=hide hmo;go_wp2_with fail
       go_ret
       exact⟨rfl,(ah QL).trans hmo (fun k _ h=>by
        obtain⟨e,he,hk⟩:=h.mem;have:=((ah BD).ent e he).1;have:=NP e he
        omega)⟩
end Go.Proofs.YtiiokkllmchohaaGreat
