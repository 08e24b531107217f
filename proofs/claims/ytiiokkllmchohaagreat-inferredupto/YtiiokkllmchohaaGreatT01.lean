/- The data of programs as plain Lean values, and what it means that a value of the machine's memory holds them; that such a reading stays while old blocks stay. -/
import Derived.WalkKit
import Derived.WalkSpells
import Derived.WalkLawsBesides
import Derived.Test.YtiiokkllmchohaaGreatRows
import Derived.Deep.QuietTactic
import Derived.BigQuiet
import Derived.Deep.LoopGhost
import Derived.Deep.RegionHeld3
import Derived.Maps.AppendAt
import Derived.Deep.DrawnRows
import Derived.Laws.CopyRow
import Derived.Laws.MakeOwn
set_option maxHeartbeats 4000000
set_option maxRecDepth 100000
namespace Go.Proofs.YtiiokkllmchohaaGreat
open Go.RowKit
structure eF where
 op:Int
 a:Int
 b:Int
structure bF where
 pc:Int
 locals:List Int
 stack:List Int
structure aC where
 slot:Int
 args:List Int
 ret:Int
 locals:Int
 stack:Int
 code:List eF
 frames:List bF
structure aj where
 sup:Int
 fields:List Int
 aB:List aC

def aV {α :Type}(sz:Nat)(R: α→Nat→Nat→Prop)(v:Value)(l:List α):Prop:=
 ∃(a:Option Addr) (b off cap:Nat),v= .slice a l.length cap∧l.length≤cap∧((l≠[]→a=some ⟨b,off,none⟩)∧(a=none∧cap=0∨a=some ⟨b,off,none⟩∨l= []∧a≠none))∧∀(j:Nat) (x: α),l[j]? =some x→R x b (off+j*sz)

def fE (g:Addr→Option Value)(x:Int)(b o:Nat):Prop:=g ⟨b,o,none⟩=some (.int .i64 x)
def vw (g:Addr→Option Value)(x:eF)(b o:Nat):Prop:=
 g ⟨b,o,none⟩=some (.int .i64 x.op)∧g ⟨b,o+1,none⟩=some (.int .i64 x.a)∧g ⟨b,o+2,none⟩=some (.int .i64 x.b)
def vk (g:Addr→Option Value)(x:bF)(b o:Nat):Prop:=
 ∃vl vs,g ⟨b,o,none⟩=some (.int .i64 x.pc)∧g ⟨b,o+1,none⟩=some vl∧g ⟨b,o+2,none⟩=some vs∧
  aV 1 (fE g) vl x.locals∧aV 1 (fE g) vs x.stack
def bV (g:Addr→Option Value)(x:aC)(va vc vf:Value):Prop:=
 aV 1 (fE g) va x.args∧aV 3 (vw g) vc x.code∧aV 3 (vk g) vf x.frames
def o8 (g:Addr→Option Value)(x:aC)(b o:Nat):Prop:=
 ∃va vc vf,bV g x va vc vf∧g ⟨b,o,none⟩=some (.int .i64 x.slot)∧g ⟨b,o+1,none⟩=some va∧g ⟨b,o+2,none⟩=some (.int .i64 x.ret)∧
  g ⟨b,o+3,none⟩=some (.int .i64 x.locals)∧g ⟨b,o+4,none⟩=some (.int .i64 x.stack)∧g ⟨b,o+5,none⟩=some vc∧g ⟨b,o+6,none⟩=some vf
def lU (g:Addr→Option Value)(x:aj)(b o:Nat):Prop:=
 ∃vf vm,g ⟨b,o,none⟩=some (.int .i64 x.sup)∧g ⟨b,o+1,none⟩=some vf∧g ⟨b,o+2,none⟩=some vm∧
  aV 1 (fE g) vf x.fields∧aV 7 (o8 g) vm x.aB
abbrev jL (w:World):Int→Nat→Nat→Prop:=fE w.cell?
abbrev zO (w:World):eF→Nat→Nat→Prop:=vw w.cell?
abbrev Cb (w:World):bF→Nat→Nat→Prop:=vk w.cell?
abbrev qg (w:World)(x:aC)(va vc vf:Value):Prop:=bV w.cell? x va vc vf
abbrev Ey (w:World):aC→Nat→Nat→Prop:=o8 w.cell?
abbrev Rn (w:World):aj→Nat→Nat→Prop:=lU w.cell?
abbrev aX (w:World)(vc:Value)(p:List aj):Prop:=aV 3 (Rn w) vc p

theorem aV.mono {α :Type}{sz:Nat}{R R': α→Nat→Nat→Prop}{v:Value}{l:List α}(h:aV sz R v l)(k:∀x b o,R x b o→R' x b o):aV sz R' v l:=by
 obtain⟨a,b,off,cap,h1,h2,h3,h4⟩:=h;exact⟨a,b,off,cap,h1,h2,h3,fun j x hj=>k _ _ _ (h4 j x hj)⟩

def dM (g g':Addr→Option Value):Prop:=∀p v,g p=some v→g' p=some v
theorem dM.trans {a b c:Addr→Option Value}(h:dM a b)(k:dM b c):dM a c:=fun p v e=>k p v (h p v e)
abbrev Keeps (w w':World):Prop:=dM w.cell? w'.cell?
theorem Keeps.trans {a b c:World}(h:Keeps a b)(k:Keeps b c):Keeps a c:=fun p v e=>k p v (h p v e)
theorem cell_lt {w:World}{p:Addr}{v:Value}(h:w.cell? p=some v):p.block<w.heap.size:=by
 unfold World.cell? at h
 rcases Nat.lt_or_ge p.block w.heap.size with g | g
 ·exact g
 ·rw [Array.getElem?_eq_none g] at h;simp at h
theorem Keeps.of_below {w w':World}(h:Below w.heap.size w w'):Keeps w w':=fun p v e=>by rw [h.cell (cell_lt e)];exact e

section
variable {g g' : Addr → Option Value}
theorem fE.keep (h:dM g g'){x:Int}{b o:Nat}(r:fE g x b o):fE g' x b o:=h _ _ r
theorem dA (h:dM g g'){v:Value}{l:List Int}(r:aV 1 (fE g) v l):aV 1 (fE g') v l:=r.mono fun _ _ _=>fE.keep h
theorem vw.keep (h:dM g g'){x:eF}{b o:Nat}(r:vw g x b o):vw g' x b o:=⟨h _ _ r.1,h _ _ r.2.1,h _ _ r.2.2⟩
theorem vk.keep (h:dM g g'){x:bF}{b o:Nat}(r:vk g x b o):vk g' x b o:=by
 obtain⟨vl,vs,h1,h2,h3,h4,h5⟩:=r;exact⟨vl,vs,h _ _ h1,h _ _ h2,h _ _ h3,dA h h4,dA h h5⟩
theorem G8 (h:dM g g'){v:Value}{l:List eF}(r:aV 3 (vw g) v l):aV 3 (vw g') v l:=r.mono fun _ _ _=>vw.keep h
theorem Hz (h:dM g g'){v:Value}{l:List bF}(r:aV 3 (vk g) v l):aV 3 (vk g') v l:=r.mono fun _ _ _=>vk.keep h
theorem bV.keep (h:dM g g'){x:aC}{va vc vf:Value}(r:bV g x va vc vf):bV g' x va vc vf:=⟨dA h r.1,G8 h r.2.1,Hz h r.2.2⟩
theorem o8.keep (h:dM g g'){x:aC}{b o:Nat}(r:o8 g x b o):o8 g' x b o:=by
 obtain⟨va,vc,vf,h0,h1,h2,h3,h4,h5,h6,h7⟩:=r;exact⟨va,vc,vf,h0.keep h,h _ _ h1,h _ _ h2,h _ _ h3,h _ _ h4,h _ _ h5,h _ _ h6,h _ _ h7⟩
theorem sW (h:dM g g'){v:Value}{l:List aC}(r:aV 7 (o8 g) v l):aV 7 (o8 g') v l:=r.mono fun _ _ _=>o8.keep h
theorem lU.keep (h:dM g g'){x:aj}{b o:Nat}(r:lU g x b o):lU g' x b o:=by
 obtain⟨vf,vm,h1,h2,h3,h4,h5⟩:=r;exact⟨vf,vm,h _ _ h1,h _ _ h2,h _ _ h3,dA h h4,sW h h5⟩
theorem aP (h:dM g g'){v:Value}{l:List aj}(r:aV 3 (lU g) v l):aV 3 (lU g') v l:=r.mono fun _ _ _=>lU.keep h
end

theorem iK (w:World)(cs:Array Value)(t:TypeId)(i:Nat):(w.alloc (.cells cs t)).cell? ⟨w.heap.size,i,none⟩=cs[i]? :=by
 show (match (w.heap.push (Obj.cells cs t))[w.heap.size]? with | some (.cells c _ _)=>if (none:Option Nat).isSome then none else c[i]? | _=>none)=_
 rw [Array.getElem?_push_size];rfl
theorem aS (w:World)(o:Obj):Below w.heap.size w (w.alloc o):=(Below.refl _ _).alloc (Nat.le_refl _) _
theorem zW (w:World)(o:Obj):Keeps w (w.alloc o):=Keeps.of_below (aS w o)
theorem dS (w:World)(o o':Obj):Below w.heap.size w ((w.alloc o).alloc o'):=(aS w o).alloc (aS w o).size _
theorem lZ (w:World)(cs:Array Value)(t:TypeId)(o':Obj)(i:Nat):((w.alloc (.cells cs t)).alloc o').cell? ⟨w.heap.size,i,none⟩=cs[i]? :=by
 rw [World.cell?_alloc_lt _ _ _ (by simp)];exact iK w cs t i
theorem fC (w:World)(o:Obj)(cs:Array Value)(t:TypeId)(i:Nat):((w.alloc o).alloc (.cells cs t)).cell? ⟨w.heap.size+1,i,none⟩=cs[i]? :=by
 have:=iK (w.alloc o) cs t i
 rwa [show (w.alloc o).heap.size=w.heap.size+1 by simp] at this
theorem aT {a b:Bool}(h:a=b):Ending.returned (.bool a)= .returned (.bool b):=by rw [h]
theorem lN {k:IntKind}{a b:Int}(h:a=b):Ending.returned (.int k a)= .returned (.int k b):=by rw [h]

theorem jo {w:World}{v:Value}{l:List Int}(h:aV 1 (jL w) v l) :
  ∃(a:Option Addr) (b off cap:Nat),v= .slice a l.length cap∧l.length≤cap∧(l≠[]→a=some ⟨b,off,none⟩)∧∀(j:Nat) (hj:j<l.length),w.cell? ⟨b,off+j,none⟩=some (.int .i64 l[j]):=by
 obtain⟨a,b,off,cap,h1,h2,h3,h4⟩:=h;refine⟨a,b,off,cap,h1,h2,h3.1,fun j hj=>?_⟩;have:=h4 j _ (List.getElem?_eq_getElem hj);unfold jL fE at this
 rwa [Nat.mul_one] at this
theorem rH {w:World}{v:Value}{l:List Int}(h:aV 1 (jL w) v l) :
  ∃(a:Option Addr) (cap:Nat),v= .slice a l.length cap∧(a=none→l= []∧cap=0)∧∀ad,a=some ad→∀(j:Nat) (u:Value),(l.map (Value.int .i64))[j]? =some u→w.cell? (ad.add j)=some u:=by
 obtain⟨a,b,off,cap,h1,h2,h3,h4⟩:=h;refine⟨a,cap,h1,fun e=>?_,fun ad e j u hu=>?_⟩
 ·rcases h3.2 with ⟨_,hc⟩ | hc | ⟨_,hc⟩
  ·exact⟨Classical.byContradiction fun hn=>(by have:=h3.1 hn;rw [e] at this;cases this),hc⟩
  ·rw [e] at hc;cases hc
  ·exact absurd e hc
 ·rcases h3.2 with ⟨hc,_⟩ | hc | ⟨hc,_⟩
  ·rw [e] at hc;cases hc
  ·rw [e] at hc;cases hc;rw [List.getElem?_map] at hu
   cases hl:l[j]? with
   | none => rw [hl] at hu; cases hu
   | some x =>
    rw [hl] at hu;cases hu;have:=h4 j x hl;unfold jL fE at this;rw [Nat.mul_one] at this;rw [show (⟨b,off,none⟩:Addr).add j=⟨b,off+j,none⟩ by unfold Addr.add;split <;> simp_all];exact this
  ·subst hc;simp at hu
theorem ae0 {w:World}{v:Value}{l:List eF}(h:aV 3 (zO w) v l) :
  ∃(a:Option Addr) (b off cap:Nat),v= .slice a l.length cap∧l.length≤cap∧(l≠[]→a=some ⟨b,off,none⟩)∧
   (∀(j:Nat) (hj:j<l.length),w.cell? ⟨b,off+j*3,none⟩=some (.int .i64 l[j].op))∧(∀(j:Nat) (hj:j<l.length),w.cell? ⟨b,off+j*3+1,none⟩=some (.int .i64 l[j].a))∧
   (∀(j:Nat) (hj:j<l.length),w.cell? ⟨b,off+j*3+2,none⟩=some (.int .i64 l[j].b)):=by
 obtain⟨a,b,off,cap,h1,h2,h3,h4⟩:=h;exact⟨a,b,off,cap,h1,h2,h3.1,fun j hj=>(h4 j _ (List.getElem?_eq_getElem hj)).1,fun j hj=>(h4 j _ (List.getElem?_eq_getElem hj)).2.1,fun j hj=>(h4 j _ (List.getElem?_eq_getElem hj)).2.2⟩
theorem aZ {α :Type}{sz:Nat}{R: α→Nat→Nat→Prop}{v:Value}{l:List α}(h:aV sz R v l) :
  ∃(a:Option Addr) (b off cap:Nat),v= .slice a l.length cap∧l.length≤cap∧(l≠[]→a=some ⟨b,off,none⟩)∧∀(j:Nat) (hj:j<l.length),R l[j] b (off+j*sz):=by
 obtain⟨a,b,off,cap,h1,h2,h3,h4⟩:=h;exact⟨a,b,off,cap,h1,h2,h3.1,fun j hj=>h4 j _ (List.getElem?_eq_getElem hj)⟩
theorem bJ {α :Type}{l:List α}{k:Nat}(h:k<l.length):l≠[]:=by intro e;subst e;simp at h
theorem vM {α :Type}{l:List α}{f: α→Bool}{k:Nat}(h:k<l.length):(l.take (k+1)).all f=((l.take k).all f && f l[k]):=by
 rw [List.take_add_one,List.getElem?_eq_getElem h,List.all_append,Option.toList_some,List.all_cons,List.all_nil,Bool.and_true]
theorem hide {p:Prop}(h:p):Hid p:=h
theorem ah {p:Prop}(h:Hid p):p:=h

def I64 (x:Int):Prop:= -9223372036854775808≤x∧x≤9223372036854775807
def fF (n:Int)(t:Int):Bool:=t == 0 || (decide (3≤t) && decide (t-3<n))
def gZ (n:Int)(t:Int):Bool:=fF n t || t == 1 || t == 2
def dV (v n:Int):Bool:=decide (0≤v) && decide (v<n)

def chain (p:List aj):Nat→Int→List Nat
 | 0, _ => []
 | f + 1, c => if c < 0 then [] else match p[c.toNat]? with
  | none => []
  | some x => c.toNat :: chain p f x.sup
def chainOf (p:List aj)(c:Int):List Nat:=chain p (c.toNat+1) c
def nP (c:Nat)(x:aj):Bool:=if c=0 then x.sup == -1 else decide (0≤x.sup) && decide (x.sup<c)
def aU (p:List aj)(n:Nat):Prop:=∀(c:Nat) (x:aj),c<n→p[c]? =some x→nP c x=true

theorem Vl {x:aj}(h:nP 0 x=true):x.sup= -1:=by simpa [nP] using h
theorem PO {c:Nat}{x:aj}(hc:0<c)(h:nP c x=true):0≤x.sup∧x.sup<c:=by
 unfold nP at h;rw [if_neg (by omega)] at h;simpa using h
theorem pV {c:Nat}{x:aj}(h:nP c x=true): -1≤x.sup∧x.sup<c:=by
 rcases Nat.eq_zero_or_pos c with rfl | hc
 ·have:=Vl h;omega
 ·have:=PO hc h;omega

theorem GZ (p:List aj)(f:Nat){c:Int}(h:c<0):chain p f c= []:=by
 cases f with
 | zero => rfl
 | succ f => simp [chain, h]
theorem aev (p:List aj){n:Nat}(hs:aU p n):∀(f g:Nat) (c:Int),c<n→c.toNat+1≤f→c.toNat+1≤g→chain p f c=chain p g c:=by
 intro f
 induction f with
 | zero => intro g c _ h; omega
 | succ f ih =>
  intro g c hn hf hg
  match g,hg with
  | g + 1, hg =>
   rcases Int.lt_or_le c 0 with h | h
   ·rw [GZ p _ h,GZ p _ h]
   ·simp only [chain,if_neg (Int.not_lt.2 h)]
    cases hx:p[c.toNat]? with
    | none => rfl
    | some x =>
     have hb:=pV (hs c.toNat x (by omega) hx);simp only
     rcases Int.lt_or_le x.sup 0 with k | k
     ·rw [GZ p _ k,GZ p _ k]
     ·rw [ih g x.sup (by omega) (by omega) (by omega)]
theorem CJ (p:List aj){c:Int}(h:c<0):chainOf p c= []:=GZ p _ h
theorem CG (p:List aj){n:Nat}(hs:aU p n){c:Nat}{x:aj}(hn:c<n)(hx:p[c]? =some x):chainOf p (c:Int)=c::chainOf p x.sup:=by
 have hb:=pV (hs c x hn hx)
 show chain p (c+1) (c:Int)=_
 simp only [chain];rw [if_neg (by omega),Int.toNat_natCast,hx];simp only
 rcases Int.lt_or_le x.sup 0 with k | k
 ·rw [GZ p _ k,CJ p k]
 ·unfold chainOf;rw [aev p hs c (x.sup.toNat+1) x.sup (by omega) (by omega) (by omega)]

def O4 (p : List aj) (c : Nat) : List Int := ((p[c]?).map (·.fields)).getD []
def fieldsOf (p:List aj)(c:Int):List Int:=((chainOf p c).reverse.map (O4 p)).flatten
def oW (ms:List aC)(slot:Int):Option Nat:=ms.findIdx? (fun m=>m.slot == slot)
def O5 (p:List aj)(slot:Int)(c:Nat):Option (Nat×Nat):=(p[c]?).bind fun x=>(oW x.aB slot).map fun k=>(c,k)
def fO (p:List aj)(c slot:Int):Option (Nat×Nat):=(chainOf p c).findSome? (O5 p slot)
def sV (p:List aj)(ck:Nat×Nat):Option aC:=(p[ck.1]?).bind fun x=>x.aB[ck.2]?

theorem acw {ms:List aC}{slot:Int}{k:Nat}(hk:k<ms.length)(h:ms[k].slot=slot)(hb:∀(j:Nat) (hj:j<ms.length),j<k→ms[j].slot≠slot):oW ms slot=some k:=by
 unfold oW;rw [List.findIdx?_eq_some_iff_getElem];refine⟨hk,by simpa using h,fun j hj=>?_⟩;simpa using hb j (by omega) hj
theorem acv {ms:List aC}{slot:Int}(hb:∀(j:Nat) (hj:j<ms.length),ms[j].slot≠slot):oW ms slot=none:=by
 unfold oW;rw [List.findIdx?_eq_none_iff];intro m hm;obtain⟨j,hj,rfl⟩:=List.getElem_of_mem hm;simpa using hb j hj
theorem FD (p:List aj){c:Int}(slot:Int)(h:c<0):fO p c slot=none:=by
 unfold fO;rw [CJ p h];rfl
theorem Iq (p:List aj){n:Nat}(hs:aU p n){c:Nat}{x:aj}(slot:Int)(hn:c<n)(hx:p[c]? =some x) :
  fO p (c:Int) slot=match oW x.aB slot with
   | some k => some (c, k)
   | none => fO p x.sup slot := by
 unfold fO;rw [CG p hs hn hx,List.findSome?_cons];have e:O5 p slot c=(oW x.aB slot).map fun k=>(c,k):=by unfold O5;rw [hx];rfl
 rw [e]
 cases oW x.aB slot <;> rfl
theorem ajR {ms:List aC}{slot:Int}{k:Nat}(h:oW ms slot=some k):∃o,ms[k]? =some o∧o.slot=slot:=by
 unfold oW at h;rw [List.findIdx?_eq_some_iff_getElem] at h;obtain⟨hk,hs,_⟩:=h;exact⟨_,List.getElem?_eq_getElem hk,by simpa using hs⟩
theorem OQ (p:List aj){n:Nat}(hs:aU p n)(slot:Int){i j:Nat} :∀(c:Nat),c<n→fO p (c:Int) slot=some (i,j)→∃y o,p[i]? =some y∧y.aB[j]? =some o∧i≤c∧o.slot=slot:=by
 intro c
 induction c using Nat.strongRecOn with
 | ind c ih =>
  intro hn h
  cases hx:p[c]? with
  | none =>
   unfold fO chainOf chain at h;rw [if_neg (by omega),Int.toNat_natCast,hx] at h;simp at h
  | some x =>
   rw [Iq p hs slot hn hx] at h;have hb:=pV (hs c x hn hx)
   cases hk:oW x.aB slot with
   | some k =>
    rw [hk] at h
    cases h
    obtain⟨o,h1,h2⟩:=ajR hk;exact⟨x,o,hx,h1,Nat.le_refl _,h2⟩
   | none =>
    rw [hk] at h;simp only at h
    rcases Int.lt_or_le x.sup 0 with g | g
    ·rw [FD p slot g] at h;cases h
    ·obtain⟨d,hd⟩:=Int.eq_ofNat_of_zero_le g;rw [hd] at h;obtain⟨y,o,h1,h2,h3,h4⟩:=ih d (by omega) (by omega) h;exact⟨y,o,h1,h2,by omega,h4⟩
theorem Kt (p:List aj){n:Nat}(hs:aU p n){c:Nat}{x:aj}(hn:c<n)(hx:p[c]? =some x):fieldsOf p (c:Int)=fieldsOf p x.sup++x.fields:=by
 unfold fieldsOf;rw [CG p hs hn hx];simp [O4,hx]
theorem Hu (p:List aj){c:Int}(h:c<0):fieldsOf p c= []:=by unfold fieldsOf;rw [CJ p h];rfl

def oG (p:List aj)(x:aj)(m:aC):Bool:=
 match fO p x.sup m.slot with
 | none => true
 | some ck => match sV p ck with
  | none => true
  | some o => o.args == m.args && o.ret == m.ret
def qO (n:Nat)(m:aC):Bool:=
 decide (0≤m.slot) && decide (m.slot≤5) && decide (m.args.length≤3) && m.args.all (fF n) && fF n m.ret && decide (1+m.args.length≤m.locals) && decide (m.locals≤8) && decide (0≤m.stack) && decide (m.stack≤8)
def headB (p:List aj)(x:aj)(k:Nat)(m:aC):Bool:=
 qO p.length m && ((x.aB.take k).all fun o=> !(o.slot == m.slot)) && oG p x m
theorem vO {n:Nat}{m:aC} :qO n m=true↔(0≤m.slot∧m.slot≤5∧m.args.length≤3∧m.args.all (fF n)=true∧fF n m.ret=true∧1+m.args.length≤m.locals∧m.locals≤8∧0≤m.stack∧m.stack≤8):=by
 unfold qO;simp only [Bool.and_eq_true,decide_eq_true_eq,and_assoc]
theorem Aw {p:List aj}{x:aj}{k:Nat}{m:aC}(h:¬(0≤m.slot∧m.slot≤5∧m.args.length≤3∧m.args.all (fF p.length)=true∧fF p.length m.ret=true∧1+m.args.length≤m.locals∧m.locals≤8∧0≤m.stack∧m.stack≤8)):headB p x k m=false:=by
 unfold headB;rw [Bool.eq_false_iff.2 (fun e=>h (vO.1 e))]
 rfl
theorem agC {p:List aj}{x:aj}{k:Nat}{m:aC}{i:Nat}(hi:i<x.aB.length)(hik:i<k)(h:x.aB[i].slot=m.slot):headB p x k m=false:=by
 unfold headB;rw [show ((x.aB.take k).all fun o=> !(o.slot == m.slot))=false from ?_]
 ·simp
 ·rw [List.all_eq_false];exact⟨x.aB[i],by rw [List.mem_iff_getElem];exact⟨i,by rw [List.length_take];omega,by rw [List.getElem_take]⟩,by simp [h]⟩
theorem head_eq {p:List aj}{x:aj}{k:Nat}{m:aC}(hb:qO p.length m=true)(h:∀(j:Nat) (hj:j<x.aB.length),j<k→x.aB[j].slot≠m.slot):headB p x k m=oG p x m:=by
 unfold headB;rw [hb,show ((x.aB.take k).all fun o=> !(o.slot == m.slot))=true from ?_]
 ·simp
 ·rw [List.all_eq_true];intro o ho;obtain⟨j,hj,rfl⟩:=List.getElem_of_mem ho;rw [List.getElem_take];rw [List.length_take] at hj;simpa using h j (by omega) (by omega)
def rU (p:List aj)(c:Nat)(x:aj):Bool:=
 x.fields.all (fF p.length) && decide ((fieldsOf p c).length≤8) && decide (x.aB.length≤6) && (List.range x.aB.length).all fun k=>match x.aB[k]? with
  | none => true
  | some m => headB p x k m
def uD (p:List aj)(c:Nat):Bool:=match p[c]? with
 | none => true
 | some x => nP c x && rU p c x
def bC (p:List aj)(m:aC)(i:eF):Bool:=
 if i.op=0 then i.b == 0
 else if i.op=1∨i.op=2 then dV i.a m.locals && i.b == 0
 else if i.op=7∨i.op=8∨i.op=18 then dV i.a m.code.length && i.b == 0
 else if i.op=9∨i.op=17 then dV i.a p.length && i.b == 0
 else if i.op=10∨i.op=11 then dV i.a p.length && dV i.b (fieldsOf p i.a).length
 else if i.op=12 then dV i.a p.length && (fO p i.a i.b).isSome
 else dV i.op 21 && i.a == 0 && i.b == 0
def uJ (n:Nat)(m:aC)(f:bF):Bool:=
 decide (f.pc<m.code.length) && decide ((f.locals.length:Int)=m.locals) && decide ((f.stack.length:Int)≤m.stack) && f.locals.all (gZ n) && f.stack.all (gZ n)
def iP (n:Nat)(m:aC):Int→List bF→Bool
 | _, [] => true
 | last, f :: r => decide (last < f.pc) && uJ n m f && iP n m f.pc r
def iL (p:List aj)(m:aC):Bool:=
 decide (1≤m.code.length) && decide (m.code.length≤40) && decide (m.frames.length≤40) && m.code.all (bC p m) && iP p.length m (-1) m.frames
def bD (p:List aj):Int:=
 if p.length<1∨6<p.length then 2
 else if (List.range p.length).all (uD p) then
  if p.all (fun x=>x.aB.all (iL p)) then 0 else 3
 else 2

def Je (f:bF):Prop:=I64 f.pc∧(∀x∈f.locals,I64 x)∧∀x∈f.stack,I64 x
def Jf (i:eF):Prop:=I64 i.op∧I64 i.a∧I64 i.b
def zk (m:aC):Prop:=I64 m.slot∧(∀x∈m.args,I64 x)∧I64 m.ret∧I64 m.locals∧I64 m.stack∧(∀i∈m.code,Jf i)∧∀f∈m.frames,Je f
def VI (x:aj):Prop:=I64 x.sup∧(∀t∈x.fields,I64 t)∧∀m∈x.aB,zk m
def jq (p:List aj):Prop:=∀x∈p,VI x
def iH (f:bF):Nat:=f.locals.length+f.stack.length+4
def dN (m:aC):Nat:=m.args.length+4*m.code.length+(m.frames.map iH).sum+8
def gJ (x:aj):Nat:=x.fields.length+(x.aB.map dN).sum+4
def bn (p:List aj):Nat:=(p.map gJ).sum

theorem Lr {α :Type}(f: α→Nat):∀(l:List α) (x: α),x∈l→f x≤(l.map f).sum
 | [], x, h => by simp at h
 | y :: r, x, h => by
  simp only [List.map_cons,List.sum_cons]
  rcases List.mem_cons.1 h with rfl | h
  ·omega
  ·have:=Lr f r x h;omega
theorem Ls {α :Type}(f: α→Nat)(hf:∀x,1≤f x):∀(l:List α),l.length≤(l.map f).sum
 | [] => by simp
 | y :: r => by
  simp only [List.map_cons,List.sum_cons,List.length_cons];have:=Ls f hf r;have:=hf y;omega
theorem eG (p:List aj):p.length≤bn p:=Ls _ (fun x=>by unfold gJ;omega) p
theorem nR {p:List aj}{x:aj}(h:x∈p):gJ x≤bn p:=Lr _ p x h
theorem Bj {x:aj}{m:aC}(h:m∈x.aB):dN m≤gJ x:=by
 have:=Lr dN _ m h;unfold gJ;omega
theorem Bh (x:aj):x.fields.length≤gJ x:=by unfold gJ;omega
theorem tC (x:aj):x.aB.length≤gJ x:=by
 have:=Ls dN (fun m=>by unfold dN;omega) x.aB;unfold gJ;omega
theorem Ja {α :Type}(f: α→Nat)(k:Nat)(l:List α):((l.take k).map f).sum≤(l.map f).sum:=by
 have:=List.take_append_drop k l
 conv=>rhs;rw [←this]
 rw [List.map_append,List.sum_append];omega
theorem afM (p:List aj){n:Nat}(hs:aU p n):∀(c:Nat),c<n→(fieldsOf p (c:Int)).length≤((p.take (c+1)).map gJ).sum:=by
 intro c
 induction c using Nat.strongRecOn with
 | ind c ih =>
  intro hn
  rcases Nat.lt_or_ge c p.length with hc | hc
  ·have hx:=List.getElem?_eq_getElem hc;have hb:=pV (hs c _ hn hx);rw [Kt p hs hn hx,List.take_add_one,hx,List.map_append,List.sum_append,List.length_append];have h0:gJ p[c]=((Option.toList (some p[c])).map gJ).sum:=by simp
   have h1:=Bh p[c]
   rcases Int.lt_or_le p[c].sup 0 with g | g
   ·rw [Hu p g];simp only [List.length_nil];omega
   ·obtain⟨k,hk⟩:=Int.eq_ofNat_of_zero_le g;rw [hk];have:=ih k (by omega) (by omega)
    have h2:((p.take (k+1)).map gJ).sum≤((p.take c).map gJ).sum:=by
     have:p.take (k+1)=(p.take c).take (k+1):=by rw [List.take_take];congr 1;omega
     rw [this];exact Ja gJ (k+1) (p.take c)
    omega
  ·unfold fieldsOf chainOf chain;rw [if_neg (by omega),Int.toNat_natCast,List.getElem?_eq_none hc];simp
theorem NR (p:List aj){n:Nat}(hs:aU p n){c:Nat}(hn:c<n):(fieldsOf p (c:Int)).length≤bn p:=by
 refine Nat.le_trans (afM p hs c hn) ?_;have:=List.take_append_drop (c+1) p;unfold bn
 conv=>rhs;rw [←this]
 rw [List.map_append,List.sum_append];omega
theorem Vs {m:aC}{f:bF}(h:f∈m.frames):iH f≤dN m:=by
 have:=Lr iH _ f h;unfold dN;omega
theorem Vt (m:aC):m.frames.length≤dN m:=by
 have:=Ls iH (fun m=>by unfold iH;omega) m.frames;unfold dN;omega
theorem oV (v n:Int)(w:World) :
  Calls Tryz.prog 200 #[.int .i64 v,.int .i64 n] w fun e w'=>e= .returned (.bool (dV v n))∧w'=w:=by
 go_enter Tryz.func200,Tryz.ntmps200
 go_wp2
 all_goals go_ret
 all_goals exact⟨aT (by simp [dV, *] <;> omega),rfl⟩

theorem IG (t n:Int)(w:World)(ht:I64 t) :
  Calls Tryz.prog 147 #[.int .i64 t,.int .i64 n] w fun e w'=>e= .returned (.bool (fF n t))∧w'=w:=by
 obtain⟨h1,h2⟩:=ht;go_enter Tryz.func147,Tryz.ntmps147
 go_wp2
 all_goals go_ret
 all_goals exact⟨aT (by simp [fF, *] <;> omega),rfl⟩

theorem U0 (l:List Int)(v:Value)(n:Int)(w:World)(hl:aV 1 (jL w) v l)(hw:∀x∈l,I64 x)(hs:l.length≤4194304) :
  Calls Tryz.prog 91 #[v,.int .i64 n] w fun e w'=>e= .returned (.bool (l.all (fF n)))∧w'=w:=by
 obtain⟨a,b,off,cap,rfl,hcap,ha,hr⟩:=jo hl;go_enter Tryz.func91,Tryz.ntmps91
 go_wp2
 go_loop [5] (fun i=>∃k:Nat,k≤l.length∧i= .int .i64 k∧(l.take k).all (fF n)=true) (fun i=>l.length-(intOf i).toNat)
 case atStart=>exact ⟨0,Nat.zero_le _,rfl,rfl⟩
 case round=>
  obtain⟨k,hk,rfl,hall⟩:=hrel;have HA:Hid ((l.take k).all (fF n)=true):=hall;clear hall
  by_cases hlt:k<l.length
  ·obtain rfl:=ha (bJ hlt);have hx:=hw _ (List.getElem_mem hlt);have hS:=vM (f:=fF n) hlt;rw [HA.out] at hS;have HS:=hide hS;clear hS hw
   cases hb:fF n l[k]
   ·go_wp2_with (go_at_call 147;refine (IG _ _ _ hx).mono ?_;rintro e w' ⟨rfl,rfl⟩)
    go_ret;exact⟨aT (by rw [←List.take_append_drop (k+1) l,List.all_append,ah HS,hb];rfl),rfl⟩
   ·go_wp2_with (go_at_call 147;refine (IG _ _ _ hx).mono ?_;rintro e w' ⟨rfl,rfl⟩)
    go_round
    case rel=>exact ⟨k+1,by omega,by go_num,by rw [ah HS,hb];rfl⟩
    case measure=>simp [intOf];omega
  ·go_wp2
   go_ret;exact⟨aT (by rw [←HA.out,List.take_of_length_le (by omega)]),rfl⟩
theorem aiY (l:List Int)(v:Value)(n:Int)(w:World)(hl:aV 1 (jL w) v l)(hw:∀x∈l,I64 x)(hs:l.length≤4194304) :
  Calls Tryz.prog 150 #[v,.int .i64 n] w fun e w'=>e= .returned (.bool (l.all (gZ n)))∧w'=w:=by
 obtain⟨a,b,off,cap,rfl,hcap,ha,hr⟩:=jo hl;go_enter Tryz.func150,Tryz.ntmps150
 go_wp2
 go_loop [5] (fun i=>∃k:Nat,k≤l.length∧i= .int .i64 k∧(l.take k).all (gZ n)=true) (fun i=>l.length-(intOf i).toNat)
 case atStart=>exact ⟨0,Nat.zero_le _,rfl,rfl⟩
 case round=>
  obtain⟨k,hk,rfl,hall⟩:=hrel;have HA:Hid ((l.take k).all (gZ n)=true):=hall;clear hall
  by_cases hlt:k<l.length
  ·obtain rfl:=ha (bJ hlt);have hx:=hw _ (List.getElem_mem hlt);have hS:=vM (f:=gZ n) hlt;rw [HA.out] at hS;have HS:=hide hS;clear hS hw
   cases hb:fF n l[k]
   ·go_wp2_with (go_at_call 147;refine (IG _ _ _ hx).mono ?_;rintro e w' ⟨rfl,rfl⟩)
    ·exact⟨⟨k+1,by omega,by go_num,by rw [ah HS];simp_all [gZ]⟩,by simp [intOf];omega⟩
    ·go_ret;exact⟨aT (by rw [←List.take_append_drop (k+1) l,List.all_append,ah HS];simp_all [gZ]),rfl⟩
    ·exact⟨⟨k+1,by omega,by go_num,by rw [ah HS];simp_all [gZ]⟩,by simp [intOf];omega⟩
   ·go_wp2_with (go_at_call 147;refine (IG _ _ _ hx).mono ?_;rintro e w' ⟨rfl,rfl⟩)
    go_round
    case rel=>exact ⟨k+1,by omega,by go_num,by rw [ah HS];simp [gZ,hb]⟩
    case measure=>simp [intOf];omega
  ·go_wp2
   go_ret;exact⟨aT (by rw [←HA.out,List.take_of_length_le (by omega)]),rfl⟩

theorem acH {l r:List Int}{k:Nat}(h1:k<l.length)(h2:k<r.length):(l.take (k+1)=r.take (k+1))↔(l.take k=r.take k∧l[k]=r[k]):=by
 rw [List.take_add_one,List.take_add_one,List.getElem?_eq_getElem h1,List.getElem?_eq_getElem h2];simp only [Option.toList_some]
 constructor
 ·intro h;have:=List.append_inj' h rfl;simpa using this
 ·rintro ⟨h,k⟩;rw [h,k]

theorem ai5 (l r:List Int)(v u:Value)(w:World)(hl:aV 1 (jL w) v l)(hr:aV 1 (jL w) u r)(hs:l.length≤4194304)(hs':r.length≤4194304) :
  Calls Tryz.prog 148 #[v,u] w fun e w'=>e= .returned (.bool (l == r))∧∃n,w'=w.drewN n:=by
 obtain⟨a,b,off,cap,rfl,hcap,ha,hc⟩:=jo hl;obtain⟨a',b',off',cap',rfl,hcap',ha',hc'⟩:=jo hr
 by_cases hn:l.length=r.length
 ·have hne:((l.length:Int) == (r.length:Int))=true:=by rw [hn];simp
  go_enter Tryz.func148,Tryz.ntmps148
  go_wp2
  go_loopw [5] (fun i wr=>∃k:Nat,k≤l.length∧i= .int .i64 k∧l.take k=r.take k∧∃n,wr=w.drewN n) (fun i _=>l.length-(intOf i).toNat)
  case atStart=>exact ⟨0,Nat.zero_le _,rfl,rfl,0,rfl⟩
  case round=>
   obtain⟨k,hk,rfl,htk,nn,rfl⟩:=hrel;have HT:=hide htk;have HN:=hide hn;clear htk hn
   by_cases hlt:k<l.length
   ·have hlt':k<r.length:=by rw [←ah HN];exact hlt
    obtain rfl:=ha (bJ hlt);obtain rfl:=ha' (bJ hlt');have HE:=hide (acH hlt hlt')
    go_wp2
    go_quiet (fail)
    go_wp2
    ·go_ret;have hx:l[k]≠r[k]:=by simp_all
     exact⟨aT (by rw [eq_comm,beq_eq_false_iff_ne];intro e;subst e;exact hx rfl),nn+nq,by rw [World.drewN_drewN]⟩
    ·have hx:l[k]=r[k]:=by simp_all
     exact⟨⟨k+1,by omega,by go_num,(ah HE).2 ⟨ah HT,hx⟩,_,rfl⟩,by simp [intOf];omega⟩
   ·go_wp2
    go_ret;refine⟨aT ?_,_,rfl⟩;have:=ah HT;rw [List.take_of_length_le (by omega),List.take_of_length_le (by have:=ah HN;omega)] at this;simp [this]
 ·have hne:((l.length:Int) == (r.length:Int))=false:=by simp;omega
  go_enter Tryz.func148,Tryz.ntmps148
  go_wp2
  go_ret;exact⟨aT (by rw [eq_comm,beq_eq_false_iff_ne];intro e;subst e;exact hn rfl),0,rfl⟩
def qE (p:List aj)(c slot:Int):Int×Int:=match fO p c slot with
 | none => (-1, -1)
 | some (x, y) => (x, y)

theorem U6 (p:List aj)(vc:Value)(n:Nat)(c slot:Int)(w:World)(hp:aX w vc p)(hs:aU p n)(hn:n≤p.length)(hc: -1≤c)(hcn:c<n)(hz:bn p≤4194304) :
  Calls Tryz.prog 116 #[.agg #[vc],.int .i64 c,.int .i64 slot] w fun e w'=>
   e= .returned (.tuple #[.int .i64 (qE p c slot).1,.int .i64 (qE p c slot).2])∧Below w.heap.size w w':=by
 obtain⟨a,b,off,cap,rfl,hcap,ha,hr⟩:=aZ hp;go_enter Tryz.func116,Tryz.ntmps116
 go_wp2
 generalize hW:w.alloc _=W;have hbel:Below w.heap.size w W:=hW▸aS _ _;have hbox:W.cell? ⟨w.heap.size,0,none⟩=some (.slice a p.length cap):=hW▸iK w #[.slice a p.length cap] 24 0;clear hW
 go_loop [1] (fun s1=>∃c':Int,-1≤c'∧c'<n∧s1= .int .i64 c'∧fO p c slot=fO p c' slot) (fun s1=>(intOf s1+1).toNat)
 case atStart=>exact ⟨c,hc,hcn,rfl,rfl⟩
 case round=>
  obtain⟨c',h1,h2,rfl,hm⟩:=hrel;have HM:=hide hm;clear hm
  rcases Int.lt_or_le c' 0 with hneg | hpos
  ·go_wp2
   go_ret2
   exact⟨by simp [qE,ah HM,FD p slot hneg],hbel⟩
  ·obtain⟨i,rfl⟩:=Int.eq_ofNat_of_zero_le hpos;have hi:i<p.length:=by omega
   obtain rfl:=ha (bJ hi);obtain⟨vf,vm,c0,c1,c2,hf,hmm⟩:=(hr i hi).keep (Keeps.of_below hbel);obtain⟨ma,mb,fH,dW,rfl,yV,hma,hmr⟩:=aZ hmm
   have aaD:∀(j:Nat) (hj:j<p[i].aB.length),W.cell? ⟨mb,fH+j*7,none⟩=some (.int .i64 p[i].aB[j].slot):=fun j hj=>by
    obtain⟨_,_,_,_,h,_⟩:=hmr j hj;exact h
   have hlen:p[i].aB.length≤4194304:=by
    have:=tC p[i];have:=nR (List.getElem_mem hi);omega
   have HX:=hide (List.getElem?_eq_getElem hi);clear hmr hr hmm hf;generalize p[i]=x at *
   go_wp2
   go_loop [8] (fun s8=>∃k:Nat,k≤x.aB.length∧s8= .int .i64 k∧∀(j:Nat) (hj:j<x.aB.length),j<k→x.aB[j].slot≠slot) (fun s8=>x.aB.length-(intOf s8).toNat)
   case atStart=>exact ⟨0,Nat.zero_le _,rfl,fun j _ h=>absurd h (Nat.not_lt_zero j)⟩
   case round=>
    obtain⟨k,hk,rfl,hno⟩:=hrel;have fK:=hide hno;clear hno
    by_cases hlt:k<x.aB.length
    ·obtain rfl:=hma (bJ hlt)
     by_cases hq:x.aB[k].slot=slot
     ·have TU:(x.aB[k].slot == slot)=true:=by simpa using hq
      have HQ:=hide hq;clear hq
      go_wp2
      go_ret2
      exact⟨by simp [qE,ah HM,Iq p hs slot (by omega) (ah HX),acw hlt (ah HQ) (ah fK)],hbel⟩
     ·have TU:(x.aB[k].slot == slot)=false:=by simpa using hq
      go_wp2
      go_round
      case rel=>exact ⟨k+1,by omega,by go_num,fun j hj h=>by
       rcases Nat.lt_or_ge j k with g | g
       ·exact ah fK j hj g
       ·obtain rfl:j=k:=by omega
        exact hq⟩
      case measure=>simp [intOf];omega
    ·go_wp2
     have hsup:=pV (hs i x (by omega) (ah HX));exact⟨⟨x.sup,hsup.1,by omega,rfl,by rw [ah HM,Iq p hs slot (by omega) (ah HX),acv fun j hj=>ah fK j hj (by omega)]⟩,by simp [intOf];omega⟩
section
variable {P : Program} {w : World}

theorem P6 {o:Oper}{a:Act}{K:Act→World→Prop}{Q:Exit→Act→World→Prop}(s x:Operand)(t:TypeId)
  (ho:o.op= .call { callee:=.builtin .append,args:= #[s,x],argTypes:= #[t,t] })
  (base:Nat) (e:TypeId) (i:TypeInfo) (z:Value) (size bytes:Nat) (ht:P.underlying t=some (.slice e)) (hi:P.info? e=some i) (hz:i.zero=some z)
  (hsize:i.size=size) (hby:i.bytes=bytes) (hzs:z.cells.size=size) (hsz:0<size)
  (v:Value) (n:Nat) (xs:List Value) (hs:a.eval s=v) (hown:w.ownsRow base e size v n xs)
  (sa:Option Addr) (m c:Nat) (news:List Value) (hx:a.eval x= .slice sa m c) (hl:news.length=m*size) (hnil:sa=none→m=0∧c=0)
  (hnews:∀ad,sa=some ad→∀j u,news[j]? =some u→w.cell? (ad.add j)=some u) (h1:∀u∈news,u.oneCell'=true)
  (h63:n+m≤maxLen) (hbytes:(n+m)*bytes≤140737488355328) (hbase:base≤w.heap.size)
  (h:∀v' w',w'.ownsRow base e size v' (n+m) (xs++news)→w.grownBy w' v.ownBlock→(v'.ownBlock=v.ownBlock∨v'.ownBlock=some w.heap.size)→K (a.put o.dst v') w'):o.wp P a w K Q:=by
 cases sa with
 | none =>
  obtain⟨rfl,rfl⟩:=hnil rfl;obtain rfl:news= []:=List.eq_nil_of_length_eq_zero (by simpa using hl);have hr:=run_append_owned_none (P:=P) (w:=w) base t o.type e i size ht hi v n xs hown;unfold Oper.wp execOp;simp only [ho,resolve,invoke,builtin,Sem.run_bind,Sem.run_pure,Result.andThen_ok,List.map_toArray,List.map_cons,List.map_nil,hs,hx,hr];exact h v w (by simpa using hown) ⟨rfl,rfl,rfl,Nat.le_refl _,fun _ _ _=>rfl⟩ (.inl rfl)
 | some ad =>
  obtain⟨v',w',hr,h2,h3,_,h5⟩:=run_append_own_at (P:=P) w base t o.type e i z size bytes ht hi hz hsize hby hzs hsz v n xs hown ad m c news hl (hnews ad rfl) h1 h63 hbytes hbase;unfold Oper.wp execOp;simp only [ho,resolve,invoke,builtin,Sem.run_bind,Sem.run_pure,Result.andThen_ok,List.map_toArray,List.map_cons,List.map_nil,hs,hx,hr];exact h v' w' h2 h3 h5

theorem Md {ops:Array Oper}{rest:List Oper}{o:Oper}{a:Act}{Q:Exit→Act→World→Prop}(hgd:o.guard=none)(s x:Operand)(t:TypeId)
  (ho:o.op= .call { callee:=.builtin .append,args:= #[s,x],argTypes:= #[t,t] })
  (base:Nat) (e:TypeId) (i:TypeInfo) (z:Value) (size bytes:Nat) (ht:P.underlying t=some (.slice e)) (hi:P.info? e=some i) (hz:i.zero=some z)
  (hsize:i.size=size) (hby:i.bytes=bytes) (hzs:z.cells.size=size) (hsz:0<size)
  (v:Value) (n:Nat) (xs:List Value) (hs:a.eval s=v) (hown:w.ownsRow base e size v n xs)
  (sa:Option Addr) (m c:Nat) (news:List Value) (hx:a.eval x= .slice sa m c) (hl:news.length=m*size) (hnil:sa=none→m=0∧c=0)
  (hnews:∀ad,sa=some ad→∀j u,news[j]? =some u→w.cell? (ad.add j)=some u) (h1:∀u∈news,u.oneCell'=true)
  (h63:n+m≤maxLen) (hbytes:(n+m)*bytes≤140737488355328) (hbase:base≤w.heap.size)
  (h:∀v' w',w'.ownsRow base e size v' (n+m) (xs++news)→w.grownBy w' v.ownBlock→(v'.ownBlock=v.ownBlock∨v'.ownBlock=some w.heap.size)→wpList P ops Q rest (a.put o.dst v') w'):wpList P ops Q (o::rest) a w:=
 wpList_plain hgd fun _ hK=>P6 s x t ho base e i z size bytes ht hi hz hsize hby hzs hsz v n xs hs hown sa m c news hx hl hnil hnews h1 h63 hbytes hbase fun v' w' h2 h3 h4=>hK _ _ (h v' w' h2 h3 h4)
end

theorem own_base {w:World}{base base':Nat}{e:TypeId}{size:Nat}{v:Value}{n:Nat}{xs:List Value}(h:w.ownsRow base e size v n xs)(hb:base'≤base):w.ownsRow base' e size v n xs:=by
 refine⟨h.1,?_⟩
 rcases h.2 with g | ⟨g,cap,cur,h1,h2,h3⟩
 ·exact .inl g
 ·exact .inr ⟨g,cap,cur,h1,Nat.le_trans hb h2,h3⟩
theorem cZ {w:World}{base:Nat}{e:TypeId}{size:Nat}{v:Value}{n:Nat}{xs:List Value}(h:w.ownsRow base e size v n xs):∃a cap,v= .slice a n cap:=by
 rcases h.2 with ⟨rfl,rfl⟩ | ⟨g,cap,cur,rfl,_⟩
 ·exact⟨_,_,rfl⟩
 ·exact⟨_,_,rfl⟩
theorem wC (l:List Int):∀u∈l.map (Value.int .i64),u.oneCell'=true:=by
 intro u hu;obtain⟨x,_,rfl⟩:=List.mem_map.1 hu
 rfl
end Go.Proofs.YtiiokkllmchohaaGreat
namespace Go.Proofs.YtiiokkllmchohaaGreat
open Go.RowKit
attribute [local go_sem ↓] Go.wp_at_zero Go.wp_at_succ
theorem infoType:(Tryz.prog.info? 43).map (fun i=>(i.zero,i.size,i.bytes))=some (some (.int .i64 0),1,8):=by kernel_rfl

theorem II (p:List aj)(n:Nat)(hs:aU p n)(hn:n≤p.length)(hz:bn p≤4194304):∀(c:Nat) (vc:Value) (w:World),aX w vc p→c<n→
  Calls Tryz.prog 92 #[.agg #[vc],.int .i64 c] w fun e w'=>∃v',e= .returned v'∧
   w'.ownsRow w.heap.size 43 1 v' (fieldsOf p c).length ((fieldsOf p c).map (Value.int .i64))∧Below w.heap.size w w':=by
 intro c
 induction c using Nat.strongRecOn with
 | ind c ih =>
  intro vc w hp hcn;have IH:=hide ih;clear ih;obtain⟨i0,hi0,hz0,hz1,hz2⟩:=info_parts infoType;obtain⟨a,b,off,cap,rfl,hcap,ha,hr⟩:=aZ hp;have hi:c<p.length:=by omega
  obtain rfl:=ha (bJ hi);have hX:=List.getElem?_eq_getElem hi;have hsup:=pV (hs c _ hcn hX);have hfz:=NR p hs hcn;have HF:=hide (Kt p hs hcn hX);have HX:=hide hX;clear hX;obtain⟨vf,vm,c0,c1,c2,hf,hmm⟩:=hr c hi
  have hlen:p[c].fields.length≤4194304:=by
   have:=Bh p[c];have:=nR (List.getElem_mem hi);omega
  obtain⟨fa,aG,rfl,hnil,hsrc⟩:=rH hf;have hlt:=cell_lt c0;clear hr hmm;generalize p[c]=x at *;have HR:=hide hsrc;have HN:Hid (fa=none→x.fields.length=0∧aG=0):=fun e=>⟨by rw [(hnil e).1];rfl,(hnil e).2⟩;have h63:x.fields.length≤maxLen:=by unfold maxLen;omega
  have Wn:=hide hf;clear hsrc hnil hf
  rcases Nat.eq_zero_or_pos c with h0 | hpos
  ·have hpos':¬(0:Int)<(c:Int):=by omega
   have agV:x.sup<0:=by omega
   have H0:=hide h0;clear h0;go_enter Tryz.func92,Tryz.ntmps92
   go_wp2_with (at_builtin;refine Md rfl (.tmp 16) (.tmp 22) 40 rfl w.heap.size 43 i0 (.int .i64 0) 1 8 Tryz.underlying40 hi0 hz0 hz1 hz2 rfl (by decide) (.slice none 0 0) 0 [] rfl (World.ownsRow_nil _ _ _ _) fa x.fields.length aG (x.fields.map (Value.int .i64)) rfl (by rw [List.length_map,Nat.mul_one]) (ah HN) (fun ad e j u h=>zW w _ _ _ (ah HR ad e j u h)) (wC _) (by rw [Nat.zero_add];exact h63) (by omega) (aS w _).size ?_;intro v' w' hown hgr hat)
   go_ret;refine⟨_,rfl,?_,(aS w _).grown hgr (aS w _).size (fun k e=>by cases e)⟩;rw [ah HF,Hu p agV];simpa using hown
  ·have hpos':(0:Int)<(c:Int):=by omega
   obtain⟨k,hk⟩:=Int.eq_ofNat_of_zero_le (PO hpos (hs c x hcn (ah HX))).1;have hkc:k<c:=by omega
   rw [hk] at c0 HF;clear hk hsup;go_enter Tryz.func92,Tryz.ntmps92
   go_wp2_with fail
   generalize hW:w.alloc _=W;have hbel:Below w.heap.size w W:=hW▸aS _ _;have hbox:W.cell? ⟨w.heap.size,0,none⟩=some (.slice (some ⟨b,off,none⟩) p.length cap):=hW▸iK w #[.slice (some ⟨b,off,none⟩) p.length cap] 24 0;clear hW;have hsz:=hbel.size;have d0:=Keeps.of_below hbel _ _ c0;have d1:=Keeps.of_below hbel _ _ c1;have uN:=aP (Keeps.of_below hbel) hp;have jR:=hide uN;clear uN;have hci:(c:Int)<(p.length:Int):=by omega
   have hc0:(0:Int)≤(c:Int):=by omega
   go_region_held3 (fun w'=>w'.cell? ⟨w.heap.size,0,none⟩=some (.slice (some ⟨b,off,none⟩) p.length cap)∧w'.cell? ⟨b,off+c*3,none⟩=some (.int .i64 (k:Int)))
    (first | go_keep | (exact⟨Keeps.of_below hb1 _ _ (by simpa using hbox),Keeps.of_below hb1 _ _ (by simpa using d0)⟩))
    (first | ((go_at_call 92;refine (ah IH k hkc _ _ ?_ ?_).mono ?_);(exact aP (Keeps.of_below ((Below.refl _ _).drew)) (ah jR));omega;rintro e w1 ⟨v1,rfl,hown1,hb1⟩))
   have hW1:Below w.heap.size w w1:=hbel.drew.trans (hb1.mono hsz);have e0:w1.cell? ⟨w.heap.size,0,none⟩=some (.slice (some ⟨b,off,none⟩) p.length cap):=Keeps.of_below hb1 _ _ hbox;have e1:w1.cell? ⟨b,off+c*3+1,none⟩=some (.slice fa x.fields.length aG):=Keeps.of_below hb1 _ _ d1
   have hfl:(fieldsOf p k).length+x.fields.length≤4194304:=by
    have:=ah HF;rw [this,List.length_append] at hfz;omega
   have hown2:w1.ownsRow w.heap.size 43 1 v1 (fieldsOf p k).length ((fieldsOf p k).map (Value.int .i64)):=own_base hown1 (by simpa using hsz);have HB1:=hide hb1;clear hown1 hb1 d0 d1 c0 c1 hbox hfz;go_wp2_with (at_builtin;refine Md rfl (.tmp 16) (.tmp 22) 40 rfl w.heap.size 43 i0 (.int .i64 0) 1 8 Tryz.underlying40 hi0 hz0 hz1 hz2 rfl (by decide) v1 _ _ rfl hown2 fa x.fields.length aG (x.fields.map (Value.int .i64)) rfl (by rw [List.length_map,Nat.mul_one]) (ah HN) (fun ad e j u h=>Keeps.of_below hW1 _ _ (ah HR ad e j u h)) (wC _) (by unfold maxLen;omega) (by omega) hW1.size ?_;intro v' w' hown hgr hat)
   go_ret;refine⟨_,rfl,?_,hW1.grown hgr hW1.size (fun j e=>(hown2.lt j e).1)⟩;rw [ah HF,List.map_append,List.length_append];exact hown
end Go.Proofs.YtiiokkllmchohaaGreat
namespace Go.Proofs.YtiiokkllmchohaaGreat
open Go.RowKit
structure ay (S:Nat→Prop)(w w':World):Prop where
 os:w'.os=w.os
 tape:w'.tape=w.tape
 output:w'.output=w.output
 size:w.heap.size≤w'.heap.size
 block:∀k,k<w.heap.size→¬S k→w'.heap[k]? =w.heap[k]?

theorem ay.refl (S:Nat→Prop)(w:World):ay S w w:=⟨rfl,rfl,rfl,Nat.le_refl _,fun _ _ _=>rfl⟩
theorem ay.trans {S T:Nat→Prop}{a b c:World}(h:ay S a b)(k:ay T b c)(hT:∀i,i<a.heap.size→T i→S i):ay S a c:=
 ⟨k.os.trans h.os,k.tape.trans h.tape,k.output.trans h.output,Nat.le_trans h.size k.size,fun i hi hs=>(k.block i (Nat.lt_of_lt_of_le hi h.size) (fun t=>hs (hT i hi t))).trans (h.block i hi hs)⟩
theorem ay.mono {S T:Nat→Prop}{a b:World}(h:ay S a b)(hT:∀i,i<a.heap.size→S i→T i):ay T a b:=
 ⟨h.os,h.tape,h.output,h.size,fun i hi hs=>h.block i hi (fun t=>hs (hT i hi t))⟩
theorem ay.alloc {S:Nat→Prop}{a w:World}(h:ay S a w)(o:Obj):ay S a (w.alloc o):=
 h.trans (T:=fun _=>False) ⟨rfl,rfl,rfl,by simp,fun i hi _=>Below.heap_alloc _ _ _ hi⟩ (fun _ _ f=>f.elim)
theorem ay.drew {S:Nat→Prop}{a w:World}(h:ay S a w):ay S a w.drew:=⟨h.os,h.tape,h.output,h.size,h.block⟩
theorem ay.setCell {S:Nat→Prop}{a w:World}(h:ay S a w){p:Addr}(hp:p.block<a.heap.size→S p.block)(u:Value):ay S a (w.setCell p u):=
 h.trans (T:=fun k=>k=p.block) ⟨rfl,rfl,rfl,by simp [World.setCell],fun i _ hs=>Below.heap_setCell _ _ _ _ hs⟩ (fun i hi e=>by subst e;exact hp hi)
theorem ay.grown {S:Nat→Prop}{a w w':World}{row:Option Nat}(h:ay S a w)(hg:w.grownBy w' row)(hr:∀k,row=some k→k<a.heap.size→S k):ay S a w':=
 h.trans (T:=fun k=>row=some k) ⟨hg.os,hg.tape,hg.output,hg.size,fun i hi hs=>hg.block i hi (fun e=>hs e.symm)⟩ (fun i hi e=>hr i e hi)
theorem ay.of_below {B:Nat}{w w':World}(h:Below B w w'):ay (fun k=>B≤k) w w':=⟨h.os,h.tape,h.output,h.size,fun i _ hs=>h.block i (by omega)⟩
theorem ay.below {S:Nat→Prop}{w w':World}{B:Nat}(h:ay S w w')(hB:B≤w.heap.size)(hS:∀k,k<B→¬S k):Below B w w':=⟨h.os,h.tape,h.output,h.size,fun i hi=>h.block i (by omega) (hS i hi)⟩
theorem ay.cell {S:Nat→Prop}{w w':World}(h:ay S w w'){p:Addr}{v:Value}(e:w.cell? p=some v)(hp:¬S p.block):w'.cell? p=some v:=by
 rw [World.cell?_of_block (w:=w) (h.block p.block (cell_lt e) hp)];exact e

def ak (w:World)(b:Nat)(t:TypeId)(cs:List Value):Prop:=w.heap[b]? =some (.cells cs.toArray t (0,0))
section
variable {w w' : World} {b : Nat} {t : TypeId} {cs : List Value}
theorem ak.lt (h:ak w b t cs):b<w.heap.size:=(Array.getElem?_eq_some_iff.1 h).1
theorem ak.cell (h:ak w b t cs)(i:Nat):w.cell? ⟨b,i,none⟩=cs[i]? :=by
 unfold ak at h;simp [World.cell?,h]
theorem ak.frozen (h:ak w b t cs)(i:Nat):w.frozen? ⟨b,i,none⟩=false:=by
 unfold ak at h;simp [World.frozen?,h]
theorem ak.mods {S:Nat→Prop}(h:ak w b t cs)(m:ay S w w')(hb:¬S b):ak w' b t cs:=(m.block b h.lt hb).trans h
theorem ak.alloc (h:ak w b t cs)(o:Obj):ak (w.alloc o) b t cs:=(Below.heap_alloc w o b h.lt).trans h
theorem ak.drew (h:ak w b t cs):ak w.drew b t cs:=h
theorem ak.setCell (h:ak w b t cs)(i:Nat)(v:Value):ak (w.setCell ⟨b,i,none⟩ v) b t (cs.set i v):=by
 have:=setCell_eq_setRow w b i cs.toArray t (0,0) v h;unfold ak;rw [this,setRow_heap w b cs.toArray _ t (0,0) h];simp
theorem ak.iq (h:ak w b t cs){p:Addr}(hp:b≠p.block)(v:Value):ak (w.setCell p v) b t cs:=(Below.heap_setCell w p v b hp).trans h
theorem ak.uniq {t':TypeId}{cs':List Value}(h:ak w b t cs)(h':ak w b t' cs'):t=t':=by
 unfold ak at h h';rw [h] at h'
 injection h' with e
 injection e
theorem ak.new (w:World)(cs:Array Value)(t:TypeId):ak (w.alloc (.cells cs t)) w.heap.size t cs.toList:=by
 unfold ak
 show (w.heap.push (Obj.cells cs t))[w.heap.size]? =_
 rw [Array.getElem?_push_size]
theorem lD {base:Nat}{e:TypeId}{size:Nat}{v:Value}{n:Nat}{xs:List Value}(h:w.ownsRow base e size v n xs){g:Nat}(hg:v.ownBlock=some g):∃cur,ak w g e cur:=by
 rcases h.2 with ⟨rfl,_⟩ | ⟨g',cap,cur,rfl,_,h3,_⟩
 ·cases hg
 ·cases hg
  exact⟨cur.toList,by unfold ak;simpa using h3⟩
theorem eP {base:Nat}{e:TypeId}{size:Nat}{v:Value}{n:Nat}{xs:List Value}{S:Nat→Prop}(h:w.ownsRow base e size v n xs)(m:ay S w w')(hv:∀g,v.ownBlock=some g→¬S g):w'.ownsRow base e size v n xs:=by
 refine⟨h.1,?_⟩
 rcases h.2 with g | ⟨g,cap,cur,h1,h2,h3,h4⟩
 ·exact .inl g
 ·subst h1;exact .inr ⟨g,cap,cur,rfl,h2,(m.block g (Array.getElem?_eq_some_iff.1 h3).1 (hv g rfl)).trans h3,h4⟩
end

theorem Jg {P:Program}{w:World}{ops:Array Oper}{rest:List Oper}{o:Oper}{a:Act}{Q:Exit→Act→World→Prop}
  (hg:o.guard=none) (l c:Operand) (t:TypeId) (hop:o.op=Op.makeSlice t l c)
  (e:TypeId) (i:TypeInfo) (z:Value) (size bytes:Nat) (h1:P.underlying t=some (.slice e)) (h2:P.info? e=some i) (h3:i.zero=some z) (h4:i.size=size) (h5:i.bytes=bytes)
  (kl kc:IntKind) (L:Int) (n:Nat) (hl:a.eval l= .int kl L) (hc:a.eval c= .int kc L) (hL:L=(n:Int)) (b2:bytes*n≤281474976710656) (b3:n≤4611686018427387904)
  (hK:∀w',ak w' w.heap.size e (madeCells z.cells (n*size)).toList→ay (fun _=>False) w w'→w'.heap.size=w.heap.size+1→wpList P ops Q rest (a.put o.dst (.slice (some ⟨w.heap.size,0,none⟩) n n)) w') :
  wpList P ops Q (o::rest) a w:=by
 refine wpList_plain hg fun K hK'=>?_;subst hL h4 h5
 have hb':(i.bytes:Int)*(n:Int)≤281474976710656:=by
  have h:((i.bytes*n:Nat):Int)≤281474976710656:=by omega
  rwa [Int.natCast_mul] at h
 have hr:=run_make (P:=P) w t e i z h1 h2 h3 kl kc n n (by omega) (Int.le_refl _) hb' (by omega);simp only [Int.toNat_natCast] at hr;unfold Oper.wp;simp [execOp,hop,hl,hc,hr,Result.andThen];exact hK' _ _ (hK _ (ak.new _ _ _) ((ay.refl _ _).alloc _) (by simp))

theorem qN {P:Program}{W:World}(t ty e:TypeId)(i:TypeInfo)(z:Value)(size bytes:Nat)(ht:P.underlying t=some (.slice e))(hi:P.info? e=some i)(hz:i.zero=some z)
  (hsize:i.size=size) (hby:i.bytes=bytes) (hzs:z.cells.size=size) (hsz:0<size) (base:Nat) (v:Value) (n:Nat) (xs:List Value) (hown:W.ownsRow base e size v n xs)
  (news:Array Value) (hl:news.size=size) (h1:∀u∈news.toList,u.oneCell'=true) (H:Nat) (hH:W.heap.size=H) (h63:n+1≤maxLen) (hbytes:(n+1)*bytes≤140737488355328) (hbase:base≤W.heap.size) :
  ∃v' W',(Builtin.append_ #[t,t] ty #[v,.slice (some ⟨H,0,none⟩) 1 1]).run P (W.alloc (.cells news e))= .ok v' W'∧W'.ownsRow base e size v' (n+1) (xs++news.toList)∧
   ay (fun k=>v.ownBlock=some k) W W'∧(v'.ownBlock=v.ownBlock∨∃k,H≤k∧v'.ownBlock=some k):=by
 subst hH
 obtain⟨v',w',hr,h2,h3,_,h5⟩:=run_append_own_at (P:=P) (W.alloc (.cells news e)) base t ty e i z size bytes ht hi hz hsize hby hzs hsz v n xs (eP hown ((ay.refl (fun _=>False) W).alloc _) (fun _ _ f=>f)) ⟨W.heap.size,0,none⟩ 1 1 news.toList (by simpa using hl)
  (fun j u h=>by
    have:=(ak.new W news e).cell j;rw [show (⟨W.heap.size,0,none⟩:Addr).add j=⟨W.heap.size,j,none⟩ by unfold Addr.add;split <;> simp_all,this]
    exact h) h1 h63 hbytes (by simp;omega)
 refine⟨v',w',hr,h2,((ay.refl _ W).alloc _).grown h3 (fun k e _=>e),?_⟩
 rcases h5 with h5 | h5
 ·exact .inl h5
 ·exact .inr ⟨_,by simp,h5⟩

theorem wpList_append_run {P:Program}{w:World}{ops:Array Oper}{rest:List Oper}{o:Oper}{a:Act}{Q:Exit→Act→World→Prop}(hgd:o.guard=none)(s x:Operand)(t:TypeId)
  (ho:o.op= .call { callee:=.builtin .append,args:= #[s,x],argTypes:= #[t,t] }) (v u:Value) (hs:a.eval s=v) (hx:a.eval x=u) {v':Value} {w':World}
  (hr:(Builtin.append_ #[t,t] o.type #[v,u]).run P w= .ok v' w') (h:wpList P ops Q rest (a.put o.dst v') w'):wpList P ops Q (o::rest) a w:=by
 refine wpList_plain hgd fun K hK=>?_;unfold Oper.wp execOp;simp only [ho,resolve,invoke,builtin,Sem.run_bind,Sem.run_pure,Result.andThen_ok,List.map_toArray,List.map_cons,List.map_nil,hs,hx,hr];exact hK _ _ h

theorem YE {P:Program}{w:World}(t ty e:TypeId)(i:TypeInfo)(size:Nat)(ht:P.underlying t=some (.slice e))(hi:P.info? e=some i)(hsize:i.size=size)
  (g dLen dCap:Nat) (sa:Option Addr) (m c:Nat) (hm:m≤dLen) (hnil:sa=none→m=0∧c=0) (cs:List Value) (hl:cs.length=m*size)
  (hsrc:∀ad,sa=some ad→∀j v,cs[j]? =some v→w.cell? (ad.add j)=some v) (et:TypeId) (cur:List Value) (hg:ak w g et cur) (hfit:cs.length≤cur.length) (h1:∀v∈cs,v.oneCell'=true) :
  ∃w',(Builtin.copy_ #[t,t] ty #[.slice (some ⟨g,0,none⟩) dLen dCap,.slice sa m c]).run P w= .ok (goInt m) w'∧ak w' g et (cs++cur.drop cs.length)∧ay (fun k=>k=g) w w'∧w'.heap.size=w.heap.size:=by
 subst hsize;have hmin:Nat.min m dLen=m:=Nat.min_eq_left hm
 cases sa with
 | none =>
  obtain⟨rfl,rfl⟩:=hnil rfl;obtain rfl:cs= []:=List.eq_nil_of_length_eq_zero (by simpa using hl);refine⟨w,?_,by simpa using hg,ay.refl _ _,rfl⟩;simp [Builtin.copy_,run_underlying ht,Builtin.lenOf,Builtin.firstCells,sizeOf,typeInfo,hi,storeCells]
 | some ad =>
  have hld:=run_loadCells_list (P:=P) w ad cs (hsrc ad rfl);have hst:=run_storeCells_at P g 0 et cs 0 cur.toArray w hg (by simpa using hfit) h1;simp only [Nat.zero_add,List.take_zero,List.nil_append] at hst;refine⟨w.setRow g (cs++cur.drop cs.length).toArray,?_,setRow_heap w g cur.toArray _ et (0,0) hg,⟨rfl,rfl,rfl,by simp [World.setRow],fun k _ hk=>setRow_other w g k _ hk⟩,by simp [World.setRow]⟩
  ·simp [Builtin.copy_,run_underlying ht,Builtin.lenOf,Builtin.firstCells,sizeOf,typeInfo,hi,hmin,←hl,hld,hst]
theorem aaQ:(Tryz.prog.info? 40).map (fun i=>(i.zero,i.size,i.bytes))=some (some (.slice none 0 0),1,24):=by kernel_rfl

def ug (w:World)(bh:Nat)(cs:List Value):Prop:=ak w bh 53 cs∧cs.length=19
structure JE (w w':World)(bh:Nat)(cs:List Value)(vt:Value)(B:Nat)(ts:List (Nat×Nat))(l:List Int)(g:Nat)(jD:Value):Prop where
 new:w.heap.size≤g
 blk:ak w' g 43 (l.map (Value.int .i64)++ [.int .i64 (-77000000)])
 hands:ug w' bh (cs.set 0 jD)
 row:w'.ownsRow B 40 1 jD (ts.length+1) ((ts++ [(g,l.length+1)]).map fun e=>.slice (some ⟨e.1,0,none⟩) e.2 e.2)
 mods:ay (fun k=>k=bh∨vt.ownBlock=some k) w w'
 lies:jD.ownBlock=vt.ownBlock∨∃k,w.heap.size≤k∧jD.ownBlock=some k
def rW (e:Nat×Nat):Value:=.slice (some ⟨e.1,0,none⟩) e.2 e.2

theorem ajQ {α :Type}(A:List α)(x y: α)(n:Nat)(h:A.length=n):(A++ [x]).set n y=A++ [y]:=by subst h;simp
theorem ahQ {w w1:World}{i0:TypeInfo}(hi0:Tryz.prog.info? 43=some i0)(hz1:i0.size=1)(l:List Int)(la:Option Addr)(fG:Nat)(hnil:la=none→l.length=0∧fG=0)
  (hsrc:∀ad,la=some ad→∀(j:Nat) (u:Value),(l.map (Value.int .i64))[j]? =some u→w.cell? (ad.add j)=some u)
  (hb1:ak w1 w.heap.size 43 (madeCells (Value.int .i64 0).cells ((l.length+1)*1)).toList) (hm1:ay (fun _=>False) w w1) (hs1:w1.heap.size=w.heap.size+1) :
  ∃w2,(Builtin.copy_ #[40,40] 3 #[.slice (some ⟨w.heap.size,0,none⟩) (l.length+1) (l.length+1),.slice la l.length fG]).run Tryz.prog w1= .ok (goInt l.length) w2∧
   ay (fun _=>False) w w2∧ak w2 w.heap.size 43 (l.map (Value.int .i64)++ [.int .i64 0])∧w2.heap.size=w.heap.size+1:=by
 have hcur:(madeCells (Value.int .i64 0).cells ((l.length+1)*1)).toList=List.replicate (l.length+1) (Value.int .i64 0):=by
  rw [Nat.mul_one];exact toList_madeCells_one _ _
 rw [hcur] at hb1;obtain⟨w2,hcopy,hb2,hm2,hs2⟩:=YE (P:=Tryz.prog) 40 3 43 i0 1 Tryz.underlying40 hi0 hz1 w.heap.size (l.length+1) (l.length+1) la l.length fG (by omega) hnil (l.map (Value.int .i64)) (by simp) (fun ad e j u h=>hm1.cell (hsrc ad e j u h) (fun f=>f)) 43 _ hb1 (by simp) (wC _);refine⟨w2,hcopy,hm1.trans hm2 (fun i hi e=>by omega),?_,by omega⟩;simpa using hb2

theorem OL (l:List Int)(va:Value)(w:World)(bh:Nat)(cs:List Value)(vt:Value)(B:Nat)(ts:List (Nat×Nat))(hl:aV 1 (jL w) va l)(hh:ug w bh cs)(h0:cs[0]? =some vt)
  (hrow:w.ownsRow B 40 1 vt ts.length (ts.map rW)) (hB:B≤w.heap.size) (hbB:bh<B) (hlen:l.length≤1048576) (hts:ts.length+1≤16777216) :
  Calls Tryz.prog 83 #[.pointer (some ⟨bh,0,none⟩),va] w fun e w'=>∃g,e= .returned (.slice (some ⟨g,0,none⟩) l.length (l.length+1))∧∃jD,JE w w' bh cs vt B ts l g jD:=by
 obtain⟨i0,hi0,hz0,hz1,hz2⟩:=info_parts infoType;obtain⟨i1,hi1,hy0,hy1,hy2⟩:=info_parts aaQ;obtain⟨la,fG,rfl,hnil,hsrc⟩:=rH hl;have adi:Hid (la=none→l.length=0∧fG=0):=fun e=>⟨by rw [(hnil e).1];rfl,(hnil e).2⟩;have adq:=hide hsrc;have hform:=cZ hrow;obtain⟨ta,D8,rfl⟩:=hform;clear hsrc hnil hl;go_enter Tryz.func83,Tryz.ntmps83
 go_wp2_with (first
  | (at_make; refine Jg rfl (.tmp 8) (.tmp 8) 40 rfl 43 i0 (.int .i64 0) 1 8 Tryz.underlying40 hi0 hz0 hz1 hz2 _ _ _ (l.length + 1) rfl rfl (by omega) (by omega) (by omega) ?_; intro w1 hb1 hm1 hs1
     obtain⟨w2,hcopy,hM2,hb3,hsz2⟩:=ahQ hi0 hz1 l la fG (ah adi) (ah adq) hb1 hm1 hs1;have c2:w2.cell? ⟨w.heap.size,l.length,none⟩=some (.int .i64 0):=by rw [hb3.cell];simp
     have f2:=hb3.frozen l.length;have hh2:=hh.1.mods hM2 (fun f=>f);have k0:w2.cell? ⟨bh,0,none⟩=some (.slice ta ts.length D8):=by rw [hh2.cell];exact h0
     have k1:=hh2.frozen 0;have hne:bh≠w.heap.size:=by omega
     have HB3:=hide hb3;have HH2:=hide hh2;have lW:=hide hM2;obtain⟨jD,w4,happ,hown4,hm4,Fb⟩:=qN (P:=Tryz.prog) (W:=w2.setCell ⟨w.heap.size,l.length,none⟩ (.int .i64 (-77000000))) 45 45 40 i1 (.slice none 0 0) 1 24 Tryz.underlying45 hi1 hy0 hy1 hy2 rfl (by decide) B (.slice ta ts.length D8) ts.length (ts.map rW) (eP hrow (hM2.setCell (fun h=>Nat.lt_irrefl _ h) _) (fun _ _ f=>f)) #[.slice (some ⟨w.heap.size,0,none⟩) (l.length+1) (l.length+1)] rfl (by simp [Value.oneCell']) (w.heap.size+1) (by simp [hsz2]) (by unfold maxLen;omega) (by omega) (by simp [hsz2];omega);obtain⟨ta',LZ,rfl⟩:=cZ hown4
     have OE:∀k,(Value.slice ta ts.length D8).ownBlock=some k→B≤k∧k<w.heap.size:=hrow.lt;have yT:=(hh2.iq (p:=⟨w.heap.size,l.length,none⟩) hne (.int .i64 (-77000000))).mods hm4 (fun e=>by have:=OE _ e;omega);have j0:w4.cell? ⟨bh,0,none⟩=some (.slice ta ts.length D8):=by rw [yT.cell];exact h0
     have j1:=yT.frozen 0;have HX4:=hide ((hb3.setCell l.length (.int .i64 (-77000000))).mods hm4 (fun e=>by have:=OE _ e;omega));have Gq:=hide hm4;have Jt:=hide hown4;have MK:=hide Fb;have ac5:=hide yT;have HRN:=hide OE
     clear hb1 hm1 hs1 hb3 hh2 hM2 hm4 hown4 Fb yT OE)
  | (at_builtin; refine wpList_append_run rfl (.tmp 21) (.tmp 23) 45 rfl _ _ rfl rfl happ ?_))
 go_ret;refine⟨w.heap.size,rfl,.slice ta' (ts.length+1) LZ,?_⟩;have hne2:w.heap.size≠bh:=fun e=>hne e.symm
 have hm:ay (fun k=>k=bh∨(Value.slice ta ts.length D8).ownBlock=some k) w (w4.setCell ⟨bh,0,none⟩ (.slice ta' (ts.length+1) LZ)):=
  ((((ah lW).setCell (p:=⟨w.heap.size,l.length,none⟩) (fun h=>Nat.lt_irrefl _ h) _).mono (fun _ _ f=>f.elim)).trans (ah Gq) (fun i hi e=>.inr e)).setCell (fun _=>.inl rfl) _
 have hh4:=(ah ac5).setCell 0 (.slice ta' (ts.length+1) LZ);have hrow4:=eP (S:=fun k=>k=bh) (ah Jt) ((ay.refl (fun k=>k=bh) w4).setCell (p:=⟨bh,0,none⟩) (fun _=>rfl) (.slice ta' (ts.length+1) LZ)) (fun g e=>by have:=(ah Jt).lt g e;omega);refine⟨Nat.le_refl _,?_,⟨hh4,by rw [List.length_set];exact hh.2⟩,?_,hm,?_⟩
 ·have:=(ah HX4).iq (p:=⟨bh,0,none⟩) hne2 (.slice ta' (ts.length+1) LZ)
  rwa [ajQ (l.map (Value.int .i64)) _ _ _ (by simp)] at this
 ·rw [List.map_append];exact hrow4
 ·rcases ah MK with h | ⟨k,h1,h2⟩
  ·exact .inl h
  ·exact .inr ⟨k,by omega,h2⟩
theorem YX {α β :Type}{f: α→List β}{s:Nat}(hf:∀x,(f x).length=s):∀(l:List α),(l.flatMap f).length=l.length*s
 | [] => by simp
 | x :: r => by
  rw [List.flatMap_cons,List.length_append,hf,YX hf r,List.length_cons,Nat.succ_mul,Nat.add_comm]
theorem flat_get {α β :Type}{f: α→List β}{s:Nat}(hf:∀x,(f x).length=s):∀(l:List α) (j r:Nat),r<s→(l.flatMap f)[j*s+r]? =(l[j]?).bind fun x=>(f x)[r]?
 | [], j, r, _ => by simp
 | x :: l, 0, r, hr => by
  rw [List.flatMap_cons,Nat.zero_mul,Nat.zero_add,List.getElem?_append_left (by rw [hf];exact hr)]
  rfl
 | x :: l, j + 1, r, hr => by
  rw [List.flatMap_cons,List.getElem?_append_right (by rw [hf,Nat.succ_mul];omega),hf,show (j+1)*s+r-s=j*s+r by rw [Nat.succ_mul];omega,flat_get hf l j r hr]
  rfl
def Fz (i:eF):List Value:= [.int .i64 i.op,.int .i64 i.a,.int .i64 i.b]
def codeCells (l:List eF):List Value:=l.flatMap Fz
theorem Aa (l:List eF):(codeCells l).length=l.length*3:=YX (f:=Fz) (s:=3) (fun _=>rfl) l
theorem aeA (l:List eF):∀u∈codeCells l,u.oneCell'=true:=by
 intro u hu;obtain⟨x,_,hx⟩:=List.mem_flatMap.1 hu;simp only [Fz,List.mem_cons,List.not_mem_nil,or_false] at hx
 rcases hx with rfl | rfl | rfl <;> rfl
theorem addr_add (b off j:Nat):(⟨b,off,none⟩:Addr).add j=⟨b,off+j,none⟩:=by unfold Addr.add;split <;> simp_all
theorem ae4 {g:Addr→Option Value}{v:Value}{l:List eF}(h:aV 3 (vw g) v l) :
  ∃(a:Option Addr) (cap:Nat),v= .slice a l.length cap∧(a=none→l.length=0∧cap=0)∧∀ad,a=some ad→∀(j:Nat) (u:Value),(codeCells l)[j]? =some u→g (ad.add j)=some u:=by
 obtain⟨a,b,off,cap,h1,h2,h3,h4⟩:=h;refine⟨a,cap,h1,fun e=>?_,fun ad e j u hu=>?_⟩
 ·rcases h3.2 with ⟨_,hc⟩ | hc | ⟨_,hc⟩
  ·exact⟨Nat.eq_zero_of_not_pos fun hn=>(by have:=h3.1 (List.ne_nil_of_length_pos hn);rw [e] at this;cases this),hc⟩
  ·rw [e] at hc;cases hc
  ·exact absurd e hc
 ·rcases h3.2 with ⟨hc,_⟩ | hc | ⟨hc,_⟩
  ·rw [e] at hc;cases hc
  ·rw [e] at hc;cases hc;have hj:j=j / 3*3+j % 3:=by omega
   rw [hj] at hu;unfold codeCells at hu;rw [flat_get (f:=Fz) (s:=3) (fun _=>rfl) l (j / 3) (j % 3) (by omega)] at hu
   cases hx:l[j / 3]? with
   | none => rw [hx] at hu; cases hu
   | some x =>
    rw [hx] at hu;obtain⟨i0,i1,i2⟩:=h4 (j / 3) x hx;simp only [Option.bind_some] at hu;rw [addr_add,hj];have hr:j % 3=0∨j % 3=1∨j % 3=2:=by omega
    rcases hr with hr | hr | hr <;> rw [hr] at hu ⊢ <;> simp only [Fz,List.getElem?_cons_zero,List.getElem?_cons_succ,Option.some.injEq] at hu <;> subst hu
    ·exact i0
    ·exact i1
    ·exact i2
  ·subst hc;simp [codeCells] at hu
theorem drop1 {l:List Value}{k:Nat}{a:Value}(hl:l.length=k+1)(h0:l[k]? =some a):l.drop k= [a]:=by
 rw [List.drop_eq_getElem_cons (by omega),List.drop_eq_nil_of_le (by omega)];have:=List.getElem?_eq_some_iff.1 h0;rw [this.2]
theorem drop_cons {l:List Value}{k:Nat}{a:Value}{r:List Value}(h0:l[k]? =some a)(hr:l.drop (k+1)=r):l.drop k=a::r:=by
 obtain⟨h1,h2⟩:=List.getElem?_eq_some_iff.1 h0;rw [List.drop_eq_getElem_cons h1,h2,hr]
theorem Sv {l:List Value}{k:Nat}{a b c:Value}(hl:l.length=k+3)(h0:l[k]? =some a)(h1:l[k+1]? =some b)(h2:l[k+2]? =some c):l.drop k= [a,b,c]:=
 drop_cons h0 (drop_cons h1 (drop1 (by omega) h2))
theorem afH {l:List Value}{k:Nat}{a b c d e f g:Value}(hl:l.length=k+7)(h0:l[k]? =some a)(h1:l[k+1]? =some b)(h2:l[k+2]? =some c)(h3:l[k+3]? =some d)(h4:l[k+4]? =some e)(h5:l[k+5]? =some f)(h6:l[k+6]? =some g) :
  l.drop k= [a,b,c,d,e,f,g]:=
 drop_cons h0 (drop_cons h1 (drop_cons h2 (drop_cons h3 (drop_cons h4 (drop_cons h5 (drop1 (by omega) h6))))))
def nO (l:List Value)(k:Nat)(a b c:Value):List Value:=((l.set k a).set (k+1) b).set (k+2) c
theorem uU (l:List Value)(k:Nat)(a b c:Value):(nO l k a b c).length=l.length:=by simp [nO]
theorem IQ {l:List Value}{k:Nat}{a b c:Value}(h:k+2<l.length):(nO l k a b c)[k]? =some a:=by
 unfold nO;rw [List.getElem?_set_ne (by omega),List.getElem?_set_ne (by omega),List.getElem?_set_self (by omega)]
theorem IW {l:List Value}{k:Nat}{a b c:Value}(h:k+2<l.length):(nO l k a b c)[k+1]? =some b:=by
 unfold nO;rw [List.getElem?_set_ne (by omega),List.getElem?_set_self (by simp;omega)]
theorem IX {l:List Value}{k:Nat}{a b c:Value}(h:k+2<l.length):(nO l k a b c)[k+2]? =some c:=by
 unfold nO;rw [List.getElem?_set_self (by simp;omega)]
theorem FP {l:List Value}{k j:Nat}{a b c:Value}(h:j<k∨k+2<j):(nO l k a b c)[j]? =l[j]? :=by
 unfold nO;rw [List.getElem?_set_ne (by omega),List.getElem?_set_ne (by omega),List.getElem?_set_ne (by omega)]
theorem UA (z:Array Value)(n j:Nat)(hj:j<n)(hz:0<z.size):(madeCells z n).toList[j]? =z[j % z.size]? :=by
 unfold madeCells;have:j % z.size<z.size:=Nat.mod_lt _ hz;simp [hj,this]
theorem Io (z:Array Value)(n:Nat):(madeCells z n).toList.length=n:=by simp [madeCells]
end Go.Proofs.YtiiokkllmchohaaGreat
namespace Go.Proofs.YtiiokkllmchohaaGreat
open Go.RowKit
attribute [local go_sem ↓] Go.wp_at_zero Go.wp_at_succ
theorem Pq (l:List Int)(v u:Value)(w:World)(hl:aV 1 (jL w) v l)(hr:aV 1 (jL w) u l)(hs:l.length≤8388608) :
  Calls Tryz.prog 86 #[v,u] w fun e w'=>e= .returned (.bool true)∧∃n,w'=w.drewN n:=by
 obtain⟨a,b,off,cap,rfl,hcap,ha,hc⟩:=jo hl;obtain⟨a',b',off',cap',rfl,hcap',ha',hc'⟩:=jo hr;have hne:((l.length:Int) == (l.length:Int))=true:=by simp
 go_enter Tryz.func86,Tryz.ntmps86
 go_wp2
 go_loopw [5] (fun i wr=>∃k:Nat,k≤l.length∧i= .int .i64 k∧∃n,wr=w.drewN n) (fun i _=>l.length-(intOf i).toNat)
 case atStart=>exact ⟨0,Nat.zero_le _,rfl,0,rfl⟩
 case round=>
  obtain⟨k,hk,rfl,nn,rfl⟩:=hrel
  by_cases hlt:k<l.length
  ·obtain rfl:=ha (bJ hlt);obtain rfl:=ha' (bJ hlt)
   go_wp2
   go_quiet (fail)
   go_wp2
   exact⟨⟨k+1,by omega,by go_num,nn+nq,by first | rfl | rw [World.drewN_drewN]⟩,by simp [intOf];omega⟩
  ·go_wp2
   go_ret;exact⟨rfl,_,rfl⟩
def uf (w w':World):Prop:=∃n,w'=w.drewN n
theorem uf.refl (w:World):uf w w:=⟨0,rfl⟩
theorem uf.step {w w':World}(h:uf w w')(n:Nat):uf w (w'.drewN n):=by
 obtain⟨k,rfl⟩:=h;exact⟨k+n,by rw [World.drewN_drewN]⟩
theorem uf.below {w w':World}(h:uf w w')(B:Nat):Below B w w':=by
 obtain⟨k,rfl⟩:=h;exact below_drewN (Below.refl _ _) _
theorem pR (w:World)(n:Nat):Keeps w (w.drewN n):=Keeps.of_below (below_drewN (Below.refl _ _) _)

theorem acf (l:List bF)(v u:Value)(w:World)(hl:aV 3 (Cb w) v l)(hr:aV 3 (Cb w) u l)(hs:(l.map iH).sum≤4194304) :
  Calls Tryz.prog 45 #[v,u] w fun e w'=>e= .returned (.bool true)∧∃n,w'=w.drewN n:=by
 have hlen:l.length≤4194304:=Nat.le_trans (Ls iH (fun f=>by unfold iH;omega) l) hs;obtain⟨a,b,off,cap,rfl,hcap,ha,hc⟩:=aZ hl;obtain⟨a',b',off',cap',rfl,hcap',ha',hc'⟩:=aZ hr;have HC:=hide hc;have HC':=hide hc';clear hc hc' hl hr;have hne:((l.length:Int) == (l.length:Int))=true:=by simp
 go_enter Tryz.func45,Tryz.ntmps45
 go_wp2
 go_loopw [5] (fun i wr=>∃k:Nat,k≤l.length∧i= .int .i64 k∧uf w wr) (fun i _=>l.length-(intOf i).toNat)
 case atStart=>exact ⟨0,Nat.zero_le _,rfl,uf.refl _⟩
 case round=>
  obtain⟨k,hk,rfl,hdr⟩:=hrel;have hkp:=Keeps.of_below (hdr.below _)
  by_cases hlt:k<l.length
  ·obtain rfl:=ha (bJ hlt);obtain rfl:=ha' (bJ hlt);obtain⟨vl,vs,c0,c1,c2,h1,h2⟩:=(ah HC k hlt).keep hkp;obtain⟨vl',vs',c0',c1',c2',h1',h2'⟩:=(ah HC' k hlt).keep hkp;have hfs:=Nat.le_trans (Lr iH l _ (List.getElem_mem hlt)) hs;generalize l[k]=f at *;have hll:f.locals.length≤8388608:=by unfold iH at hfs;omega
   have hsl:f.stack.length≤8388608:=by unfold iH at hfs;omega
   have H1:=hide h1;have H2:=hide h2;have MI:=hide h1';have Wh:=hide h2';obtain⟨_,_,_,_,rfl,_⟩:=aZ h1;obtain⟨_,_,_,_,rfl,_⟩:=aZ h2;obtain⟨_,_,_,_,rfl,_⟩:=aZ h1';obtain⟨_,_,_,_,rfl,_⟩:=aZ h2';clear h1 h2 h1' h2' hkp
   go_wp2
   go_quiet ((go_at_call 86;exact Calls.quiet_of (Pq f.locals _ _ _ (dA (pR _ _) (ah H1)) (dA (pR _ _) (ah MI)) hll)))
   have d0:=pR wr nq _ _ c0;have d2:=pR wr nq _ _ c2;have d0':=pR wr nq _ _ c0';have d2':=pR wr nq _ _ c2';have H3:=hide (dA (pR wr nq) (ah H2));have Qj:=hide (dA (pR wr nq) (ah Wh));have aah:=hdr.step nq;generalize wr.drewN nq=w2 at *;clear H1 H2 MI Wh c0 c1 c2 c0' c1' c2' hdr
   go_wp2
   go_quiet ((go_at_call 86;exact Calls.quiet_of (Pq f.stack _ _ _ (dA (pR _ _) (ah H3)) (dA (pR _ _) (ah Qj)) hsl)))
   go_wp2
   go_quiet (fail)
   go_wp2
   exact⟨⟨k+1,by omega,by go_num,by first | exact (aah.step _).step _ | exact aah.step _⟩,by simp [intOf];omega⟩
  ·go_wp2
   go_ret;exact⟨rfl,hdr⟩
end Go.Proofs.YtiiokkllmchohaaGreat
namespace Go.Proofs.YtiiokkllmchohaaGreat
open Go.RowKit
end Go.Proofs.YtiiokkllmchohaaGreat
namespace Go.Proofs.YtiiokkllmchohaaGreat
open Go.RowKit
attribute [local go_sem ↓] Go.wp_at_zero Go.wp_at_succ
abbrev ady (w:World)(b:Nat)(s:List UInt8)(i:Nat)(bad:Bool):Prop:=ak w b 196 [.string ⟨s.toArray⟩,.int .i64 (i:Int),.bool bad]

end Go.Proofs.YtiiokkllmchohaaGreat
