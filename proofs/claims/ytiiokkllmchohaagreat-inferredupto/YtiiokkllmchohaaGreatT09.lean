/- Walks of the code's own tests: numbers within a bound, classes that are there, declared types, types in frames. -/
import Derived.Test.YtiiokkllmchohaaGreatT01
set_option maxHeartbeats 4000000
set_option maxRecDepth 100000
namespace Go.Proofs.YtiiokkllmchohaaGreat
open Go.RowKit
attribute [local go_sem ↓] Go.wp_at_zero Go.wp_at_succ
theorem ae6 (v n:Int)(w:World) :
  Calls Tryz.prog 182 #[.int .i64 v,.int .i64 n] w fun e w'=>e= .returned (.bool (dV v n))∧w'=w:=by
 go_enter Tryz.func182,Tryz.ntmps182
 go_wp2
 all_goals go_ret
 all_goals exact⟨aT (by simp [dV, *] <;> omega),rfl⟩

theorem Yx (p:List aj)(vc:Value)(c:Int)(w:World)(hp:aX w vc p)(_hl:p.length≤4194304) :
  Calls Tryz.prog 108 #[.agg #[vc],.int .i64 c] w fun e w'=>e= .returned (.bool (dV c p.length))∧Below w.heap.size w w':=by
 obtain⟨a,b,off,cap,rfl,hcap,ha,hr⟩:=aZ hp;clear ha hr hp;go_enter Tryz.func108,Tryz.ntmps108
 go_wp2
 all_goals go_ret
 all_goals exact⟨aT (by simp [dV, *] <;> omega),aS _ _⟩

theorem aeV (p:List aj)(vc:Value)(t:Int)(w:World)(hp:aX w vc p)(ht:I64 t)(_hl:p.length≤4194304) :
  Calls Tryz.prog 219 #[.agg #[vc],.int .i64 t] w fun e w'=>e= .returned (.bool (fF p.length t))∧Below w.heap.size w w':=by
 obtain⟨a,b,off,cap,rfl,hcap,ha,hr⟩:=aZ hp;obtain⟨h1,h2⟩:=ht;clear ha hr hp;go_enter Tryz.func219,Tryz.ntmps219
 go_wp2
 all_goals go_ret
 all_goals exact⟨aT (by simp [fF, *] <;> omega),aS _ _⟩
theorem G7 {p:List aj}{t:Int}{q:Bool}(h:fF p.length t=q)(vc:Value)(w:World)(hp:aX w vc p)(ht:I64 t)(hl:p.length≤4194304) :
  Calls Tryz.prog 219 #[.agg #[vc],.int .i64 t] w fun e w'=>e= .returned (.bool q)∧Below w.heap.size w w':=h▸aeV p vc t w hp ht hl

theorem aeC (p:List aj)(vc:Value)(l:List Int)(v:Value)(w:World)(hp:aX w vc p)(hpl:p.length≤4194304)(hl:aV 1 (jL w) v l)(hw:∀x∈l,I64 x)(hs:l.length≤4194304) :
  Calls Tryz.prog 184 #[.agg #[vc],v] w fun e w'=>e= .returned (.bool (l.all (fF p.length)))∧Below w.heap.size w w':=by
 have HP:=hide hp;obtain⟨pa,pb,dB,aA,rfl,_,_,_⟩:=aZ hp;obtain⟨a,b,off,cap,rfl,hcap,ha,hr⟩:=jo hl;have HR:=hide hr;clear hp hr hl;go_enter Tryz.func184,Tryz.ntmps184
 go_wp2
 generalize hW:w.alloc _=W;have hbel:Below w.heap.size w W:=hW▸aS _ _;have hbox:W.cell? ⟨w.heap.size,0,none⟩=some (.slice pa p.length aA):=hW▸iK w #[.slice pa p.length aA] 24 0;clear hW
 go_loopw [9] (fun i wr=>∃k:Nat,k≤l.length∧i= .int .i64 k∧(l.take k).all (fF p.length)=true∧Below W.heap.size W wr) (fun i _=>l.length-(intOf i).toNat)
 case atStart=>exact ⟨0,Nat.zero_le _,rfl,rfl,Below.refl _ _⟩
 case round=>
  obtain⟨k,hk,rfl,hall,hbr⟩:=hrel;have HA:Hid ((l.take k).all (fF p.length)=true):=hall;clear hall;have hfin:Below w.heap.size w wr:=hbel.trans (hbr.mono hbel.size)
  by_cases hlt:k<l.length
  ·obtain rfl:=ha (bJ hlt);have hx:=hw _ (List.getElem_mem hlt);have hS:=vM (f:=fF p.length) hlt;rw [HA.out] at hS;have HS:=hide hS;have e0:=Keeps.of_below hbr _ _ hbox;have e1:=Keeps.of_below hfin _ _ (ah HR k hlt);clear hS hw
   cases hb:fF p.length l[k]
   ·have hB:=G7 hb _ wr (aP (Keeps.of_below hfin) (ah HP)) hx hpl;go_wp2_with (go_at_call 219;refine hB.mono ?_;rintro e w' ⟨rfl,hb1⟩)
    go_ret;exact⟨aT (by rw [←List.take_append_drop (k+1) l,List.all_append,ah HS,hb];rfl),hfin.trans (hb1.mono hfin.size)⟩
   ·have hB:=G7 hb _ wr (aP (Keeps.of_below hfin) (ah HP)) hx hpl;go_wp2_with (go_at_call 219;refine hB.mono ?_;rintro e w' ⟨rfl,hb1⟩)
    exact⟨⟨k+1,by omega,by go_num,by rw [ah HS,hb];rfl,hbr.trans (hb1.mono hbr.size)⟩,by simp [intOf];omega⟩
  ·go_wp2
   go_ret;exact⟨aT (by rw [←HA.out,List.take_of_length_le (by omega)]),hfin⟩

theorem aeX (p:List aj)(vc:Value)(l:List Int)(v:Value)(w:World)(hp:aX w vc p)(hpl:p.length≤4194304)(hl:aV 1 (jL w) v l)(hw:∀x∈l,I64 x)(hs:l.length≤4194304) :
  Calls Tryz.prog 222 #[.agg #[vc],v] w fun e w'=>e= .returned (.bool (l.all (gZ p.length)))∧Below w.heap.size w w':=by
 have HP:=hide hp;obtain⟨pa,pb,dB,aA,rfl,_,_,_⟩:=aZ hp;obtain⟨a,b,off,cap,rfl,hcap,ha,hr⟩:=jo hl;have HR:=hide hr;clear hp hr hl;go_enter Tryz.func222,Tryz.ntmps222
 go_wp2
 generalize hW:w.alloc _=W;have hbel:Below w.heap.size w W:=hW▸aS _ _;have hbox:W.cell? ⟨w.heap.size,0,none⟩=some (.slice pa p.length aA):=hW▸iK w #[.slice pa p.length aA] 24 0;clear hW
 go_loopw [9] (fun i wr=>∃k:Nat,k≤l.length∧i= .int .i64 k∧(l.take k).all (gZ p.length)=true∧Below W.heap.size W wr) (fun i _=>l.length-(intOf i).toNat)
 case atStart=>exact ⟨0,Nat.zero_le _,rfl,rfl,Below.refl _ _⟩
 case round=>
  obtain⟨k,hk,rfl,hall,hbr⟩:=hrel;have HA:Hid ((l.take k).all (gZ p.length)=true):=hall;clear hall;have hfin:Below w.heap.size w wr:=hbel.trans (hbr.mono hbel.size)
  by_cases hlt:k<l.length
  ·obtain rfl:=ha (bJ hlt);have hx:=hw _ (List.getElem_mem hlt);have hS:=vM (f:=gZ p.length) hlt;rw [HA.out] at hS;have HS:=hide hS;have e0:=Keeps.of_below hbr _ _ hbox;have e1:=Keeps.of_below hfin _ _ (ah HR k hlt);clear hS hw
   by_cases h1:l[k]=1
   ·have HT:Hid (gZ p.length l[k]=true):=hide (by simp [gZ,h1]);rw [h1] at e1;go_wp2_with fail
    exact⟨⟨k+1,by omega,by go_num,by rw [ah HS,ah HT];rfl,hbr⟩,by simp [intOf];omega⟩
   by_cases h2:l[k]=2
   ·have HT:Hid (gZ p.length l[k]=true):=hide (by simp [gZ,h2]);rw [h2] at e1;go_wp2_with fail
    exact⟨⟨k+1,by omega,by go_num,by rw [ah HS,ah HT];rfl,hbr⟩,by simp [intOf];omega⟩
   have h1':(l[k] != 1)=true:=by simpa using h1
   have h2':(l[k] != 2)=true:=by simpa using h2
   have hD:gZ p.length l[k]=fF p.length l[k]:=by unfold gZ;rw [beq_eq_false_iff_ne.2 h1,beq_eq_false_iff_ne.2 h2,Bool.or_false,Bool.or_false]
   have HD:=hide hD;clear hD h1 h2
   cases hb:fF p.length l[k]
   ·have hB:=G7 hb _ wr (aP (Keeps.of_below hfin) (ah HP)) hx hpl;go_wp2_with (go_at_call 219;refine hB.mono ?_;rintro e w' ⟨rfl,hb1⟩)
    go_ret;exact⟨aT (by rw [←List.take_append_drop (k+1) l,List.all_append,ah HS,ah HD,hb];rfl),hfin.trans (hb1.mono hfin.size)⟩
   ·have hB:=G7 hb _ wr (aP (Keeps.of_below hfin) (ah HP)) hx hpl;go_wp2_with (go_at_call 219;refine hB.mono ?_;rintro e w' ⟨rfl,hb1⟩)
    exact⟨⟨k+1,by omega,by go_num,by rw [ah HS,ah HD,hb];rfl,hbr.trans (hb1.mono hbr.size)⟩,by simp [intOf];omega⟩
  ·go_wp2
   go_ret;exact⟨aT (by rw [←HA.out,List.take_of_length_le (by omega)]),hfin⟩

theorem Yr (l r:List Int)(v u:Value)(w:World)(hl:aV 1 (jL w) v l)(hr:aV 1 (jL w) u r)(hs:l.length≤4194304)(hs':r.length≤4194304) :
  Calls Tryz.prog 220 #[v,u] w fun e w'=>e= .returned (.bool (l == r))∧∃n,w'=w.drewN n:=by
 obtain⟨a,b,off,cap,rfl,hcap,ha,hc⟩:=jo hl;obtain⟨a',b',off',cap',rfl,hcap',ha',hc'⟩:=jo hr
 by_cases hn:l.length=r.length
 ·have hne:((l.length:Int) == (r.length:Int))=true:=by rw [hn];simp
  go_enter Tryz.func220,Tryz.ntmps220
  go_wp2
  go_loopw [13] (fun i wr=>∃k:Nat,k≤l.length∧i= .int .i64 k∧l.take k=r.take k∧∃n,wr=w.drewN n) (fun i _=>l.length-(intOf i).toNat)
  case atStart=>exact ⟨0,Nat.zero_le _,rfl,rfl,0,rfl⟩
  case round=>
   obtain⟨k,hk,rfl,htk,nn,rfl⟩:=hrel;have HT:=hide htk;have HN:=hide hn;clear htk hn
   by_cases hlt:k<l.length
   ·have hlt':k<r.length:=by rw [←ah HN];exact hlt
    obtain rfl:=ha (bJ hlt);obtain rfl:=ha' (bJ hlt');have HE:=hide (acH hlt hlt')
    go_wp2
    go_quiet (fail)
    go_wp2
    ·go_ret;have hx:l[k]≠r[k]:=by simp_all
     exact⟨aT (by rw [eq_comm,beq_eq_false_iff_ne];intro e;subst e;exact hx rfl),nn+nq,by rw [World.drewN_drewN]⟩
    ·have hx:l[k]=r[k]:=by simp_all
     exact⟨⟨k+1,by omega,by go_num,(ah HE).2 ⟨ah HT,hx⟩,_,rfl⟩,by simp [intOf];omega⟩
   ·have hlt':¬k<r.length:=by rw [←ah HN];exact hlt
    go_wp2
    go_ret;refine⟨aT ?_,_,rfl⟩;have:=ah HT;rw [List.take_of_length_le (by omega),List.take_of_length_le (by have:=ah HN;omega)] at this;simp [this]
 ·have hne:((l.length:Int) == (r.length:Int))=false:=by simp;omega
  go_enter Tryz.func220,Tryz.ntmps220
  go_wp2
  go_ret;exact⟨aT (by rw [eq_comm,beq_eq_false_iff_ne];intro e;subst e;exact hn rfl),0,rfl⟩
theorem RU (p:List aj)(vc:Value)(n:Nat)(c:Int)(w:World)(hp:aX w vc p)(hs:aU p n)(hn:n≤p.length)(hc: -1≤c)(hcn:c<n)(hz:bn p≤4194304) :
  Calls Tryz.prog 183 #[.agg #[vc],.int .i64 c] w fun e w'=>
   e= .returned (.int .i64 (fieldsOf p c).length)∧Below w.heap.size w w':=by
 have hfz:(fieldsOf p c).length≤4194304:=by
  rcases Int.lt_or_le c 0 with h | h
  ·rw [Hu p h];simp
  ·obtain⟨k,rfl⟩:=Int.eq_ofNat_of_zero_le h;exact Nat.le_trans (NR p hs (by omega)) hz
 obtain⟨a,b,off,cap,rfl,hcap,ha,hr⟩:=aZ hp;go_enter Tryz.func183,Tryz.ntmps183
 go_wp2
 generalize hW:w.alloc _=W;have hbel:Below w.heap.size w W:=hW▸aS _ _;have hbox:W.cell? ⟨w.heap.size,0,none⟩=some (.slice a p.length cap):=hW▸iK w #[.slice a p.length cap] 24 0;clear hW
 go_loop [5,6] (fun s5 s6=>∃(c':Int) (t:Nat),-1≤c'∧c'<n∧s6= .int .i64 c'∧s5= .int .i64 t∧t+(fieldsOf p c').length=(fieldsOf p c).length) (fun _ s6=>(intOf s6+1).toNat)
 case atStart=>exact ⟨c,0,hc,hcn,rfl,rfl,by omega⟩
 case round=>
  obtain⟨c',t,h1,h2,rfl,rfl,hm⟩:=hrel;have HM:=hide hm;have ht:t≤4194304:=by omega
  clear hm
  rcases Int.lt_or_le c' 0 with hneg | hpos
  ·go_wp2
   go_ret;refine⟨lN ?_,hbel⟩;have:=ah HM;rw [Hu p hneg] at this;simp only [List.length_nil] at this;omega
  ·obtain⟨i,rfl⟩:=Int.eq_ofNat_of_zero_le hpos;have hi:i<p.length:=by omega
   obtain rfl:=ha (bJ hi);obtain⟨vf,vm,c0,c1,c2,hf,hmm⟩:=(hr i hi).keep (Keeps.of_below hbel);obtain⟨fa,fb,kU,aG,rfl,_,_,_⟩:=aZ hf;have HX:=hide (List.getElem?_eq_getElem hi)
   have hlen:p[i].fields.length≤4194304:=by
    have:=Bh p[i];have:=nR (List.getElem_mem hi);omega
   clear hr hmm hf;generalize p[i]=x at *
   go_wp2
   have hsup:=pV (hs i x (by omega) (ah HX));refine⟨⟨x.sup,t+x.fields.length,hsup.1,by omega,rfl,by go_num,?_⟩,by simp [intOf];omega⟩;have:=ah HM;rw [Kt p hs (by omega) (ah HX),List.length_append] at this;omega

theorem aeP (ms:List aC)(vm:Value)(slot:Int)(w:World)(hp:aV 7 (Ey w) vm ms)(hz:ms.length≤4194304) :
  Calls Tryz.prog 186 #[vm,.int .i64 slot] w fun e w'=>
   e= .returned (.bool (!(ms.all fun o=> !(o.slot == slot))))∧Below w.heap.size w w':=by
 obtain⟨a,b,off,cap,rfl,hcap,ha,hr⟩:=aZ hp;have HR:=hide hr;clear hp hr;go_enter Tryz.func186,Tryz.ntmps186
 go_wp2
 go_loopw [9] (fun i wr=>∃k:Nat,k≤ms.length∧i= .int .i64 k∧(ms.take k).all (fun o=> !(o.slot == slot))=true∧Below w.heap.size w wr) (fun i _=>ms.length-(intOf i).toNat)
 case atStart=>exact ⟨0,Nat.zero_le _,rfl,rfl,Below.refl _ _⟩
 case round=>
  obtain⟨k,hk,rfl,hall,hbr⟩:=hrel;have HA:=hide hall;clear hall
  by_cases hlt:k<ms.length
  ·obtain rfl:=ha (bJ hlt);have hS:=vM (f:=fun o:aC=> !(o.slot == slot)) hlt;rw [HA.out] at hS;have HS:=hide hS;obtain⟨va,vc,vf,hv,m0,m1,m2,m3,m4,m5,m6⟩:=(ah HR k hlt).keep (Keeps.of_below hbr);obtain⟨_,_,_,_,rfl,_⟩:=hv.1;obtain⟨_,_,_,_,rfl,_⟩:=hv.2.1;obtain⟨_,_,_,_,rfl,_⟩:=hv.2.2;have Dv:=cell_lt m0;clear hS hv;generalize ms[k]=m at *
   cases hb:(m.slot == slot)
   ·go_wp2
    exact⟨⟨k+1,by omega,by go_num,by rw [ah HS];simp [hb],hbr.trans ((aS _ _).mono hbr.size)⟩,by simp [intOf];omega⟩
   ·go_wp2
    go_ret;exact⟨aT (by rw [←List.take_append_drop (k+1) ms,List.all_append,ah HS];simp [hb]),hbr.trans ((aS _ _).mono hbr.size)⟩
  ·go_wp2
   go_ret;exact⟨aT (by rw [←List.take_append_drop k ms,List.all_append,ah HA,List.drop_of_length_le (by omega)];rfl),hbr⟩
def bP (m:aC)(va vc vf:Value):Value:=.agg #[.int .i64 m.slot,va,.int .i64 m.ret,.int .i64 m.locals,.int .i64 m.stack,vc,vf]
def Found (w:World)(p:List aj)(c slot:Int)(o:aC)(va vc vf:Value):Prop:=
 ∀ck,fO p c slot=some ck→sV p ck=some o∧qg w o va vc vf

def IE (w:World)(b:Nat)(v0 v1 v2 v3 v4 v5 v6:Value):World:=
 ((((((w.setCell ⟨b,0,none⟩ v0).setCell ⟨b,1,none⟩ v1).setCell ⟨b,2,none⟩ v2).setCell ⟨b,3,none⟩ v3).setCell ⟨b,4,none⟩ v4).setCell ⟨b,5,none⟩ v5).setCell ⟨b,6,none⟩ v6
theorem O8 {w:World}{b:Nat}{t:TypeId}{a0 a1 a2 a3 a4 a5 a6:Value}(h:ak w b t [a0,a1,a2,a3,a4,a5,a6])(v0 v1 v2 v3 v4 v5 v6:Value) :
  ak (IE w b v0 v1 v2 v3 v4 v5 v6) b t [v0,v1,v2,v3,v4,v5,v6]:=
 ((((((h.setCell 0 v0).setCell 1 v1).setCell 2 v2).setCell 3 v3).setCell 4 v4).setCell 5 v5).setCell 6 v6
theorem abH (w:World)(b:Nat)(v0 v1 v2 v3 v4 v5 v6:Value):ay (fun k=>k=b) w (IE w b v0 v1 v2 v3 v4 v5 v6):=
 (((((((ay.refl (fun k=>k=b) w).setCell (p:=⟨b,0,none⟩) (fun _=>rfl) v0).setCell (p:=⟨b,1,none⟩) (fun _=>rfl) v1).setCell (p:=⟨b,2,none⟩) (fun _=>rfl) v2).setCell (p:=⟨b,3,none⟩) (fun _=>rfl) v3).setCell (p:=⟨b,4,none⟩) (fun _=>rfl) v4).setCell (p:=⟨b,5,none⟩) (fun _=>rfl) v5).setCell (p:=⟨b,6,none⟩) (fun _=>rfl) v6
theorem ak.below {w w':World}{b B:Nat}{t:TypeId}{cs:List Value}(h:ak w b t cs)(hb:Below B w w')(hB:b<B):ak w' b t cs:=(hb.block b hB).trans h

theorem RV (p:List aj)(vc:Value)(n:Nat)(c slot:Int)(w0 w:World)(hp:aX w0 vc p)(hb0:Below w0.heap.size w0 w)(hs:aU p n)(hn:n≤p.length)(hc: -1≤c)(hcn:c<n)(hz:bn p≤4194304) :
  Calls Tryz.prog 109 #[.agg #[vc],.int .i64 c,.int .i64 slot] w fun e w'=>
   ∃(o:aC) (aa ca fa:Option Addr) (ac cc fc:Nat),e= .returned (.tuple #[.agg #[.int .i64 o.slot,.slice aa o.args.length ac,.int .i64 o.ret,.int .i64 o.locals,.int .i64 o.stack,.slice ca o.code.length cc,.slice fa o.frames.length fc],.bool (fO p c slot).isSome])∧
    Found w0 p c slot o (.slice aa o.args.length ac) (.slice ca o.code.length cc) (.slice fa o.frames.length fc)∧Below w.heap.size w w':=by
 obtain⟨a,b,off,cap,rfl,hcap,ha,hr⟩:=aZ hp;have HR:=hide hr;clear hp hr;go_enter Tryz.func109,Tryz.ntmps109
 go_wp2
 generalize hW:(w.alloc _).alloc _=W;have hbel:Below w.heap.size w W:=by rw [←hW];exact dS _ _ _
 have hbox:W.cell? ⟨w.heap.size,0,none⟩=some (.slice a p.length cap):=by rw [←hW];exact lZ _ _ _ _ 0
 have b1:ak W (w.heap.size+1) 63 [.int .i64 0,.slice none 0 0,.int .i64 0,.int .i64 0,.int .i64 0,.slice none 0 0,.slice none 0 0]:=by rw [←hW];exact (by simpa using ak.new (w.alloc _) _ _)
 have hsW:W.heap.size=w.heap.size+2:=by rw [←hW];simp
 clear hW
 go_loopw [8] (fun s wr=>∃c':Int,-1≤c'∧c'<n∧s= .int .i64 c'∧fO p c slot=fO p c' slot∧Below W.heap.size W wr) (fun s _=>(intOf s+1).toNat)
 case atStart=>exact ⟨c,hc,hcn,rfl,rfl,Below.refl _ _⟩
 case round=>
  obtain⟨c',h1,h2,rfl,hm,hbr⟩:=hrel;have HM:=hide hm;clear hm;obtain⟨wo,rfl⟩:∃wo:World,wo=wr:=⟨_,rfl⟩;have hfin:Below w.heap.size w wo:=hbel.trans (hbr.mono hbel.size);have e0:=Keeps.of_below hbr _ _ hbox;have x1:=b1.below hbr (by omega);have f0:=x1.cell 0;have f1:=x1.cell 1;have f2:=x1.cell 2;have f3:=x1.cell 3;have f4:=x1.cell 4;have f5:=x1.cell 5;have f6:=x1.cell 6;have g0:=x1.frozen 0;have g1:=x1.frozen 1;have g2:=x1.frozen 2;have g3:=x1.frozen 3;have g4:=x1.frozen 4;have g5:=x1.frozen 5;have g6:=x1.frozen 6;simp only [List.getElem?_cons_zero,List.getElem?_cons_succ] at f0 f1 f2 f3 f4 f5 f6
  rcases Int.lt_or_le c' 0 with hneg | hpos
  ·go_wp2
   have hB:=O8 x1 (.int .i64 0) (.slice none 0 0) (.int .i64 0) (.int .i64 0) (.int .i64 0) (.slice none 0 0) (.slice none 0 0);have hM:=abH wo (w.heap.size+1) (.int .i64 0) (.slice none 0 0) (.int .i64 0) (.int .i64 0) (.int .i64 0) (.slice none 0 0) (.slice none 0 0);unfold IE at hB hM;generalize World.setCell _ _ _=Z at hB hM ⊢;have s0:Z.cell? ⟨w.heap.size+1,0,none⟩=some (.int .i64 0):=by rw [hB.cell];rfl
   have s1:Z.cell? ⟨w.heap.size+1,1,none⟩=some (.slice none 0 0):=by rw [hB.cell];rfl
   have s2:Z.cell? ⟨w.heap.size+1,2,none⟩=some (.int .i64 0):=by rw [hB.cell];rfl
   have s3:Z.cell? ⟨w.heap.size+1,3,none⟩=some (.int .i64 0):=by rw [hB.cell];rfl
   have s4:Z.cell? ⟨w.heap.size+1,4,none⟩=some (.int .i64 0):=by rw [hB.cell];rfl
   have s5:Z.cell? ⟨w.heap.size+1,5,none⟩=some (.slice none 0 0):=by rw [hB.cell];rfl
   have s6:Z.cell? ⟨w.heap.size+1,6,none⟩=some (.slice none 0 0):=by rw [hB.cell];rfl
   refine bodyPost_ret (v:=.tuple #[.agg #[.int .i64 0,.slice none 0 0,.int .i64 0,.int .i64 0,.int .i64 0,.slice none 0 0,.slice none 0 0],.bool false]) (by simp [results,Tryz.results109,go_sem,s0,s1,s2,s3,s4,s5,s6]) rfl ⟨⟨0,[],0,0,0,[],[]⟩,none,none,none,0,0,0,by rw [ah HM,FD p slot hneg];rfl,?_,hfin.trans (hM.below hfin.size (fun k hk e=>by omega))⟩;intro ck h;rw [ah HM,FD p slot hneg] at h
   cases h
  ·obtain⟨i,rfl⟩:=Int.eq_ofNat_of_zero_le hpos;have hi:i<p.length:=by omega
   obtain rfl:=ha (bJ hi);obtain⟨vf,vm,c0,c1,c2,hf,hmm⟩:=(ah HR i hi).keep (Keeps.of_below (hb0.trans (hfin.mono hb0.size)));obtain⟨mF,Jd,c0',c1',c2',hf',hmm'⟩:=ah HR i hi;obtain rfl:Jd=vm:=by have:=Keeps.of_below (hb0.trans (hfin.mono hb0.size)) _ _ c2';rw [c2] at this;injection this with this;exact this.symm
   obtain⟨ma,mb,fH,dW,rfl,yV,hma,hmr⟩:=aZ hmm';have pY:=hide hmr
   have hlen:p[i].aB.length≤4194304:=by
    have:=tC p[i];have:=nR (List.getElem_mem hi);omega
   have HX:=hide (List.getElem?_eq_getElem hi);clear hmr hmm hf hmm' hf' c0' c1' c2';generalize p[i]=x at *
   go_wp2
   go_loopw [27] (fun s wr=>∃k:Nat,k≤x.aB.length∧s= .int .i64 k∧(∀(j:Nat) (hj:j<x.aB.length),j<k→x.aB[j].slot≠slot)∧Below wo.heap.size wo wr) (fun s _=>x.aB.length-(intOf s).toNat)
   case atStart=>exact ⟨0,Nat.zero_le _,rfl,fun j _ h=>absurd h (Nat.not_lt_zero j),Below.refl _ _⟩
   case round=>
    obtain⟨k,hk,rfl,hno,sS⟩:=hrel;have fK:=hide hno;clear hno;have TN:Below w.heap.size w wr:=hfin.trans (sS.mono hfin.size)
    by_cases hlt:k<x.aB.length
    ·obtain rfl:=hma (bJ hlt);obtain⟨va,eU,dH,hv,m0,m1,m2,m3,m4,m5,m6⟩:=ah pY k hlt;have hk2:=Keeps.of_below (hb0.trans (TN.mono hb0.size));replace m0:=hk2 _ _ m0;replace m1:=hk2 _ _ m1;replace m2:=hk2 _ _ m2;replace m3:=hk2 _ _ m3;replace m4:=hk2 _ _ m4;replace m5:=hk2 _ _ m5;replace m6:=hk2 _ _ m6;have HV:=hide hv;obtain⟨kQ,_,_,jU,rfl,_⟩:=hv.1;obtain⟨ql,_,_,qo,rfl,_⟩:=hv.2.1;obtain⟨fla,_,_,qp,rfl,_⟩:=hv.2.2;have Dv:=cell_lt m0;have HK:=hide (List.getElem?_eq_getElem hlt);have HSL:=hide (show x.aB[k].slot=x.aB[k].slot from rfl);clear hv hk2 c0 c1 c2
     by_cases hq:x.aB[k].slot=slot
     ·have TU:(x.aB[k].slot == slot)=true:=by simpa using hq
      have zJ:=hide (show fO p c slot=some (i,k) by rw [ah HM,Iq p hs slot (by omega) (ah HX),acw hlt hq (ah fK)]);have Em:=hide (show sV p (i,k)=some x.aB[k] by unfold sV;rw [ah HX];exact ah HK);clear hq;generalize x.aB[k]=m at *;have y1:=x1.below sS (by have:=hbr.size;omega);have hlt1:=y1.lt;have f0:=y1.cell 0;have f1:=y1.cell 1;have f2:=y1.cell 2;have f3:=y1.cell 3;have f4:=y1.cell 4;have f5:=y1.cell 5;have f6:=y1.cell 6;have g0:=y1.frozen 0;have g1:=y1.frozen 1;have g2:=y1.frozen 2;have g3:=y1.frozen 3;have g4:=y1.frozen 4;have g5:=y1.frozen 5;have g6:=y1.frozen 6
      simp only [List.getElem?_cons_zero,List.getElem?_cons_succ] at f0 f1 f2 f3 f4 f5 f6;go_wp2_with fail
      have hB:=O8 y1 (.int .i64 m.slot) (.slice kQ m.args.length jU) (.int .i64 m.ret) (.int .i64 m.locals) (.int .i64 m.stack) (.slice ql m.code.length qo) (.slice fla m.frames.length qp);have hM:=abH wr (w.heap.size+1) (.int .i64 m.slot) (.slice kQ m.args.length jU) (.int .i64 m.ret) (.int .i64 m.locals) (.int .i64 m.stack) (.slice ql m.code.length qo) (.slice fla m.frames.length qp);unfold IE at hB hM;generalize World.setCell _ _ _=Z0 at hB hM ⊢;replace hB:=hB.alloc (.cells #[.int .i64 m.slot,.slice kQ m.args.length jU,.int .i64 m.ret,.int .i64 m.locals,.int .i64 m.stack,.slice ql m.code.length qo,.slice fla m.frames.length qp] 63)
      have hM2:=hM.alloc (.cells #[.int .i64 m.slot,.slice kQ m.args.length jU,.int .i64 m.ret,.int .i64 m.locals,.int .i64 m.stack,.slice ql m.code.length qo,.slice fla m.frames.length qp] 63);generalize Z0.alloc _=Z at hB hM2 ⊢
      have hfz:Below w.heap.size w Z:=by
       exact TN.trans (hM2.below TN.size (fun k hk e=>by omega))
      have s0:Z.cell? ⟨w.heap.size+1,0,none⟩=some (.int .i64 m.slot):=by rw [hB.cell];rfl
      have s1:Z.cell? ⟨w.heap.size+1,1,none⟩=some (.slice kQ m.args.length jU):=by rw [hB.cell];rfl
      have s2:Z.cell? ⟨w.heap.size+1,2,none⟩=some (.int .i64 m.ret):=by rw [hB.cell];rfl
      have s3:Z.cell? ⟨w.heap.size+1,3,none⟩=some (.int .i64 m.locals):=by rw [hB.cell];rfl
      have s4:Z.cell? ⟨w.heap.size+1,4,none⟩=some (.int .i64 m.stack):=by rw [hB.cell];rfl
      have s5:Z.cell? ⟨w.heap.size+1,5,none⟩=some (.slice ql m.code.length qo):=by rw [hB.cell];rfl
      have s6:Z.cell? ⟨w.heap.size+1,6,none⟩=some (.slice fla m.frames.length qp):=by rw [hB.cell];rfl
      refine bodyPost_ret (v:=.tuple #[.agg #[.int .i64 m.slot,.slice kQ m.args.length jU,.int .i64 m.ret,.int .i64 m.locals,.int .i64 m.stack,.slice ql m.code.length qo,.slice fla m.frames.length qp],.bool true]) (by simp [results,Tryz.results109,go_sem,s0,s1,s2,s3,s4,s5,s6]) rfl ⟨m,kQ,ql,fla,jU,qo,qp,by rw [show (fO p c slot).isSome=true by rw [ah zJ];rfl],?_,hfz⟩;intro ck h;rw [ah zJ] at h
      injection h with h
      subst h;exact⟨ah Em,ah HV⟩
     ·have TU:(x.aB[k].slot == slot)=false:=by simpa using hq
      go_wp2
      exact⟨⟨k+1,by omega,by go_num,fun j hj h=>by
       rcases Nat.lt_or_ge j k with g | g
       ·exact ah fK j hj g
       ·obtain rfl:j=k:=by omega
        exact hq,sS.trans ((aS _ _).mono sS.size)⟩,by simp [intOf];omega⟩
    ·have q0:=Keeps.of_below sS _ _ e0;have q1:=Keeps.of_below sS _ _ c0
     go_wp2
     have hsup:=pV (hs i x (by omega) (ah HX));exact⟨⟨x.sup,hsup.1,by omega,rfl,by rw [ah HM,Iq p hs slot (by omega) (ah HX),acv fun j hj=>ah fK j hj (by omega)],hbr.trans (sS.mono hbr.size)⟩,by simp [intOf];omega⟩

theorem aeK (p:List aj)(vc:Value)(n:Nat)(c slot:Int)(w:World)(hp:aX w vc p)(hs:aU p n)(hn:n≤p.length)(hc: -1≤c)(hcn:c<n)(hz:bn p≤4194304) :
  Calls Tryz.prog 109 #[.agg #[vc],.int .i64 c,.int .i64 slot] w fun e w'=>
   ∃(o:aC) (aa ca fa:Option Addr) (ac cc fc:Nat),e= .returned (.tuple #[.agg #[.int .i64 o.slot,.slice aa o.args.length ac,.int .i64 o.ret,.int .i64 o.locals,.int .i64 o.stack,.slice ca o.code.length cc,.slice fa o.frames.length fc],.bool (fO p c slot).isSome])∧
    Found w p c slot o (.slice aa o.args.length ac) (.slice ca o.code.length cc) (.slice fa o.frames.length fc)∧Below w.heap.size w w':=
 RV p vc n c slot w w hp (Below.refl _ _) hs hn hc hcn hz
end Go.Proofs.YtiiokkllmchohaaGreat
