/- Walk of the document's answer: may an instruction be? -/
import Derived.Test.YtiiokkllmchohaaGreatT01
import Derived.Test.YtiiokkllmchohaaGreatT02
set_option maxHeartbeats 4000000
set_option maxRecDepth 100000
namespace Go.Proofs.YtiiokkllmchohaaGreat
open Go.RowKit
attribute [local go_sem ↓] Go.wp_at_zero Go.wp_at_succ
theorem iW (w:World)(o o' o'':Obj):Below w.heap.size w (((w.alloc o).alloc o').alloc o''):=(dS w o o').alloc (dS w o o').size _
theorem GN (w:World)(cs:Array Value)(t:TypeId)(o' o'':Obj)(i:Nat):(((w.alloc (.cells cs t)).alloc o').alloc o'').cell? ⟨w.heap.size,i,none⟩=cs[i]? :=by
 rw [World.cell?_alloc_lt _ _ _ (by simp;omega)];exact lZ w cs t o' i
theorem uy (w:World)(o o':Obj)(cs:Array Value)(t:TypeId)(i:Nat):(((w.alloc o).alloc o').alloc (.cells cs t)).cell? ⟨w.heap.size+2,i,none⟩=cs[i]? :=by
 have:=iK ((w.alloc o).alloc o') cs t i
 rwa [show ((w.alloc o).alloc o').heap.size=w.heap.size+2 by simp] at this

def rG (vc:Value)(m:aC)(aa ca fa:Option Addr)(al aI aF fl aG:Nat)(op a b:Int):Array Value:=
 #[.agg #[vc],.agg #[.int .i64 m.slot,.slice aa al aI,.int .i64 m.ret,.int .i64 m.locals,.int .i64 m.stack,.slice ca m.code.length aF,.slice fa fl aG],.agg #[.int .i64 op,.int .i64 a,.int .i64 b]]

theorem ai4 (p:List aj)(vc:Value)(m:aC)(aa ca fa:Option Addr)(al aI aF fl aG:Nat)(op a b:Int)(w:World)(hp:aX w vc p)(hz:bn p≤4194304)(_hcl:m.code.length≤4194304)
  (h10:op≠10) (h11:op≠11) (h12:op≠12) :
  Calls Tryz.prog 149 (rG vc m aa ca fa al aI aF fl aG op a b) w fun e w'=>e= .returned (.bool (bC p m ⟨op,a,b⟩))∧Below w.heap.size w w':=by
 have hpl:p.length≤4194304:=Nat.le_trans (eG p) hz;obtain⟨pa,pb,dB,aA,rfl,Dy,hpa,hpr⟩:=aZ hp;clear hpr hpa;unfold rG
 by_cases h0:op=0
 ·subst h0;go_enter Tryz.func149,Tryz.ntmps149
  go_wp2
  go_ret;exact⟨aT (by simp [bC]),iW _ _ _ _⟩
 by_cases h1:op=1
 ·subst h1
  cases hpl:dV a m.locals
  ·go_enter Tryz.func149,Tryz.ntmps149
   go_wp2_with (go_at_call 200;refine (oV _ _ _).mono ?_;rintro e w' ⟨rfl,rfl⟩)
   go_ret;exact⟨aT (by simp [bC,hpl]),iW _ _ _ _⟩
  ·go_enter Tryz.func149,Tryz.ntmps149
   go_wp2_with (go_at_call 200;refine (oV _ _ _).mono ?_;rintro e w' ⟨rfl,rfl⟩)
   go_ret;exact⟨aT (by simp [bC,hpl]),iW _ _ _ _⟩
 by_cases h2:op=2
 ·subst h2
  cases hpl:dV a m.locals
  ·go_enter Tryz.func149,Tryz.ntmps149
   go_wp2_with (go_at_call 200;refine (oV _ _ _).mono ?_;rintro e w' ⟨rfl,rfl⟩)
   go_ret;exact⟨aT (by simp [bC,hpl]),iW _ _ _ _⟩
  ·go_enter Tryz.func149,Tryz.ntmps149
   go_wp2_with (go_at_call 200;refine (oV _ _ _).mono ?_;rintro e w' ⟨rfl,rfl⟩)
   go_ret;exact⟨aT (by simp [bC,hpl]),iW _ _ _ _⟩
 by_cases h7:op=7
 ·subst h7
  cases hpl:dV a m.code.length
  ·go_enter Tryz.func149,Tryz.ntmps149
   go_wp2_with (go_at_call 200;refine (oV _ _ _).mono ?_;rintro e w' ⟨rfl,rfl⟩)
   go_ret;exact⟨aT (by simp [bC,hpl]),iW _ _ _ _⟩
  ·go_enter Tryz.func149,Tryz.ntmps149
   go_wp2_with (go_at_call 200;refine (oV _ _ _).mono ?_;rintro e w' ⟨rfl,rfl⟩)
   go_ret;exact⟨aT (by simp [bC,hpl]),iW _ _ _ _⟩
 by_cases h8:op=8
 ·subst h8
  cases hpl:dV a m.code.length
  ·go_enter Tryz.func149,Tryz.ntmps149
   go_wp2_with (go_at_call 200;refine (oV _ _ _).mono ?_;rintro e w' ⟨rfl,rfl⟩)
   go_ret;exact⟨aT (by simp [bC,hpl]),iW _ _ _ _⟩
  ·go_enter Tryz.func149,Tryz.ntmps149
   go_wp2_with (go_at_call 200;refine (oV _ _ _).mono ?_;rintro e w' ⟨rfl,rfl⟩)
   go_ret;exact⟨aT (by simp [bC,hpl]),iW _ _ _ _⟩
 by_cases h18:op=18
 ·subst h18
  cases hpl:dV a m.code.length
  ·go_enter Tryz.func149,Tryz.ntmps149
   go_wp2_with (go_at_call 200;refine (oV _ _ _).mono ?_;rintro e w' ⟨rfl,rfl⟩)
   go_ret;exact⟨aT (by simp [bC,hpl]),iW _ _ _ _⟩
  ·go_enter Tryz.func149,Tryz.ntmps149
   go_wp2_with (go_at_call 200;refine (oV _ _ _).mono ?_;rintro e w' ⟨rfl,rfl⟩)
   go_ret;exact⟨aT (by simp [bC,hpl]),iW _ _ _ _⟩
 by_cases h9:op=9
 ·subst h9
  cases hpl:dV a p.length
  ·go_enter Tryz.func149,Tryz.ntmps149
   go_wp2_with (go_at_call 200;refine (oV _ _ _).mono ?_;rintro e w' ⟨rfl,rfl⟩)
   go_ret;exact⟨aT (by simp [bC,hpl]),iW _ _ _ _⟩
  ·go_enter Tryz.func149,Tryz.ntmps149
   go_wp2_with (go_at_call 200;refine (oV _ _ _).mono ?_;rintro e w' ⟨rfl,rfl⟩)
   go_ret;exact⟨aT (by simp [bC,hpl]),iW _ _ _ _⟩
 by_cases h17:op=17
 ·subst h17
  cases hpl:dV a p.length
  ·go_enter Tryz.func149,Tryz.ntmps149
   go_wp2_with (go_at_call 200;refine (oV _ _ _).mono ?_;rintro e w' ⟨rfl,rfl⟩)
   go_ret;exact⟨aT (by simp [bC,hpl]),iW _ _ _ _⟩
  ·go_enter Tryz.func149,Tryz.ntmps149
   go_wp2_with (go_at_call 200;refine (oV _ _ _).mono ?_;rintro e w' ⟨rfl,rfl⟩)
   go_ret;exact⟨aT (by simp [bC,hpl]),iW _ _ _ _⟩
 have hdef:bC p m ⟨op,a,b⟩=(dV op 21 && a == 0 && b == 0):=by
  unfold bC;simp only [h0,h1,h2,h7,h8,h18,h9,h17,h10,h11,h12,or_self,if_false]
 have HD:=hide hdef;clear hdef
 cases hpl:dV op 21
 ·go_enter Tryz.func149,Tryz.ntmps149
  go_wp2_with (go_at_call 200;refine (oV _ _ _).mono ?_;rintro e w' ⟨rfl,rfl⟩)
  go_ret;exact⟨aT (by rw [ah HD,hpl];rfl),iW _ _ _ _⟩
 ·cases ha0:(a == 0)
  ·go_enter Tryz.func149,Tryz.ntmps149
   go_wp2_with (go_at_call 200;refine (oV _ _ _).mono ?_;rintro e w' ⟨rfl,rfl⟩)
   go_ret;exact⟨aT (by rw [ah HD,hpl,ha0];rfl),iW _ _ _ _⟩
  ·go_enter Tryz.func149,Tryz.ntmps149
   go_wp2_with (go_at_call 200;refine (oV _ _ _).mono ?_;rintro e w' ⟨rfl,rfl⟩)
   go_ret;exact⟨aT (by rw [ah HD,hpl,ha0];rfl),iW _ _ _ _⟩
end Go.Proofs.YtiiokkllmchohaaGreat
namespace Go.Proofs.YtiiokkllmchohaaGreat
open Go.RowKit
theorem Uf:(Tryz.prog.info? 60).map (fun i=>(i.zero,i.size,i.bytes))=some (some (.agg #[.int .i64 0,.int .i64 0,.int .i64 0]),3,24):=by kernel_rfl
theorem Ug:(Tryz.prog.info? 61).map (fun i=>(i.zero,i.size,i.bytes))=some (some (.slice none 0 0),1,24):=by kernel_rfl
theorem aaN:(Tryz.prog.info? 42).map (fun i=>(i.zero,i.size,i.bytes))=some (some (.agg #[.int .i64 0,.slice none 0 0,.slice none 0 0]),3,56):=by kernel_rfl
theorem Ue:(Tryz.prog.info? 36).map (fun i=>(i.zero,i.size,i.bytes))=some (some (.slice none 0 0),1,24):=by kernel_rfl

theorem ahP {X w2:World}{B bh:Nat}{cs:List Value}{vt vf:Value}{ia:Option Addr}{icap:Nat}{ts is fs:List (Nat×Nat)}(h:HS X B bh cs vt (.slice ia is.length icap) vf ts is fs)(l:List eF)(ca:Option Addr)(aF:Nat)
  (hnil:ca=none→l.length=0∧aF=0) (hsrc:∀ad,ca=some ad→∀(j:Nat) (u:Value),(codeCells l)[j]? =some u→X.cell? (ad.add j)=some u) (hl:l.length≤1048576) (his:is.length+1≤16777216)
  (hb2:ak w2 X.heap.size 60 (madeCells (Value.agg #[.int .i64 0,.int .i64 0,.int .i64 0]).cells ((l.length+1)*3)).toList) (hm2:ay (fun _=>False) X w2) (hs2:w2.heap.size=X.heap.size+1) :
  ∃w3,(Builtin.copy_ #[61,61] 3 #[.slice (some ⟨X.heap.size,0,none⟩) (l.length+1) (l.length+1),.slice ca l.length aF]).run Tryz.prog w2= .ok (goInt l.length) w3∧
   ay (fun _=>False) X w3∧w3.heap.size=X.heap.size+1∧(∃c3,ak w3 X.heap.size 60 c3∧c3.length=(l.length+1)*3)∧
   ∃oz oC w4,(Builtin.append_ #[46,46] 46 #[.slice ia is.length icap,.slice (some ⟨X.heap.size+1,0,none⟩) 1 1]).run Tryz.prog
     ((((w3.setCell ⟨X.heap.size,l.length*3,none⟩ (.int .i64 (-77000000))).setCell ⟨X.heap.size,l.length*3+1,none⟩ (.int .i64 0)).setCell ⟨X.heap.size,l.length*3+2,none⟩ (.int .i64 0)).alloc (.cells #[.slice (some ⟨X.heap.size,0,none⟩) (l.length+1) (l.length+1)] 61))= .ok (.slice oz (is.length+1) oC) w4∧
    ay (fun k=>(Value.slice ia is.length icap).ownBlock=some k) X w4∧ak w4 bh 53 cs∧
    HS (w4.setCell ⟨bh,1,none⟩ (.slice oz (is.length+1) oC)) B bh (cs.set 1 (.slice oz (is.length+1) oC)) vt (.slice oz (is.length+1) oC) vf ts (is++ [(X.heap.size,l.length+1)]) fs∧
    ak w4 X.heap.size 60 (codeCells l++DF)∧((Value.slice oz (is.length+1) oC).ownBlock=(Value.slice ia is.length icap).ownBlock∨∃k,X.heap.size≤k∧(Value.slice oz (is.length+1) oC).ownBlock=some k):=by
 obtain⟨iI,hI,hI0,hI1,hI2⟩:=info_parts Uf;obtain⟨iJ,hJ,hJ0,hJ1,hJ2⟩:=info_parts Ug;have hle:=h.le;have hlt:=h.lt;obtain⟨w3,hcopy,hb3,oO,hs3⟩:=YE (P:=Tryz.prog) 61 3 60 iI 3 Tryz.underlying61 hI hI1 X.heap.size (l.length+1) (l.length+1) ca l.length aF (by omega) hnil (codeCells l) (Aa l) (fun ad e j u hu=>hm2.cell (hsrc ad e j u hu) (fun f=>f)) 60 _ hb2 (by rw [Aa,Io];omega) (aeA l);have dh:ay (fun _=>False) X w3:=hm2.trans oO (fun i hi e=>by omega)
 have hlen:(codeCells l++(madeCells (Value.agg #[.int .i64 0,.int .i64 0,.int .i64 0]).cells ((l.length+1)*3)).toList.drop (codeCells l).length).length=(l.length+1)*3:=by
  rw [List.length_append,List.length_drop,Io,Aa];omega
 have hbX:ak (((w3.setCell ⟨X.heap.size,l.length*3,none⟩ (.int .i64 (-77000000))).setCell ⟨X.heap.size,l.length*3+1,none⟩ (.int .i64 0)).setCell ⟨X.heap.size,l.length*3+2,none⟩ (.int .i64 0)) X.heap.size 60 (codeCells l++DF):=by
  have:=((hb3.setCell (l.length*3) (.int .i64 (-77000000))).setCell (l.length*3+1) (.int .i64 0)).setCell (l.length*3+2) (.int .i64 0)
  have e:((((codeCells l++(madeCells (Value.agg #[.int .i64 0,.int .i64 0,.int .i64 0]).cells ((l.length+1)*3)).toList.drop (codeCells l).length).set (l.length*3) (.int .i64 (-77000000))).set (l.length*3+1) (.int .i64 0)).set (l.length*3+2) (.int .i64 0))=codeCells l++DF:=by
   have hd:=Sv (l:=nO (codeCells l++(madeCells (Value.agg #[.int .i64 0,.int .i64 0,.int .i64 0]).cells ((l.length+1)*3)).toList.drop (codeCells l).length) (l.length*3) (.int .i64 (-77000000)) (.int .i64 0) (.int .i64 0)) (k:=l.length*3) (by rw [uU,hlen];omega) (IQ (by rw [hlen];omega)) (IW (by rw [hlen];omega)) (IX (by rw [hlen];omega))
   have ht:(nO (codeCells l++(madeCells (Value.agg #[.int .i64 0,.int .i64 0,.int .i64 0]).cells ((l.length+1)*3)).toList.drop (codeCells l).length) (l.length*3) (.int .i64 (-77000000)) (.int .i64 0) (.int .i64 0)).take (l.length*3)=codeCells l:=by
    unfold nO;rw [List.take_set_of_le (by omega),List.take_set_of_le (by omega),List.take_set_of_le (by omega),List.take_append_of_le_length (by rw [Aa];omega),List.take_of_length_le (by rw [Aa];omega)]
   show nO _ _ _ _ _=_
   rw [←List.take_append_drop (l.length*3) (nO (codeCells l++(madeCells (Value.agg #[.int .i64 0,.int .i64 0,.int .i64 0]).cells ((l.length+1)*3)).toList.drop (codeCells l).length) (l.length*3) (.int .i64 (-77000000)) (.int .i64 0) (.int .i64 0)),hd,ht]
  rwa [e] at this
 refine⟨w3,hcopy,dh,by omega,⟨_,hb3,hlen⟩,?_⟩;generalize vX:((w3.setCell ⟨X.heap.size,l.length*3,none⟩ (.int .i64 (-77000000))).setCell ⟨X.heap.size,l.length*3+1,none⟩ (.int .i64 0)).setCell ⟨X.heap.size,l.length*3+2,none⟩ (.int .i64 0)=X3 at hbX ⊢
 have Oe:ay (fun _=>False) X X3:=by
  rw [←vX];exact ((dh.setCell (fun h=>Nat.lt_irrefl _ h) _).setCell (fun h=>Nat.lt_irrefl _ h) _).setCell (fun h=>Nat.lt_irrefl _ h) _
 have ale:X3.heap.size=X.heap.size+1:=by rw [←vX];simp;omega
 clear vX;have h3:=h.stay Oe (fun k t c _ f=>f.elim);obtain⟨Bq,w4,happ,hown4,hm4,Fb⟩:=qN (P:=Tryz.prog) (W:=X3) 46 46 61 iJ (.slice none 0 0) 1 24 Tryz.underlying46 hJ hJ0 hJ1 hJ2 rfl (by decide) B (.slice ia is.length icap) is.length (is.map rW) h3.i.row #[.slice (some ⟨X.heap.size,0,none⟩) (l.length+1) (l.length+1)] rfl (by simp [Value.oneCell']) (X.heap.size+1) (by omega) (by unfold maxLen;omega) (by omega) (by omega);obtain⟨oz,oC,rfl⟩:=cZ hown4;have hrow:∀k,(Value.slice ia is.length icap).ownBlock=some k→B≤k∧k<X.heap.size:=h.i.row.lt;have yT:ak w4 bh 53 cs:=h3.hands.1.mods hm4 (fun e=>by have:=hrow _ e;omega)
 have hg4:ak w4 X.heap.size 60 (codeCells l++DF):=hbX.mods hm4 (fun e=>by have:=hrow _ e;omega);have alf:=hm4.size;refine⟨oz,oC,w4,happ,(Oe.mono (fun _ _ f=>f.elim)).trans hm4 (fun _ _ e=>e),yT,?_,hg4,?_⟩
 ·have AB:ay (fun k=>k=bh∨(Value.slice ia is.length icap).ownBlock=some k) X3 (w4.setCell ⟨bh,1,none⟩ (.slice oz (is.length+1) oC)):=(hm4.mono (fun _ _ e=>.inr e)).setCell (fun _=>.inl rfl) _
  have hS:∀(t:TypeId),t≠53→t≠61→∀k c,ak X3 k t c→¬(k=bh∨(Value.slice ia is.length icap).ownBlock=some k):=fun t h1 h2 k c hb hk=>by
   rcases hk with rfl | hk
   ·exact h1 (hb.uniq h3.hands.1)
   ·obtain⟨c',hb'⟩:=lD h3.i.row hk;exact h2 (hb.uniq hb')
  have hc19:=h.hands.2;have hne:X.heap.size≠bh:=by omega
  have hrow4:=eP (S:=fun k=>k=bh) hown4 ((ay.refl (fun k=>k=bh) w4).setCell (p:=⟨bh,1,none⟩) (fun _=>rfl) (.slice oz (is.length+1) oC)) (fun g e=>by have:=hown4.lt g e;omega);refine⟨⟨yT.setCell 1 _,by rw [List.length_set];exact hc19⟩,by rw [List.getElem?_set_ne (by omega)];exact h.c0,by rw [List.getElem?_set_self (by omega)],by rw [List.getElem?_set_ne (by omega)];exact h.c2,?_,?_,?_,hlt,Nat.le_trans h3.le AB.size⟩
  ·exact h3.t.mods AB (hS _ (by decide) (by decide)) (hS _ (by decide) (by decide))
  ·have akK:∀e∈is,B≤e.1∧1≤e.2∧e.2≤1048577∧∃cs:List Value,ak X e.1 60 cs∧cs.length=e.2*3∧cs.drop ((e.2-1)*3)=DF:=h.i.ent;refine jS.push h.i (S:=fun k=>k=bh∨(Value.slice ia is.length icap).ownBlock=some k) ((Oe.mono (fun _ _ f=>f.elim)).trans AB (fun _ _ e=>e)) (fun k c hb=>hS _ (by decide) (by decide) k c (hb.mods Oe (fun f=>f))) hle (Nat.le_refl _) (by omega) (by omega) (hg4.iq hne _) (by rw [List.length_append,Aa];show _+3=_;omega) ?_ ?_
   ·rw [show l.length+1-1=l.length by omega,List.drop_append_of_le_length (by rw [Aa];omega),List.drop_of_length_le (by rw [Aa];omega)];rfl
   ·rw [List.map_append];exact hrow4
  ·exact h3.f.mods AB (hS _ (by decide) (by decide)) (hS _ (by decide) (by decide))
 ·rcases Fb with h5 | ⟨k,h5,h6⟩
  ·exact .inl h5
  ·exact .inr ⟨k,by omega,h6⟩

structure adv (w w4 X:World)(B bh:Nat)(cs:List Value)(m:aC)(aa ca fa:Option Addr)(aI aF aG:Nat)(vt vi vf:Value)(ts is fs:List (Nat×Nat))(g1:Nat)(FY:Value)(gc:Nat)(mG:Value):Prop where
 eq:X=(w4.setCell ⟨bh,1,none⟩ mG).setCell ⟨w.heap.size+2,5,none⟩ (.slice (some ⟨gc,0,none⟩) m.code.length (m.code.length+1))
 hs:HS X B bh ((cs.set 0 FY).set 1 mG) FY mG vf (ts++ [(g1,m.args.length+1)]) (is++ [(gc,m.code.length+1)]) fs
 mods:ay (uo bh vt vi vf) w X
 b0:ak X w.heap.size 63 [.int .i64 m.slot,.slice aa m.args.length aI,.int .i64 m.ret,.int .i64 m.locals,.int .i64 m.stack,.slice ca m.code.length aF,.slice fa m.frames.length aG]
 b1:ak X (w.heap.size+1) 63 [.int .i64 0,.slice none 0 0,.int .i64 0,.int .i64 0,.int .i64 0,.slice none 0 0,.slice none 0 0]
 b2:ak X (w.heap.size+2) 63 [.int .i64 m.slot,.slice (some ⟨g1,0,none⟩) m.args.length (m.args.length+1),.int .i64 m.ret,.int .i64 m.locals,.int .i64 m.stack,.slice (some ⟨gc,0,none⟩) m.code.length (m.code.length+1),.slice fa m.frames.length aG]
 g:ak X g1 43 (m.args.map (Value.int .i64)++lastT)
 c:ak X gc 60 (codeCells m.code++DF)
 new1:w.heap.size+3≤g1
 LD:w.heap.size+3≤gc
 lt:FY.ownBlock=vt.ownBlock∨∃k,w.heap.size≤k∧FY.ownBlock=some k
 li:mG.ownBlock=vi.ownBlock∨∃k,w.heap.size≤k∧mG.ownBlock=some k

def MG (g:Addr→Option Value)(cf:List Value)(f:bF)(j:Nat):Prop:=
 ∃vl vs,cf[j*3]? =some (.int .i64 f.pc)∧cf[j*3+1]? =some vl∧cf[j*3+2]? =some vs∧aV 1 (fE g) vl f.locals∧aV 1 (fE g) vs f.stack
theorem MG.keep {g g':Addr→Option Value}{cf cf':List Value}{f:bF}{j:Nat}(h:MG g cf f j)(hg:dM g g')(hc:∀k,k<j*3+3→cf'[k]? =cf[k]?):MG g' cf' f j:=by
 obtain⟨vl,vs,h0,h1,h2,h3,h4⟩:=h;exact⟨vl,vs,by rw [hc _ (by omega)];exact h0,by rw [hc _ (by omega)];exact h1,by rw [hc _ (by omega)];exact h2,dA hg h3,dA hg h4⟩

structure nU (w wr:World)(B bh:Nat)(cs:List Value)(m:aC)(aa ca fa:Option Addr)(aI aF aG:Nat)(vt vi vf:Value)(y7:Nat)(mG:Value)(is1 fs:List (Nat×Nat))(g1 gc gf i:Nat)(kM:Value)(kK:List (Nat×Nat))(cs2 cf:List Value):Prop where
 hs:HS wr B bh cs2 kM mG vf kK is1 fs
 rest:∀j,3≤j→cs2[j]? =cs[j]?
 mods:ay (uo bh vt vi vf) w wr
 b0:ak wr w.heap.size 63 [.int .i64 m.slot,.slice aa m.args.length aI,.int .i64 m.ret,.int .i64 m.locals,.int .i64 m.stack,.slice ca m.code.length aF,.slice fa m.frames.length aG]
 b1:ak wr (w.heap.size+1) 63 [.int .i64 0,.slice none 0 0,.int .i64 0,.int .i64 0,.int .i64 0,.slice none 0 0,.slice none 0 0]
 b2:ak wr (w.heap.size+2) 63 [.int .i64 m.slot,.slice (some ⟨g1,0,none⟩) m.args.length (m.args.length+1),.int .i64 m.ret,.int .i64 m.locals,.int .i64 m.stack,.slice (some ⟨gc,0,none⟩) m.code.length (m.code.length+1),.slice fa m.frames.length aG]
 g:ak wr g1 43 (m.args.map (Value.int .i64)++lastT)
 c:ak wr gc 60 (codeCells m.code++DF)
 fb:ak wr gf 42 cf
 fl:cf.length=(m.frames.length+1)*3
 done:∀(j:Nat) (hj:j<m.frames.length),j<i→MG (cellS tT wr) cf m.frames[j] j
 lt:kM.ownBlock=vt.ownBlock∨∃k,w.heap.size≤k∧kM.ownBlock=some k
 li:mG.ownBlock=vi.ownBlock∨∃k,w.heap.size≤k∧mG.ownBlock=some k
 tl:kK.length=y7+1+2*i
 FH:w.heap.size+3≤gf
 LD:w.heap.size+3≤gc
 new1:w.heap.size+3≤g1
 old:∀e∈fs,e.1<w.heap.size
 leB:B≤w.heap.size

section
variable {w wr : World} {B bh : Nat} {cs : List Value} {m : aC} {aa ca fa : Option Addr} {aI aF aG : Nat} {vt vi vf : Value} {y7 : Nat} {mG : Value} {is1 fs : List (Nat × Nat)} {g1 gc gf i : Nat} {kM : Value} {kK : List (Nat × Nat)} {cs2 cf : List Value}

theorem nU.rows (h:nU w wr B bh cs m aa ca fa aI aF aG vt vi vf y7 mG is1 fs g1 gc gf i kM kK cs2 cf){k:Nat}(hk:k<w.heap.size)(hr:k=bh∨kM.ownBlock=some k):uo bh vt vi vf k:=by
 rcases hr with rfl | hr
 ·exact .inl rfl
 ·rcases h.lt with e | ⟨k',e1,e2⟩
  ·exact .inr (.inl (e▸hr))
  ·rw [e2] at hr;cases hr;omega
theorem nU.far (h:nU w wr B bh cs m aa ca fa aI aF aG vt vi vf y7 mG is1 fs g1 gc gf i kM kK cs2 cf){k:Nat}{t:TypeId}{c:List Value}(hb:ak wr k t c)(h1:t≠53)(h2:t≠40):¬(k=bh∨kM.ownBlock=some k):=fun hk=>by
 rcases hk with rfl | hk
 ·exact h1 (hb.uniq h.hs.hands.1)
 ·obtain⟨c',hb'⟩:=lD h.hs.t.row hk;exact h2 (hb.uniq hb')
theorem nU.drew (h:nU w wr B bh cs m aa ca fa aI aF aG vt vi vf y7 mG is1 fs g1 gc gf i kM kK cs2 cf):nU w wr.drew B bh cs m aa ca fa aI aF aG vt vi vf y7 mG is1 fs g1 gc gf i kM kK cs2 cf:=by
 have hm:ay (fun _=>False) wr wr.drew:=(ay.refl _ _).drew;exact⟨h.hs.stay hm (fun _ _ _ _ f=>f.elim),h.rest,h.mods.drew,h.b0,h.b1,h.b2,h.g,h.c,h.fb,h.fl,fun j hj hji=>(h.done j hj hji).keep (nI hm (fun _ _ _ _ _ f=>f)) (fun _ _=>rfl),h.lt,h.li,h.tl,h.FH,h.LD,h.new1,h.old,h.leB⟩
theorem nU.DI (h:nU w wr B bh cs m aa ca fa aI aF aG vt vi vf y7 mG is1 fs g1 gc gf i kM kK cs2 cf){l:List Int}{w':World}{g:Nat}{jD:Value}(hl:l.length≤1048576)(L:JE wr w' bh cs2 kM B kK l g jD)(n':Nat)(hn:kK.length+1=n'+1+2*i) :
  nU w w' B bh cs m aa ca fa aI aF aG vt vi vf n' mG is1 fs g1 gc gf i jD (kK++ [(g,l.length+1)]) (cs2.set 0 jD) cf:=by
 have hsz:=h.mods.size
 refine⟨h.hs.DI hl L,fun j hj=>by rw [List.getElem?_set_ne (by omega)];exact h.rest j hj,h.mods.trans L.mods (fun k hk hr=>h.rows hk hr),h.b0.mods L.mods (h.far h.b0 (by decide) (by decide)),h.b1.mods L.mods (h.far h.b1 (by decide) (by decide)),h.b2.mods L.mods (h.far h.b2 (by decide) (by decide)),
  h.g.mods L.mods (h.far h.g (by decide) (by decide)),h.c.mods L.mods (h.far h.c (by decide) (by decide)),h.fb.mods L.mods (h.far h.fb (by decide) (by decide)),h.fl,
  fun j hj hji=>(h.done j hj hji).keep (nI L.mods (fun k t c hb ht=>by obtain rfl:=List.mem_singleton.1 ht;exact h.far hb (by decide) (by decide))) (fun _ _=>rfl),?_,h.li,by rw [List.length_append,List.length_singleton];omega,h.FH,h.LD,h.new1,h.old,h.leB⟩
 ·rcases L.lies with e | ⟨k,e1,e2⟩
  ·rw [e];exact h.lt
  ·exact .inr ⟨k,by omega,e2⟩
theorem nU.GY (h:nU w wr B bh cs m aa ca fa aI aF aG vt vi vf y7 mG is1 fs g1 gc gf i kM kK cs2 cf)(k:Nat)(hk:k<(m.frames.length+1)*3):∃u,wr.cell? ⟨gf,k,none⟩=some u:=
 ⟨cf[k]'(by rw [h.fl];exact hk),by rw [h.fb.cell];exact List.getElem?_eq_getElem _⟩
theorem nU.put (h:nU w wr B bh cs m aa ca fa aI aF aG vt vi vf y7 mG is1 fs g1 gc gf i kM kK cs2 cf)(hi:i<m.frames.length){vl vs:Value}(hl:aV 1 (fE (cellS tT wr)) vl m.frames[i].locals)(hs:aV 1 (fE (cellS tT wr)) vs m.frames[i].stack)(n':Nat)(hn:kK.length=n'+1+2*(i+1)) :
  ∃cf',nU w (((wr.setCell ⟨gf,i*3,none⟩ (.int .i64 m.frames[i].pc)).setCell ⟨gf,i*3+1,none⟩ vl).setCell ⟨gf,i*3+2,none⟩ vs) B bh cs m aa ca fa aI aF aG vt vi vf n' mG is1 fs g1 gc gf (i+1) kM kK cs2 cf':=by
 have hsz:=h.mods.size;have hnf:=h.FH;have hlt:=h.hs.lt;have hle:=h.hs.le;generalize hX:((wr.setCell ⟨gf,i*3,none⟩ (.int .i64 m.frames[i].pc)).setCell ⟨gf,i*3+1,none⟩ vl).setCell ⟨gf,i*3+2,none⟩ vs=X
 have hm:ay (fun k=>k=gf) wr X:=by
  rw [←hX];exact (((ay.refl (fun k=>k=gf) wr).setCell (p:=⟨gf,i*3,none⟩) (fun _=>rfl) _).setCell (p:=⟨gf,i*3+1,none⟩) (fun _=>rfl) _).setCell (p:=⟨gf,i*3+2,none⟩) (fun _=>rfl) _
 have hb:ak X gf 42 (nO cf (i*3) (.int .i64 m.frames[i].pc) vl vs):=by
  rw [←hX];exact ((h.fb.setCell (i*3) _).setCell (i*3+1) _).setCell (i*3+2) _
 clear hX;have hfl:=h.fl;have hne:∀ {k t c},ak wr k t c→t≠42→¬(k=gf):=fun hb' ht e=>by subst e;exact ht (hb'.uniq h.fb)
 have hge:dM (cellS tT wr) (cellS tT X):=nI hm (fun k t c hb' ht=>by obtain rfl:=List.mem_singleton.1 ht;exact hne hb' (by decide))
 refine⟨_,⟨⟨h.hs.hands.1.mods hm (hne h.hs.hands.1 (by decide)),h.hs.hands.2⟩,h.hs.c0,h.hs.c1,h.hs.c2,h.hs.t.mods hm (fun k c hb'=>hne hb' (by decide)) (fun k c hb'=>hne hb' (by decide)),h.hs.i.mods hm (fun k c hb'=>hne hb' (by decide)) (fun k c hb'=>hne hb' (by decide)),h.hs.f.OU hm (fun k c hb'=>hne hb' (by decide)) (fun e he hk=>by have:=h.old e he;omega),hlt,Nat.le_trans hle hm.size⟩,h.rest,h.mods.trans hm (fun k hk e=>by omega),h.b0.mods hm (hne h.b0 (by decide)),h.b1.mods hm (hne h.b1 (by decide)),h.b2.mods hm (hne h.b2 (by decide)),h.g.mods hm (hne h.g (by decide)),h.c.mods hm (hne h.c (by decide)),hb,by rw [uU];exact hfl,fun j hj hji=>?_,h.lt,h.li,hn,h.FH,h.LD,h.new1,h.old,h.leB⟩
 ·rcases Nat.lt_or_ge j i with hlt' | hge'
  ·exact (h.done j hj hlt').keep hge (fun k hk=>FP (by omega))
  ·obtain rfl:j=i:=by omega
   exact⟨vl,vs,IQ (by omega),IW (by omega),IX (by omega),dA hge hl,dA hge hs⟩
theorem nU.fin {fa2:Option Addr}{wW:Nat}(h:nU w wr B bh cs m aa ca fa aI aF aG vt vi (.slice fa2 fs.length wW) y7 mG is1 fs g1 gc gf m.frames.length kM kK cs2 cf)(hfs:fs.length+1≤16777216)(hfl:m.frames.length≤1048576) :
  ∃fa3 sN w6,(Builtin.append_ #[47,47] 47 #[.slice fa2 fs.length wW,.slice (some ⟨wr.heap.size,0,none⟩) 1 1]).run Tryz.prog
    ((((wr.setCell ⟨gf,m.frames.length*3,none⟩ (.int .i64 (-77000000))).setCell ⟨gf,m.frames.length*3+1,none⟩ (.slice none 0 0)).setCell ⟨gf,m.frames.length*3+2,none⟩ (.slice none 0 0)).alloc (.cells #[.slice (some ⟨gf,0,none⟩) (m.frames.length+1) (m.frames.length+1)] 36))= .ok (.slice fa3 (fs.length+1) sN) w6∧
   ak w6 bh 53 cs2∧ay (uo bh vt vi (.slice fa2 fs.length wW)) w w6∧wr.heap.size≤w6.heap.size∧
   ak w6 w.heap.size 63 [.int .i64 m.slot,.slice aa m.args.length aI,.int .i64 m.ret,.int .i64 m.locals,.int .i64 m.stack,.slice ca m.code.length aF,.slice fa m.frames.length aG]∧
   ak w6 (w.heap.size+1) 63 [.int .i64 0,.slice none 0 0,.int .i64 0,.int .i64 0,.int .i64 0,.slice none 0 0,.slice none 0 0]∧
   ak w6 (w.heap.size+2) 63 [.int .i64 m.slot,.slice (some ⟨g1,0,none⟩) m.args.length (m.args.length+1),.int .i64 m.ret,.int .i64 m.locals,.int .i64 m.stack,.slice (some ⟨gc,0,none⟩) m.code.length (m.code.length+1),.slice fa m.frames.length aG]∧
   HS (w6.setCell ⟨bh,2,none⟩ (.slice fa3 (fs.length+1) sN)) B bh (cs2.set 2 (.slice fa3 (fs.length+1) sN)) kM mG (.slice fa3 (fs.length+1) sN) kK is1 (fs++ [(gf,m.frames.length+1)])∧
   bV (cellS t3 w6) m (.slice (some ⟨g1,0,none⟩) m.args.length (m.args.length+1)) (.slice (some ⟨gc,0,none⟩) m.code.length (m.code.length+1)) (.slice (some ⟨gf,0,none⟩) m.frames.length (m.frames.length+1))∧
   ((Value.slice fa3 (fs.length+1) sN).ownBlock=(Value.slice fa2 fs.length wW).ownBlock∨∃k,w.heap.size≤k∧(Value.slice fa3 (fs.length+1) sN).ownBlock=some k):=by
 obtain⟨iG,hG,hG0,hG1,hG2⟩:=info_parts Ue;have hsz:=h.mods.size;have hnf:=h.FH;have hlt:=h.hs.lt;have hle:=h.hs.le;have hcl:=h.fl;have akZ:=h.leB;generalize hX:((wr.setCell ⟨gf,m.frames.length*3,none⟩ (.int .i64 (-77000000))).setCell ⟨gf,m.frames.length*3+1,none⟩ (.slice none 0 0)).setCell ⟨gf,m.frames.length*3+2,none⟩ (.slice none 0 0)=X
 have hm:ay (fun k=>k=gf) wr X:=by
  rw [←hX];exact (((ay.refl (fun k=>k=gf) wr).setCell (p:=⟨gf,m.frames.length*3,none⟩) (fun _=>rfl) _).setCell (p:=⟨gf,m.frames.length*3+1,none⟩) (fun _=>rfl) _).setCell (p:=⟨gf,m.frames.length*3+2,none⟩) (fun _=>rfl) _
 have Fv:X.heap.size=wr.heap.size:=by rw [←hX];simp
 have hb:ak X gf 42 (nO cf (m.frames.length*3) (.int .i64 (-77000000)) (.slice none 0 0) (.slice none 0 0)):=by
  rw [←hX];exact ((h.fb.setCell (m.frames.length*3) _).setCell (m.frames.length*3+1) _).setCell (m.frames.length*3+2) _
 clear hX;have hne:∀ {k t c},ak wr k t c→t≠42→¬(k=gf):=fun hb' ht e=>by subst e;exact ht (hb'.uniq h.fb)
 have kY:HS X B bh cs2 kM mG (.slice fa2 fs.length wW) kK is1 fs:=⟨⟨h.hs.hands.1.mods hm (hne h.hs.hands.1 (by decide)),h.hs.hands.2⟩,h.hs.c0,h.hs.c1,h.hs.c2,h.hs.t.mods hm (fun k c hb'=>hne hb' (by decide)) (fun k c hb'=>hne hb' (by decide)),h.hs.i.mods hm (fun k c hb'=>hne hb' (by decide)) (fun k c hb'=>hne hb' (by decide)),h.hs.f.OU hm (fun k c hb'=>hne hb' (by decide)) (fun e he hk=>by have:=h.old e he;omega),hlt,Nat.le_trans hle hm.size⟩
 obtain⟨vf3,w6,happ,hown6,nM,H9⟩:=qN (P:=Tryz.prog) (W:=X) 47 47 36 iG (.slice none 0 0) 1 24 Tryz.underlying47 hG hG0 hG1 hG2 rfl (by decide) B (.slice fa2 fs.length wW) fs.length (fs.map rW) kY.f.row #[.slice (some ⟨gf,0,none⟩) (m.frames.length+1) (m.frames.length+1)] rfl (by simp [Value.oneCell']) wr.heap.size Fv (by unfold maxLen;omega) (by omega) (by omega);obtain⟨fa3,sN,rfl⟩:=cZ hown6;have hrow:∀k,(Value.slice fa2 fs.length wW).ownBlock=some k→∃c,ak X k 36 c:=fun k e=>lD kY.f.row e;have hnr:∀ {k t c},ak X k t c→t≠36→¬((Value.slice fa2 fs.length wW).ownBlock=some k):=fun hb' ht e=>by obtain⟨c',TG⟩:=hrow _ e;exact ht (hb'.uniq TG)
 have mY:ak w6 bh 53 cs2:=kY.hands.1.mods nM (hnr kY.hands.1 (by decide));have Ov:=hb.mods nM (hnr hb (by decide));have hs6:=nM.size;have hge:dM (cellS tT wr) (cellS tT w6):=(nI hm (fun k t c hb' ht=>by obtain rfl:=List.mem_singleton.1 ht;exact hne hb' (by decide))).trans (nI nM (fun k t c hb' ht=>by obtain rfl:=List.mem_singleton.1 ht;exact hnr hb' (by decide)));have xK:∀ {k t c},ak wr k t c→t≠42→t≠36→ak w6 k t c:=fun hb' h1 h2=>(hb'.mods hm (hne hb' h1)).mods nM (hnr (hb'.mods hm (hne hb' h1)) h2)
 refine⟨fa3,sN,w6,happ,mY,(h.mods.trans hm (fun k hk e=>by omega)).trans nM (fun k hk e=>.inr (.inr (.inr e))),by omega,xK h.b0 (by decide) (by decide),xK h.b1 (by decide) (by decide),xK h.b2 (by decide) (by decide),?_,?_,?_⟩
 ·have AB:ay (fun k=>k=bh∨(Value.slice fa2 fs.length wW).ownBlock=some k) X (w6.setCell ⟨bh,2,none⟩ (.slice fa3 (fs.length+1) sN)):=(nM.mono (fun _ _ e=>.inr e)).setCell (fun _=>.inl rfl) _
  have hS:∀(t:TypeId),t≠53→t≠36→∀k c,ak X k t c→¬(k=bh∨(Value.slice fa2 fs.length wW).ownBlock=some k):=fun t h1 h2 k c hb' hk=>by
   rcases hk with rfl | hk
   ·exact h1 (hb'.uniq kY.hands.1)
   ·exact hnr hb' h2 hk
  have hc19:=h.hs.hands.2;have hnb:gf≠bh:=by omega
  have ag3:=eP (S:=fun k=>k=bh) hown6 ((ay.refl (fun k=>k=bh) w6).setCell (p:=⟨bh,2,none⟩) (fun _=>rfl) (.slice fa3 (fs.length+1) sN)) (fun g e=>by have:=hown6.lt g e;omega);refine⟨⟨mY.setCell 2 _,by rw [List.length_set];exact hc19⟩,by rw [List.getElem?_set_ne (by omega)];exact h.hs.c0,by rw [List.getElem?_set_ne (by omega)];exact h.hs.c1,by rw [List.getElem?_set_self (by omega)],kY.t.mods AB (hS _ (by decide) (by decide)) (hS _ (by decide) (by decide)),kY.i.mods AB (hS _ (by decide) (by decide)) (hS _ (by decide) (by decide)),?_,hlt,Nat.le_trans kY.le AB.size⟩;refine⟨by rw [List.length_append,List.map_append];exact ag3,fun e he=>?_,?_⟩
  ·rcases List.mem_append.1 he with he | he
   ·obtain⟨h1,h2,h3,c,h4,h5⟩:=kY.f.ent e he;exact⟨h1,h2,h3,c,h4.mods AB (hS _ (by decide) (by decide) _ _ h4),h5⟩
   ·rw [List.mem_singleton] at he;subst he;refine⟨by show B≤gf;omega,by show 1≤m.frames.length+1;omega,by show m.frames.length+1≤1048577;omega,_,Ov.iq hnb _,by rw [uU];exact hcl,?_⟩
    ·rw [show m.frames.length+1-1=m.frames.length by omega];exact Sv (by rw [uU];omega) (IQ (by omega)) (IW (by omega)) (IX (by omega))
  ·rw [List.map_append,List.nodup_append];refine⟨h.hs.f.nodup,by simp,fun a ha b hb'=>?_⟩;obtain⟨e,he,rfl⟩:=List.mem_map.1 ha;have:b=gf:=by simpa using hb'
   have:=h.old e he;omega
 ·have hv:∀ {v l},aV 1 (fE (cellS tT wr)) v l→aV 1 (fE (cellS t3 w6)) v l:=fun hv=>dA (hge.trans (NG (by simp) w6)) hv;refine⟨Ij (xK h.g (by decide) (by decide)) (by simp) (by omega),Si (xK h.c (by decide) (by decide)) (by simp) (by omega),?_⟩;refine⟨_,gf,0,_,rfl,by omega,⟨fun _=>rfl,.inr (.inl rfl)⟩,fun j x hj=>?_⟩;obtain⟨hj1,rfl⟩:=List.getElem?_eq_some_iff.1 hj;obtain⟨vl,vs,f0,f1,f2,f3,f4⟩:=h.done j hj1 hj1
  exact⟨vl,vs,by rw [EM Ov (by simp),Nat.zero_add,FP (by omega)];exact f0,by rw [EM Ov (by simp),Nat.zero_add,FP (by omega)];exact f1,by rw [EM Ov (by simp),Nat.zero_add,FP (by omega)];exact f2,hv f3,hv f4⟩
 ·rcases H9 with e | ⟨k,e1,e2⟩
  ·exact .inl e
  ·exact .inr ⟨k,by omega,e2⟩
end
end Go.Proofs.YtiiokkllmchohaaGreat
namespace Go.Proofs.YtiiokkllmchohaaGreat
open Go.RowKit
attribute [local go_sem ↓] Go.wp_at_zero Go.wp_at_succ
theorem EO {b g:Nat}(h:b≠g)(w:World)(o i j k:Nat)(x y z:Value):(((w.setCell ⟨g,i,none⟩ x).setCell ⟨g,j,none⟩ y).setCell ⟨g,k,none⟩ z).cell? ⟨b,o,none⟩=w.cell? ⟨b,o,none⟩:=by
 refine World.cell?_of_block ?_;rw [Below.heap_setCell _ _ _ _ h,Below.heap_setCell _ _ _ _ h,Below.heap_setCell _ _ _ _ h]
theorem abl (l:List bF):4*l.length≤(l.map iH).sum:=by
 induction l with
 | nil => simp
 | cons f r ih => simp only [List.map_cons, List.sum_cons, List.length_cons]; unfold iH; unfold iH at ih; omega
structure Xm (w w':World)(B bh:Nat)(cs:List Value)(m:aC)(vt vi vf:Value)(ts is fs:List (Nat×Nat))(g1 gc gf:Nat)(jD Bq mF:Value)(ts' is' fs':List (Nat×Nat))(cs':List Value):Prop where
 hs:HS w' B bh cs' jD Bq mF ts' is' fs'
 rest:∀j,3≤j→cs'[j]? =cs[j]?
 mods:ay (uo bh vt vi vf) w w'
 vals:bV (cellS t3 w') m (.slice (some ⟨g1,0,none⟩) m.args.length (m.args.length+1)) (.slice (some ⟨gc,0,none⟩) m.code.length (m.code.length+1)) (.slice (some ⟨gf,0,none⟩) m.frames.length (m.frames.length+1))
 lt:jD.ownBlock=vt.ownBlock∨∃k,w.heap.size≤k∧jD.ownBlock=some k
 li:Bq.ownBlock=vi.ownBlock∨∃k,w.heap.size≤k∧Bq.ownBlock=some k
 lf:mF.ownBlock=vf.ownBlock∨∃k,w.heap.size≤k∧mF.ownBlock=some k
 tl:ts'.length≤ts.length+dN m
 il:is'.length=is.length+1
 fl:fs'.length=fs.length+1

theorem ahR (m:aC)(va vc kL:Value)(w:World)(B bh:Nat)(cs:List Value)(vt vi vf:Value)(ts is fs:List (Nat×Nat))(hm:bV (jV bh B w) m va vc kL)(h:HS w B bh cs vt vi vf ts is fs)
  (hz:dN m≤1048576) (hts:ts.length+dN m≤16777216) (his:is.length+1≤16777216) (hfs:fs.length+1≤16777216) :
  Calls Tryz.prog 82 #[.pointer (some ⟨bh,0,none⟩),.agg #[.int .i64 m.slot,va,.int .i64 m.ret,.int .i64 m.locals,.int .i64 m.stack,vc,kL]] w fun e w'=>∃g1 gc gf,e= .returned (.agg #[.int .i64 m.slot,.slice (some ⟨g1,0,none⟩) m.args.length (m.args.length+1),.int .i64 m.ret,.int .i64 m.locals,.int .i64 m.stack,.slice (some ⟨gc,0,none⟩) m.code.length (m.code.length+1),.slice (some ⟨gf,0,none⟩) m.frames.length (m.frames.length+1)])∧
   ∃jD Bq mF ts' is' fs' cs',Xm w w' B bh cs m vt vi vf ts is fs g1 gc gf jD Bq mF ts' is' fs' cs':=by
 obtain⟨iI,hI,hI0,hI1,hI2⟩:=info_parts Uf;obtain⟨iJ,hJ,hJ0,hJ1,hJ2⟩:=info_parts Ug;obtain⟨iF,hF,yQ,hF1,hF2⟩:=info_parts aaN;obtain⟨iG,hG,hG0,hG1,hG2⟩:=info_parts Ue;obtain⟨ha,hc,hf⟩:=hm;have HA:=hide ha;have HC:=hide hc;have HF:=hide hf;obtain⟨aa,_,_,aI,rfl,_⟩:=aZ ha;obtain⟨ca,cb,nZ,aF,rfl,_,hca,_⟩:=aZ hc;obtain⟨fa,fb,kU,aG,rfl,_,hfa,hfr⟩:=aZ hf;have BH:=hide hfr;clear ha hc hf hfr;have hlt:=h.lt;have hle:=h.le;have HH:=hide h;clear h;have hal:m.args.length≤1048576:=by unfold dN at hz;omega
 have hcl:m.code.length≤1048576:=by unfold dN at hz;omega
 have hfl:m.frames.length≤1048576:=Nat.le_trans (Vt m) hz;go_enter Tryz.func82,Tryz.ntmps82
 go_wp2_with fail
 generalize hW:((w.alloc _).alloc _).alloc _=W;have hmW:ay (fun _=>False) w W:=by rw [←hW];exact (((ay.refl _ w).alloc _).alloc _).alloc _
 have hsW:W.heap.size=w.heap.size+3:=by rw [←hW];simp
 have b0:ak W w.heap.size 63 [.int .i64 m.slot,.slice aa m.args.length aI,.int .i64 m.ret,.int .i64 m.locals,.int .i64 m.stack,.slice ca m.code.length aF,.slice fa m.frames.length aG]:=by rw [←hW];exact ((ak.new _ _ _).alloc _).alloc _
 have b1:ak W (w.heap.size+1) 63 [.int .i64 0,.slice none 0 0,.int .i64 0,.int .i64 0,.int .i64 0,.slice none 0 0,.slice none 0 0]:=by rw [←hW];exact (by simpa using (ak.new (w.alloc _) _ _).alloc _)
 have b2:ak W (w.heap.size+2) 63 [.int .i64 m.slot,.slice aa m.args.length aI,.int .i64 m.ret,.int .i64 m.locals,.int .i64 m.stack,.slice ca m.code.length aF,.slice fa m.frames.length aG]:=by rw [←hW];exact (by simpa using ak.new ((w.alloc _).alloc _) _ _)
 clear hW;have H1:=hide ((ah HH).stay hmW (fun k t c _ f=>f.elim));have HAW:=hide (dA ((uz hmW (fun _ _ f=>f)).trans (mQ bh B W)) (ah HA));refine (OL m.args _ W bh cs vt B ts (ah HAW) (ah H1).hands (ah H1).c0 (ah H1).t.row (ah H1).le hlt hal (by unfold dN at hts;omega)).mono ?_;rintro e w1 ⟨g1,rfl,FY,L1⟩
 have hn1:∀k,w.heap.size≤k→k<W.heap.size→¬(k=bh∨vt.ownBlock=some k):=fun k h1 _ hk=>by
  rcases hk with hk | hk
  ·omega
  ·have:=(ah HH).t.row.lt k hk;omega
 have e0:=b0.mods L1.mods (hn1 _ (by omega) (by omega));have e1:=b1.mods L1.mods (hn1 _ (by omega) (by omega));have e2:=b2.mods L1.mods (hn1 _ (by omega) (by omega));have hs1:=L1.mods.size;have H2:=hide ((ah H1).DI hal L1);have vG:=hide ((hmW.mono (T:=uo bh vt vi vf) (fun _ _ f=>f.elim)).trans ((ah H1).ahS L1) (fun _ _ h=>h));obtain⟨ia,icap,Ua⟩:=cZ (ah HH).i.row;subst Ua
 obtain⟨sa,scap,agx,aax,aaE⟩:=ae4 (G8 ((uz hmW (fun _ _ f=>f)).trans (uz L1.mods (fun k hk=>fun hr=>by
  rcases hr with hr | hr
  ·omega
  ·have:=(ah HH).t.row.lt k hr;omega))) (ah HC))
 injection agx with agy _ agz
 subst agy agz;have HNC:=hide aax;have HSC:=hide aaE;have p5:w1.cell? ⟨w.heap.size,5,none⟩=some (.slice ca m.code.length aF):=e0.cell 5;have o1:w1.cell? ⟨w.heap.size+2,1,none⟩=some (.slice aa m.args.length aI):=e2.cell 1;have o1f:=e2.frozen 1;have akM:bh≠w.heap.size+2:=by omega
 have wJ:=hide L1;have HN1:=hide hn1;have B0:=hide b0;have E0:=hide e0;have E1:=hide e1;have E2:=hide e2;clear aax aaE L1 hn1 b0 b1 b2 e0 e1 e2 hmW;obtain⟨X1,hX1⟩:∃X1,X1=w1.setCell ⟨w.heap.size+2,1,none⟩ (.slice (some ⟨g1,0,none⟩) m.args.length (m.args.length+1)):=⟨_,rfl⟩;have KZ:ay (fun k=>k=w.heap.size+2) w1 X1:=by rw [hX1];exact (ay.refl (fun k=>k=w.heap.size+2) _).setCell (p:=⟨w.heap.size+2,1,none⟩) (fun _=>rfl) _
 have OG:X1.heap.size=w1.heap.size:=by rw [hX1];simp
 have x0:=(ah E0).mods KZ (by omega);have x1:=(ah E1).mods KZ (by omega);have x2:ak X1 (w.heap.size+2) 63 [.int .i64 m.slot,.slice (some ⟨g1,0,none⟩) m.args.length (m.args.length+1),.int .i64 m.ret,.int .i64 m.locals,.int .i64 m.stack,.slice ca m.code.length aF,.slice fa m.frames.length aG]:=by rw [hX1];exact (ah E2).setCell 1 _
 have H3:=hide ((ah H2).stay KZ (fun k t c hb hk=>by
  subst hk;rw [hb.uniq (ah E2)]
  decide))
 have HX0:=hide x0;have Nh:=hide x1;have JC:=hide x2;have QN:=hide KZ;have ac8:=hide hX1;clear x0 x1 x2 KZ hX1
 have hmk:∀w2,ak w2 w1.heap.size 60 (madeCells (Value.agg #[.int .i64 0,.int .i64 0,.int .i64 0]).cells ((m.code.length+1)*3)).toList→ay (fun _=>False) (w1.setCell ⟨w.heap.size+2,1,none⟩ (.slice (some ⟨g1,0,none⟩) m.args.length (m.args.length+1))) w2→w2.heap.size=w1.heap.size+1→
   ∃w3 oz oC w4,(Builtin.copy_ #[61,61] 3 #[.slice (some ⟨w1.heap.size,0,none⟩) (m.code.length+1) (m.code.length+1),.slice ca m.code.length aF]).run Tryz.prog w2= .ok (goInt m.code.length) w3∧
    (Builtin.append_ #[46,46] 46 #[.slice ia is.length icap,.slice (some ⟨w1.heap.size+1,0,none⟩) 1 1]).run Tryz.prog
     ((((w3.setCell ⟨w1.heap.size,m.code.length*3,none⟩ (.int .i64 (-77000000))).setCell ⟨w1.heap.size,m.code.length*3+1,none⟩ (.int .i64 0)).setCell ⟨w1.heap.size,m.code.length*3+2,none⟩ (.int .i64 0)).alloc (.cells #[.slice (some ⟨w1.heap.size,0,none⟩) (m.code.length+1) (m.code.length+1)] 61))= .ok (.slice oz (is.length+1) oC) w4∧
    w2.cell? ⟨w.heap.size,5,none⟩=some (.slice ca m.code.length aF)∧
    (∃u0 u1 u2,w3.cell? ⟨w1.heap.size,m.code.length*3,none⟩=some u0∧w3.cell? ⟨w1.heap.size,m.code.length*3+1,none⟩=some u1∧w3.cell? ⟨w1.heap.size,m.code.length*3+2,none⟩=some u2)∧
    (∀i,w3.frozen? ⟨w1.heap.size,i,none⟩=false)∧w3.heap.size=w1.heap.size+1∧w3.cell? ⟨w.heap.size,5,none⟩=some (.slice ca m.code.length aF)∧w3.cell? ⟨bh,1,none⟩=some (.slice ia is.length icap)∧
    w4.cell? ⟨bh,1,none⟩=some (.slice ia is.length icap)∧w4.frozen? ⟨bh,1,none⟩=false∧w4.cell? ⟨w.heap.size,5,none⟩=some (.slice ca m.code.length aF)∧w4.cell? ⟨w.heap.size,6,none⟩=some (.slice fa m.frames.length aG)∧
    w4.cell? ⟨w.heap.size+2,5,none⟩=some (.slice ca m.code.length aF)∧w4.frozen? ⟨w.heap.size+2,5,none⟩=false∧w1.heap.size+1≤w4.heap.size∧
    ∃X,adv w w4 X B bh cs m aa ca fa aI aF aG vt (.slice ia is.length icap) vf ts is fs g1 FY w1.heap.size (.slice oz (is.length+1) oC):=by
  intro w2 hb2 hm2 hs2;rw [←ah ac8] at hm2
  obtain⟨w3,hcopy,dh,hs3,⟨c3,hc3,akR⟩,oz,oC,w4,happ,jI,yT,Zv,hg4,Fb⟩:=ahP (ah H3) m.code ca aF (ah HNC) (fun ad e j u hu=>by
    have:=ah HSC ad e j u hu
    exact (ah QN).cell (mQ bh B w1 _ _ this) (fun e=>by have:=JZ this;omega)) hcl his (by rw [OG];exact hb2) hm2 (by rw [OG];exact hs2)
  rw [OG] at hcopy happ hs3 hc3 hg4 Zv Fb;have ag4:∀k,(Value.slice ia is.length icap).ownBlock=some k→B≤k∧k<w.heap.size:=(ah HH).i.row.lt;have OC:∀k,w.heap.size≤k→¬((Value.slice ia is.length icap).ownBlock=some k):=fun k hk e=>by have:=ag4 k e;omega
  have OH:=jI.size;rw [OG] at OH;have z0:=(ah HX0).mods jI (OC _ (by omega));have z1:=(ah Nh).mods jI (OC _ (by omega));have z2:=(ah JC).mods jI (OC _ (by omega));have y0:=(ah HX0).mods dh (fun f=>f);have yh:=(ah H3).hands.1.mods dh (fun f=>f);have x0:=(ah HX0).mods hm2 (fun f=>f);have c1:=(ah H3).c1;have hg1:w.heap.size+3≤g1:=by have:=(ah wJ).new;omega
  have hgz:=(((ah wJ).blk.mods (ah QN) (by omega)).mods jI (OC _ (by omega)))
  have hsz5:w1.heap.size+1≤w4.heap.size:=by
   have:=hg4.lt;omega
  refine⟨w3,oz,oC,w4,hcopy,happ,by rw [x0.cell];rfl,?_,hc3.frozen,hs3,by rw [y0.cell];rfl,by rw [yh.cell];exact c1,by rw [yT.cell];exact c1,yT.frozen 1,by rw [z0.cell];rfl,by rw [z0.cell];rfl,by rw [z2.cell];rfl,z2.frozen 5,hsz5,_,rfl,?_,?_,?_,?_,?_,?_,?_,hg1,by omega,?_,?_⟩
  ·have hx:∀i,i<(m.code.length+1)*3→∃u,w3.cell? ⟨w1.heap.size,i,none⟩=some u:=fun i hi=>⟨c3[i]'(by omega),by rw [hc3.cell];exact List.getElem?_eq_getElem (by omega)⟩;obtain⟨u0,q0⟩:=hx (m.code.length*3) (by omega);obtain⟨u1,q1⟩:=hx (m.code.length*3+1) (by omega);obtain⟨u2,q2⟩:=hx (m.code.length*3+2) (by omega);exact⟨u0,u1,u2,q0,q1,q2⟩
  ·refine Zv.stay (S:=fun k=>k=w.heap.size+2) ((ay.refl (fun k=>k=w.heap.size+2) _).setCell (p:=⟨w.heap.size+2,5,none⟩) (fun _=>rfl) _) (fun k t c hb hk=>?_);subst hk;rw [hb.uniq (z2.iq (p:=⟨bh,1,none⟩) (by show w.heap.size+2≠bh;omega) _)]
   decide
  ·refine (((ah vG).trans (ah QN) (fun i hi e=>by omega)).trans jI (fun i hi e=>.inr (.inr (.inl e)))).setCell (fun _=>.inl rfl) _ |>.setCell (fun h=>by simp at h;omega) _
  ·exact (z0.iq (p:=⟨bh,1,none⟩) (by show w.heap.size≠bh;omega) _).iq (p:=⟨w.heap.size+2,5,none⟩) (by show w.heap.size≠w.heap.size+2;omega) _
  ·exact (z1.iq (p:=⟨bh,1,none⟩) (by show w.heap.size+1≠bh;omega) _).iq (p:=⟨w.heap.size+2,5,none⟩) (by show w.heap.size+1≠w.heap.size+2;omega) _
  ·exact (z2.iq (p:=⟨bh,1,none⟩) (by show w.heap.size+2≠bh;omega) _).setCell 5 _
  ·exact (hgz.iq (p:=⟨bh,1,none⟩) (by show g1≠bh;omega) _).iq (p:=⟨w.heap.size+2,5,none⟩) (by show g1≠w.heap.size+2;omega) _
  ·exact (hg4.iq (p:=⟨bh,1,none⟩) (by show w1.heap.size≠bh;omega) _).iq (p:=⟨w.heap.size+2,5,none⟩) (by show w1.heap.size≠w.heap.size+2;omega) _
  ·rcases (ah wJ).lies with h5 | ⟨k,h5,h6⟩
   ·exact .inl h5
   ·exact .inr ⟨k,by omega,h6⟩
  ·rcases Fb with h5 | ⟨k,h5,h6⟩
   ·exact .inl h5
   ·exact .inr ⟨k,by omega,h6⟩
 have HMK:=hide hmk;clear hmk
 go_wp2_with (first
  | (at_make; refine Jg rfl (.tmp 18) (.tmp 18) 61 rfl 60 iI (.agg #[.int .i64 0, .int .i64 0, .int .i64 0]) 3 24 Tryz.underlying61 hI hI0 hI1 hI2 _ _ _ (m.code.length + 1) rfl rfl (by omega) (by omega) (by omega) ?_; intro w2 hb2 hm2 hs2
     obtain⟨w3,oz,oC,w4,hcopy,happ,k2,⟨u0,u1,u2,q0,q1,q2⟩,qf,hs3,k3,k3h,k4,k4f,k45,k46,k4o,ahz,hs4,X5,hmid⟩:=ah HMK w2 (by simpa using hb2) hm2 (by simpa using hs2);have WL:=hide hmid
     clear hmid hb2 hm2 hs2)
  | (at_builtin; refine wpList_append_run rfl (.tmp 34) (.tmp 36) 46 rfl _ _ rfl rfl happ ?_)
  | (at_make; refine Jg rfl (.tmp 49) (.tmp 49) 36 rfl 42 iF (.agg #[.int .i64 0, .slice none 0 0, .slice none 0 0]) 3 56 Tryz.underlying36 hF yQ hF1 hF2 _ _ _ (m.frames.length + 1) rfl rfl (by omega) (by omega) (by omega) ?_; intro w5 hb5 xJ hs5
     have Fg:ak w5 w4.heap.size 42 (madeCells (Value.agg #[.int .i64 0,.slice none 0 0,.slice none 0 0]).cells ((m.frames.length+1)*3)).toList:=by simpa using hb5
     have ald:w5.heap.size=w4.heap.size+1:=by simpa using hs5
     rw [←(ah WL).eq] at xJ;have Ql:=hide Fg;have Ej:=hide xJ
     clear hb5 xJ hs5 Fg))
 obtain⟨Hr,Ht,hvf⟩:=cZ (ah HH).f.row;subst hvf
 have HST:Hid (∃kM kK cs2 cf,nU w w5 B bh cs m aa ca fa aI aF aG vt (.slice ia is.length icap) (.slice Hr fs.length Ht) ts.length (.slice oz (is.length+1) oC) (is++ [(w1.heap.size,m.code.length+1)]) fs g1 w1.heap.size w4.heap.size 0 kM kK cs2 cf):=by
  have M:=ah WL;have xJ:=ah Ej;have hX5:=M.mods.size;have OH:X5.heap.size=w4.heap.size:=by rw [M.eq];simp
  refine⟨FY,ts++ [(g1,m.args.length+1)],_,_,M.hs.stay xJ (fun _ _ _ _ f=>f.elim),fun j hj=>by rw [List.getElem?_set_ne (by omega),List.getElem?_set_ne (by omega)],M.mods.trans xJ (fun _ _ f=>f.elim),M.b0.mods xJ (fun f=>f),M.b1.mods xJ (fun f=>f),M.b2.mods xJ (fun f=>f),M.g.mods xJ (fun f=>f),M.c.mods xJ (fun f=>f),ah Ql,by rw [Io],fun j hj h=>absurd h (Nat.not_lt_zero _),M.lt,M.li,by rw [List.length_append,List.length_singleton],by omega,M.LD,M.new1,fun e he=>?_,hle⟩;obtain⟨_,_,_,c,hb,_⟩:=(ah HH).f.ent e he;exact hb.lt
 clear k2 q0 q1 q2 qf hs3 k3 k3h k4 k4f k45 k46 k4o ahz
 go_loopw [8] (fun s wr=>∃i:Nat,i≤m.frames.length∧s= .int .i64 i∧∃kM kK cs2 cf,nU w wr B bh cs m aa ca fa aI aF aG vt (.slice ia is.length icap) (.slice Hr fs.length Ht) ts.length (.slice oz (is.length+1) oC) (is++ [(w1.heap.size,m.code.length+1)]) fs g1 w1.heap.size w4.heap.size i kM kK cs2 cf) (fun s _=>m.frames.length-(intOf s).toNat)
 case atStart=>exact ⟨0,Nat.zero_le _,rfl,ah HST⟩
 case round=>
  obtain⟨i,hi,rfl,kM,kK,cs2,cf,hst⟩:=hrel;have q6:wr.cell? ⟨w.heap.size,6,none⟩=some (.slice fa m.frames.length aG):=by rw [hst.b0.cell];rfl
  have ST:=hide hst;clear hst
  by_cases hlt2:i<m.frames.length
  ·obtain rfl:=hfa (bJ hlt2);have hkl:=uz (ah ST).mods (fun k hk=>(ah HH).ah7 hk);obtain⟨vl,vs,d0,d1,d2,hl,hs⟩:=(ah BH i hlt2).keep hkl;have hfb:fb≠bh∧fb<B:=JZ d0;have c0:=mQ bh B wr _ _ d0;have c1:=mQ bh B wr _ _ d1;have c2:=mQ bh B wr _ _ d2;have hfz:=Nat.le_trans (Vs (List.getElem_mem hlt2)) hz;have hll:m.frames[i].locals.length≤1048576:=by unfold iH at hfz;omega
   have hsl:m.frames[i].stack.length≤1048576:=by unfold iH at hfz;omega
   generalize hfe:m.frames[i]=f at *;have HFE:=hide hfe;clear hfe;have ak5:kK.length=ts.length+1+2*i:=(ah ST).tl
   have aln:4*m.frames.length+8≤dN m:=by
    have:=abl m.frames;unfold dN;omega
   have HL:=hide hl;have yD:=hide hs;obtain⟨la,lb,ahW,fG,rfl,_⟩:=aZ hl;obtain⟨sa,sb,FQ,scap,rfl,_⟩:=aZ hs;have hii:(i:Int)<(m.frames.length:Int):=by omega
   have hiz:(0:Int)≤(i:Int):=by omega
   have hi1:(i:Int)<(m.frames.length:Int)+1:=by omega
   have hg0:=(ah ST).FH;have hg1:w.heap.size≠w4.heap.size:=by omega
   have hg2:fb≠w4.heap.size:=by omega
   have SD:=hide (ah ST).drew;clear hl hs d0 d1 d2 hkl;go_wp2_with fail
   go_region_held3 (fun w'=>w'.cell? ⟨w.heap.size,6,none⟩=some (.slice (some ⟨fb,kU,none⟩) m.frames.length aG)∧w'.cell? ⟨fb,kU+i*3,none⟩=some (.int .i64 f.pc)∧w'.cell? ⟨fb,kU+i*3+1,none⟩=some (.slice la f.locals.length fG)∧w'.cell? ⟨fb,kU+i*3+2,none⟩=some (.slice sa f.stack.length scap))
    (first | go_keep | (exact⟨a6,a0,a1,a2⟩) | (exact⟨z6,z0,z1,z2⟩) | (exact⟨(EO hg1 _ _ _ _ _ _ _ _).trans z6,(EO hg2 _ _ _ _ _ _ _ _).trans z0,(EO hg2 _ _ _ _ _ _ _ _).trans z1,(EO hg2 _ _ _ _ _ _ _ _).trans z2⟩))
    (first
      | ((go_at_call_of 83 (Value.slice la f.locals.length fG); refine (OL f.locals _ wr.drew bh cs2 kM B kK (dA (mQ bh B wr) (ah HL)) (ah SD).hs.hands (ah SD).hs.c0 (ah SD).hs.t.row (ah SD).hs.le hlt hll (by omega)).mono ?_); rintro e w6 ⟨g6, rfl, VF, L6⟩
         have Ot:∀k,k≠bh∧k<B→¬(k=bh∨kM.ownBlock=some k):=fun k hk hr=>by
          rcases hr with hr | hr
          ·omega
          ·have:=(ah SD).hs.t.row.lt k hr;omega
         have a6:=L6.mods.cell (p:=⟨w.heap.size,6,none⟩) q6 ((ah SD).far (ah SD).b0 (by decide) (by decide));have a0:=L6.mods.cell (p:=⟨fb,kU+i*3,none⟩) c0 (Ot _ hfb);have a1:=L6.mods.cell (p:=⟨fb,kU+i*3+1,none⟩) c1 (Ot _ hfb);have a2:=L6.mods.cell (p:=⟨fb,kU+i*3+2,none⟩) c2 (Ot _ hfb);have S6:=hide ((ah SD).DI hll L6 (ts.length+1) (by omega));have V6:=hide (Ij (T:=tT) (cap:=f.locals.length+1) L6.blk (by simp) (by omega));have R6:=hide (dA ((uz L6.mods Ot).trans (mQ bh B w6)) (ah yD))
         clear L6)
      | ((go_at_call_of 83 (Value.slice sa f.stack.length scap); refine (OL f.stack _ w6 bh (cs2.set 0 VF) VF B _ (ah R6) (ah S6).hs.hands (ah S6).hs.c0 (ah S6).hs.t.row (ah S6).hs.le hlt hsl (by simp; omega)).mono ?_); rintro e w7 ⟨g7, rfl, vt7, L7⟩
         have TM:∀k,k≠bh∧k<B→¬(k=bh∨VF.ownBlock=some k):=fun k hk hr=>by
          rcases hr with hr | hr
          ·omega
          ·have:=(ah S6).hs.t.row.lt k hr;omega
         have z6:=L7.mods.cell (p:=⟨w.heap.size,6,none⟩) a6 ((ah S6).far (ah S6).b0 (by decide) (by decide));have z0:=L7.mods.cell (p:=⟨fb,kU+i*3,none⟩) a0 (TM _ hfb);have z1:=L7.mods.cell (p:=⟨fb,kU+i*3+1,none⟩) a1 (TM _ hfb);have z2:=L7.mods.cell (p:=⟨fb,kU+i*3+2,none⟩) a2 (TM _ hfb);have S7:=hide ((ah S6).DI hsl L7 (ts.length+2) (by simp;omega));have V7:=hide (Ij (T:=tT) (cap:=f.stack.length+1) L7.blk (by simp) (by omega));have W7:=hide (dA (nI L7.mods (fun k t c hb ht=>by obtain rfl:=List.mem_singleton.1 ht;exact (ah S6).far hb (by decide) (by decide))) (ah V6));obtain⟨u0,y0⟩:=(ah S7).GY (i*3) (by omega)
         obtain⟨u1,y1⟩:=(ah S7).GY (i*3+1) (by omega);obtain⟨u2,y2⟩:=(ah S7).GY (i*3+2) (by omega);have yf:=(ah S7).fb.frozen
         clear L7))
   have hfe:=ah HFE;obtain⟨cf',hput⟩:=(ah S7).put hlt2 (vl:=.slice (some ⟨g6,0,none⟩) f.locals.length (f.locals.length+1)) (vs:=.slice (some ⟨g7,0,none⟩) f.stack.length (f.stack.length+1)) (by rw [hfe];exact ah W7) (by rw [hfe];exact ah V7) ts.length (by simp;omega);rw [hfe] at hput;have QS:=hide hput;clear hput hfe
   go_wp2
   exact⟨⟨i+1,by omega,by go_num,_,_,_,_,ah QS⟩,by simp [intOf];omega⟩
  ·obtain rfl:i=m.frames.length:=by omega
   obtain⟨fa3,sN,w6,agq,mY,nM,Ig,p0,p1,p2,Zw,aaF,H9⟩:=(ah ST).fin hfs hfl;obtain⟨u0,y0⟩:=(ah ST).GY (m.frames.length*3) (by omega);obtain⟨u1,y1⟩:=(ah ST).GY (m.frames.length*3+1) (by omega);obtain⟨u2,y2⟩:=(ah ST).GY (m.frames.length*3+2) (by omega);have yf:=(ah ST).fb.frozen;have hg0:=(ah ST).FH;have hg1:w.heap.size≠w4.heap.size:=by omega
   have hg2:bh≠w4.heap.size:=by omega
   have hhc:=(ah ST).hs.hands.1;have k2:wr.cell? ⟨bh,2,none⟩=some (.slice Hr fs.length Ht):=by rw [hhc.cell];exact (ah ST).hs.c2
   have v2:w6.cell? ⟨bh,2,none⟩=some (.slice Hr fs.length Ht):=by rw [mY.cell];exact (ah ST).hs.c2
   have v2f:=mY.frozen 2;have v06:w6.cell? ⟨w.heap.size,6,none⟩=some (.slice fa m.frames.length aG):=by rw [p0.cell];rfl
   have o0:w6.cell? ⟨w.heap.size+2,0,none⟩=some (.int .i64 m.slot):=by rw [p2.cell];rfl
   have o1:w6.cell? ⟨w.heap.size+2,1,none⟩=some (.slice (some ⟨g1,0,none⟩) m.args.length (m.args.length+1)):=by rw [p2.cell];rfl
   have o2:w6.cell? ⟨w.heap.size+2,2,none⟩=some (.int .i64 m.ret):=by rw [p2.cell];rfl
   have o3:w6.cell? ⟨w.heap.size+2,3,none⟩=some (.int .i64 m.locals):=by rw [p2.cell];rfl
   have o4:w6.cell? ⟨w.heap.size+2,4,none⟩=some (.int .i64 m.stack):=by rw [p2.cell];rfl
   have o5:w6.cell? ⟨w.heap.size+2,5,none⟩=some (.slice (some ⟨w1.heap.size,0,none⟩) m.code.length (m.code.length+1)):=by rw [p2.cell];rfl
   have o6:w6.cell? ⟨w.heap.size+2,6,none⟩=some (.slice fa m.frames.length aG):=by rw [p2.cell];rfl
   have of:=p2.frozen;have r0:w6.cell? ⟨w.heap.size+1,0,none⟩=some (.int .i64 0):=by rw [p1.cell];rfl
   have r1:w6.cell? ⟨w.heap.size+1,1,none⟩=some (.slice none 0 0):=by rw [p1.cell];rfl
   have r2:w6.cell? ⟨w.heap.size+1,2,none⟩=some (.int .i64 0):=by rw [p1.cell];rfl
   have r3:w6.cell? ⟨w.heap.size+1,3,none⟩=some (.int .i64 0):=by rw [p1.cell];rfl
   have r4:w6.cell? ⟨w.heap.size+1,4,none⟩=some (.int .i64 0):=by rw [p1.cell];rfl
   have r5:w6.cell? ⟨w.heap.size+1,5,none⟩=some (.slice none 0 0):=by rw [p1.cell];rfl
   have r6:w6.cell? ⟨w.heap.size+1,6,none⟩=some (.slice none 0 0):=by rw [p1.cell];rfl
   have rf:=p1.frozen;have hb1:bh≠w.heap.size:=by omega
   have hb2:bh≠w.heap.size+1:=by omega
   have hb3:bh≠w.heap.size+2:=by omega
   have P1:=hide p1;have P2:=hide p2;have HM6:=hide nM;have adb:=hide Zw;have HV6:=hide aaF;have HA6:=hide H9;have ac6:=hide mY;clear mY nM p0 p1 p2 Zw aaF H9 hhc;go_wp2_with (at_builtin;refine wpList_append_run rfl (.tmp 94) (.tmp 96) 47 rfl _ _ rfl rfl agq ?_)
   generalize hY:w6.setCell ⟨bh,2,none⟩ (.slice fa3 (fs.length+1) sN)=Y;have iy:ay (fun k=>k=bh) w6 Y:=by rw [←hY];exact (ay.refl (fun k=>k=bh) _).setCell (p:=⟨bh,2,none⟩) (fun _=>rfl) _
   have Zx:=ah adb;rw [hY] at Zx;clear hY;have Xu:=(ah P1).mods iy (by omega);have P2Y:=(ah P2).mods iy (by omega);generalize TD:Y.setCell ⟨w.heap.size+1+1,6,none⟩ (.slice (some ⟨w4.heap.size,0,none⟩) m.frames.length (m.frames.length+1))=Z0;have agR:ay (fun k=>k=w.heap.size+1∨k=w.heap.size+2) Y Z0:=by rw [←TD];exact (ay.refl (fun k=>k=w.heap.size+1∨k=w.heap.size+2) _).setCell (p:=⟨w.heap.size+2,6,none⟩) (fun _=>.inr rfl) _
   have Xv:=Xu.iq (p:=⟨w.heap.size+1+1,6,none⟩) (by show w.heap.size+1≠w.heap.size+1+1;omega) (.slice (some ⟨w4.heap.size,0,none⟩) m.frames.length (m.frames.length+1));rw [TD] at Xv;clear TD;have CY:=((((((Xv.setCell 0 (.int .i64 m.slot)).setCell 1 (.slice (some ⟨g1,0,none⟩) m.args.length (m.args.length+1))).setCell 2 (.int .i64 m.ret)).setCell 3 (.int .i64 m.locals)).setCell 4 (.int .i64 m.stack)).setCell 5 (.slice (some ⟨w1.heap.size,0,none⟩) m.code.length (m.code.length+1))).setCell 6 (.slice (some ⟨w4.heap.size,0,none⟩) m.frames.length (m.frames.length+1))
   have Ia:=((((((((ay.refl (fun k=>k=w.heap.size+1∨k=w.heap.size+2) Y).trans agR (fun _ _ e=>e)).setCell (p:=⟨w.heap.size+1,0,none⟩) (fun _=>.inl rfl) (.int .i64 m.slot)).setCell (p:=⟨w.heap.size+1,1,none⟩) (fun _=>.inl rfl) (.slice (some ⟨g1,0,none⟩) m.args.length (m.args.length+1))).setCell (p:=⟨w.heap.size+1,2,none⟩) (fun _=>.inl rfl) (.int .i64 m.ret)).setCell (p:=⟨w.heap.size+1,3,none⟩) (fun _=>.inl rfl) (.int .i64 m.locals)).setCell (p:=⟨w.heap.size+1,4,none⟩) (fun _=>.inl rfl) (.int .i64 m.stack)).setCell (p:=⟨w.heap.size+1,5,none⟩) (fun _=>.inl rfl) (.slice (some ⟨w1.heap.size,0,none⟩) m.code.length (m.code.length+1))).setCell (p:=⟨w.heap.size+1,6,none⟩) (fun _=>.inl rfl) (.slice (some ⟨w4.heap.size,0,none⟩) m.frames.length (m.frames.length+1))
   generalize ((((((Z0.setCell ⟨w.heap.size+1,0,none⟩ (.int .i64 m.slot)).setCell ⟨w.heap.size+1,1,none⟩ (.slice (some ⟨g1,0,none⟩) m.args.length (m.args.length+1))).setCell ⟨w.heap.size+1,2,none⟩ (.int .i64 m.ret)).setCell ⟨w.heap.size+1,3,none⟩ (.int .i64 m.locals)).setCell ⟨w.heap.size+1,4,none⟩ (.int .i64 m.stack)).setCell ⟨w.heap.size+1,5,none⟩ (.slice (some ⟨w1.heap.size,0,none⟩) m.code.length (m.code.length+1))).setCell ⟨w.heap.size+1,6,none⟩ (.slice (some ⟨w4.heap.size,0,none⟩) m.frames.length (m.frames.length+1))=Z at CY Ia ⊢;have s0:Z.cell? ⟨w.heap.size+1,0,none⟩=some (.int .i64 m.slot):=by rw [CY.cell];rfl
   have s1:Z.cell? ⟨w.heap.size+1,1,none⟩=some (.slice (some ⟨g1,0,none⟩) m.args.length (m.args.length+1)):=by rw [CY.cell];rfl
   have s2:Z.cell? ⟨w.heap.size+1,2,none⟩=some (.int .i64 m.ret):=by rw [CY.cell];rfl
   have s3:Z.cell? ⟨w.heap.size+1,3,none⟩=some (.int .i64 m.locals):=by rw [CY.cell];rfl
   have s4:Z.cell? ⟨w.heap.size+1,4,none⟩=some (.int .i64 m.stack):=by rw [CY.cell];rfl
   have s5:Z.cell? ⟨w.heap.size+1,5,none⟩=some (.slice (some ⟨w1.heap.size,0,none⟩) m.code.length (m.code.length+1)):=by rw [CY.cell];rfl
   have s6:Z.cell? ⟨w.heap.size+1,6,none⟩=some (.slice (some ⟨w4.heap.size,0,none⟩) m.frames.length (m.frames.length+1)):=by rw [CY.cell];rfl
   refine bodyPost_ret (v:=.agg #[.int .i64 m.slot,.slice (some ⟨g1,0,none⟩) m.args.length (m.args.length+1),.int .i64 m.ret,.int .i64 m.locals,.int .i64 m.stack,.slice (some ⟨w1.heap.size,0,none⟩) m.code.length (m.code.length+1),.slice (some ⟨w4.heap.size,0,none⟩) m.frames.length (m.frames.length+1)]) (by simp [results,Tryz.results82,go_sem,s0,s1,s2,s3,s4,s5,s6]) rfl ⟨g1,w1.heap.size,w4.heap.size,rfl,kM,.slice oz (is.length+1) oC,.slice fa3 (fs.length+1) sN,kK,is++ [(w1.heap.size,m.code.length+1)],fs++ [(w4.heap.size,m.frames.length+1)],cs2.set 2 (.slice fa3 (fs.length+1) sN),?_⟩
   have hne:∀ {k t c},ak Y k t c→t≠63→¬(k=w.heap.size+1∨k=w.heap.size+2):=fun hb ht e=>by
    rcases e with rfl | rfl
    ·exact ht (hb.uniq Xu)
    ·exact ht (hb.uniq P2Y)
   refine⟨Zx.stay Ia (fun k t c hb hk=>?_),fun j hj=>by rw [List.getElem?_set_ne (by omega)];exact (ah ST).rest j hj,((ah HM6).trans iy (fun k _ e=>.inl e)).trans Ia (fun k hk e=>by omega),(ah HV6).keep ((nI iy (fun k t c hb ht e=>?_)).trans (nI Ia (fun k t c hb ht=>hne hb ?_))),(ah ST).lt,(ah ST).li,ah HA6,?_,by rw [List.length_append];rfl,by rw [List.length_append];rfl⟩
   ·intro ht;refine hne hb ?_ hk
    rcases ht with rfl | rfl | rfl | rfl | rfl | rfl | rfl <;> decide
   ·subst e;rw [hb.uniq (ah ac6)] at ht;exact absurd ht (by decide)
   ·simp only [List.mem_cons,List.not_mem_nil,or_false] at ht
    rcases ht with rfl | rfl | rfl <;> decide
   ·have:=(ah ST).tl;have:=abl m.frames;unfold dN;omega
theorem O7 {a n:Int}(h:dV a n=true):∃k:Nat,a=k∧(k:Int)<n:=by
 unfold dV at h;simp only [Bool.and_eq_true,decide_eq_true_eq] at h;obtain⟨k,hk⟩:=Int.eq_ofNat_of_zero_le h.1;exact⟨k,hk,by omega⟩

theorem LP {v n:Int}{q:Bool}(h:dV v n=q)(w:World):Calls Tryz.prog 200 #[.int .i64 v,.int .i64 n] w fun e w'=>e= .returned (.bool q)∧w'=w:=h▸oV v n w

theorem ai3 (p:List aj)(vc:Value)(m:aC)(aa ca fa:Option Addr)(al aI aF fl aG:Nat)(op a b:Int)(w:World)(hp:aX w vc p)(hs:aU p p.length)(hz:bn p≤4194304)
  (hop:op=10∨op=11) :
  Calls Tryz.prog 149 (rG vc m aa ca fa al aI aF fl aG op a b) w fun e w'=>e= .returned (.bool (bC p m ⟨op,a,b⟩))∧Below w.heap.size w w':=by
 have hpl:p.length≤4194304:=Nat.le_trans (eG p) hz
 have hdef:bC p m ⟨op,a,b⟩=(dV a p.length && dV b (fieldsOf p a).length):=by
  unfold bC
  rcases hop with rfl | rfl <;> simp
 have HD:=hide hdef;clear hdef;have HP:=hide hp;obtain⟨pa,pb,dB,aA,rfl,Dy,hpa,hpr⟩:=aZ hp;clear hpr hpa hp;unfold rG
 cases hpb:dV a p.length
 ·rcases hop with rfl | rfl <;>
  ·go_enter Tryz.func149,Tryz.ntmps149
   go_wp2
   generalize hW:((w.alloc _).alloc _).alloc _=W;have hbel:Below w.heap.size w W:=by rw [←hW];exact iW _ _ _ _
   have i1:W.cell? ⟨w.heap.size+1+1,1,none⟩=some (.int .i64 a):=by rw [←hW];exact uy _ _ _ _ _ 1
   clear hW
   go_quiet ((go_at_call 200;exact Calls.quiet_of_same (LP hpb _)))
   go_wp2
   go_ret;exact⟨aT (by rw [ah HD,hpb];rfl),below_drewN hbel _⟩
 ·obtain⟨k,rfl,hk⟩:=O7 hpb
  cases La:dV b (fieldsOf p k).length <;> rcases hop with rfl | rfl <;>
  ·go_enter Tryz.func149,Tryz.ntmps149
   go_wp2
   generalize hW:((w.alloc _).alloc _).alloc _=W;have hbel:Below w.heap.size w W:=by rw [←hW];exact iW _ _ _ _
   have i0:W.cell? ⟨w.heap.size,0,none⟩=some (.slice pa p.length aA):=by rw [←hW];exact GN _ _ _ _ _ 0
   have i1:W.cell? ⟨w.heap.size+1+1,1,none⟩=some (.int .i64 k):=by rw [←hW];exact uy _ _ _ _ _ 1
   have i2:W.cell? ⟨w.heap.size+1+1,2,none⟩=some (.int .i64 b):=by rw [←hW];exact uy _ _ _ _ _ 2
   clear hW;have jR:=hide (aP (Keeps.of_below hbel) (ah HP));have hsz:=hbel.size
   go_region_held3 (fun w'=>w'.cell? ⟨w.heap.size,0,none⟩=some (.slice pa p.length aA)∧w'.cell? ⟨w.heap.size+1+1,1,none⟩=some (.int .i64 (k:Int))∧w'.cell? ⟨w.heap.size+1+1,2,none⟩=some (.int .i64 b))
    (first | go_keep | (exact⟨Keeps.of_below hb1 _ _ (by simpa using i0),Keeps.of_below hb1 _ _ (by simpa using i1),Keeps.of_below hb1 _ _ (by simpa using i2)⟩))
    (first | ((go_at_call_of 200 (Value.int .i64 (p.length:Int));refine (LP hpb _).mono ?_);rintro e w' ⟨rfl,rfl⟩)
           | ((go_at_call_of 200 (Value.int .i64 ((fieldsOf p (k : Int)).length : Int)); refine (LP La _).mono ?_); rintro e w' ⟨rfl, rfl⟩)
           | ((go_at_call 92; refine (II p p.length hs (Nat.le_refl _) hz k _ _ (aP (Keeps.of_below ((Below.refl _ _).drew)) (ah jR)) (by omega)).mono ?_); rintro e w1 ⟨v1, rfl, hown1, hb1⟩; obtain ⟨va1, alB, rfl⟩ := cZ hown1))
   go_wp2
   go_ret;exact⟨aT (by rw [ah HD,hpb,La];rfl),hbel.drew.trans (hb1.mono (by simpa using hsz))⟩

theorem ah0 (p:List aj)(c slot:Int):decide (0≤(qE p c slot).1)=(fO p c slot).isSome:=by
 unfold qE
 cases fO p c slot with
 | none => rfl
 | some x => simp

theorem ai2 (p:List aj)(vc:Value)(m:aC)(aa ca fa:Option Addr)(al aI aF fl aG:Nat)(a b:Int)(w:World)(hp:aX w vc p)(hs:aU p p.length)(hz:bn p≤4194304) :
  Calls Tryz.prog 149 (rG vc m aa ca fa al aI aF fl aG 12 a b) w fun e w'=>e= .returned (.bool (bC p m ⟨12,a,b⟩))∧Below w.heap.size w w':=by
 have hpl:p.length≤4194304:=Nat.le_trans (eG p) hz;have hdef:bC p m ⟨12,a,b⟩=(dV a p.length && (fO p a b).isSome):=by unfold bC;simp
 have HD:=hide hdef;clear hdef;have HP:=hide hp;obtain⟨pa,pb,dB,aA,rfl,Dy,hpa,hpr⟩:=aZ hp;clear hpr hpa hp;unfold rG
 cases hpb:dV a p.length
 ·go_enter Tryz.func149,Tryz.ntmps149
  go_wp2_with (go_at_call 200;refine (LP hpb _).mono ?_;rintro e w' ⟨rfl,rfl⟩)
  go_ret;exact⟨aT (by rw [ah HD,hpb];rfl),iW _ _ _ _⟩
 ·obtain⟨k,rfl,hk⟩:=O7 hpb;go_enter Tryz.func149,Tryz.ntmps149
  go_wp2_with fail
  generalize hW:((w.alloc _).alloc _).alloc _=W;have hbel:Below w.heap.size w W:=by rw [←hW];exact iW _ _ _ _
  have i0:W.cell? ⟨w.heap.size,0,none⟩=some (.slice pa p.length aA):=by rw [←hW];exact GN _ _ _ _ _ 0
  have i1:W.cell? ⟨w.heap.size+1+1,1,none⟩=some (.int .i64 k):=by rw [←hW];exact uy _ _ _ _ _ 1
  have i2:W.cell? ⟨w.heap.size+1+1,2,none⟩=some (.int .i64 b):=by rw [←hW];exact uy _ _ _ _ _ 2
  clear hW;refine (LP hpb _).mono ?_;rintro e w1 ⟨rfl,rfl⟩;go_wp2_with fail
  refine (U6 p _ p.length _ _ _ (aP (Keeps.of_below hbel) (ah HP)) hs (Nat.le_refl _) (by omega) (by omega) hz).mono ?_;rintro e w2 ⟨rfl,hb2⟩
  go_wp2
  go_ret;exact⟨aT (by rw [ah HD,hpb,ah0];rfl),hbel.trans (hb2.mono hbel.size)⟩

theorem abX (p:List aj)(vc:Value)(m:aC)(aa ca fa:Option Addr)(al aI aF fl aG:Nat)(i:eF)(w:World)(hp:aX w vc p)(hs:aU p p.length)(hz:bn p≤4194304)(hcl:m.code.length≤4194304) :
  Calls Tryz.prog 149 (rG vc m aa ca fa al aI aF fl aG i.op i.a i.b) w fun e w'=>e= .returned (.bool (bC p m i))∧Below w.heap.size w w':=by
 by_cases h1:i.op=10∨i.op=11
 ·exact ai3 p vc m aa ca fa al aI aF fl aG i.op i.a i.b w hp hs hz h1
 by_cases h2:i.op=12
 ·have:=ai2 p vc m aa ca fa al aI aF fl aG i.a i.b w hp hs hz;rw [←h2] at this;exact this
 ·exact ai4 p vc m aa ca fa al aI aF fl aG i.op i.a i.b w hp hz hcl (fun e=>h1 (.inl e)) (fun e=>h1 (.inr e)) h2
end Go.Proofs.YtiiokkllmchohaaGreat
