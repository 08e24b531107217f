/- What Form says of a program, as the pass wants it (pure). -/
import Derived.Test.YtiiokkllmchohaaGreatT14
import Derived.Test.YtiiokkllmchohaaGreatT23
set_option maxHeartbeats 4000000
set_option maxRecDepth 100000
namespace Go.Proofs.YtiiokkllmchohaaGreat
open Go.RowKit
theorem qX {p:List aj}(h:bD p=0):(1≤p.length∧p.length≤6)∧(∀(c:Nat) (x:aj),p[c]? =some x→nP c x=true∧rU p c x=true)∧∀x∈p,∀m∈x.aB,iL p m=true:=by
 unfold bD at h
 split at h
 ·cases h
 ·rename_i h1
  split at h
  ·rename_i h2
   split at h
   ·rename_i h3;refine⟨by omega,fun c x hx=>?_,fun x hx m hm=>?_⟩
    ·have:=List.all_eq_true.1 h2 c (List.mem_range.2 (List.getElem?_eq_some_iff.1 hx).1);unfold uD at this;rw [hx] at this;simpa using this
    ·exact List.all_eq_true.1 (List.all_eq_true.1 h3 x hx) m hm
   ·cases h
  ·cases h
theorem Hg {n:Nat}{t:Int}(h:fF n t=true):bT n t:=by
 unfold fF at h;simp at h
 rcases h with rfl | h
 ·exact⟨by omega,by omega⟩
 ·exact⟨by omega,by omega⟩
theorem Y8 {n:Nat}{t:Int}(h:gZ n t=true):bT n t:=by
 unfold gZ at h;simp only [Bool.or_eq_true,beq_iff_eq] at h
 rcases h with (h | rfl) | rfl
 ·exact Hg h
 ·exact⟨by omega,by omega⟩
 ·exact⟨by omega,by omega⟩
theorem wX {p:List aj}(h:bD p=0):aU p p.length:=fun c x _ hx=>((qX h).2.1 c x hx).1
theorem Hy {p:List aj}(h:bD p=0){c k:Nat}{x:aj}{m:aC}(hx:p[c]? =some x)(hm:x.aB[k]? =some m):qO p.length m=true:=by
 have h1:=((qX h).2.1 c x hx).2;unfold rU at h1;simp only [Bool.and_eq_true] at h1;have h2:=List.all_eq_true.1 h1.2 k (List.mem_range.2 (List.getElem?_eq_some_iff.1 hm).1);rw [hm] at h2;unfold headB at h2;simp only [Bool.and_eq_true] at h2;exact h2.1.1
theorem CW {p:List aj}(h:bD p=0)(hz:bn p≤4194304):Good p:=by
 refine⟨wX h,hz,fun a j h0 h1 hj=>?_,fun a b h0 h1 hm=>?_⟩
 ·have hmem:jm p a j∈fieldsOf p a:=by
   unfold jm;rw [Int.toNat_natCast,List.getD_eq_getElem?_getD,List.getElem?_eq_getElem hj];exact List.getElem_mem hj
  unfold fieldsOf at hmem;obtain⟨l,hl,ht⟩:=List.mem_flatten.1 hmem;obtain⟨c,_,rfl⟩:=List.mem_map.1 hl;unfold O4 at ht
  cases hx:p[c]? with
  | none => rw [hx] at ht; simp at ht
  | some x =>
   rw [hx] at ht;have h2:=((qX h).2.1 c x hx).2;unfold rU at h2;simp only [Bool.and_eq_true] at h2;exact Hg (List.all_eq_true.1 h2.1.1.1 _ (by simpa using ht))
 ·obtain⟨n,rfl⟩:=Int.eq_ofNat_of_zero_le h0;obtain⟨ck,hck⟩:=Option.isSome_iff_exists.1 hm;obtain⟨i,j⟩:=ck;obtain⟨y,o,hy⟩:=OQ p (wX h) b n (by omega) hck;obtain⟨h2,h3,_,_⟩:=hy;have hf:cO p (n:Int) b=o:=NU hck (by unfold sV;rw [h2];exact h3);rw [hf];have hb:=vO.1 (Hy h h2 h3);exact⟨fun t ht=>Hg (List.all_eq_true.1 hb.2.2.2.1 t ht),Hg hb.2.2.2.2.1⟩
structure Gw (p:List aj)(c:Int)(m:aC):Prop where
 ok:vJ p m
 ins:∀i∈m.code,bC p m i=true
 c40:m.code.length≤40
 c1:1≤m.code.length
 fr:ac3 p m
 f40:m.frames.length≤40
 a7:m.args.length≤7
 bg:kV p.length m.stack (dO c m)
theorem Za {n:Nat}{m:aC} :∀(l:List bF) (k:Int),iP n m k l=true→∀f∈l,uJ n m f=true
 | [], _, _, f, hf => by cases hf
 | g :: r, k, h, f, hf => by
  unfold iP at h;simp only [Bool.and_eq_true] at h
  rcases List.mem_cons.1 hf with rfl | hf
  ·exact h.1.2
  ·exact Za r _ h.2 f hf
theorem qY {p:List aj}(h:bD p=0){c k:Int}{m:aC}(hm:bQ p c k=some m):0≤c∧c<(p.length:Int)∧Gw p c m:=by
 unfold bQ at hm
 split at hm
 ·rename_i hck
  cases hx:p[c.toNat]? with
  | none => rw [hx] at hm; cases hm
  | some x =>
   rw [hx,Option.bind_some] at hm;have hlt:=(List.getElem?_eq_some_iff.1 hx).1;have hb:=vO.1 (Hy h hx hm);have hc:=(qX h).2.2 x (List.mem_of_getElem? hx) m (List.mem_of_getElem? hm);unfold iL at hc;simp only [Bool.and_eq_true,decide_eq_true_eq] at hc;obtain⟨⟨⟨⟨c1,c40⟩,f40⟩,hins⟩,hfr⟩:=hc;obtain⟨_,_,a3,ha,hr,hl,AA,hs0,hs8⟩:=hb;refine⟨hck.1,by omega,⟨hs8,AA,Hg hr⟩,fun i hi=>List.all_eq_true.1 hins i hi,c40,c1,fun f hf=>?_,f40,by omega,?_⟩
   ·have hfb:=Za _ _ hfr f hf;unfold uJ at hfb;simp only [Bool.and_eq_true,decide_eq_true_eq] at hfb;obtain⟨⟨⟨⟨_,e1⟩,e2⟩,e3⟩,e4⟩:=hfb;refine⟨by omega,by omega,fun t ht=>?_,fun t ht=>Y8 (List.all_eq_true.1 e4 t ht),e2⟩
    rcases List.mem_append.1 ht with h1 | h1
    ·exact Y8 (List.all_eq_true.1 e3 t h1)
    ·obtain⟨_,rfl⟩:=List.mem_replicate.1 h1;exact⟨by omega,by omega⟩
   ·refine⟨fun t ht=>?_,fun t ht=>(by cases ht),by simpa [dO] using hs0⟩
    rcases List.mem_cons.1 ht with rfl | h1
    ·exact⟨by omega,by omega⟩
    ·rcases List.mem_append.1 h1 with h1 | h1
     ·exact Hg (List.all_eq_true.1 ha t h1)
     ·obtain⟨_,rfl⟩:=List.mem_replicate.1 h1;exact⟨by omega,by omega⟩
 ·cases hm
end Go.Proofs.YtiiokkllmchohaaGreat
namespace Go.Proofs.YtiiokkllmchohaaGreat
open Go.RowKit Go.Shelf
theorem NJ {p:List aj}(hs:aU p p.length){c:Nat}{x:aj}(hx:p[c]? =some x)(o:Int):gY p c o=((c:Int) == o || gY p x.sup o):=by
 unfold gY;rw [CG p hs (List.getElem?_eq_some_iff.1 hx).1 hx,List.any_cons]
theorem Sr {p:List aj}{c:Int}(h:c<0∨(p.length:Int)≤c)(o:Int):gY p c o=false:=by
 unfold gY
 rcases h with h | h
 ·rw [CJ p h];rfl
 ·unfold chainOf chain;rw [if_neg (by omega),List.getElem?_eq_none (by omega)];rfl
theorem YL {p:List aj}(hs:aU p p.length){o:Int}(P:Int→Prop)(h0:∀(c:Nat) (x:aj),p[c]? =some x→(c:Int)=o→P c)
  (h1:∀(c:Nat) (x:aj),p[c]? =some x→gY p x.sup o=true→P x.sup→P c) (c:Int) (h:gY p c o=true):P c:=by
 have key:∀n:Nat,gY p n o=true→P n:=by
  intro n
  induction n using Nat.strongRecOn with
  | ind n ih =>
   intro hd
   cases hx:p[n]? with
   | none => rw [Sr (.inr (by have := List.getElem?_eq_none_iff.1 hx; omega))] at hd; cases hd
   | some x =>
    rw [NJ hs hx] at hd;simp only [Bool.or_eq_true,beq_iff_eq] at hd
    rcases hd with hd | hd
    ·exact h0 n x hx hd
    ·have hb:=pV (hs n x (List.getElem?_eq_some_iff.1 hx).1 hx)
     rcases Int.lt_or_le x.sup 0 with g | g
     ·rw [Sr (.inl g)] at hd;cases hd
     ·obtain⟨k,hk⟩:=Int.eq_ofNat_of_zero_le g;refine h1 n x hx hd ?_;rw [hk] at hd ⊢;exact ih k (by omega) hd
 rcases Int.lt_or_le c 0 with g | g
 ·rw [Sr (.inl g)] at h;cases h
 ·obtain⟨k,rfl⟩:=Int.eq_ofNat_of_zero_le g;exact key k h
theorem aff {p:List aj}(hs:aU p p.length){c:Int}(h0:0≤c)(h1:c<(p.length:Int)):gY p c c=true:=by
 obtain⟨k,rfl⟩:=Int.eq_ofNat_of_zero_le h0;rw [NJ hs (List.getElem?_eq_getElem (i:=k) (by omega))];simp
theorem afg {p:List aj}(hs:aU p p.length){a b c:Int}(h1:gY p a b=true)(h2:gY p b c=true):gY p a c=true:=by
 refine YL hs (fun a=>gY p a c=true) (fun n x hx e=>by rw [e];exact h2) (fun n x hx _ ih=>?_) a h1;rw [NJ hs hx,ih];simp
theorem afS {p:List aj}(hs:aU p p.length){c b:Int}(hm:(fO p c b).isSome=true):∃i j:Nat,fO p c b=some (i,j)∧bQ p i j=some (cO p c b)∧(i:Int)≤c∧gY p c i=true∧(cO p c b).slot=b:=by
 obtain⟨⟨i,j⟩,hck⟩:=Option.isSome_iff_exists.1 hm;have hc:0≤c:=Int.not_lt.1 fun g=>by rw [FD p b g] at hm;cases hm
 obtain⟨n,rfl⟩:=Int.eq_ofNat_of_zero_le hc
 have hn:n<p.length:=by
  apply Nat.lt_of_not_le
  intro g;unfold fO chainOf chain at hck;rw [if_neg (by omega),List.getElem?_eq_none (by simpa using g)] at hck
  cases hck
 have key:∀n:Nat,n<p.length→fO p n b=some (i,j)→gY p n i=true:=by
  intro n
  induction n using Nat.strongRecOn with
  | ind n ih =>
   intro hn hm;have hx:=List.getElem?_eq_getElem hn;rw [Iq p hs b hn hx] at hm;rw [NJ hs hx]
   cases hk:oW p[n].aB b with
   | some k =>
    rw [hk] at hm
    cases hm
    simp
   | none =>
    rw [hk] at hm;simp only at hm;have hb:=pV (hs n _ hn hx)
    rcases Int.lt_or_le p[n].sup 0 with g | g
    ·rw [FD p b g] at hm;cases hm
    ·obtain⟨d,hd⟩:=Int.eq_ofNat_of_zero_le g;rw [hd] at hm ⊢;rw [ih d (by omega) (by omega) hm];simp
 obtain⟨y,o,h1,h2,h3,h4⟩:=OQ p hs b n hn hck;have hf:cO p (n:Int) b=o:=NU hck (by unfold sV;rw [h1];exact h2);refine⟨i,j,hck,?_,by omega,key n hn hck,by rw [hf];exact h4⟩;rw [hf];unfold bQ;rw [if_pos ⟨by omega,by omega⟩,Int.toNat_natCast,Int.toNat_natCast,h1];exact h2
theorem af0 {p:List aj}(hF:bD p=0){c b:Int}(hm:(fO p c b).isSome=true):qO p.length (cO p c b)=true:=by
 obtain⟨i,j,_,h,_⟩:=afS (wX hF) hm;unfold bQ at h;rw [if_pos ⟨by omega,by omega⟩,Int.toNat_natCast,Int.toNat_natCast] at h
 cases hx:p[i]? with
 | none => rw [hx] at h; cases h
 | some x =>
  rw [hx] at h;exact Hy hF hx h
end Go.Proofs.YtiiokkllmchohaaGreat
namespace Go.Proofs.YtiiokkllmchohaaGreat
open Go.RowKit Go.Shelf
attribute [local go_sem ↓] Go.wp_at_zero Go.wp_at_succ
attribute [local go_sem] bW
def ac1 (p:List aj)(c k:Int)(w w':World)(e:Ending):Prop:=
 (∀m,bD p=0→bQ p c k=some m→∃va aQ vf,e= .returned (.tuple #[bP m va aQ vf,.int .i64 0])∧bV w.cell? m va aQ vf)∧(bD p=0→bQ p c k=none→e= .returned (.tuple #[.agg jE.toArray,.int .i64 4]))∧
  (bD p≠0→e= .returned (.tuple #[.agg jE.toArray,.int .i64 (bD p)]))∧Below w.heap.size w w'
theorem aeJ (p:List aj)(vc:Value)(c k:Int)(w:World)(hp:aX w vc p)(hwf:jq p)(hz:bn p≤4194304) :
  Calls Tryz.prog 39 #[.agg #[vc],.int .i64 c,.int .i64 k] w fun e w'=>ac1 p c k w w' e:=by
 have HP:=hide hp;have hpl:p.length≤4194304:=Nat.le_trans (eG p) hz;obtain⟨pa,_,_,aA,rfl,_⟩:=hp;have hbel:Below w.heap.size w ((w.alloc (.cells #[.slice pa p.length aA] 24)).alloc (.cells jE.toArray 63)):=dS _ _ _;have B0:ak ((w.alloc (.cells #[.slice pa p.length aA] 24)).alloc (.cells jE.toArray 63)) w.heap.size 24 [.slice pa p.length aA]:=(ak.new w _ _).alloc _
 have B1:ak ((w.alloc (.cells #[.slice pa p.length aA] 24)).alloc (.cells jE.toArray 63)) (w.heap.size+1) 63 jE:=by
  have:=ak.new (w.alloc (.cells #[.slice pa p.length aA] 24)) jE.toArray 63;rw [World.size_alloc] at this;exact this
 have jc:=hide (aP (Keeps.of_below hbel) (ah HP));go_enter Tryz.func39,Tryz.ntmps39
 go_wp2_with fail
 refine (Yo p _ _ (ah jc) hwf hz).mono ?_;rintro e w1 ⟨rfl,hb1⟩;replace B0:=B0.below hb1 B0.lt;replace B1:=B1.below hb1 B1.lt;have hbw:=hbel.trans (hb1.mono hbel.size);have c0:w1.cell? ⟨w.heap.size,0,none⟩=some (.slice pa p.length aA):=B0.cell 0;clear hbel hb1 jc
 by_cases hF:bD p=0
 ·have HF:=hide hF;rw [hF];clear hF;go_wp2_with fail
  refine (ae3 p _ c k w _ (ah HP) hbw hpl).mono ?_;rintro e w2 ⟨h1,h2,hb2⟩;have hbw2:=hbw.trans (hb2.mono hbw.size)
  cases hm:bQ p c k with
  | none =>
   obtain rfl:=h2 hm;have HM:=hide hm;have C1:=B1.below hb2 B1.lt;clear hm h1 h2
   go_wp2_with (first
    | (refine iZ nH (ak.new _ _ _) 0 jE rfl (by simp) Eb (.tmp 9) (.tmp 22) rfl rfl rfl rfl ?_; intro w3 hB3 dh hs3; have D1 := C1.below ((aS w2 _).trans (dh.below (by simp) (fun k hk e => by omega))) C1.lt)
    | (refine iZ nH D1 0 jE rfl (by simp [jE]) Eb (.tmp 6) (.tmp 26) rfl rfl rfl rfl ?_; intro w7 iw kZ hs7))
   rw [gB (by rfl)] at iw;have hbw3:=hbw2.trans (((aS w2 _).trans (dh.below (by simp) (fun k hk e=>by omega))).mono hbw2.size);refine bodyPost_ret (jQ rfl nH iw rfl rfl) rfl ?_;exact⟨fun m _ e=>(by rw [ah HM] at e;cases e),fun _ _=>rfl,fun e=>absurd (ah HF) e,hbw3.trans (kZ.below hbw3.size (fun k hk e=>by omega))⟩
  | some m =>
   obtain⟨va,aQ,vf,rfl,hv⟩:=h1 m hm;have HM:=hide hm;have HV:=hide hv;have C1:=B1.below hb2 B1.lt;unfold bP;obtain⟨hva,kG,hvf⟩:=hv;obtain⟨aa,_,_,aI,rfl,_⟩:=hva;obtain⟨ca,_,_,aF,rfl,_⟩:=kG;obtain⟨fa,_,_,aG,rfl,_⟩:=hvf
   have hone:∀v∈[Value.int .i64 m.slot,.slice aa m.args.length aI,.int .i64 m.ret,.int .i64 m.locals,.int .i64 m.stack,.slice ca m.code.length aF,.slice fa m.frames.length aG],v.oneCell'=true:=fun v hv=>by
    simp only [List.mem_cons,List.not_mem_nil,or_false] at hv
    rcases hv with rfl | rfl | rfl | rfl | rfl | rfl | rfl <;> rfl
   clear hm h1 h2
   go_wp2_with (first
    | (refine iZ nH (ak.new _ _ _) 0 _ rfl (by simp) hone (.tmp 9) (.tmp 22) rfl rfl rfl rfl ?_; intro w3 hB3 dh hs3; rw [gB (by rfl)] at hB3; have D1 := C1.below ((aS w2 _).trans (dh.below (by simp) (fun k hk e => by omega))) C1.lt)
    | refine yj nH hB3 0 _ rfl (fun j v e => by simpa using e) (.tmp 9) rfl rfl rfl ?_
    | (refine iZ nH D1 0 _ rfl (by simp [jE]) hone (.tmp 6) (.tmp 27) rfl rfl rfl rfl ?_; intro w7 iw kZ hs7))
   rw [gB (by rfl)] at iw;have hbw3:=hbw2.trans (((aS w2 _).trans (dh.below (by simp) (fun k hk e=>by omega))).mono hbw2.size);refine bodyPost_ret (jQ rfl nH iw rfl rfl) rfl ?_;refine⟨fun m' _ e=>?_,fun _ e=>(by rw [ah HM] at e;cases e),fun e=>absurd (ah HF) e,hbw3.trans (kZ.below hbw3.size (fun k hk e=>by omega))⟩;rw [ah HM] at e;obtain rfl:=Option.some.inj e;exact⟨_,_,_,rfl,ah HV⟩
 ·have HF:=hide hF;have hF':(bD p != 0)=true:=by simpa using hF
  clear hF;go_wp2_with (refine iZ nH B1 0 jE rfl (by simp [jE]) Eb (.tmp 6) (.tmp 15) rfl rfl rfl rfl ?_;intro w7 iw kZ hs7)
  rw [gB (by rfl)] at iw;refine bodyPost_ret (jQ rfl nH iw rfl rfl) rfl ?_;exact⟨fun m e=>absurd e (ah HF),fun e=>absurd e (ah HF),fun _=>rfl,hbw.trans (kZ.below hbw.size (fun k hk e=>by omega))⟩
end Go.Proofs.YtiiokkllmchohaaGreat
