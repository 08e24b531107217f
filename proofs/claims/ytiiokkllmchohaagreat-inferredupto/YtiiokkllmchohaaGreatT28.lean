/- With the frames of its solution a method passes (pure). -/
import Derived.Test.YtiiokkllmchohaaGreatT26
import Derived.Test.YtiiokkllmchohaaGreatT27
set_option maxHeartbeats 4000000
set_option maxRecDepth 100000
namespace Go.Proofs.YtiiokkllmchohaaGreat
open Go.RowKit Go.Shelf
section
variable {p : List aj} {m : aC} {c : Int}
def Place (m:aC)(s:aJ)(k:Nat):Prop:=∃i,i<m.code.length∧s.re.getD i false=true∧gU (bH m i)=true∧(bH m i).a.toNat=k
end
section
variable {p : List aj} {m : aC} {c : Int}
theorem YM {i:eF}{s s':aH}(h:aY p m i s=some s')(hk:(s.stk.length:Int)≤m.stack):s'.loc=s.loc∨(i.op=2∧∃t,s'.loc=s.loc.set i.a.toNat t):=by
 unfold aY at h
 by_cases c:i.op=0
 ·rw [if_pos c] at h;obtain⟨a,b⟩:=lC h hk;exact .inl (by rw [b])
 rw [if_neg c] at h;clear c
 by_cases c:i.op=1
 ·rw [if_pos c] at h;obtain⟨t,_,h⟩:=bY h;obtain⟨a,b⟩:=lC h hk;exact .inl (by rw [b])
 rw [if_neg c] at h;clear c
 by_cases c:i.op=2
 ·rw [if_pos c] at h;obtain⟨⟨t,s1⟩,h1,h2⟩:=bY h;obtain⟨a,b⟩:=take_len h1 hk;obtain⟨u,_,rfl⟩:=Option.map_eq_some_iff.1 h2;exact .inr ⟨c,u,by dsimp only;rw [b]⟩
 rw [if_neg c] at h;clear c
 by_cases c:i.op=3∨i.op=4∨i.op=5∨i.op=6
 ·rw [if_pos c] at h;obtain⟨s1,h1,h2⟩:=bY h;obtain⟨s2,h3,h4⟩:=bY h2;obtain⟨a1,b1⟩:=pW h1 hk;obtain⟨a2,b2⟩:=pW h3 a1;obtain⟨a3,b3⟩:=lC h4 a2;exact .inl (by rw [b3,b2,b1])
 rw [if_neg c] at h;clear c
 by_cases c:i.op=8∨i.op=19
 ·rw [if_pos c] at h;obtain⟨a1,b1⟩:=pW h hk;exact .inl (by rw [b1])
 rw [if_neg c] at h;clear c
 by_cases c:i.op=9
 ·rw [if_pos c] at h;obtain⟨a,b⟩:=lC h hk;exact .inl (by rw [b])
 rw [if_neg c] at h;clear c
 by_cases c:i.op=10
 ·rw [if_pos c] at h;obtain⟨s1,h1,h2⟩:=bY h;obtain⟨a1,b1⟩:=pW h1 hk;obtain⟨a3,b3⟩:=lC h2 a1;exact .inl (by rw [b3,b1])
 rw [if_neg c] at h;clear c
 by_cases c:i.op=11
 ·rw [if_pos c] at h;obtain⟨s1,h1,h2⟩:=bY h;obtain⟨a1,b1⟩:=pW h1 hk;obtain⟨a3,b3⟩:=pW h2 a1;exact .inl (by rw [b3,b1])
 rw [if_neg c] at h;clear c
 by_cases c:i.op=12
 ·rw [if_pos c] at h;obtain⟨s1,h1,h2⟩:=bY h;obtain⟨s2,h3,h4⟩:=bY h2;obtain⟨a1,b1⟩:=PY _ h1 hk;obtain⟨a2,b2⟩:=pW h3 a1;obtain⟨a3,b3⟩:=lC h4 a2;exact .inl (by rw [b3,b2,b1])
 rw [if_neg c] at h;clear c
 by_cases c:i.op=13
 ·rw [if_pos c] at h;obtain⟨a1,b1⟩:=pW h hk;exact .inl (by rw [b1])
 rw [if_neg c] at h;clear c
 by_cases c:i.op=14
 ·rw [if_pos c] at h;obtain⟨⟨t,s1⟩,h1,rfl⟩:=Option.map_eq_some_iff.1 h;obtain⟨a1,b1⟩:=take_len h1 hk;exact .inl (by dsimp only;rw [b1])
 rw [if_neg c] at h;clear c
 by_cases c:i.op=15
 ·rw [if_pos c] at h;obtain⟨⟨t,s1⟩,h1,h2⟩:=bY h;obtain⟨s2,h3,h4⟩:=bY h2;obtain⟨a1,b1⟩:=take_len h1 hk;obtain⟨a2,b2⟩:=lC h3 a1;obtain⟨a3,b3⟩:=lC h4 a2;exact .inl (by rw [b3,b2,b1])
 rw [if_neg c] at h;clear c
 by_cases c:i.op=16
 ·rw [if_pos c] at h;obtain⟨a,b⟩:=lC h hk;exact .inl (by rw [b])
 rw [if_neg c] at h;clear c
 by_cases c:i.op=17
 ·rw [if_pos c] at h;obtain⟨s1,h1,h2⟩:=bY h;obtain⟨a1,b1⟩:=PX (m:=m) h1 hk;obtain⟨a3,b3⟩:=lC h2 a1;exact .inl (by rw [b3,b1])
 rw [if_neg c] at h;clear c
 by_cases c:i.op=18
 ·rw [if_pos c] at h;obtain⟨a1,b1⟩:=PX (m:=m) h hk;exact .inl (by rw [b1])
 rw [if_neg c] at h;clear c
 by_cases c:i.op=20
 ·rw [if_pos c] at h;obtain⟨⟨t,s1⟩,h1,h2⟩:=bY h;obtain⟨⟨u,s2⟩,h3,h4⟩:=bY h2;obtain⟨s3,h5,h6⟩:=bY h4;obtain⟨a1,b1⟩:=take_len h1 hk;obtain⟨a2,b2⟩:=take_len h3 a1;obtain⟨a3,b3⟩:=lC h5 a2;obtain⟨a4,b4⟩:=lC h6 a3;dsimp only at b2 b3;exact .inl (by rw [b4,b3,b2,b1])
 rw [if_neg c] at h
 cases h
 exact .inl rfl
structure Kept (p:List aj)(m:aC)(Q:aH→Prop):Prop where
 nx:∀i s n,i<m.code.length→Q s→s.loc.length=8→(s.stk.length:Int)≤m.stack→jy p m i s=some n→Q n
 jn:∀s t,Q s→Q t→s.loc.length=8→Q (jh p s t)
variable {Q : aH → Prop}
def rX (Q:aH→Prop)(s:aJ):Prop:=∀i,i<40→s.re.getD i false=true→Q (s.st.getD i zeroS)
theorem UQ {s:aJ}(O:fZ p m s)(A:rX Q s){i:Nat}{x:aH}(hx:Q x):rX Q (dK s i x):=fun j hj hr=>by
 by_cases e:j=i
 ·subst e
  show Q ((s.st.set j x).getD j zeroS)
  rw [kF (by rw [O.l1];exact hj)];exact hx
 ·have hr':(s.re.set i true).getD j false=true:=hr;rw [getD_set_ne e] at hr'
  show Q ((s.st.set i x).getD j zeroS)
  rw [getD_set_ne e];exact A j hj hr'
theorem aiU (K:Kept p m Q){s s':aJ}(O:fZ p m s)(A:rX Q s){i:Nat}(hi:i<40){g:aH}(hg:Q g)(e:ji p i g s=some s'):rX Q s':=by
 unfold ji at e
 split at e
 ·rename_i hr
  split at e
  ·cases e;exact A
  ·split at e
   ·cases e
    exact UQ O A (K.jn _ _ (A i hi hr) hg (O.ok i hi).1)
   ·cases e
 ·cases e
  exact UQ O A hg
theorem abT (hs:aU p p.length)(h6:p.length≤6)(h8:m.stack≤8)(K:Kept p m Q){n:aH}(hl:n.loc.length=8)(hk:(n.stk.length:Int)≤m.stack)(hn:Q n):∀(l:List (Int×Bool)) (s s':aJ),fZ p m s→rX Q s→(∀y∈l,y.1.toNat<40)→lF p n l s=some s'→rX Q s'
 | [], s, s', _, A, _, e => by cases e; exact A
 | y :: l, s, s', O, A, hy, e => by
  unfold lF at e;obtain⟨s1,e1,e2⟩:=bY e;obtain⟨O1,_⟩:=LM hs h6 h8 O (hy y (by simp)) hl hk e1;exact abT hs h6 h8 K hl hk hn l s1 s' O1 (aiU K O A (hy y (by simp)) hn e1) (fun z hz=>hy z (by simp [hz])) e2
theorem adJ (hs:aU p p.length)(h6:p.length≤6)(h8:m.stack≤8)(dD:m.code.length≤40)(hins:∀i∈m.code,bC p m i=true)(K:Kept p m Q){i:Nat}(hi:i<m.code.length){s s':aJ×Bool}(I:uq p c m s.1)(A:rX Q s.1)(e:pG p m i s=some s'):rX Q s'.1:=by
 unfold pG at e
 split at e
 ·rename_i hr;obtain⟨s1,h1,rfl⟩:=Option.map_eq_some_iff.1 e;obtain⟨c1,_⟩:=NH I.ok (show i<40 by omega) hr;unfold uK at h1;obtain⟨n,g1,g2⟩:=bY h1;have g1':jy p m i (s.1.st.getD i zeroS)=some n:=g1;have ho:=I.ok.ok i (by omega);obtain⟨n1,n2⟩:=FI g1' ho.1 ho.2;have hin:=AZ hi hins g1';have hre:=I.ra i (by omega) hr;exact abT hs h6 h8 K n1 n2 (K.nx i _ n hi (A i (by omega) hre) ho.1 ho.2 g1') _ _ _ c1 A (fun y hy=>by have:=hin y hy;omega) g2
 ·cases e
  exact A
theorem ab5 (hs:aU p p.length)(h6:p.length≤6)(h8:m.stack≤8)(dD:m.code.length≤40)(hins:∀i∈m.code,bC p m i=true)(K:Kept p m Q){s:aJ}(I:uq p c m s)(A:rX Q s):∀(k:Nat) (s':aJ×Bool),k≤m.code.length→lQ p m s k=some s'→rX Q s'.1
 | 0, s', _, e => by cases e; exact A
 | k + 1, s', hk, e => by
  unfold lQ at e;obtain⟨s1,e1,e2⟩:=bY e;exact adJ hs h6 h8 dD hins K (by omega) (Po hs h6 h8 dD hins I k s1 (by omega) e1).1 (ab5 hs h6 h8 dD hins K I A k s1 (by omega) e1) e2
theorem acz (hs:aU p p.length)(h6:p.length≤6)(h8:m.stack≤8)(dD:m.code.length≤40)(hins:∀i∈m.code,bC p m i=true)(K:Kept p m Q):∀(n:Nat) (s r:aJ),uq p c m s→rX Q s→jC p m n s=some (some r)→rX Q r
 | 0, s, r, _, _, e => by cases e
 | n + 1, s, r, I, A, e => by
  unfold jC at e
  cases hq:lQ p m s m.code.length with
  | none => rw [hq] at e; cases e
  | some x =>
   obtain⟨s',b⟩:=x;rw [hq] at e;have A1:=ab5 hs h6 h8 dD hins K I A _ _ (Nat.le_refl _) hq;have I1:=(Po hs h6 h8 dD hins I _ _ (Nat.le_refl _) hq).1
   cases b with
   | true => exact acz hs h6 h8 dD hins K n s' r I1 A1 e
   | false => cases e; exact A1
def Hi (m:aC)(s:aH):Prop:=∀i:Nat,m.locals≤(i:Int)→i<8→s.loc.getD i 0=2
theorem aao (hins:∀i∈m.code,bC p m i=true):Kept p m (Hi m):=by
 refine⟨fun i s n hi hq hl hk e=>?_,fun s t hq ht hl j hj Fp=>?_⟩
 ·unfold jy at e;obtain⟨t1,e1,e2⟩:=bY e
  split at e2
  ·cases e2
  ·cases e2
   have hmem:bH m i∈m.code:=by
    unfold bH;rw [List.getElem?_eq_getElem hi];exact List.getElem_mem _
   have J:=AO (p:=p) (m:=m) (op:=(bH m i).op) (a:=(bH m i).a) (b:=(bH m i).b) (hins _ hmem)
   rcases YM e1 hk with h | ⟨ho,t,h⟩
   ·intro j hj Fp;rw [h];exact hq j hj Fp
   ·intro j hj Fp;have:=J.loc (.inr ho);rw [h,getD_set_ne (by omega)];exact hq j hj Fp
 ·rw [Ik p s t hl Fp,hq j hj Fp,ht j hj Fp];unfold dJ;rw [if_pos (wQ _ _)]
theorem adR (ha:1+(m.args.length:Int)≤m.locals)(h7:m.args.length≤7):Hi m (dO c m):=fun i hi h8=>by
 unfold dO;dsimp only
 cases i with
 | zero => omega
 | succ i =>
  rw [List.getD_cons_succ,List.getD_eq_getElem?_getD,List.getElem?_append_right (by omega),List.getElem?_replicate,if_pos (by omega)]
  rfl
end
def xg (m:aC)(r:aJ)(k:Nat):bF:=⟨(k:Int),(r.st.getD k zeroS).loc.take m.locals.toNat,(r.st.getD k zeroS).stk⟩
def DR (m:aC)(r:aJ)(k:Nat):Bool:=(List.range m.code.length).any fun i=>r.re.getD i false && gU (bH m i) && ((bH m i).a.toNat == k)
def mV (m:aC)(r:aJ):List bF:=(dX m r m.code.length).filter fun f=>DR m r f.pc.toNat
theorem aiB {m:aC}{r:aJ}{k:Nat} :DR m r k=true↔Place m r k:=by
 unfold DR Place;rw [List.any_eq_true]
 constructor
 ·rintro ⟨i,hi,h⟩;simp only [Bool.and_eq_true,beq_iff_eq] at h;exact⟨i,List.mem_range.1 hi,h.1.1,h.1.2,h.2⟩
 ·rintro ⟨i,h1,h2,h3,h4⟩;exact⟨i,List.mem_range.2 h1,by rw [Bool.and_eq_true,Bool.and_eq_true,beq_iff_eq];exact⟨⟨h2,h3⟩,h4⟩⟩
section
variable {p : List aj} {m : aC} {c : Int}
end
structure Rq (m m':aC):Prop where
 slot:m'.slot=m.slot
 args:m'.args=m.args
 ret:m'.ret=m.ret
 locals:m'.locals=m.locals
 stack:m'.stack=m.stack
 code:m'.code=m.code
structure Xw (x x':aj):Prop where
 sup:x'.sup=x.sup
 fields:x'.fields=x.fields
 len:x'.aB.length=x.aB.length
 meth:∀(k:Nat) (m m':aC),x.aB[k]? =some m→x'.aB[k]? =some m'→Rq m m'
structure Rt (p p':List aj):Prop where
 len:p'.length=p.length
 cls:∀(j:Nat) (x x':aj),p[j]? =some x→p'[j]? =some x'→Xw x x'
theorem Ah {α β :Type}{l:List α}{l':List β}(h:l'.length=l.length)(j:Nat):(l[j]? =none∧l'[j]? =none)∨∃x x',l[j]? =some x∧l'[j]? =some x':=by
 rcases Nat.lt_or_ge j l.length with hj | hj
 ·exact .inr ⟨_,_,List.getElem?_eq_getElem hj,List.getElem?_eq_getElem (by omega)⟩
 ·exact .inl ⟨List.getElem?_eq_none hj,List.getElem?_eq_none (by omega)⟩
section
variable {p p' : List aj} (S : Rt p p')
include S
theorem Yj:∀(f:Nat) (c:Int),chain p' f c=chain p f c
 | 0, _ => rfl
 | f + 1, c => by
  unfold chain
  split
  ·rfl
  ·rcases Ah S.len c.toNat with ⟨h1,h2⟩ | ⟨x,x',h1,h2⟩
   ·rw [h1,h2]
   ·rw [h1,h2];dsimp only;rw [(S.cls _ x x' h1 h2).sup,Yj f x.sup]
theorem Yg (c:Int):chainOf p' c=chainOf p c:=Yj S _ _
theorem YV (c:Int):fieldsOf p' c=fieldsOf p c:=by
 unfold fieldsOf;rw [Yg S]
 congr 2
 funext k
 unfold O4
 rcases Ah S.len k with ⟨h1,h2⟩ | ⟨x,x',h1,h2⟩
 ·rw [h1,h2]
 ·rw [h1,h2];exact (S.cls _ x x' h1 h2).fields
omit S in
theorem ajS {x x':aj}(h:Xw x x')(slot:Int):oW x'.aB slot=oW x.aB slot:=by
 have hm : x'.aB.map (·.slot) = x.aB.map (·.slot) := by
  apply List.ext_getElem?
  intro k;rw [List.getElem?_map,List.getElem?_map]
  rcases Ah h.len k with ⟨h1,h2⟩ | ⟨m,m',h1,h2⟩
  ·rw [h1,h2]
  ·rw [h1,h2];exact congrArg some (h.meth k m m' h1 h2).slot
 have key : ∀ l : List aC, oW l slot = (l.map (·.slot)).findIdx? (fun t => t == slot) := fun l => by
  unfold oW;rw [List.findIdx?_map]
  rfl
 rw [key,key,hm]
theorem abt (c slot:Int):fO p' c slot=fO p c slot:=by
 unfold fO;rw [Yg S]
 congr 1
 funext k
 unfold O5
 rcases Ah S.len k with ⟨h1,h2⟩ | ⟨x,x',h1,h2⟩
 ·rw [h1,h2]
 ·rw [h1,h2]
  show (oW x'.aB slot).map _=(oW x.aB slot).map _
  rw [ajS (S.cls _ x x' h1 h2)]
omit S in
end
theorem N7 {n:Nat}{m:aC} :∀ {l:List bF} {last:Int},iP n m last l=true↔(∀f∈l,last<f.pc)∧l.Pairwise (fun f g=>f.pc<g.pc)∧∀f∈l,uJ n m f=true
 | [], _ => ⟨fun _ => ⟨fun f h => (by cases h), List.Pairwise.nil, fun f h => (by cases h)⟩, fun _ => rfl⟩
 | f :: l, last => by
  unfold iP;simp only [Bool.and_eq_true,decide_eq_true_eq];rw [N7 (l:=l) (last:=f.pc),List.pairwise_cons]
  constructor
  ·rintro ⟨⟨h1,h2⟩,h3,h4,h5⟩;refine⟨fun g hg=>?_,⟨h3,h4⟩,fun g hg=>?_⟩
   ·rcases List.mem_cons.1 hg with rfl | hg
    ·exact h1
    ·have:=h3 g hg;omega
   ·rcases List.mem_cons.1 hg with rfl | hg
    ·exact h2
    ·exact h5 g hg
  ·rintro ⟨h1,⟨h2,h3⟩,h4⟩;exact⟨⟨h1 f (by simp),h4 f (by simp)⟩,h2,h3,fun g hg=>h4 g (by simp [hg])⟩
theorem ER {m:aC}{r:aJ} :∀ {n:Nat} {f:bF},f∈dX m r n→∃k,k<n∧r.re.getD k false=true∧f=xg m r k
 | 0, f, h => by cases h
 | n + 1, f, h => by
  have hsplit:dX m r (n+1)=dX m r n++(if r.re.getD n false then [xg m r n] else []):=rfl;rw [hsplit] at h
  rcases List.mem_append.1 h with h | h
  ·obtain⟨k,h1,h2,h3⟩:=ER h;exact⟨k,by omega,h2,h3⟩
  ·split at h
   ·rename_i hr;obtain rfl:=List.mem_singleton.1 h;exact⟨n,by omega,hr,rfl⟩
   ·cases h
theorem Zf (m:aC)(r:aJ):∀n,(dX m r n).Pairwise (fun f g=>f.pc<g.pc)
 | 0 => List.Pairwise.nil
 | n + 1 => by
  have hsplit:dX m r (n+1)=dX m r n++(if r.re.getD n false then [xg m r n] else []):=rfl;rw [hsplit,List.pairwise_append];refine⟨Zf m r n,?_,fun f hf g hg=>?_⟩
  ·split
   ·exact List.pairwise_singleton _ _
   ·exact List.Pairwise.nil
  ·obtain⟨k,h1,_,rfl⟩:=ER hf
   split at hg
   ·obtain rfl:=List.mem_singleton.1 hg
    show (k:Int)<(n:Int)
    omega
   ·cases hg
theorem acJ {n:Nat}{t:Int}(h:bT n t):gZ n t=true:=by
 obtain⟨h1,h2⟩:=h;unfold gZ fF;simp only [Bool.or_eq_true,Bool.and_eq_true,beq_iff_eq,decide_eq_true_eq];omega
section
variable {p : List aj} {m : aC} {c : Int}
theorem akh (G:Good p)(hins:∀i∈m.code,bC p m i=true):Kept p m (gI p):=
 ⟨fun _ _ _ hi hq _ _ e=>OW G hins hi hq e,fun _ _ hq ht hl=>Um hl hq ht⟩
theorem Yd (hF:bD p=0)(hz:bn p≤4194304){k:Int}(hown:bQ p c k=some m){N:Nat}{r:aJ}(e:jC p m N (dK sv0 0 (dO c m))=some (some r)):iP p.length m (-1) (mV m r)=true∧(mV m r).length≤40:=by
 obtain⟨_,_,O⟩:=qY hF hown;have hs:=wX hF;have h6:=(qX hF).1.2
 have hb:=vO.1 (show qO p.length m=true by
  have h:=hown;unfold bQ at h
  split at h
  ·cases hx:p[c.toNat]? with
   | none => rw [hx] at h; cases h
   | some x => rw [hx] at h; exact Hy hF hx h
  ·cases h)
 have hk0:=hb.2.2.2.2.2.2.2.1;have I0:=IZ (p:=p) (c:=c) O.a7 hk0;obtain⟨I,_⟩:=PE hs h6 O.ok.stk O.c40 O.ins N _ r I0 e
 have A0:rX (gI p) (dK sv0 0 (dO c m)):=fun j hj hr=>by
  by_cases ej:j=0
  ·subst ej
   show gI p (((List.replicate 40 zeroS).set 0 (dO c m)).getD 0 zeroS)
   rw [kF (by simp)];exact Rz O
  ·have h':((List.replicate 40 false).set 0 true).getD j false=true:=hr;rw [getD_set_ne ej,List.getD_eq_getElem?_getD,List.getElem?_replicate] at h'
   split at h' <;> cases h'
 have A:=acz hs h6 O.ok.stk O.c40 O.ins (akh (CW hF hz) O.ins) N _ r I0 A0 e;have AA:=hb.2.2.2.2.2.2.1;have hl1:=hb.2.2.2.2.2.1;have dD:=O.c40
 have hlen:∀n,(dX m r n).length≤n:=fun n=>by
  induction n with
  | zero => exact Nat.le_refl _
  | succ n ih =>
   have hsplit:dX m r (n+1)=dX m r n++(if r.re.getD n false then [xg m r n] else []):=rfl;rw [hsplit,List.length_append];have:(if r.re.getD n false then [xg m r n] else []).length≤1:=by split <;> simp
   omega
 refine⟨N7.2 ⟨fun f hf=>?_,(Zf m r _).filter _,fun f hf=>?_⟩,?_⟩
 ·obtain⟨j,h1,h2,rfl⟩:=ER (List.mem_filter.1 hf).1
  show (-1:Int)<(j:Int)
  omega
 ·obtain⟨j,h1,h2,rfl⟩:=ER (List.mem_filter.1 hf).1;have ho:=I.ok.ok j (by omega);have hT:=A j (by omega) h2;unfold uJ xg;simp only [Bool.and_eq_true,decide_eq_true_eq,List.all_eq_true];refine⟨⟨⟨⟨by omega,?_⟩,ho.2⟩,fun t ht=>acJ (hT.1 t (List.take_subset _ _ ht))⟩,fun t ht=>acJ (hT.2 t ht)⟩;rw [List.length_take,ho.1];omega
 ·have h1:=hlen m.code.length;have h2:(mV m r).length≤(dX m r m.code.length).length:=List.length_filter_le _ _;omega
end
theorem af2 {p p':List aj}(S:Rt p p')(hF:bD p=0)(hfr:∀(c k:Nat) (m':aC),bQ p' c k=some m'→iP p'.length m' (-1) m'.frames=true∧m'.frames.length≤40):bD p'=0:=by
 obtain⟨⟨h1,h6⟩,hcl,hco⟩:=qX hF;have hl:=S.len
 have hins:∀(m m':aC),Rq m m'→∀i,bC p' m' i=bC p m i:=fun m m' h i=>by
  unfold bC;rw [h.locals,h.code,hl,YV S,abt S]
 unfold bD;rw [if_neg (by omega),if_pos,if_pos]
 ·rw [List.all_eq_true];intro x' hx';obtain⟨j,hj⟩:=List.getElem?_of_mem hx';obtain⟨x,hx⟩:∃x,p[j]? =some x:=⟨_,List.getElem?_eq_getElem (by have:=(List.getElem?_eq_some_iff.1 hj).1;omega)⟩;have C:=S.cls j x x' hx hj;rw [List.all_eq_true];intro m' hm';obtain⟨k,hk⟩:=List.getElem?_of_mem hm';obtain⟨m,hm⟩:∃m,x.aB[k]? =some m:=⟨_,List.getElem?_eq_getElem (by have:=(List.getElem?_eq_some_iff.1 hk).1;have:=C.len;omega)⟩;have M:=C.meth k m m' hm hk;have hc:=hco x (List.mem_of_getElem? hx) m (List.mem_of_getElem? hm)
  obtain⟨f1,f2⟩:=hfr j k m' (by
   unfold bQ;rw [if_pos ⟨by omega,by omega⟩,Int.toNat_natCast,Int.toNat_natCast,hj]
   exact hk)
  unfold iL at hc ⊢;simp only [Bool.and_eq_true,decide_eq_true_eq] at hc ⊢;obtain⟨⟨⟨⟨c1,c2⟩,_⟩,c4⟩,_⟩:=hc;refine⟨⟨⟨⟨by rw [M.code];exact c1,by rw [M.code];exact c2⟩,f2⟩,?_⟩,f1⟩;rw [M.code,List.all_eq_true];intro i hi;rw [hins m m' M];exact List.all_eq_true.1 c4 i hi
 ·rw [List.all_eq_true];intro j hj;unfold uD
  rcases Ah S.len j with ⟨g1,g2⟩ | ⟨x,x',g1,g2⟩
  ·rw [g2]
  ·rw [g2];dsimp only;have C:=S.cls j x x' g1 g2;obtain⟨s1,s2⟩:=hcl j x g1
   have hsup:nP j x'=true:=by
    unfold nP at s1 ⊢;rw [C.sup];exact s1
   rw [hsup,Bool.true_and];unfold rU at s2 ⊢;simp only [Bool.and_eq_true,decide_eq_true_eq] at s2 ⊢;obtain⟨⟨⟨r1,r2⟩,r3⟩,r4⟩:=s2;refine⟨⟨⟨by rw [C.fields,hl];exact r1,by rw [YV S];exact r2⟩,by rw [C.len];exact r3⟩,?_⟩;rw [C.len,List.all_eq_true];intro k hk;have hk':=List.all_eq_true.1 r4 k hk
   rcases Ah C.len k with ⟨q1,q2⟩ | ⟨m,m',q1,q2⟩
   ·rw [q2]
   ·rw [q2];rw [q1] at hk';dsimp only at hk' ⊢;have M:=C.meth k m m' q1 q2;unfold headB at hk' ⊢;simp only [Bool.and_eq_true] at hk' ⊢;obtain⟨⟨b1,b2⟩,b3⟩:=hk';refine⟨⟨?_,?_⟩,?_⟩
    ·unfold qO at b1 ⊢;rw [M.slot,M.args,M.ret,M.locals,M.stack,hl];exact b1
    ·rw [List.all_eq_true] at b2 ⊢;intro o' ho';obtain⟨i,hi⟩:=List.getElem?_of_mem ho'
     have hik:i<k:=by
      have:=(List.getElem?_eq_some_iff.1 hi).1;rw [List.length_take] at this;omega
     rw [List.getElem?_take_of_lt hik] at hi
     rcases Ah C.len i with ⟨z1,z2⟩ | ⟨o,o2,z1,z2⟩
     ·rw [z2] at hi;cases hi
     ·rw [z2] at hi
      cases hi
      have Mo:=C.meth i o o' z1 z2;rw [Mo.slot,M.slot]
      exact b2 o (by
       apply List.mem_of_getElem? (i:=i)
       rw [List.getElem?_take_of_lt hik]
       exact z1)
    ·unfold oG at b3 ⊢;rw [C.sup,M.slot,abt S]
     cases hmo:fO p x.sup m.slot with
     | none => rfl
     | some ck =>
      rw [hmo] at b3;dsimp only at b3 ⊢;unfold sV at b3 ⊢
      rcases Ah S.len ck.1 with ⟨z1,z2⟩ | ⟨y,y',z1,z2⟩
      ·rw [z2];rfl
      ·rw [z1] at b3;rw [z2];rw [Option.bind_some] at b3 ⊢;have Cy:=S.cls _ y y' z1 z2
       rcases Ah Cy.len ck.2 with ⟨w1,w2⟩ | ⟨o,o',w1,w2⟩
       ·rw [w2]
       ·rw [w1] at b3;rw [w2];dsimp only at b3 ⊢;have Mo:=Cy.meth _ o o' w1 w2;rw [Mo.args,Mo.ret,M.args,M.ret];exact b3
def jf (m:aC)(r:aJ):aC:= { m with frames:=mV m r }
def gQ (p:List aj)(R:Nat→Nat→aJ):List aj:=p.mapIdx fun c x=> { x with aB:=x.aB.mapIdx fun k m=>jf m (R c k) }
theorem aeo (m:aC)(r:aJ):Rq m (jf m r):=⟨rfl,rfl,rfl,rfl,rfl,rfl⟩
section
variable {p : List aj} {R : Nat → Nat → aJ}
theorem J7 (c:Nat):(gQ p R)[c]? =(p[c]?).map fun x=> { x with aB:=x.aB.mapIdx fun k m=>jf m (R c k) } :=by
 unfold gQ;rw [List.getElem?_mapIdx]
theorem Ye:Rt p (gQ p R):=by
 refine⟨by unfold gQ;simp,fun j x x' h1 h2=>?_⟩;rw [J7,h1] at h2
 cases h2
 refine⟨rfl,rfl,by simp,fun k m m' g1 g2=>?_⟩;rw [List.getElem?_mapIdx,g1] at g2
 cases g2
 exact aeo _ _
theorem aeu {c k:Nat}{m':aC}(h:bQ (gQ p R) c k=some m'):∃m,bQ p c k=some m∧m'=jf m (R c k):=by
 unfold bQ at h ⊢;rw [if_pos ⟨by omega,by omega⟩,Int.toNat_natCast,Int.toNat_natCast] at h ⊢;rw [J7] at h
 cases hx:p[c]? with
 | none => rw [hx] at h; cases h
 | some x =>
  rw [hx] at h;rw [Option.bind_some];have h':(x.aB.mapIdx fun k m=>jf m (R c k))[k]? =some m':=h;rw [List.getElem?_mapIdx] at h';obtain⟨m,h1,h2⟩:=Option.map_eq_some_iff.1 h';exact⟨m,h1,h2.symm⟩
def Ru (p:List aj)(R:Nat→Nat→aJ):Prop:=∀(c k:Nat) (m:aC),bQ p c k=some m→∃N,jC p m N (dK sv0 0 (dO c m))=some (some (R c k))
theorem Yc (hF:bD p=0)(hz:bn p≤4194304)(h:Ru p R):bD (gQ p R)=0:=by
 refine af2 Ye hF (fun c k m' hm=>?_);obtain⟨m,h1,rfl⟩:=aeu hm;obtain⟨N,h2⟩:=h c k m h1;obtain⟨f1,f2⟩:=Yd hF hz h1 h2;refine⟨?_,f2⟩;rw [Ye.len];rw [N7] at f1 ⊢;exact f1
end
def jK (m:aC)(l:List bF)(k:Nat):Bool:=l.any fun f=>gU (bH m f.pc.toNat) && ((bH m f.pc.toNat).a.toNat == k)
theorem Ze {m:aC}{r:aJ} :∀ {n k:Nat},k<n→r.re.getD k false=true→xg m r k∈dX m r n
 | 0, k, h, _ => by omega
 | n + 1, k, h, hr => by
  have hsplit:dX m r (n+1)=dX m r n++(if r.re.getD n false then [xg m r n] else []):=rfl;rw [hsplit]
  by_cases e:k=n
  ·subst e;rw [if_pos hr];simp
  ·exact List.mem_append.2 (.inl (Ze (by omega) hr))
theorem ahw (m:aC)(r:aJ)(k:Nat):jK m (dX m r m.code.length) k=DR m r k:=by
 rw [Bool.eq_iff_iff,aiB];unfold jK;rw [List.any_eq_true]
 constructor
 ·rintro ⟨f,hf,h⟩;obtain⟨i,h1,h2,rfl⟩:=ER hf;have e:(xg m r i).pc.toNat=i:=Int.toNat_natCast i;rw [e] at h;simp only [Bool.and_eq_true,beq_iff_eq] at h;exact⟨i,h1,h2,h.1,h.2⟩
 ·rintro ⟨i,h1,h2,h3,h4⟩;refine⟨xg m r i,Ze h1 h2,?_⟩;have e:(xg m r i).pc.toNat=i:=Int.toNat_natCast i;rw [e,Bool.and_eq_true,beq_iff_eq];exact⟨h3,h4⟩
theorem aem (m:aC)(r:aJ):mV m r=(dX m r m.code.length).filter fun f=>jK m (dX m r m.code.length) f.pc.toNat:=by
 unfold mV
 congr 1
 funext f
 rw [ahw]
def Ends (p:List aj)(Q:Nat→Nat→Option aJ):Prop:=∀(c k:Nat) (m:aC),bQ p c k=some m→∃N,jC p m N (dK sv0 0 (dO c m))=some (Q c k)
def o7 (p:List aj)(Q:Nat→Nat→Option aJ):Prop:=∀(c k:Nat) (m:aC),bQ p c k=some m→Q c k≠none
def iQ (Q:Nat→Nat→Option aJ)(c k:Nat):aJ:=(Q c k).getD sv0
section
variable {p : List aj} {Q : Nat → Nat → Option aJ} {R : Nat → Nat → aJ}
theorem afI (hF:bD p=0):∃Q,Ends p Q:=by
 have key:∀c k:Nat,∃q:Option aJ,∀m,bQ p c k=some m→∃N,jC p m N (dK sv0 0 (dO c m))=some q:=fun c k=>by
  cases h:bQ p c k with
  | none => exact ⟨none, fun m e => (by cases e)⟩
  | some m =>
   obtain⟨N,r,hr⟩:=aaK hF h;exact⟨r,fun m' e=>by cases e;exact⟨N,hr⟩⟩
 exact⟨fun c k=>(key c k).choose,fun c k m h=>(key c k).choose_spec m h⟩
theorem YP (h:Ends p Q)(a:o7 p Q):Ru p (iQ Q):=fun c k m hm=>by
 obtain⟨N,hN⟩:=h c k m hm;refine⟨N,?_⟩;rw [hN];have:=a c k m hm;unfold iQ
 cases hq:Q c k with
 | none => exact absurd hq this
 | some r => rfl
theorem Y7 {n t:Int}(hn:n≤4194304)(h:gZ n t=true):I64 t:=by
 unfold gZ fF at h;unfold I64;simp at h;omega
theorem Yf (hwf:jq p)(hF:bD p=0)(hz:bn p≤4194304)(h:Ru p R):jq (gQ p R):=by
 intro x' hx';obtain⟨c,hc⟩:=List.getElem?_of_mem hx';rw [J7] at hc
 cases hx:p[c]? with
 | none => rw [hx] at hc; cases hc
 | some x =>
  rw [hx] at hc
  cases hc
  have hxm:=List.mem_of_getElem? hx;obtain⟨w1,w2,w3⟩:=hwf x hxm;refine⟨w1,w2,fun m' hm'=>?_⟩;obtain⟨k,hk⟩:=List.getElem?_of_mem hm';have hk':(x.aB.mapIdx fun k m=>jf m (R c k))[k]? =some m':=hk;rw [List.getElem?_mapIdx] at hk';obtain⟨m,h1,rfl⟩:=Option.map_eq_some_iff.1 hk';obtain⟨g1,g2,g3,g4,g5,g6,_⟩:=w3 m (List.mem_of_getElem? h1);refine⟨g1,g2,g3,g4,g5,g6,fun f hf=>?_⟩
  have hown:bQ p (c:Int) (k:Int)=some m:=by
   unfold bQ;rw [if_pos ⟨by omega,by omega⟩,Int.toNat_natCast,Int.toNat_natCast,hx];exact h1
  obtain⟨N,hN⟩:=h c k m hown;have hpl:(p.length:Int)≤4194304:=by have:=Nat.le_trans (eG p) hz;omega
  obtain⟨q1,_,q3⟩:=N7.1 (Yd hF hz hown hN).1;have a1:=q1 f hf;have a3:=q3 f hf;unfold uJ at a3;simp only [Bool.and_eq_true,decide_eq_true_eq,List.all_eq_true] at a3;obtain⟨⟨⟨⟨b1,_⟩,_⟩,b4⟩,b5⟩:=a3;have Z7:=(qY hF hown).2.2.c40;exact⟨⟨by omega,by omega⟩,fun t ht=>Y7 hpl (b4 t ht),fun t ht=>Y7 hpl (b5 t ht)⟩
end
theorem aic (x:eF)(pc k:Nat):((gy x pc).any fun y=>y.2 && y.1.toNat == k)=(gU x && x.a.toNat == k):=by
 unfold gy
 cases gU x <;> cases qW x <;> simp
theorem ahx {m:aC}{l:List bF}{i:Nat}(h:i<l.length)(k:Nat):jK m (l.take (i+1)) k=(jK m (l.take i) k || (gU (bH m l[i].pc.toNat) && ((bH m l[i].pc.toNat).a.toNat == k))):=by
 unfold jK;rw [List.take_add_one,List.getElem?_eq_getElem h,List.any_append];simp
theorem afR {q:bF→Bool}{l:List bF}{i:Nat}(h:i<l.length):(l.take (i+1)).filter q=(l.take i).filter q++(if q l[i] then [l[i]] else []):=by
 rw [List.take_add_one,List.getElem?_eq_getElem h,List.filter_append]
 congr 1
 simp [List.filter_cons]
def Ir (n:Nat)(f:Nat→Bool):List Bool:=(List.range n).map f
theorem ah5 {n j:Nat}{f f':Nat→Bool}(hf:∀k,f' k=(f k || (j == k))):(Ir n f).set j true=Ir n f':=by
 apply List.ext_getElem?
 intro i;unfold Ir;rw [List.getElem?_set,List.getElem?_map,List.getElem?_map]
 by_cases e:j=i
 ·subst e;rw [if_pos rfl]
  by_cases h:j<n
  ·rw [if_pos (by simpa using h),List.getElem?_range h,Option.map_some,hf];simp
  ·rw [if_neg (by simpa using h),List.getElem?_eq_none (by simpa using h)];rfl
 ·rw [if_neg e]
  by_cases h:i<n
  ·rw [List.getElem?_range h,Option.map_some,Option.map_some,hf,show (j == i)=false by simpa using e,Bool.or_false]
  ·rw [List.getElem?_eq_none (by simpa using h)];rfl
theorem ah4 {n j:Nat}{f:Nat→Bool}(h:j<n):(Ir n f)[j]? =some (f j):=by
 unfold Ir;rw [List.getElem?_map,List.getElem?_range h];rfl
def zZ (p:List aj)(i:Nat)(g:aH)(s:aJ):Bool:= !(s.re.getD i false && jw p g (s.st.getD i zeroS))
def xX (p:List aj)(n:aH):List (Int×Bool)→aJ×Bool→Option (aJ×Bool)
 | [], x => some x
 | y :: l, x => (ji p y.1.toNat n x.1).bind fun s' => xX p n l (s', x.2 || zZ p y.1.toNat n x.1)
def FM (p:List aj)(m:aC)(i:Nat)(x:aJ×Bool):Option (aJ×Bool):=
 if x.1.re.getD i false then (jy p m i (x.1.st.getD i zeroS)).bind fun n=>xX p n (gy (bH m i) i).reverse x else some x
def uT (p:List aj)(m:aC)(s:aJ):Nat→Option (aJ×Bool)
 | 0 => some (s, false)
 | k + 1 => (uT p m s k).bind (FM p m k)
def y9 (p:List aj)(m:aC):Nat→aJ→Option (Option aJ)
 | 0, _ => none
 | n + 1, s => match uT p m s m.code.length with
  | none => some none
  | some (s', true) => y9 p m n s'
  | some (s', false) => some (some s')
section
variable {p : List aj} {m : aC} {c : Int} {σ : Nat → Option aH}
theorem abJ {n:aH} :∀ {l:List (Int×Bool)} {x x':aJ×Bool},xX p n l x=some x'→lF p n l x.1=some x'.1
 | [], x, x', e => by cases e; rfl
 | y :: l, x, x', e => by
  unfold xX at e;obtain⟨s1,e1,e2⟩:=bY e;unfold lF;rw [e1,Option.bind_some];exact abJ e2
theorem XF {n:aH} :∀ {l:List (Int×Bool)} {x:aJ×Bool} {s':aJ},lF p n l x.1=some s'→∃b,xX p n l x=some (s',b)
 | [], x, s', e => by cases e; exact ⟨x.2, rfl⟩
 | y :: l, x, s', e => by
  unfold lF at e;obtain⟨s1,e1,e2⟩:=bY e;unfold xX;rw [e1,Option.bind_some];exact XF (x:=(s1,x.2 || zZ p y.1.toNat n x.1)) e2
theorem aiT (hs:aU p p.length)(h6:p.length≤6)(h8:m.stack≤8){s s':aJ}(h:fZ p m s){i:Nat}(hi:i<40){g:aH}(hl:g.loc.length=8)(hk:(g.stk.length:Int)≤m.stack)(e:ji p i g s=some s'):(zZ p i g s=false→s'=s)∧(zZ p i g s=true→mu p s'<mu p s):=by
 unfold ji at e;unfold zZ
 split at e
 ·rename_i hre;rw [hre,Bool.true_and]
  split at e
  ·rename_i hb
   cases e
   rw [hb];exact⟨fun _=>rfl,fun h=>by cases h⟩
  ·rename_i hb
   split at e
   ·rename_i hn
    cases e
    refine⟨fun h=>absurd (by simpa using h) hb,fun _=>?_⟩;exact (Pg h hi (g:=jh p (s.st.getD i zeroS) g) (by rw [if_pos hre];exact abR hs h6 (h.ok i hi).1 hl hn hb)).1
   ·cases e
 ·rename_i hre
  cases e
  have ag2:s.re.getD i false=false:=by simpa using hre
  rw [ag2];refine⟨fun h=>(by cases h),fun _=>?_⟩;exact (Pg h hi (g:=g) (by rw [if_neg hre];have:=abS hs h6 hl (by omega);omega)).1
theorem abK (hs:aU p p.length)(h6:p.length≤6)(h8:m.stack≤8){n:aH}(hl:n.loc.length=8)(hk:(n.stk.length:Int)≤m.stack):∀(l:List (Int×Bool)) (x x':aJ×Bool),fZ p m x.1→(∀y∈l,y.1.toNat<40)→xX p n l x=some x'→(x'.2=false→x'.1=x.1∧x.2=false)∧mu p x'.1≤mu p x.1∧(x'.2=true→x.2=true∨mu p x'.1<mu p x.1)
 | [], x, x', O, _, e => by
  cases e
  exact⟨fun h=>⟨rfl,h⟩,Nat.le_refl _,fun h=>.inl h⟩
 | y :: l, x, x', O, hy, e => by
  unfold xX at e;obtain⟨s1,e1,e2⟩:=bY e;obtain⟨a1,a2⟩:=aiT hs h6 h8 O (hy y (by simp)) hl hk e1;obtain⟨O1,_⟩:=LM hs h6 h8 O (hy y (by simp)) hl hk e1;obtain⟨b1,b2,b3⟩:=abK hs h6 h8 hl hk l _ x' O1 (fun z hz=>hy z (by simp [hz])) e2;dsimp only at b1 b2 b3
  cases hc:zZ p y.1.toNat n x.1 with
  | false =>
   obtain rfl:=a1 hc;rw [hc,Bool.or_false] at b1 b3;exact⟨b1,b2,b3⟩
  | true =>
   have:=a2 hc;rw [hc,Bool.or_true] at b1 b3;exact⟨fun h=>(by have:=(b1 h).2;cases this),by omega,fun _=>.inr (by omega)⟩
theorem aiG (hs:aU p p.length)(h6:p.length≤6)(h8:m.stack≤8)(dD:m.code.length≤40)(hins:∀i∈m.code,bC p m i=true){i:Nat}(hi:i<m.code.length){x x':aJ×Bool}(O:fZ p m x.1)(e:FM p m i x=some x') :
  fZ p m x'.1∧Up p x.1 x'.1∧(x'.2=false→x'.1=x.1∧x.2=false∧(x.1.re.getD i false=true→Done p m x.1 i))∧mu p x'.1≤mu p x.1∧(x'.2=true→x.2=true∨mu p x'.1<mu p x.1):=by
 unfold FM at e
 split at e
 ·rename_i hr;obtain⟨n,g1,g2⟩:=bY e;have ho:=O.ok i (by omega);obtain⟨n1,n2⟩:=FI g1 ho.1 ho.2;have hin:=AZ hi hins g1;have Ih:∀y∈(gy (bH m i) i).reverse,y.1.toNat<40:=fun y hy=>by have:=hin y (List.mem_reverse.1 hy);omega
  have g3:=abJ g2;obtain⟨u1,u2⟩:=UZ hs h6 h8 n1 n2 _ _ _ O Ih g3;obtain⟨O1,_⟩:=Pj hs h6 h8 n1 n2 _ _ _ O Ih g3;obtain⟨b1,b2,b3⟩:=abK hs h6 h8 n1 n2 _ _ _ O Ih g2;refine⟨O1,u1,fun h=>?_,b2,b3⟩;obtain⟨c1,c2⟩:=b1 h;refine⟨c1,c2,fun _=>⟨n,g1,fun y hy=>?_⟩⟩;have:=u2 y (List.mem_reverse.2 hy);rw [c1] at this;exact this
 ·rename_i hr
  cases e
  exact⟨O,Up.refl O,fun h=>⟨rfl,h,fun h=>absurd h hr⟩,Nat.le_refl _,fun h=>.inl h⟩
theorem UR (hs:aU p p.length)(h6:p.length≤6)(h8:m.stack≤8)(dD:m.code.length≤40)(hins:∀i∈m.code,bC p m i=true){s:aJ}(O:fZ p m s):∀(k:Nat) (x':aJ×Bool),k≤m.code.length→uT p m s k=some x'→
  fZ p m x'.1∧Up p s x'.1∧(x'.2=false→x'.1=s∧∀i,i<k→s.re.getD i false=true→Done p m s i)∧mu p x'.1≤mu p s∧(x'.2=true→mu p x'.1<mu p s)
 | 0, x', _, e => by
  cases e
  exact⟨O,Up.refl O,fun _=>⟨rfl,fun i h=>by omega⟩,Nat.le_refl _,fun h=>by cases h⟩
 | k + 1, x', hk, e => by
  unfold uT at e;obtain⟨x1,e1,e2⟩:=bY e;obtain⟨O1,U1,d1,m1,c1⟩:=UR hs h6 h8 dD hins O k x1 (by omega) e1;obtain⟨O2,U2,d2,m2,c2⟩:=aiG hs h6 h8 dD hins (by omega) O1 e2;refine⟨O2,U1.trans hs U2,fun h=>?_,by omega,fun h=>?_⟩
  ·obtain⟨f1,f2,f3⟩:=d2 h;obtain⟨g1,g2⟩:=d1 f2;rw [g1] at f1 f3;refine⟨f1,fun i hi hr=>?_⟩
   by_cases ei:i=k
   ·subst ei;exact f3 hr
   ·exact g2 i (by omega) hr
  ·rcases c2 h with h1 | h1
   ·have:=c1 h1;omega
   ·omega
structure JG (p:List aj)(c:Int)(m:aC)(s:aJ):Prop where
 ok:fZ p m s
 wO:s.re.getD 0 false=true∧dU p (dO c m) (s.st.getD 0 zeroS)
 dn:∀i,i<m.code.length→s.re.getD i false=true→Done p m s i
theorem abN (hs:aU p p.length)(h6:p.length≤6)(h8:m.stack≤8)(dD:m.code.length≤40)(hins:∀i∈m.code,bC p m i=true):∀(n:Nat) (s r:aJ),fZ p m s→s.re.getD 0 false=true→dU p (dO c m) (s.st.getD 0 zeroS)→y9 p m n s=some (some r)→JG p c m r
 | 0, s, r, _, _, _, e => by cases e
 | n + 1, s, r, O, b1, b2, e => by
  unfold y9 at e
  cases hq:uT p m s m.code.length with
  | none => rw [hq] at e; cases e
  | some x =>
   obtain⟨s',b⟩:=x;rw [hq] at e;obtain⟨O1,U1,d1,_,_⟩:=UR hs h6 h8 dD hins O _ _ (Nat.le_refl _) hq
   cases b with
   | true => exact abN hs h6 h8 dD hins n s' r O1 (U1.re 0 (by omega) b1) (b2.trans hs (U1.le 0 (by omega) b1)) e
   | false =>
    cases e
    obtain⟨h2,h3⟩:=d1 rfl;dsimp only at h2;subst h2;exact⟨O1,⟨b1,b2⟩,h3⟩
theorem abM (hs:aU p p.length)(h6:p.length≤6)(h8:m.stack≤8)(dD:m.code.length≤40)(hins:∀i∈m.code,bC p m i=true):∀(n:Nat) (s:aJ),fZ p m s→mu p s<n→∃r,y9 p m n s=some r
 | 0, s, _, h => by omega
 | n + 1, s, O, h => by
  unfold y9
  cases hq:uT p m s m.code.length with
  | none => exact ⟨none, rfl⟩
  | some x =>
   obtain⟨s',b⟩:=x;obtain⟨O1,_,_,m1,c1⟩:=UR hs h6 h8 dD hins O _ _ (Nat.le_refl _) hq
   cases b with
   | true => exact abM hs h6 h8 dD hins n s' O1 (by have := c1 rfl; dsimp only at this; omega)
   | false => exact ⟨some s', rfl⟩
def pU (s:aJ)(i:Nat):Option aH:=if s.re.getD i false then some (s.st.getD i zeroS) else none
theorem JG.PD {s:aJ}(F:JG p c m s):EC p c m (pU s):=by
 refine⟨⟨s.st.getD 0 zeroS,by unfold pU;rw [if_pos F.wO.1],F.wO.2⟩,fun i t hi ht=>?_⟩;unfold pU at ht
 split at ht
 ·rename_i hr
  cases ht
  obtain⟨n,h1,h2⟩:=F.dn i hi hr;exact⟨n,h1,fun y hy=>⟨_,by unfold pU;rw [if_pos (h2 y hy).1],(h2 y hy).2⟩⟩
 ·cases ht
theorem abL (hF:bD p=0)(hz:bn p≤4194304){k:Int}(hown:bQ p c k=some m)(S:EC p c m σ){s:aJ}(O:fZ p m s)(B:mP p σ s):∀(n:Nat),n≤m.code.length→∃x',uT p m s n=some x'∧mP p σ x'.1∧fZ p m x'.1
 | 0, _ => ⟨(s, false), rfl, B, O⟩
 | n + 1, hn => by
  have hs:=wX hF;have G:=CW hF hz;obtain⟨_,_,M⟩:=qY hF hown;have h6:=(qX hF).1.2;have dD:=M.c40;obtain⟨x1,e1,B1,O1⟩:=abL hF hz hown S O B n (by omega);unfold uT;rw [e1,Option.bind_some];unfold FM
  split
  ·rename_i hr;obtain⟨t,h1,h2⟩:=B1.le n (by omega) hr;obtain⟨n',g1,g2⟩:=S.go n t (by omega) h1;obtain⟨u,f1,f2⟩:=abv hs M.ins M.ok.loc (by omega) h2 g1;have ho:=O1.ok n (by omega);obtain⟨n1,n2⟩:=FI f1 ho.1 ho.2;have hin:=AZ (by omega) M.ins f1;have hT:=OW G M.ins (by omega) (B1.ty n (by omega) hr) f1
   obtain⟨s',e2,B2,O2⟩:=UY (σ := σ) hs h6 M.ok.stk n1 n2 hT (gy (bH m n) n).reverse x1.1 O1 B1 (fun y hy=>by
    have hy':=List.mem_reverse.1 hy;obtain⟨t',k1,k2⟩:=g2 y hy'
    exact⟨by have:=hin y hy';omega,t',k1,f2.trans hs k2⟩)
   obtain⟨b,e3⟩:=XF e2;exact⟨(s',b),by rw [f1,Option.bind_some,e3],B2,O2⟩
  ·exact⟨x1,rfl,B1,O1⟩
theorem UU (hF:bD p=0)(hz:bn p≤4194304){k:Int}(hown:bQ p c k=some m)(S:EC p c m σ):∀(n:Nat) (s:aJ) (r:Option aJ),fZ p m s→mP p σ s→y9 p m n s=some r→∃t,r=some t∧mP p σ t
 | 0, s, r, _, _, e => by cases e
 | n + 1, s, r, O, B, e => by
  obtain⟨x1,e1,B1,O1⟩:=abL hF hz hown S O B m.code.length (Nat.le_refl _);unfold y9 at e;rw [e1] at e;obtain⟨s',b⟩:=x1
  cases b with
  | true => exact UU hF hz hown S n s' r O1 B1 e
  | false =>
   cases e
   exact⟨s',rfl,B1⟩
theorem jH.anti (hs:aU p p.length)(h6:p.length≤6){l u:List Int}(h1:jH p l u)(h2:jH p u l):l=u:=by
 have hl:=h1.len;have a1:=(jH.iff hl).1 h1;have a2:=(jH.iff hl.symm).1 h2
 apply List.ext_getElem hl
 intro i hi hi';have b1:=a1 i hi;have b2:=a2 i hi';rw [List.getD_eq_getElem?_getD,List.getD_eq_getElem?_getD,List.getElem?_eq_getElem hi,List.getElem?_eq_getElem hi'] at b1 b2;dsimp only [Option.getD_some] at b1 b2;have c1:=DU hs h6 b1;have c2:=DU hs h6 b2
 by_cases e:l[i]=u[i]
 ·exact e
 ·have:=c1.2 e;have:=c2.1;omega
theorem dU.anti (hs:aU p p.length)(h6:p.length≤6){s t:aH}(h1:dU p s t)(h2:dU p t s):s=t:=by
 obtain⟨sl,sk⟩:=s;obtain⟨tl,tk⟩:=t;have hsl:=h1.sl;have htl:=h1.tl;obtain rfl:sl=tl:=jH.anti hs h6 ((jH.iff (by rw [hsl,htl])).2 fun i hi=>h1.l i (by rw [hsl] at hi;exact hi)) ((jH.iff (by rw [hsl,htl])).2 fun i hi=>h2.l i (by rw [htl] at hi;exact hi));obtain rfl:sk=tk:=jH.anti hs h6 h1.k h2.k
 rfl
theorem ajU (hF:bD p=0)(hz:bn p≤4194304){k:Int}(hown:bQ p c k=some m){N M:Nat}{r r':Option aJ}(e:jC p m N (dK sv0 0 (dO c m))=some r)(e':y9 p m M (dK sv0 0 (dO c m))=some r') :
  (r=none↔r'=none)∧∀s s',r=some s→r'=some s'→∀i,i<40→s.re.getD i false=s'.re.getD i false∧(s.re.getD i false=true→s.st.getD i zeroS=s'.st.getD i zeroS):=by
 have hs:=wX hF;obtain⟨_,_,O⟩:=qY hF hown;have h6:=(qX hF).1.2;have hk0:0≤m.stack:=by have:=O.bg.2.2;have h:((dO c m).stk.length:Int)=0:=rfl;omega
 have I:=IZ (p:=p) (c:=c) O.a7 hk0
 have fin:∀s,r=some s→JG p c m s:=fun s h=>by
  subst h;obtain⟨I1,h1⟩:=PE hs h6 O.ok.stk O.c40 O.ins N _ _ I e;exact⟨I1.ok,I1.wO,fun i hi hr=>I1.dn i hi hr (h1 i hi)⟩
 have fin':∀s,r'=some s→JG p c m s:=fun s h=>by
  subst h;exact abN hs h6 O.ok.stk O.c40 O.ins M _ _ I.ok I.wO.1 I.wO.2 e'
 have bel:∀s s',r=some s→r'=some s'→mP p (pU s) s':=fun s s' h h'=>by
  have S:=(fin s h).PD;obtain⟨t,h1,h2⟩:=UU hF hz hown S M _ r' I.ok (PI O hk0 S) e';rw [h'] at h1
  cases h1
  exact h2
 have adS:∀s s',r=some s→r'=some s'→mP p (pU s') s:=fun s s' h h'=>by
  have S:=(fin' s' h').PD;obtain⟨t,h1,h2⟩:=Vh hF hz hown S N _ r I (PI O hk0 S) e;rw [h] at h1
  cases h1
  exact h2
 refine⟨⟨fun h=>?_,fun h=>?_⟩,fun s s' h h' i hi=>?_⟩
 ·cases hr:r' with
  | none => rfl
  | some s' =>
   have S:=(fin' s' hr).PD;obtain⟨t,h1,_⟩:=Vh hF hz hown S N _ r I (PI O hk0 S) e;rw [h] at h1
   cases h1
 ·cases hr:r with
  | none => rfl
  | some s =>
   have S:=(fin s hr).PD;obtain⟨t,h1,_⟩:=UU hF hz hown S M _ r' I.ok (PI O hk0 S) e';rw [h] at h1
   cases h1
 ·have b1:=bel s s' h h';have b2:=adS s s' h h'
  have key1:s'.re.getD i false=true→s.re.getD i false=true∧dU p (s'.st.getD i zeroS) (s.st.getD i zeroS):=fun hr=>by
   obtain⟨t,h1,h2⟩:=b1.le i hi hr;unfold pU at h1
   split at h1
   ·rename_i hq
    cases h1
    exact⟨hq,h2⟩
   ·cases h1
  have key2:s.re.getD i false=true→s'.re.getD i false=true∧dU p (s.st.getD i zeroS) (s'.st.getD i zeroS):=fun hr=>by
   obtain⟨t,h1,h2⟩:=b2.le i hi hr;unfold pU at h1
   split at h1
   ·rename_i hq
    cases h1
    exact⟨hq,h2⟩
   ·cases h1
  refine⟨?_,fun hr=>?_⟩
  ·rw [Bool.eq_iff_iff];exact⟨fun h=>(key2 h).1,fun h=>(key1 h).1⟩
  ·obtain⟨h1,h2⟩:=key2 hr;exact dU.anti hs h6 h2 (key1 h1).2
end
def bZ (p:List aj)(m:aC)(i:eF):List Int×List Int:=
 if i.op=0 then ([],[0])
 else if i.op=2 then ([-2],[])
 else if i.op=3∨i.op=4∨i.op=5∨i.op=6 then ([0,0],[0])
 else if i.op=8∨i.op=19 then ([0],[])
 else if i.op=9 then ([],[i.a+3])
 else if i.op=10 then ([i.a+3],[jm p i.a i.b])
 else if i.op=11 then ([i.a+3,jm p i.a i.b],[])
 else if i.op=12 then ((i.a+3)::(cO p i.a i.b).args,[(cO p i.a i.b).ret])
 else if i.op=13 then ([m.ret],[])
 else if i.op=14 then ([2],[])
 else if i.op=15 then ([2],[-1,-1])
 else if i.op=16 then ([],[1])
 else if i.op=17 then ([-1],[i.a+3])
 else if i.op=18 then ([-1],[])
 else if i.op=20 then ([2,2],[-2,-1])
 else ([],[])
def iD (p:List aj)(t w:Int):Bool:=if w= -1 then qC t else if w= -2 then !(t == 2) else bf p t w
def fD (tk:List Int)(t:Int):Int:=if t<0 then tk.getD (-1-t).toNat 0 else t
def fP (p:List aj)(m:aC)(i:eF)(s:aH):Option aH:=
 if i.op=1∧s.loc.getD i.a.toNat 0=2 then none
 else if s.stk.length<(bZ p m i).1.length then none
 else if ((s.stk.drop (s.stk.length-(bZ p m i).1.length)).zip (bZ p m i).1).all fun x=>iD p x.1 x.2 then
  (if (((s.stk.take (s.stk.length-(bZ p m i).1.length)++(if i.op=1 then [s.loc.getD i.a.toNat 0] else (bZ p m i).2).map (fD (s.stk.drop (s.stk.length-(bZ p m i).1.length)))).length:Nat):Int)≤m.stack then
    some ⟨if i.op=2 then s.loc.set i.a.toNat (s.stk.getD (s.stk.length-(bZ p m i).1.length) 0) else s.loc,s.stk.take (s.stk.length-(bZ p m i).1.length)++(if i.op=1 then [s.loc.getD i.a.toNat 0] else (bZ p m i).2).map (fD (s.stk.drop (s.stk.length-(bZ p m i).1.length)))⟩ else none)
 else none
section
variable {p : List aj} {m : aC} {s : aH}
theorem D5 (l:List Int):l= []∨∃r x,l=r++ [x]:=by
 rcases List.eq_nil_or_concat l with h | ⟨r,x,h⟩
 ·exact .inl h
 ·exact .inr ⟨r,x,by rw [h];simp⟩
theorem take_nil (h:s.stk= []):fA s=none:=by unfold fA;rw [h];rfl
theorem FW {r:List Int}{x:Int}(h:s.stk=r++ [x]):fA s=some (x,{ s with stk:=r }):=take_mk h
theorem akq:∀(l:List Int) (s:aH),fU p l.reverse s=(if s.stk.length<l.length then none else if ((s.stk.drop (s.stk.length-l.length)).zip l).all (fun x=>bf p x.1 x.2) then some { s with stk:=s.stk.take (s.stk.length-l.length) } else none):=by
 intro l
 induction h:l.length generalizing l with
 | zero =>
  intro s;obtain rfl:l= []:=List.eq_nil_of_length_eq_zero h;simp [fU]
 | succ n ih =>
  intro s
  obtain⟨l',t,rfl⟩:∃l' t,l=l'++ [t]:=by
   rcases D5 l with h0 | h0
   ·subst h0;simp at h
   ·exact h0
  have hl':l'.length=n:=by simpa using h
  rw [List.reverse_append,List.reverse_singleton,List.singleton_append];unfold fU dw
  rcases D5 s.stk with h0 | ⟨r,x,h0⟩
  ·rw [take_nil h0,h0];simp
  ·rw [FW h0,Option.bind_some,h0];dsimp only;have e1:(r++ [x]).length-(n+1)=r.length-n:=by simp
   rw [e1]
   by_cases hlt:r.length<n
   ·rw [if_pos (show (r++ [x]).length<n+1 by simp;omega)]
    cases hb:bf p x t with
    | false => rfl
    | true =>
     rw [if_pos rfl,Option.bind_some,ih l' hl',if_pos hlt]
   ·rw [if_neg (show ¬(r++ [x]).length<n+1 by simp;omega)];have hd:(r++ [x]).drop (r.length-n)=r.drop (r.length-n)++ [x]:=List.drop_append_of_le_length (by omega);have ht:(r++ [x]).take (r.length-n)=r.take (r.length-n):=List.take_append_of_le_length (by omega);rw [hd,ht,List.zip_append (by rw [List.length_drop,hl'];omega),List.all_append]
    cases hb:bf p x t with
    | false => simp [hb]
    | true =>
     have e2:([x].zip [t]).all (fun x=>bf p x.1 x.2)=true:=by
      show (bf p x t && true)=true
      rw [hb];rfl
     rw [if_pos rfl,Option.bind_some,ih l' hl',if_neg hlt,e2,Bool.and_true]
theorem Ux (h:(s.stk.length:Int)≤m.stack)(t:Int):bM m t s=if ((s.stk.length:Nat):Int)+1≤m.stack then some { s with stk:=s.stk++ [t] } else none:=by
 unfold bM
 by_cases e:(s.stk.length:Int)=m.stack
 ·rw [if_pos e,if_neg (by omega)]
 ·rw [if_neg e,if_pos (by omega)]
theorem abj {r:List Int}(h:(r.length:Int)+1≤m.stack)(x y:Int):(bM m x { s with stk:=r }).bind (bM m y)=if (r.length:Int)+2≤m.stack then some { s with stk:=r++ [x,y] } else none:=by
 have e1:bM m x { s with stk:=r } =some { s with stk:=r++ [x] } :=by
  unfold bM;rw [if_neg (by dsimp only;omega)]
 rw [e1,Option.bind_some];unfold bM;dsimp only;rw [List.length_append,List.length_singleton]
 by_cases e:(r.length:Int)+2≤m.stack
 ·rw [if_pos e,if_neg (by omega),List.append_assoc];rfl
 ·rw [if_neg e,if_pos (by omega)]
theorem afT {l u:List Int}(h:∀t∈u,0≤t):((l.zip u).all fun x=>iD p x.1 x.2)=(l.zip u).all fun x=>bf p x.1 x.2:=by
 rw [Bool.eq_iff_iff,List.all_eq_true,List.all_eq_true]
 have key:∀x∈l.zip u,iD p x.1 x.2=bf p x.1 x.2:=fun x hx=>by
  have:=h x.2 (List.of_mem_zip hx).2;unfold iD;rw [if_neg (by omega),if_neg (by omega)]
 exact⟨fun h x hx=>by rw [←key x hx];exact h x hx,fun h x hx=>by rw [key x hx];exact h x hx⟩
theorem ahO {tk l:List Int}(h:∀t∈l,0≤t):l.map (fD tk)=l:=by
 induction l with
 | nil => rfl
 | cons t l ih =>
  rw [List.map_cons,ih (fun x hx=>h x (by simp [hx]))];have:=h t (by simp);unfold fD;rw [if_neg (by omega)]
theorem xY {i:eF}{tk lv:List Int}(h1:i.op≠1)(h2:i.op≠2)(hw:bZ p m i=(tk,lv))(ht:∀t∈tk,0≤t)(hl:∀t∈lv,0≤t) :
  fP p m i s=(fU p tk.reverse s).bind fun s'=>if ((s'.stk.length+lv.length:Nat):Int)≤m.stack then some { s' with stk:=s'.stk++lv } else none:=by
 unfold fP;rw [if_neg (by omega),hw,akq];dsimp only
 split
 ·rfl
 ·rw [afT ht]
  split
  ·rw [ahO hl,List.length_append,Option.bind_some]
  ·rfl
theorem GL (o:Option aH)(ho:∀s',o=some s'→(s'.stk.length:Int)≤m.stack)(t:Int):(o.bind fun s'=>if ((s'.stk.length+ [t].length:Nat):Int)≤m.stack then some { s' with stk:=s'.stk++ [t] } else none)=o.bind (bM m t):=by
 cases o with
 | none => rfl
 | some s' =>
  rw [Option.bind_some,Option.bind_some,Ux (ho s' rfl)]
  rfl
theorem bind_none (o:Option aH)(ho:∀s',o=some s'→(s'.stk.length:Int)≤m.stack):(o.bind fun s'=>if ((s'.stk.length+([]:List Int).length:Nat):Int)≤m.stack then some { s' with stk:=s'.stk++ [] } else none)=o:=by
 cases o with
 | none => rfl
 | some s' =>
  have:=ho s' rfl;rw [Option.bind_some,if_pos (by simpa using this),List.append_nil]
theorem acS:∀(l u:List Int) (s:aH),fU p (l++u) s=(fU p l s).bind (fU p u)
 | [], u, s => rfl
 | t :: l, u, s => by
  rw [List.cons_append];unfold fU
  cases dw p t s with
  | none => rfl
  | some s' => rw [Option.bind_some, Option.bind_some]; exact acS l u s'
theorem F7 (t:Int)(s:aH):fU p [t] s=dw p t s:=by
 unfold fU
 cases dw p t s <;> rfl
theorem abO {i:eF}(hk:(s.stk.length:Int)≤m.stack)(hl:∀x∈s.loc,0≤x)(ha:(9≤i.op∧i.op≤12)∨i.op=17→0≤i.a)(hf:i.op=10∨i.op=11→0≤jm p i.a i.b)(hm:i.op=12→(∀t∈(cO p i.a i.b).args,0≤t)∧0≤(cO p i.a i.b).ret)(hr:0≤m.ret):fP p m i s=aY p m i s:=by
 have hw:∀l s',fU p l s=some s'→(s'.stk.length:Int)≤m.stack:=fun l s' h=>(PY (m:=m) l h hk).1
 have hg:0≤s.loc.getD i.a.toNat 0:=by
  rw [List.getD_eq_getElem?_getD]
  cases e:s.loc[i.a.toNat]? with
  | none => exact Int.le_refl _
  | some x => exact hl x (List.mem_of_getElem? e)
 unfold aY
 by_cases c:i.op=0
 ·rw [if_pos c,xY (by omega) (by omega) (show bZ p m i=([],[0]) by unfold bZ;rw [if_pos c]) (by simp) (by simp),GL _ (hw _)]
  rfl
 rw [if_neg c];have c0:=c
 by_cases c:i.op=1
 ·rw [if_pos c]
  have hW:bZ p m i=([],[]):=by
   unfold bZ;simp [c]
  unfold fP lM;obtain⟨t,ht⟩:∃t,t=s.loc.getD i.a.toNat 0:=⟨_,rfl⟩;rw [←ht] at hg ⊢
  by_cases h2:t=2
  ·rw [if_pos ⟨c,h2⟩,if_pos h2];rfl
  ·rw [if_neg (fun h=>h2 h.2),if_neg h2,hW,Option.bind_some,Ux hk,if_pos c,if_neg (show ¬i.op=2 by omega)];have e:∀tk,fD tk t=t:=fun tk=>by unfold fD;rw [if_neg (by omega)]
   simp [e]
 rw [if_neg c];have c1:=c
 by_cases c:i.op=2
 ·rw [if_pos c]
  have hW:bZ p m i=([-2],[]):=by
   unfold bZ;rw [if_neg c0,if_pos c]
  unfold fP;rw [if_neg (fun h=>c1 h.1),hW,if_neg c1,if_pos c]
  rcases D5 s.stk with h0 | ⟨r,x,h0⟩
  ·rw [take_nil h0,h0];simp
  ·rw [FW h0,Option.bind_some,h0];have hk':(r.length:Int)≤m.stack:=by rw [h0] at hk;simp at hk;omega
   unfold lM iD
   by_cases h2:x=2
   ·simp [h2]
   ·simp [h2,hk']
 rw [if_neg c];have c2:=c;have c12:i.op≠1∧i.op≠2:=⟨c1,c2⟩
 by_cases c:i.op=3∨i.op=4∨i.op=5∨i.op=6
 ·rw [if_pos c,xY (tk:= [0,0]) (lv:= [0]) (by omega) (by omega) (by unfold bZ;rw [if_neg c0,if_neg c2,if_pos c]) (by simp) (by simp),GL _ (hw _)]
  show (fU p [0,0] s).bind _=_
  unfold fU
  cases dw p 0 s with
  | none => rfl
  | some s' => rw [Option.bind_some, Option.bind_some, F7]
 rw [if_neg c];have c3:=c
 by_cases c:i.op=8∨i.op=19
 ·rw [if_pos c,xY (tk:= [0]) (lv:= []) (by omega) (by omega) (by unfold bZ;rw [if_neg c0,if_neg c2,if_neg c3,if_pos c]) (by simp) (by simp),bind_none _ (hw _)];exact F7 _ _
 rw [if_neg c];have c8:=c
 by_cases c:i.op=9
 ·have:=ha (by omega);rw [if_pos c,xY (tk:= []) (lv:= [i.a+3]) (by omega) (by omega) (by unfold bZ;rw [if_neg c0,if_neg c2,if_neg c3,if_neg c8,if_pos c]) (by simp) (by simp;omega),GL _ (hw _)]
  rfl
 rw [if_neg c];have c9:=c
 by_cases c:i.op=10
 ·have:=ha (by omega);have:=hf (by omega);rw [if_pos c,xY (tk:= [i.a+3]) (lv:= [jm p i.a i.b]) (by omega) (by omega) (by unfold bZ;rw [if_neg c0,if_neg c2,if_neg c3,if_neg c8,if_neg c9,if_pos c]) (by simp;omega) (by simp;omega),GL _ (hw _)]
  show (fU p [i.a+3] s).bind _=_
  rw [F7]
 rw [if_neg c];have c10:=c
 by_cases c:i.op=11
 ·have:=ha (by omega);have:=hf (by omega);rw [if_pos c,xY (tk:= [i.a+3,jm p i.a i.b]) (lv:= []) (by omega) (by omega) (by unfold bZ;rw [if_neg c0,if_neg c2,if_neg c3,if_neg c8,if_neg c9,if_neg c10,if_pos c]) (by simp;omega) (by simp),bind_none _ (hw _)]
  show fU p [jm p i.a i.b,i.a+3] s=_
  unfold fU
  cases dw p (jm p i.a i.b) s with
  | none => rfl
  | some s' => rw [Option.bind_some, Option.bind_some, F7]
 rw [if_neg c];have c11:=c
 by_cases c:i.op=12
 ·have:=ha (by omega);obtain⟨m1,m2⟩:=hm c
  rw [if_pos c,xY (tk:=(i.a+3)::(cO p i.a i.b).args) (lv:= [(cO p i.a i.b).ret]) (by omega) (by omega) (by unfold bZ;rw [if_neg c0,if_neg c2,if_neg c3,if_neg c8,if_neg c9,if_neg c10,if_neg c11,if_pos c]) (fun t ht=>by
   rcases List.mem_cons.1 ht with rfl | ht
   ·omega
   ·exact m1 t ht) (by simpa using m2),GL _ (hw _),List.reverse_cons,acS]
  cases fU p (cO p i.a i.b).args.reverse s with
  | none => rfl
  | some s' => rw [Option.bind_some, Option.bind_some, F7]
 rw [if_neg c];have c12:=c
 by_cases c:i.op=13
 ·rw [if_pos c,xY (tk:= [m.ret]) (lv:= []) (by omega) (by omega) (by unfold bZ;rw [if_neg c0,if_neg c2,if_neg c3,if_neg c8,if_neg c9,if_neg c10,if_neg c11,if_neg c12,if_pos c]) (by simpa using hr) (by simp),bind_none _ (hw _)];exact F7 _ _
 rw [if_neg c];have c13:=c;have b2:∀x,bf p x 2=true:=fun x=>by unfold bf;simp
 by_cases c:i.op=14
 ·rw [if_pos c,xY (tk:= [2]) (lv:= []) (by omega) (by omega) (by unfold bZ;rw [if_neg c0,if_neg c2,if_neg c3,if_neg c8,if_neg c9,if_neg c10,if_neg c11,if_neg c12,if_neg c13,if_pos c]) (by simp) (by simp),bind_none _ (hw _)]
  show fU p [2] s=_
  rw [F7];unfold dw
  cases fA s with
  | none => rfl
  | some x => rw [Option.bind_some, b2]; rfl
 rw [if_neg c];have c14:=c
 by_cases c:i.op=15
 ·rw [if_pos c];have hW:bZ p m i=([2],[-1,-1]):=by unfold bZ;rw [if_neg c0,if_neg c2,if_neg c3,if_neg c8,if_neg c9,if_neg c10,if_neg c11,if_neg c12,if_neg c13,if_neg c14,if_pos c]
  unfold fP;rw [if_neg (fun h=>c1 h.1),hW,if_neg c1,if_neg c2]
  rcases D5 s.stk with h0 | ⟨r,x,h0⟩
  ·rw [take_nil h0,h0];simp
  ·rw [FW h0,Option.bind_some,h0];have hk':(r.length:Int)+1≤m.stack:=by rw [h0] at hk;simp at hk;omega
   have e2:=abj (m:=m) (s:=s) hk' x x;dsimp only at e2 ⊢;rw [e2];unfold iD fD;simp [b2]
 rw [if_neg c];have c15:=c
 by_cases c:i.op=16
 ·rw [if_pos c,xY (tk:= []) (lv:= [1]) (by omega) (by omega) (by unfold bZ;rw [if_neg c0,if_neg c2,if_neg c3,if_neg c8,if_neg c9,if_neg c10,if_neg c11,if_neg c12,if_neg c13,if_neg c14,if_neg c15,if_pos c]) (by simp) (by simp),GL _ (hw _)]
  rfl
 rw [if_neg c];have c16:=c
 by_cases c:i.op=17
 ·rw [if_pos c];have:=ha (by omega);have hW:bZ p m i=([-1],[i.a+3]):=by unfold bZ;rw [if_neg c0,if_neg c2,if_neg c3,if_neg c8,if_neg c9,if_neg c10,if_neg c11,if_neg c12,if_neg c13,if_neg c14,if_neg c15,if_neg c16,if_pos c]
  unfold fP jX;rw [if_neg (fun h=>c1 h.1),hW,if_neg c1,if_neg c2]
  rcases D5 s.stk with h0 | ⟨r,x,h0⟩
  ·rw [take_nil h0,h0];simp
  ·rw [FW h0,Option.bind_some,h0];have hk':(r.length:Int)+1≤m.stack:=by rw [h0] at hk;simp at hk;omega
   unfold iD fD
   cases hq:qC x with
   | false => simp [hq]
   | true =>
    rw [if_pos rfl,Option.bind_some,Ux (s:= { s with stk:=r }) (by dsimp only;omega)];have:¬i.a+3<0:=by omega
    simp [hq,this]
 rw [if_neg c];have c17:=c
 by_cases c:i.op=18
 ·rw [if_pos c];have hW:bZ p m i=([-1],[]):=by unfold bZ;rw [if_neg c0,if_neg c2,if_neg c3,if_neg c8,if_neg c9,if_neg c10,if_neg c11,if_neg c12,if_neg c13,if_neg c14,if_neg c15,if_neg c16,if_neg c17,if_pos c]
  unfold fP jX;rw [if_neg (fun h=>c1 h.1),hW,if_neg c1,if_neg c2]
  rcases D5 s.stk with h0 | ⟨r,x,h0⟩
  ·rw [take_nil h0,h0];simp
  ·rw [FW h0,Option.bind_some,h0];have hk':(r.length:Int)≤m.stack:=by rw [h0] at hk;simp at hk;omega
   unfold iD
   cases hq:qC x with
   | false => simp [hq]
   | true => simp [hq, hk']
 rw [if_neg c];have c18:=c
 by_cases c:i.op=20
 ·rw [if_pos c];have hW:bZ p m i=([2,2],[-2,-1]):=by unfold bZ;rw [if_neg c0,if_neg c2,if_neg c3,if_neg c8,if_neg c9,if_neg c10,if_neg c11,if_neg c12,if_neg c13,if_neg c14,if_neg c15,if_neg c16,if_neg c17,if_neg c18,if_pos c]
  unfold fP;rw [if_neg (fun h=>c1 h.1),hW,if_neg c1,if_neg c2]
  rcases D5 s.stk with h0 | ⟨r,x,h0⟩
  ·rw [take_nil h0,h0];simp
  ·rw [FW h0,Option.bind_some,h0]
   rcases D5 r with h1 | ⟨r',y,h1⟩
   ·rw [take_nil (s:= { s with stk:=r }) h1];subst h1;simp
   ·rw [FW (s:= { s with stk:=r }) h1,Option.bind_some];subst h1;have hk':(r'.length:Int)+2≤m.stack:=by rw [h0] at hk;simp at hk;omega
    have e2:=abj (m:=m) (s:=s) (show (r'.length:Int)+1≤m.stack by omega) x y;dsimp only at e2 ⊢;rw [e2];unfold iD fD;simp [b2];omega
 rw [if_neg c];rw [xY (tk:= []) (lv:= []) (by omega) (by omega) (by unfold bZ;rw [if_neg c0,if_neg c2,if_neg c3,if_neg c8,if_neg c9,if_neg c10,if_neg c11,if_neg c12,if_neg c13,if_neg c14,if_neg c15,if_neg c16,if_neg c17,if_neg c18,if_neg c]) (by simp) (by simp),bind_none _ (hw _)]
 rfl
end
def dQ (m:aC)(s:aH):aH:=⟨s.loc.take m.locals.toNat,s.stk⟩
section
variable {p : List aj} {m : aC} {s t : aH}
theorem getD_take {l:List Int}{n i:Nat}(h:i<n)(d:Int):(l.take n).getD i d=l.getD i d:=by
 rw [List.getD_eq_getElem?_getD,List.getD_eq_getElem?_getD,List.getElem?_take,if_pos h]
theorem afb {i:eF}(hloc:i.op=1∨i.op=2→i.a.toNat<m.locals.toNat):aY p m i (dQ m s)=(aY p m i s).map (dQ m):=by
 have hlv:∀(t:Int) (s:aH),bM m t (dQ m s)=(bM m t s).map (dQ m):=fun t s=>by
  unfold bM dQ;dsimp only
  split <;> rfl
 have htk:∀s:aH,fA (dQ m s)=(fA s).map fun x=>(x.1,dQ m x.2):=fun s=>by
  unfold fA dQ;dsimp only
  cases s.stk.getLast? <;> rfl
 have hwn:∀(t:Int) (s:aH),dw p t (dQ m s)=(dw p t s).map (dQ m):=fun t s=>by
  unfold dw;rw [htk]
  cases fA s with
  | none => rfl
  | some x =>
   rw [Option.map_some,Option.bind_some,Option.bind_some];dsimp only
   split <;> rfl
 have hwo:∀s:aH,jX (dQ m s)=(jX s).map (dQ m):=fun s=>by
  unfold jX;rw [htk]
  cases fA s with
  | none => rfl
  | some x =>
   rw [Option.map_some,Option.bind_some,Option.bind_some];dsimp only
   split <;> rfl
 have hws:∀(l:List Int) (s:aH),fU p l (dQ m s)=(fU p l s).map (dQ m):=fun l=>by
  induction l with
  | nil => exact fun s => rfl
  | cons t l ih =>
   intro s;unfold fU;rw [hwn]
   cases dw p t s with
   | none => rfl
   | some x => rw [Option.map_some, Option.bind_some, Option.bind_some, ih]
 have bm:∀(o:Option aH) (f g:aH→Option aH),(∀x,f (dQ m x)=(g x).map (dQ m))→(o.map (dQ m)).bind f=(o.bind g).map (dQ m):=fun o f g h=>by
  cases o with
  | none => rfl
  | some x => rw [Option.map_some, Option.bind_some, Option.bind_some, h]
 unfold aY
 by_cases c:i.op=0
 ·simp only [if_pos c];exact hlv _ _
 simp only [if_neg c];clear c
 by_cases c:i.op=1
 ·simp only [if_pos c];have e:(dQ m s).loc.getD i.a.toNat 0=s.loc.getD i.a.toNat 0:=getD_take (hloc (.inl c)) 0;rw [e]
  cases lM (s.loc.getD i.a.toNat 0) with
  | none => rfl
  | some t => rw [Option.bind_some, Option.bind_some, hlv]
 simp only [if_neg c];clear c
 by_cases c:i.op=2
 ·simp only [if_pos c];rw [htk]
  cases fA s with
  | none => rfl
  | some x =>
   rw [Option.map_some,Option.bind_some,Option.bind_some];dsimp only
   cases lM x.1 with
   | none => rfl
   | some t =>
    rw [Option.map_some,Option.map_some,Option.map_some];unfold dQ;dsimp only;rw [List.take_set]
 simp only [if_neg c];clear c
 by_cases c:i.op=3∨i.op=4∨i.op=5∨i.op=6
 ·simp only [if_pos c];rw [hwn,bm _ _ _ (fun x=>by rw [hwn,bm _ _ _ (fun y=>hlv _ y)])]
 simp only [if_neg c];clear c
 by_cases c:i.op=8∨i.op=19
 ·simp only [if_pos c];exact hwn _ _
 simp only [if_neg c];clear c
 by_cases c:i.op=9
 ·simp only [if_pos c];exact hlv _ _
 simp only [if_neg c];clear c
 by_cases c:i.op=10
 ·simp only [if_pos c];rw [hwn,bm _ _ _ (fun x=>hlv _ x)]
 simp only [if_neg c];clear c
 by_cases c:i.op=11
 ·simp only [if_pos c];rw [hwn,bm _ _ _ (fun x=>hwn _ x)]
 simp only [if_neg c];clear c
 by_cases c:i.op=12
 ·simp only [if_pos c];rw [hws,bm _ _ _ (fun x=>by rw [hwn,bm _ _ _ (fun y=>hlv _ y)])]
 simp only [if_neg c];clear c
 by_cases c:i.op=13
 ·simp only [if_pos c];exact hwn _ _
 simp only [if_neg c];clear c
 by_cases c:i.op=14
 ·simp only [if_pos c];rw [htk]
  cases fA s <;> rfl
 simp only [if_neg c];clear c
 by_cases c:i.op=15
 ·simp only [if_pos c];rw [htk]
  cases fA s with
  | none => rfl
  | some x =>
   rw [Option.map_some,Option.bind_some,Option.bind_some];dsimp only;rw [hlv,bm _ _ _ (fun y=>hlv _ y)]
 simp only [if_neg c];clear c
 by_cases c:i.op=16
 ·simp only [if_pos c];exact hlv _ _
 simp only [if_neg c];clear c
 by_cases c:i.op=17
 ·simp only [if_pos c];rw [hwo,bm _ _ _ (fun x=>hlv _ x)]
 simp only [if_neg c];clear c
 by_cases c:i.op=18
 ·simp only [if_pos c];exact hwo _
 simp only [if_neg c];clear c
 by_cases c:i.op=20
 ·simp only [if_pos c];rw [htk]
  cases fA s with
  | none => rfl
  | some x =>
   rw [Option.map_some,Option.bind_some,Option.bind_some];dsimp only;rw [htk]
   cases fA x.2 with
   | none => rfl
   | some y =>
    rw [Option.map_some,Option.bind_some,Option.bind_some];dsimp only;rw [hlv,bm _ _ _ (fun y=>hlv _ y)]
 simp only [if_neg c];clear c
 rfl
theorem afa (hs:s.loc.length=8)(ht:t.loc.length=8)(hi:Hi m t)(h0:0≤m.locals)(h8:m.locals≤8):jw p (dQ m s) (dQ m t)=jw p s t:=by
 have e:(((dQ m s).loc.zip (dQ m t).loc).all fun x=>bf p x.1 x.2)=((s.loc.zip t.loc).all fun x=>bf p x.1 x.2):=by
  rw [Bool.eq_iff_iff,F8 (show (dQ m s).loc.length=(dQ m t).loc.length by unfold dQ;simp [hs,ht]),F8 (by rw [hs,ht])];have hl:(dQ m s).loc.length=m.locals.toNat:=by unfold dQ;simp [hs];omega
  rw [hl,hs]
  constructor
  ·intro h i hi8
   rcases Nat.lt_or_ge i m.locals.toNat with hlt | hge
   ·have:=h i hlt;unfold dQ at this;dsimp only at this
    rwa [getD_take hlt,getD_take hlt] at this
   ·rw [hi i (by omega) hi8];exact zU _ _
  ·intro h i hlt;unfold dQ;dsimp only;rw [getD_take hlt,getD_take hlt];exact h i (by omega)
 unfold jw;rw [e]
 rfl
def tq (p:List aj)(s t:aH):aH:=⟨(s.loc.zip t.loc).map fun x=>dJ p x.1 x.2,(s.stk.zip t.stk).map fun x=>dJ p x.1 x.2⟩
theorem ac0 {l u:List Int}(h:l.length=u.length)(i:Nat)(hi:i<l.length):((l.zip u).map fun x=>dJ p x.1 x.2)[i]? =some (dJ p (l.getD i 0) (u.getD i 0)):=by
 rw [List.getElem?_map,List.getElem?_eq_getElem (by simp;omega),List.getElem_zip,List.getD_eq_getElem?_getD,List.getD_eq_getElem?_getD,List.getElem?_eq_getElem hi,List.getElem?_eq_getElem (by omega)]
 rfl
theorem YG (hs:s.loc.length=8)(ht:t.loc.length=8)(hn:s.stk.length=t.stk.length)(h8:m.locals≤8):tq p (dQ m s) (dQ m t)=dQ m (jh p s t):=by
 obtain⟨j1,j2⟩:=vY p s t;unfold tq dQ;dsimp only
 congr 1
 ·apply List.ext_getElem?
  intro i
  rcases Nat.lt_or_ge i m.locals.toNat with hlt | hge
  ·rw [ac0 (by simp [hs,ht]) i (by simp [hs];omega),List.getElem?_take,if_pos hlt,getD_take hlt,getD_take hlt,←Ik p s t hs (by omega),List.getD_eq_getElem?_getD,List.getElem?_eq_getElem (by rw [j2,hs];omega)]
   rfl
  ·rw [List.getElem?_eq_none (by simp;omega),List.getElem?_eq_none (by simp;omega)]
 ·apply List.ext_getElem?
  intro i
  rcases Nat.lt_or_ge i s.stk.length with hlt | hge
  ·rw [ac0 hn i hlt,←Lh p s t hlt,List.getD_eq_getElem?_getD,List.getElem?_eq_getElem (by rw [j1];exact hlt)]
   rfl
  ·rw [List.getElem?_eq_none (by simp;omega),List.getElem?_eq_none (by omega)]
theorem ahv (hs:aU p p.length)(hl:s.loc.length=8)(ht:t.loc.length=8)(hn:s.stk.length=t.stk.length)(hT:gI p s):jw p (jh p s t) s=jw p t s:=by
 obtain⟨j1,j2⟩:=vY p s t;rw [Bool.eq_iff_iff,le_iff (by rw [j2];exact hl) hl,le_iff ht hl]
 constructor
 ·exact fun h=>(Ur hl hn).trans hs h
 ·exact fun h=>aaZ hs hl hT.acI (qH.refl p s) h
end
def rJ (p:List aj)(a b:Int):Nat→Int
 | 0 => 2
 | k + 1 => if bf p a (k : Int) && bf p b (k : Int) && bf p (k : Int) (rJ p a b k) then (k : Int) else rJ p a b k
section
variable {p : List aj} {a b : Int}
theorem Ui (hb:bT p.length b):bT p.length (dJ p a b):=by
 unfold dJ
 split
 ·exact hb
 ·split
  ·rcases Jc p b (chainOf p (a-3)) with ⟨h1,_⟩ | ⟨pre,d,post,h1,h2,_,_⟩
   ·rw [h1];exact⟨by omega,by omega⟩
   ·rw [h2]
    have hlt:d<p.length:=by
     have hm:d∈chainOf p (a-3):=by rw [h1];simp
     unfold chainOf at hm
     have key:∀(f:Nat) (c:Int) (x:Nat),x∈chain p f c→x<p.length:=by
      intro f
      induction f with
      | zero => intro c x h; cases h
      | succ f ih =>
       intro c x h;unfold chain at h
       split at h
       ·cases h
       ·split at h
        ·cases h
        ·rename_i y hy
         rcases List.mem_cons.1 h with rfl | h
         ·exact (List.getElem?_eq_some_iff.1 hy).1
         ·exact ih _ _ h
     exact key _ _ _ hm
    exact⟨by omega,by omega⟩
  ·exact⟨by omega,by omega⟩
theorem adT (hs:aU p p.length)(h6:p.length≤6){x y:Int}(h1:bf p x y=true)(h2:bf p y x=true):x=y:=by
 by_cases e:x=y
 ·exact e
 ·have c1:=(DU hs h6 h1).2 e;have c2:=(DU hs h6 h2).1;omega
theorem aiH (hs:aU p p.length)(h6:p.length≤6)(ha:bT p.length a)(hb:bT p.length b):rJ p a b (p.length+3)=dJ p a b:=by
 have hj:=Ui (p:=p) (a:=a) hb;have lub:∀u,bf p a u=true→bf p b u=true→bf p (dJ p a b) u=true:=fun u h1 h2=>Ul hs h1 h2 (fun _=>by have:=ha.2;omega)
 have key:∀k:Nat,(bf p a (rJ p a b k)=true∧bf p b (rJ p a b k)=true)∧(dJ p a b<(k:Int)→rJ p a b k=dJ p a b):=by
  intro k
  induction k with
  | zero => exact ⟨⟨zU _ _, zU _ _⟩, fun h => by have := hj.1; omega⟩
  | succ k ih =>
   unfold rJ
   split
   ·rename_i h;simp only [Bool.and_eq_true] at h;obtain⟨⟨h1,h2⟩,h3⟩:=h;refine⟨⟨h1,h2⟩,fun hlt=>?_⟩
    rcases Int.lt_or_le (dJ p a b) (k:Int) with h | h
    ·rw [ih.2 h] at h3;exact adT hs h6 h3 (lub _ h1 h2)
    ·omega
   ·rename_i h;refine⟨ih.1,fun hlt=>?_⟩
    rcases Int.lt_or_le (dJ p a b) (k:Int) with h' | h'
    ·exact ih.2 h'
    ·have e:dJ p a b=(k:Int):=by omega
     exfalso
     apply h
     rw [←e];simp only [Bool.and_eq_true];exact⟨⟨Un a b,Uo a b⟩,lub _ ih.1.1 ih.1.2⟩
 exact (key (p.length+3)).2 (by have:=hj.2;omega)
end
end Go.Proofs.YtiiokkllmchohaaGreat
