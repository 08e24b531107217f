/- The document's solver on the method's own locals (pure). -/
import Derived.Test.YtiiokkllmchohaaGreatT34
set_option maxHeartbeats 4000000
set_option maxRecDepth 100000
namespace Go.Proofs.YtiiokkllmchohaaGreat
open Go.RowKit Go.Shelf
def vT (p:List aj)(out:aH)(i:Nat)(x:List (Option aH)×Bool):Option (List (Option aH)×Bool):=
 match x.1.getD i none with
 | none => some (x.1.set i (some out), true)
 | some t => if t.stk.length = out.stk.length then (if uY p (tq p t out) t then some x else some (x.1.set i (some (tq p t out)), true)) else none
def l9 (p:List aj)(n:Nat)(out:aH):List Int→List (Option aH)×Bool→Option (List (Option aH)×Bool)
 | [], x => some x
 | y :: l, x => if (n : Int) ≤ y then none else (vT p out y.toNat x).bind (l9 p n out l)
def EK (p:List aj)(m:aC)(i:Nat)(x:List (Option aH)×Bool):Option (List (Option aH)×Bool):=
 match x.1.getD i none with
 | none => some x
 | some s => (fP p m (bH m i) s).bind fun out => l9 p m.code.length out (qZ (bH m i) i) x
def qj (p:List aj)(m:aC)(R:List (Option aH)):Nat→Option (List (Option aH)×Bool)
 | 0 => some (R, false)
 | k + 1 => (qj p m R k).bind (EK p m k)
def yL (p:List aj)(m:aC):Nat→List (Option aH)→Option (Option (List (Option aH)))
 | 0, _ => none
 | n + 1, R => match qj p m R m.code.length with
  | none => some none
  | some (R', true) => yL p m n R'
  | some (R', false) => some (some R')
def Ny (c:Int)(m:aC):List (Option aH):=(List.replicate m.code.length none).set 0 (some (dQ m (dO c m)))
theorem N9 {α :Type}{n i:Nat}(x d: α)(h:i<n):(List.replicate n x).getD i d=x:=by
 rw [List.getD_eq_getElem?_getD,List.getElem?_replicate,if_pos h]
 rfl
section
variable {p : List aj} {m : aC} {c : Int}
structure ny (p:List aj)(m:aC)(s:aJ)(R:List (Option aH)):Prop where
 ok:fZ p m s
 cd:rX (wF p m) s
 len:R.length=m.code.length
 at_:∀i,i<m.code.length→R.getD i none=(pU s i).map (dQ m)
theorem aea (G:Good p)(hins:∀i∈m.code,bC p m i=true):Kept p m (wF p m):=by
 refine⟨fun i s n hi hq hl hk e=>?_,fun s t hq ht hl=>?_⟩
 ·obtain⟨q1,q2⟩:=FI e hl hk;exact⟨q1,(aao hins).nx i s n hi hq.2.1 hl hk e,q2,OW G hins hi hq.2.2.2 e⟩
 ·obtain⟨j1,j2⟩:=vY p s t;exact⟨by rw [j2];exact hl,(aao hins).jn s t hq.2.1 ht.2.1 hl,by rw [j1];exact hq.2.2.1,Um hl hq.2.2.2 ht.2.2.2⟩
theorem ny.put {s:aJ}{R:List (Option aH)}(C:ny p m s R)(dD:m.code.length≤40){i:Nat}(hi:i<m.code.length){x:aH}(hx:wF p m x):ny p m (dK s i x) (R.set i (some (dQ m x))):=by
 refine⟨⟨by simp [dK,C.ok.l1],by simp [dK,C.ok.l2],by simp [dK,C.ok.l3],fun j hj=>?_⟩,UQ C.ok C.cd hx,by simp [C.len],fun j hj=>?_⟩
 ·by_cases e:j=i
  ·subst e
   show ((s.st.set j x).getD j zeroS).loc.length=8∧_
   unfold dK;dsimp only;rw [kF (by rw [C.ok.l1];exact hj)];exact⟨hx.1,hx.2.2.1⟩
  ·unfold dK;dsimp only;rw [getD_set_ne e];exact C.ok.ok j hj
 ·by_cases e:j=i
  ·subst e;unfold pU dK;dsimp only;rw [kF (by rw [C.len];exact hj),kF (by rw [C.ok.l2];omega),kF (by rw [C.ok.l1];omega)]
   rfl
  ·unfold pU dK;dsimp only;rw [getD_set_ne e,getD_set_ne e,getD_set_ne e];exact C.at_ j hj
theorem afd (hs:aU p p.length)(dD:m.code.length≤40)(K:Kept p m (wF p m))(h0:0≤m.locals)(h8:m.locals≤8){s:aJ}{R:List (Option aH)}(C:ny p m s R){i:Nat}(hi:i<m.code.length){g:aH}(hg:wF p m g)(b:Bool) :
  (∀s',ji p i g s=some s'→∃R',vT p (dQ m g) i (R,b)=some (R',b || zZ p i g s)∧ny p m s' R')∧(ji p i g s=none→vT p (dQ m g) i (R,b)=none):=by
 have hR:=C.at_ i hi;unfold vT ji zZ;dsimp only;rw [hR];unfold pU
 cases hre:s.re.getD i false with
 | false => exact ⟨fun s' e => (by cases e; exact ⟨_, by simp, C.put dD hi hg⟩), fun e => by cases e⟩
 | true =>
  have ht:=C.cd i (by omega) hre;generalize s.st.getD i zeroS=t at *;have hkt:(dQ m t).stk=t.stk:=rfl;have hkg:(dQ m g).stk=g.stk:=rfl;simp only [if_true,Option.map_some,hkt,hkg]
  by_cases hn:t.stk.length=g.stk.length
  ·simp only [if_pos hn];have hj:=K.jn t g ht hg ht.1
   have hu:uY p (tq p (dQ m t) (dQ m g)) (dQ m t)=jw p g t:=by
    rw [YG ht.1 hg.1 hn h8,ako h0 h8 hj.1 ht.1 ht.2.1,ahv hs ht.1 hg.1 hn ht.2.2.2]
   rw [hu]
   cases hb:jw p g t with
   | true => exact ⟨fun s' e => (by cases e; exact ⟨R, by simp, C⟩), fun e => by cases e⟩
   | false =>
    simp only [Bool.false_eq_true,if_false];rw [YG ht.1 hg.1 hn h8];exact⟨fun s' e=>(by cases e;exact⟨_,by simp,C.put dD hi hj⟩),fun e=>by cases e⟩
  ·rw [if_neg hn]
   have hb:jw p g t=false:=by
    cases hb:jw p g t with
    | false => rfl
    | true =>
     exfalso
     unfold jw at hb;simp only [Bool.and_eq_true,beq_iff_eq] at hb;omega
   rw [hb,if_neg (by simp),if_neg hn];exact⟨fun s' e=>(by cases e),fun _=>rfl⟩
theorem YH (hs:aU p p.length)(dD:m.code.length≤40)(K:Kept p m (wF p m))(h0:0≤m.locals)(h8:m.locals≤8){g:aH}(hg:wF p m g):∀(l:List (Int×Bool)) (x:aJ×Bool) (R:List (Option aH)),ny p m x.1 R→(∀y∈l,0≤y.1∧y.1<(m.code.length:Int))→
  (∀ x', xX p g l x = some x' → ∃ R', l9 p m.code.length (dQ m g) (l.map (·.1)) (R, x.2) = some (R', x'.2) ∧ ny p m x'.1 R') ∧ (xX p g l x = none → l9 p m.code.length (dQ m g) (l.map (·.1)) (R, x.2) = none)
 | [], x, R, C, _ => ⟨fun x' e => (by cases e; exact ⟨R, rfl, C⟩), fun e => by cases e⟩
 | y :: l, x, R, C, hl => by
  obtain⟨y0,y1⟩:=hl y (by simp);obtain⟨A,B⟩:=afd hs dD K h0 h8 C (i:=y.1.toNat) (by omega) hg x.2;unfold xX;rw [List.map_cons];unfold l9;rw [if_neg (by omega)]
  cases hr:ji p y.1.toNat g x.1 with
  | none => rw [B hr]; exact ⟨fun x' e => (by cases e), fun _ => rfl⟩
  | some s' =>
   obtain⟨R',e1,C'⟩:=A s' hr;rw [e1,Option.bind_some,Option.bind_some];exact YH hs dD K h0 h8 hg l (s',x.2 || zZ p y.1.toNat g x.1) R' C' (fun z hz=>hl z (by simp [hz]))
theorem afc (G:Good p)(M:vJ p m)(dD:m.code.length≤40)(h0:0≤m.locals)(hins:∀i∈m.code,bC p m i=true){x:aJ×Bool}{R:List (Option aH)}(C:ny p m x.1 R){i:Nat}(hi:i<m.code.length) :
  (∀x',FM p m i x=some x'→∃R',EK p m i (R,x.2)=some (R',x'.2)∧ny p m x'.1 R')∧(FM p m i x=none→EK p m i (R,x.2)=none):=by
 have hR:=C.at_ i hi;have K:=aea G hins;unfold EK FM;dsimp only;rw [hR];unfold pU
 cases hre:x.1.re.getD i false with
 | false => exact ⟨fun x' e => (by cases e; exact ⟨R, rfl, C⟩), fun e => by cases e⟩
 | true =>
  obtain⟨s1,s2,s3,s4⟩:=C.cd i (by omega) hre;generalize hst:x.1.st.getD i zeroS=s at *;simp only [if_true,Option.map_some]
  have hmem:bH m i∈m.code:=by
   unfold bH;rw [List.getElem?_eq_getElem hi];exact List.getElem_mem _
  have J:=AO (p:=p) (m:=m) (op:=(bH m i).op) (a:=(bH m i).a) (b:=(bH m i).b) (hins _ hmem)
  have hcut:fP p m (bH m i) (dQ m s)=(aY p m (bH m i) s).map (dQ m):=by
   rw [abO (by exact s3) (fun t ht=>((s4.1 t (List.mem_of_mem_take ht))).1) (fun h=>(J.cls (by omega)).1) (fun h=>by
    have hc:=J.cls (by omega);have hf:=J.pJ (by omega);obtain⟨j,hj⟩:=Int.eq_ofNat_of_zero_le hf.1;rw [hj];exact (G.pJ _ j hc.1 hc.2 (by omega)).1) (fun h=>by
    have hc:=J.cls (by omega);obtain⟨a1,a2⟩:=G.arg _ _ hc.1 hc.2 (J.call h)
    exact⟨fun t ht=>(a1 t ht).1,a2.1⟩) M.ret.1]
   exact afb (fun h=>by have:=J.loc h;omega)
  rw [hcut];have hnx:jy p m i s=(aY p m (bH m i) s).bind fun s'=>if uH m i then none else some s':=rfl
  rw [hnx]
  cases hd:aY p m (bH m i) s with
  | none => exact ⟨fun x' e => (by cases e), fun _ => rfl⟩
  | some s' =>
   rw [Option.map_some,Option.bind_some,Option.bind_some]
   cases hend:uH m i with
   | true =>
    refine⟨fun x' e=>(by cases e),fun _=>?_⟩
    have agD:qW (bH m i)=true∧i+1=m.code.length:=by
     unfold uH gy at hend
     cases hf:qW (bH m i) with
     | true =>
      refine⟨rfl,?_⟩;rw [hf] at hend
      cases hjj:gU (bH m i) with
      | true =>
       rw [hjj] at hend;have ha:=J.jmp (by unfold gU at hjj;simp only [Bool.or_eq_true,beq_iff_eq] at hjj;omega);simp at hend;omega
      | false =>
       rw [hjj] at hend;simp at hend;omega
     | false =>
      rw [hf] at hend
      cases hjj:gU (bH m i) with
      | true =>
       rw [hjj] at hend;have ha:=J.jmp (by unfold gU at hjj;simp only [Bool.or_eq_true,beq_iff_eq] at hjj;omega);simp at hend;omega
      | false => rw [hjj] at hend; simp at hend
    unfold qZ;rw [agD.1,if_pos rfl,List.singleton_append];unfold l9;rw [if_pos (by omega)]
   | false =>
    have hns:jy p m i s=some s':=by rw [hnx,hd,Option.bind_some,hend];rfl
    have hok:=K.nx i s s' hi ⟨s1,s2,s3,s4⟩ s1 s3 hns;have hin:=AZ hi hins hns;rw [agh];exact YH G.sup dD K h0 M.loc hok _ x R C (fun y hy=>hin y (List.mem_reverse.1 hy))
theorem YI (G:Good p)(M:vJ p m)(dD:m.code.length≤40)(h0:0≤m.locals)(hins:∀i∈m.code,bC p m i=true){s:aJ}{R:List (Option aH)}(C:ny p m s R):∀(k:Nat),k≤m.code.length→
  (∀x',uT p m s k=some x'→∃R',qj p m R k=some (R',x'.2)∧ny p m x'.1 R')∧(uT p m s k=none→qj p m R k=none)
 | 0, _ => ⟨fun x' e => (by cases e; exact ⟨R, rfl, C⟩), fun e => by cases e⟩
 | k + 1, hk => by
  obtain⟨A,B⟩:=YI G M dD h0 hins C k (by omega);unfold uT qj
  cases hr:uT p m s k with
  | none => rw [B hr]; exact ⟨fun x' e => (by cases e), fun _ => rfl⟩
  | some x =>
   obtain⟨R',e1,C'⟩:=A x hr;rw [e1,Option.bind_some,Option.bind_some];exact afc G M dD h0 hins C' (by omega)
theorem YJ (G:Good p)(M:vJ p m)(dD:m.code.length≤40)(h0:0≤m.locals)(hins:∀i∈m.code,bC p m i=true):∀(n:Nat) (s:aJ) (R:List (Option aH)),ny p m s R→∀r,y9 p m n s=some r→∃r',yL p m n R=some r'∧(r=none→r'=none)∧∀s',r=some s'→∃R',r'=some R'∧ny p m s' R'
 | 0, s, R, C, r, e => by cases e
 | n + 1, s, R, C, r, e => by
  obtain⟨A,B⟩:=YI G M dD h0 hins C m.code.length (Nat.le_refl _);unfold y9 at e;unfold yL
  cases hr:uT p m s m.code.length with
  | none =>
   rw [hr] at e
   cases e
   rw [B hr];exact⟨none,rfl,fun _=>rfl,fun s' e=>(by cases e)⟩
  | some x =>
   obtain⟨R',e1,C'⟩:=A x hr;obtain⟨s1,b⟩:=x;rw [hr] at e;rw [e1]
   cases b with
   | true => exact YJ G M dD h0 hins n s1 R' C' r e
   | false =>
    cases e
    exact⟨_,rfl,fun e=>(by cases e),fun s' e=>(by cases e;exact⟨R',rfl,C'⟩)⟩
theorem afe (dD:m.code.length≤40)(h1:1≤m.code.length)(hk0:0≤m.stack)(hb:wF p m (dO c m)):ny p m (dK sv0 0 (dO c m)) (Ny c m):=by
 have C0:ny p m sv0 (List.replicate m.code.length none):=by
  refine⟨⟨by simp [sv0],by simp [sv0],by simp [sv0],fun i hi=>?_⟩,fun i hi hr=>?_,by simp,fun i hi=>?_⟩
  ·have:sv0.st.getD i zeroS=zeroS:=N9 _ _ hi;rw [this];exact⟨rfl,by show ((0:Nat):Int)≤m.stack;omega⟩
  ·exfalso
   have:sv0.re.getD i false=false:=N9 _ _ hi;rw [this] at hr
   cases hr
  ·have:sv0.re.getD i false=false:=N9 _ _ (by omega);unfold pU;rw [this];rw [N9 _ _ hi]
   rfl
 exact C0.put dD (by omega) hb
end
def sZ (m:aC)(R:List (Option aH))(at_:Nat):Nat→Bool
 | 0 => false
 | k + 1 => sZ m R at_ k || ((R.getD k none).isSome && gU (bH m k) && ((bH m k).a == (at_ : Int)))
def kE (m:aC)(R:List (Option aH))(pl:Bool):Nat→List bF
 | 0 => []
 | k + 1 => kE m R pl k ++ (if (!pl || sZ m R k m.code.length) && (R.getD k none).isSome then [⟨(k : Int), ((R.getD k none).getD ⟨[], []⟩).loc, ((R.getD k none).getD ⟨[], []⟩).stk⟩] else [])
section
variable {p : List aj} {m : aC} {c : Int}
theorem ny.isSome {s:aJ}{R:List (Option aH)}(C:ny p m s R){i:Nat}(hi:i<m.code.length):(R.getD i none).isSome=s.re.getD i false:=by
 rw [C.at_ i hi];unfold pU
 cases s.re.getD i false <;> rfl
theorem aiC {s:aJ}{R:List (Option aH)}(C:ny p m s R)(hins:∀i∈m.code,bC p m i=true)(at_:Nat):sZ m R at_ m.code.length=DR m s at_:=by
 have key:∀n,n≤m.code.length→sZ m R at_ n=(List.range n).any fun i=>s.re.getD i false && gU (bH m i) && ((bH m i).a.toNat == at_):=by
  intro n
  induction n with
  | zero => intro _; rfl
  | succ n ih =>
   intro hn;unfold sZ;rw [ih (by omega),List.range_succ,List.any_append,List.any_cons,List.any_nil,Bool.or_false,C.isSome (by omega)]
   congr 1
   cases hj:gU (bH m n) with
   | false => simp
   | true =>
    have hmem:bH m n∈m.code:=by
     unfold bH;rw [List.getElem?_eq_getElem (show n<m.code.length by omega)];exact List.getElem_mem _
    have J:=AO (p:=p) (m:=m) (op:=(bH m n).op) (a:=(bH m n).a) (b:=(bH m n).b) (hins _ hmem);have ha:=J.jmp (by unfold gU at hj;simp only [Bool.or_eq_true,beq_iff_eq] at hj;omega)
    congr 1
    rw [Bool.eq_iff_iff,beq_iff_eq,beq_iff_eq];omega
 exact key _ (Nat.le_refl _)
theorem af5 {s:aJ}{R:List (Option aH)}(C:ny p m s R):∀n,n≤m.code.length→kE m R false n=dX m s n:=by
 intro n
 induction n with
 | zero => intro _; rfl
 | succ n ih =>
  intro hn;unfold kE dX;rw [ih (by omega),C.isSome (by omega),C.at_ n (by omega)];unfold pU
  cases s.re.getD n false <;> rfl
theorem af6 {s:aJ}{R:List (Option aH)}(C:ny p m s R)(hins:∀i∈m.code,bC p m i=true):kE m R true m.code.length=mV m s:=by
 have key:∀n,n≤m.code.length→kE m R true n=(dX m s n).filter fun f=>DR m s f.pc.toNat:=by
  intro n
  induction n with
  | zero => intro _; rfl
  | succ n ih =>
   intro hn;unfold kE dX;rw [ih (by omega),List.filter_append,aiC C hins,C.isSome (by omega),C.at_ n (by omega)];unfold pU
   cases s.re.getD n false with
   | false => simp
   | true =>
    cases hp:DR m s n with
    | false => simp [hp]
    | true => simp [hp, dQ]
 exact key _ (Nat.le_refl _)
theorem Zd {s s':aJ}(h:∀i,i<40→s.re.getD i false=s'.re.getD i false∧(s.re.getD i false=true→s.st.getD i zeroS=s'.st.getD i zeroS)):∀n,n≤40→dX m s n=dX m s' n:=by
 intro n
 induction n with
 | zero => intro _; rfl
 | succ n ih =>
  intro hn;unfold dX;obtain⟨h1,h2⟩:=h n (by omega);rw [ih (by omega)]
  congr 1
  rw [←h1]
  cases hr:s.re.getD n false with
  | false => rfl
  | true => rw [h2 hr]
theorem ael {s s':aJ}(dD:m.code.length≤40)(h:∀i,i<40→s.re.getD i false=s'.re.getD i false∧(s.re.getD i false=true→s.st.getD i zeroS=s'.st.getD i zeroS)):mV m s=mV m s':=by
 unfold mV;rw [Zd h _ dD]
 congr 1
 funext f
 unfold DR;rw [Bool.eq_iff_iff,List.any_eq_true,List.any_eq_true]
 constructor
 ·rintro ⟨i,hi,e⟩;exact⟨i,hi,by rw [←(h i (by rw [List.mem_range] at hi;omega)).1];exact e⟩
 ·rintro ⟨i,hi,e⟩;exact⟨i,hi,by rw [(h i (by rw [List.mem_range] at hi;omega)).1];exact e⟩
theorem acA (hF:bD p=0)(hz:bn p≤4194304){k:Int}(hown:bQ p c k=some m)(hb:wF p m (dO c m))(h1:1≤m.code.length)(h0:0≤m.locals){N:Nat}{r:Option aJ}(e:jC p m N (dK sv0 0 (dO c m))=some r) :
  ∃n r',yL p m n (Ny c m)=some r'∧(r=none→r'=none)∧∀s,r=some s→∃R,r'=some R∧R.length=m.code.length∧kE m R true m.code.length=mV m s∧kE m R false m.code.length=dX m s m.code.length:=by
 have hs:=wX hF;obtain⟨_,_,O⟩:=qY hF hown;have h6:=(qX hF).1.2;have G:=CW hF hz;have hk0:0≤m.stack:=by have:=O.bg.2.2;have h:((dO c m).stk.length:Int)=0:=rfl;omega
 have I:=IZ (p:=p) (c:=c) O.a7 hk0;obtain⟨r1,e1⟩:=abM hs h6 O.ok.stk O.c40 O.ins (mu p (dK sv0 0 (dO c m))+1) _ I.ok (by omega);obtain⟨a1,a2⟩:=ajU hF hz hown e e1;obtain⟨r2,e2,b1,b2⟩:=YJ G O.ok O.c40 h0 O.ins _ _ _ (afe O.c40 h1 hk0 hb) r1 e1;refine⟨_,r2,e2,fun h=>b1 (a1.1 h),fun s hsr=>?_⟩
 cases hr1:r1 with
 | none =>
  have:=a1.2 hr1;rw [hsr] at this
  cases this
 | some s1 =>
  obtain⟨R,h3,C⟩:=b2 s1 hr1;have al:=a2 s s1 hsr hr1;exact⟨R,h3,C.len,by rw [af6 C O.ins];exact (ael O.c40 al).symm,by rw [af5 C _ (Nat.le_refl _)];exact (Zd al _ O.c40).symm⟩
end
section
variable {p : List aj} {m : aC}
theorem RJ (n:Nat)(out:aH):∀(l l':List Int) (x:List (Option aH)×Bool),l9 p n out (l++l') x=(l9 p n out l x).bind (l9 p n out l')
 | [], l', x => rfl
 | y :: l, l', x => by
  rw [List.cons_append];unfold l9
  by_cases h:(n:Int)≤y
  ·rw [if_pos h,if_pos h];rfl
  ·rw [if_neg h,if_neg h]
   cases vT p out y.toNat x with
   | none => rfl
   | some x' => exact RJ n out l l' x'
theorem ad7 (n:Nat)(out:aH)(l:List Int)(y:Int)(x:List (Option aH)×Bool):l9 p n out (l++ [y]) x=(l9 p n out l x).bind fun x=>if (n:Int)≤y then none else vT p out y.toNat x:=by
 rw [RJ]
 congr 1
 funext x'
 unfold l9
 by_cases h:(n:Int)≤y
 ·rw [if_pos h,if_pos h]
 ·rw [if_neg h,if_neg h]
  cases vT p out y.toNat x' with
  | none => rfl
  | some x' => rfl
theorem X6 {n:Nat}{out:aH}{l:List Int}{j:Nat}{x:List (Option aH)×Bool}(h:l9 p n out (l.take j) x=none):l9 p n out l x=none:=by
 have e:=RJ (p:=p) n out (l.take j) (l.drop j) x;rw [List.take_append_drop] at e;rw [e,h]
 rfl
theorem ad8 {R:List (Option aH)}{k:Nat}(h:qj p m R k=none):∀n,k≤n→qj p m R n=none:=by
 intro n hn
 induction n with
 | zero =>
  obtain rfl:k=0:=by omega
  exact h
 | succ n ih =>
  rcases Nat.lt_or_ge n k with h1 | h1
  ·obtain rfl:k=n+1:=by omega
   exact h
  ·unfold qj;rw [ih h1];rfl
def qh (p:List aj)(r:Option aH)(out:aH):Option aH:=match r with
 | none => some out
 | some t => if t.stk.length = out.stk.length then some (tq p t out) else none
def JX (p:List aj)(r:Option aH)(x:aH):Bool:=match r with
 | none => false
 | some t => uY p x t
theorem X7 (out:aH)(i:Nat)(x:List (Option aH)×Bool):vT p out i x=(qh p (x.1.getD i none) out).bind fun g=>if JX p (x.1.getD i none) g then some x else some (x.1.set i (some g),true):=by
 unfold vT qh JX
 cases x.1.getD i none with
 | none => rfl
 | some t =>
  dsimp only
  by_cases h:t.stk.length=out.stk.length
  ·rw [if_pos h,if_pos h];rfl
  ·rw [if_neg h,if_neg h];rfl
theorem RN {R:List (Option aH)}{r:Option (List (Option aH))}{g k:Nat}(h:yL p m g R=some r)(hk:k≤m.code.length)(e:qj p m R k=none):r=none:=by
 cases g with
 | zero => cases h
 | succ g =>
  unfold yL at h;rw [ad8 e _ hk] at h
  cases h
  rfl
theorem aiI {s t:aH}(hs:qM p m s)(ht:qM p m t)(hk:s.stk.length=t.stk.length):qM p m (tq p s t):=by
 obtain⟨a1,a2,a3⟩:=hs;obtain⟨b1,b2,b3⟩:=ht;refine⟨⟨fun x hx=>?_,fun x hx=>?_⟩,?_,?_⟩
 ·unfold tq at hx;obtain⟨y,hy,rfl⟩:=List.mem_map.1 hx;exact Ui (b1.1 _ (List.of_mem_zip (a:=y.1) (b:=y.2) hy).2)
 ·unfold tq at hx;obtain⟨y,hy,rfl⟩:=List.mem_map.1 hx;exact Ui (b1.2 _ (List.of_mem_zip (a:=y.1) (b:=y.2) hy).2)
 ·unfold tq;simp;omega
 ·unfold tq;simp;omega
theorem ad5 {r:Option aH}{out g:aH}(hr:∀s,r=some s→qM p m s)(ho:qM p m out)(e:qh p r out=some g):qM p m g:=by
 unfold qh at e
 cases r with
 | none => cases e; exact ho
 | some t =>
  dsimp only at e
  split at e
  ·rename_i h
   cases e
   exact aiI (hr t rfl) ho h
  ·cases e
end
end Go.Proofs.YtiiokkllmchohaaGreat
