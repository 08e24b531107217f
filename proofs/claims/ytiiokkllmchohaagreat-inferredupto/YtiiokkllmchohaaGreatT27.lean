/- The machine: work. -/
import Derived.WalkMore
import Derived.Test.YtiiokkllmchohaaGreatT23
import Derived.Test.YtiiokkllmchohaaGreatT24
import Derived.Test.YtiiokkllmchohaaGreatT26
set_option maxHeartbeats 4000000
set_option maxRecDepth 100000
namespace Go.Proofs.YtiiokkllmchohaaGreat
open Go.RowKit Go.Shelf
attribute [local go_sem ↓] Go.wp_at_zero Go.wp_at_succ
attribute [local go_sem] bW
attribute [local go_sem] CU CV SG
section
variable {w0 w w' : World} {ρ : Nat → Nat × Nat} {mb : Nat} {vp : Value} {fuel : Int} {ask : Bool} {st : qJ} {A : List Nat} {X : List nD} {Y : List Value} {vr yc : Value} {i : Nat} {f : sD} {x : nD}
end
theorem afU (s r l k:Int)(x y z:Value)(w:World):(Instr.field 63 (.agg #[.int .i64 s,x,.int .i64 r,.int .i64 l,.int .i64 k,y,z]) 2).run Tryz.prog w= .ok (.int .i64 r) w:=by kernel_rfl
attribute [local go_sem] afU
end Go.Proofs.YtiiokkllmchohaaGreat
namespace Go.Proofs.YtiiokkllmchohaaGreat
open Go.RowKit Go.Shelf
theorem agf {α :Type}{l:List α}{f: α}(h:l.getLast? =some f):∃fs,l=fs++ [f]∧l.length-1=fs.length∧l.dropLast=fs:=by
 rcases List.eq_nil_or_concat l with rfl | ⟨fs,g,rfl⟩
 ·cases h
 ·rw [List.concat_eq_append,List.getLast?_concat] at h
  cases h
  refine⟨fs,by simp,by simp,by simp⟩
section
variable {p : List aj} {fuel : Int} {st : qJ} {f : sD} {fs : List sD}
end
theorem wQ (p:List aj)(t:Int):bf p t t=true:=by unfold bf;simp
theorem zU (p:List aj)(t:Int):bf p t 2=true:=by unfold bf;simp
theorem zS {p:List aj}{t o:Int} :bf p t o=true↔t=o∨o=2∨(3≤o∧(t=1∨(3≤t∧gY p (t-3) (o-3)=true))):=by
 unfold bf;simp only [Bool.or_eq_true,Bool.and_eq_true,beq_iff_eq,decide_eq_true_eq,or_assoc]
theorem RG {p:List aj}(hs:aU p p.length){a b c:Int}(h1:bf p a b=true)(h2:bf p b c=true):bf p a c=true:=by
 rw [zS] at h1 h2 ⊢
 rcases h1 with rfl | rfl | ⟨h1,h3⟩
 ·exact h2
 ·rcases h2 with rfl | rfl | ⟨h4,h5⟩
  ·exact .inr (.inl rfl)
  ·exact .inr (.inl rfl)
  ·omega
 ·rcases h2 with rfl | rfl | ⟨h4,h5⟩
  ·exact .inr (.inr ⟨h1,h3⟩)
  ·exact .inr (.inl rfl)
  ·refine .inr (.inr ⟨h4,?_⟩)
   rcases h3 with rfl | ⟨h3,h6⟩
   ·exact .inl rfl
   ·rcases h5 with h5 | ⟨h5,h7⟩
    ·omega
    ·exact .inr ⟨h3,afg hs h6 h7⟩
theorem LX {s:aH}{t:Int}{s':aH}(h:fA s=some (t,s')):s.stk=s'.stk++ [t]∧s'.loc=s.loc:=by
 unfold fA at h
 cases e:s.stk.getLast? with
 | none => rw [e] at h; cases h
 | some y =>
  rw [e] at h
  cases h
  obtain⟨fs,h1,_,h2⟩:=agf e;refine⟨?_,rfl⟩;dsimp only;rw [h2];exact h1
theorem acP {p:List aj}{s s':aH}{t:Int}(h:dw p t s=some s'):∃u,s.stk=s'.stk++ [u]∧s'.loc=s.loc∧bf p u t=true:=by
 unfold dw at h
 cases e:fA s with
 | none => rw [e] at h; cases h
 | some x =>
  rw [e,Option.bind_some] at h
  split at h
  ·rename_i hb
   cases h
   obtain⟨h1,h2⟩:=LX (t:=x.1) (s':=x.2) e;exact⟨x.1,h1,h2,hb⟩
  ·cases h
theorem acM {s s':aH}(h:jX s=some s'):∃u,s.stk=s'.stk++ [u]∧s'.loc=s.loc∧(u=1∨3≤u):=by
 unfold jX at h
 cases e:fA s with
 | none => rw [e] at h; cases h
 | some x =>
  rw [e,Option.bind_some] at h
  split at h
  ·rename_i hb
   cases h
   obtain⟨h1,h2⟩:=LX (t:=x.1) (s':=x.2) e;refine⟨x.1,h1,h2,?_⟩;unfold qC at hb;simpa using hb
  ·cases h
theorem Uw {m:aC}{t:Int}{s s':aH}(h:bM m t s=some s'):(s.stk.length:Int)≠m.stack∧s'.stk=s.stk++ [t]∧s'.loc=s.loc:=by
 unfold bM at h
 split at h
 ·cases h
 ·rename_i hn
  cases h
  exact⟨hn,rfl,rfl⟩
theorem Uu {t u:Int}(h:lM t=some u):u=t∧t≠2:=by
 unfold lM at h
 split at h
 ·cases h
 ·rename_i hn
  cases h
  exact⟨rfl,hn⟩
theorem bY {α β :Type}{o:Option α}{f: α→Option β}{b: β}(h:o.bind f=some b):∃a,o=some a∧f a=some b:=by
 cases o with
 | none => cases h
 | some a => exact ⟨a, rfl, h⟩
section
variable {p : List aj} {m : aC} {loc stk : List LVal} {s s' : aH} {a b : Int}
end
section
variable {p : List aj} {fuel : Int} {st : qJ} {f : sD} {fs : List sD}
end
theorem Jc (p:List aj)(b:Int):∀(l:List Nat),(uZ p b l=2∧∀c∈l,bf p b ((c:Int)+3)=false)∨∃(pre:List Nat) (c:Nat) (post:List Nat),l=pre++c::post∧uZ p b l=(c:Int)+3∧bf p b ((c:Int)+3)=true∧∀d∈pre,bf p b ((d:Int)+3)=false
 | [] => .inl ⟨rfl, fun c h => by cases h⟩
 | c :: l => by
  cases h:bf p b ((c:Int)+3) with
  | true => exact .inr ⟨[], c, l, rfl, acL h, h, fun d hd => by cases hd⟩
  | false =>
   rcases Jc p b l with ⟨h1,h2⟩ | ⟨pre,d,post,rfl,h2,h3,h4⟩
   ·exact .inl ⟨by rw [VA h];exact h1,fun e he=>by
     rcases List.mem_cons.1 he with rfl | he
     ·exact h
     ·exact h2 e he⟩
   ·exact .inr ⟨c::pre,d,post,rfl,by rw [VA h];exact h2,h3,fun e he=>by
     rcases List.mem_cons.1 he with rfl | he
     ·exact h
     ·exact h4 e he⟩
theorem NK {p:List aj}{c:Int}{d:Nat} :gY p c d=true↔d∈chainOf p c:=by
 unfold gY;rw [List.any_eq_true]
 constructor
 ·rintro ⟨x,hx,e⟩;simp only [beq_iff_eq] at e;obtain rfl:x=d:=by omega
  exact hx
 ·intro h;exact⟨d,h,by simp⟩
theorem aew {p:List aj}(hs:aU p p.length):∀(n:Nat) (pre:List Nat) (c:Nat) (post:List Nat),chainOf p (n:Int)=pre++c::post→∀d∈c::post,gY p (c:Int) (d:Int)=true:=by
 intro n
 induction n using Nat.strongRecOn with
 | ind n ih =>
  intro pre c post h d hd
  cases hx:p[n]? with
  | none =>
   have:chainOf p (n:Int)= []:=by
    unfold chainOf chain;rw [if_neg (by omega),Int.toNat_natCast,hx]
   rw [this] at h;simp at h
  | some x =>
   have hn:=(List.getElem?_eq_some_iff.1 hx).1;have hc:=CG p hs hn hx
   cases pre with
   | nil =>
    rw [List.nil_append] at h;have:c=n:=by rw [hc] at h;cases h;rfl
    subst this;rw [NK,h];exact hd
   | cons y pre =>
    rw [hc,List.cons_append] at h
    injection h with h1 h2
    have hb:=pV (hs n x hn hx)
    rcases Int.lt_or_le x.sup 0 with g | g
    ·rw [CJ p g] at h2;simp at h2
    ·obtain⟨k,hk⟩:=Int.eq_ofNat_of_zero_le g;rw [hk] at h2 hb;exact ih k (by omega) pre c post h2 d hd
theorem Un {p:List aj}(a b:Int):bf p a (dJ p a b)=true:=by
 unfold dJ
 split
 ·rename_i h;exact h
 ·split
  ·rename_i h3
   rcases Jc p b (chainOf p (a-3)) with ⟨h1,_⟩ | ⟨pre,c,post,h1,h2,h4,_⟩
   ·rw [h1];exact zU _ _
   ·rw [h2,zS]
    right;right
    refine⟨by omega,.inr ⟨h3,?_⟩⟩;rw [show (c:Int)+3-3=c by omega,NK,h1];simp
  ·exact zU _ _
theorem Uo {p:List aj}(a b:Int):bf p b (dJ p a b)=true:=by
 unfold dJ
 split
 ·exact wQ _ _
 ·split
  ·rcases Jc p b (chainOf p (a-3)) with ⟨h1,_⟩ | ⟨pre,c,post,h1,h2,h4,_⟩
   ·rw [h1];exact zU _ _
   ·rw [h2];exact h4
  ·exact zU _ _
theorem Ul {p:List aj}(hs:aU p p.length){a b u:Int}(ha:bf p a u=true)(hb:bf p b u=true)(hA:3≤a→a-3<(p.length:Int)):bf p (dJ p a b) u=true:=by
 unfold dJ
 split
 ·exact hb
 ·rename_i hab
  split
  ·rename_i h3;obtain⟨n,hn⟩:=Int.eq_ofNat_of_zero_le (show 0≤a-3 by omega);rw [hn];rw [zS] at ha
   by_cases hu2:u=2
   ·rw [hu2];exact zU _ _
   -- u is a class at or above a
   have hu3:3≤u∧gY p (n:Int) (u-3)=true:=by
    rcases ha with rfl | h | ⟨h1,h2⟩
    ·exact⟨h3,by rw [hn];exact aff hs (by omega) (by have:=hA h3;omega)⟩
    ·exact absurd h hu2
    ·refine⟨h1,?_⟩
     rcases h2 with h2 | ⟨_,h2⟩
     ·omega
     ·rw [hn] at h2;exact h2
   obtain⟨k,hk⟩:=Int.eq_ofNat_of_zero_le (show 0≤u-3 by omega);rw [hk] at hu3;have hmem:=NK.1 hu3.2;have huk:u=(k:Int)+3:=by omega
   rcases Jc p b (chainOf p (n:Int)) with ⟨_,h2⟩ | ⟨pre,c,post,h1,h2,h4,h5⟩
   ·have:=h2 k hmem;rw [huk] at hb;rw [hb] at this
    cases this
   ·rw [h2,zS]
    right;right
    refine⟨hu3.1,.inr ⟨by omega,?_⟩⟩;rw [show (c:Int)+3-3=c by omega,hk]
    have agH:k∈c::post:=by
     rw [h1] at hmem
     rcases List.mem_append.1 hmem with h | h
     ·have:=h5 k h;rw [huk] at hb;rw [hb] at this
      cases this
     ·exact h
    exact aew hs n pre c post h1 k agH
  ·rename_i h3;rw [zS] at ha hb;rw [zS] at hab
   have:u=2:=by
    apply Classical.byContradiction
    intro hu
    rcases ha with rfl | h | ⟨h1,h2⟩
    ·rcases hb with rfl | h | ⟨h1,_⟩
     ·exact hab (.inl rfl)
     ·exact hu h
     ·omega
    ·exact hu h
    ·rcases h2 with rfl | ⟨h2,_⟩
     ·rcases hb with rfl | h | ⟨_,h⟩
      ·exact hab (.inr (.inr ⟨h1,.inl rfl⟩))
      ·exact hu h
      ·rcases h with rfl | ⟨h,_⟩
       ·exact hab (.inl rfl)
       ·exact hab (.inr (.inr ⟨h,.inl rfl⟩))
     ·omega
   rw [this];exact zU _ _
def rank (p:List aj)(t:Int):Nat:=if t=2 then 0 else if t=1 then 20 else if 3≤t then 1+(chainOf p (t-3)).length else 1
theorem Yh (p:List aj)(hs:aU p p.length):∀n:Nat,(chainOf p (n:Int)).length≤n+1:=by
 intro n
 induction n using Nat.strongRecOn with
 | ind n ih =>
  cases hx:p[n]? with
  | none =>
   have:chainOf p (n:Int)= []:=by
    unfold chainOf chain;rw [if_neg (by omega),Int.toNat_natCast,hx]
   rw [this];simp
  | some x =>
   have hn:=(List.getElem?_eq_some_iff.1 hx).1;rw [CG p hs hn hx,List.length_cons];have hb:=pV (hs n x hn hx)
   rcases Int.lt_or_le x.sup 0 with g | g
   ·rw [CJ p g];simp
   ·obtain⟨k,hk⟩:=Int.eq_ofNat_of_zero_le g;rw [hk];have:=ih k (by omega);omega
theorem aiN {p:List aj}(hs:aU p p.length)(h6:p.length≤6)(t:Int):rank p t≤20:=by
 unfold rank
 split
 ·omega
 split
 ·omega
 split
 ·rename_i h3;obtain⟨n,hn⟩:=Int.eq_ofNat_of_zero_le (show 0≤t-3 by omega);rw [hn]
  rcases Nat.lt_or_ge n p.length with h | h
  ·have:=Yh p hs n;omega
  ·have:chainOf p (n:Int)= []:=by
    unfold chainOf chain;rw [if_neg (by omega),Int.toNat_natCast,List.getElem?_eq_none h]
   rw [this];simp
 ·omega
theorem aiM {p:List aj}(hs:aU p p.length){c o:Int}(h:gY p c o=true)(hne:c≠o):(chainOf p o).length<(chainOf p c).length:=by
 have key:c=o∨(chainOf p o).length<(chainOf p c).length:=by
  refine YL hs (fun c=>c=o∨(chainOf p o).length<(chainOf p c).length) (fun n x _ e=>.inl e) (fun n x hx _ ih=>?_) c h
  right
  rw [CG p hs (List.getElem?_eq_some_iff.1 hx).1 hx,List.length_cons]
  rcases ih with e | e
  ·rw [e];omega
  ·omega
 rcases key with e | e
 ·exact absurd e hne
 ·exact e
theorem DU {p:List aj}(hs:aU p p.length)(h6:p.length≤6){a b:Int}(h:bf p a b=true):rank p b≤rank p a∧(a≠b→rank p b<rank p a):=by
 by_cases e:a=b
 ·subst e;exact⟨Nat.le_refl _,fun h=>absurd rfl h⟩
 have hlt:rank p b<rank p a:=by
  rw [zS] at h
  rcases h with h | rfl | ⟨h1,h2⟩
  ·exact absurd h e
  ·unfold rank;rw [if_pos rfl,if_neg e]
   split
   ·omega
   split
   ·omega
   ·omega
  ·rcases h2 with rfl | ⟨h2,h3⟩
   ·have hb:rank p b=1+(chainOf p (b-3)).length:=by
     unfold rank;rw [if_neg (by omega),if_neg (by omega),if_pos h1]
    have ha:rank p 1=20:=rfl;rw [hb,ha];obtain⟨n,hn⟩:=Int.eq_ofNat_of_zero_le (show 0≤b-3 by omega);rw [hn]
    rcases Nat.lt_or_ge n p.length with h | h
    ·have:=Yh p hs n;omega
    ·have:chainOf p (n:Int)= []:=by
      unfold chainOf chain;rw [if_neg (by omega),Int.toNat_natCast,List.getElem?_eq_none h]
     rw [this];simp
   ·have hb:rank p b=1+(chainOf p (b-3)).length:=by
     unfold rank;rw [if_neg (by omega),if_neg (by omega),if_pos h1]
    have ha:rank p a=1+(chainOf p (a-3)).length:=by
     unfold rank;rw [if_neg (by omega),if_neg (by omega),if_pos h2]
    have:=aiM hs h3 (by omega);omega
 exact⟨by omega,fun _=>hlt⟩
structure qH (p:List aj)(s t:aH):Prop where
 n:s.stk.length=t.stk.length
 l:∀i,i<8→bf p (s.loc.getD i 0) (t.loc.getD i 0)=true
 k:∀i,i<s.stk.length→bf p (s.stk.getD i 0) (t.stk.getD i 0)=true
theorem F8 {p:List aj} :∀ {l u:List Int},l.length=u.length→(((l.zip u).all fun x=>bf p x.1 x.2)=true↔∀i,i<l.length→bf p (l.getD i 0) (u.getD i 0)=true)
 | [], [], _ => ⟨fun _ i h => by simp at h, fun _ => rfl⟩
 | a :: l, b :: u, h => by
  rw [List.zip_cons_cons,List.all_cons,Bool.and_eq_true,F8 (by simpa using h)]
  constructor
  ·rintro ⟨h1,h2⟩ i hi
   cases i with
   | zero => exact h1
   | succ i => exact h2 i (by simpa using hi)
  ·intro h;exact⟨h 0 (by simp),fun i hi=>h (i+1) (by simpa using hi)⟩
 | [], _ :: _, h => by simp at h
 | _ :: _, [], h => by simp at h
theorem le_iff {p:List aj}{s t:aH}(hs:s.loc.length=8)(ht:t.loc.length=8):jw p s t=true↔qH p s t:=by
 unfold jw;simp only [Bool.and_eq_true,beq_iff_eq]
 constructor
 ·rintro ⟨⟨h1,h2⟩,h3⟩;rw [F8 (by rw [hs,ht])] at h2;rw [F8 h1] at h3;exact⟨h1,fun i hi=>h2 i (by omega),h3⟩
 ·rintro ⟨h1,h2,h3⟩;exact⟨⟨h1,(F8 (by rw [hs,ht])).2 (fun i hi=>h2 i (by omega))⟩,(F8 h1).2 h3⟩
theorem qH.refl (p:List aj)(s:aH):qH p s s:=⟨rfl,fun _ _=>wQ _ _,fun _ _=>wQ _ _⟩
theorem qH.trans {p:List aj}(hs:aU p p.length){s t u:aH}(h:qH p s t)(h':qH p t u):qH p s u:=
 ⟨h.n.trans h'.n,fun i hi=>RG hs (h.l i hi) (h'.l i hi),fun i hi=>RG hs (h.k i hi) (h'.k i (by rw [←h.n];exact hi))⟩
theorem aaS (p:List aj)(s t:aH)(hl:s.loc.length=8):∀(k i:Nat),i<k→k≤8→(oP p s t k).loc.getD i 0=dJ p (s.loc.getD i 0) (t.loc.getD i 0)
 | 0, i, h, _ => by omega
 | k + 1, i, h, h8 => by
  show ((oP p s t k).loc.set k _).getD i 0=_
  rw [List.getD_eq_getElem?_getD]
  by_cases e:i=k
  ·subst e;rw [List.getElem?_set_self (by rw [Uj,hl];omega)]
   rfl
  ·rw [List.getElem?_set_ne (by omega),←List.getD_eq_getElem?_getD];exact aaS p s t hl k i (by omega) (by omega)
theorem Uk (p:List aj)(s t:aH):∀k,(qx p s t k).loc=(oP p s t 8).loc
 | 0 => rfl
 | k + 1 => Uk p s t k
theorem aaV (p:List aj)(s t:aH):∀(k i:Nat),i<k→k≤s.stk.length→(qx p s t k).stk.getD i 0=dJ p (s.stk.getD i 0) (t.stk.getD i 0)
 | 0, i, h, _ => by omega
 | k + 1, i, h, h8 => by
  show ((qx p s t k).stk.set k _).getD i 0=_
  rw [List.getD_eq_getElem?_getD]
  by_cases e:i=k
  ·subst e;rw [List.getElem?_set_self (by rw [Lj];omega)]
   rfl
  ·rw [List.getElem?_set_ne (by omega),←List.getD_eq_getElem?_getD];exact aaV p s t k i (by omega) (by omega)
theorem vY (p:List aj)(s t:aH):(jh p s t).stk.length=s.stk.length∧(jh p s t).loc.length=s.loc.length:=by
 unfold jh;refine⟨Lj _ _ _ _,?_⟩;rw [Uk,Uj]
theorem Ik (p:List aj)(s t:aH)(hl:s.loc.length=8){i:Nat}(hi:i<8):(jh p s t).loc.getD i 0=dJ p (s.loc.getD i 0) (t.loc.getD i 0):=by
 unfold jh;rw [Uk];exact aaS p s t hl 8 i hi (Nat.le_refl _)
theorem Lh (p:List aj)(s t:aH){i:Nat}(hi:i<s.stk.length):(jh p s t).stk.getD i 0=dJ p (s.stk.getD i 0) (t.stk.getD i 0):=aaV p s t _ i hi (Nat.le_refl _)
theorem aa1 {p:List aj}{s t:aH}(hl:s.loc.length=8):qH p s (jh p s t):=
 ⟨(vY p s t).1.symm,fun i hi=>by rw [Ik p s t hl hi];exact Un _ _,fun i hi=>by rw [Lh p s t hi];exact Un _ _⟩
theorem Ur {p:List aj}{s t:aH}(hl:s.loc.length=8)(hn:s.stk.length=t.stk.length):qH p t (jh p s t):=
 ⟨by rw [(vY p s t).1,hn],fun i hi=>by rw [Ik p s t hl hi];exact Uo _ _,fun i hi=>by rw [Lh p s t (by omega)];exact Uo _ _⟩
def XA (p:List aj)(s:aH):Prop:=(∀i,i<8→3≤s.loc.getD i 0→s.loc.getD i 0-3<(p.length:Int))∧∀i,i<s.stk.length→3≤s.stk.getD i 0→s.stk.getD i 0-3<(p.length:Int)
theorem aaZ {p:List aj}(hs:aU p p.length){s t u:aH}(hl:s.loc.length=8)(hT:XA p s)(h1:qH p s u)(h2:qH p t u):qH p (jh p s t) u:=
 ⟨by rw [(vY p s t).1,h1.n],fun i hi=>by rw [Ik p s t hl hi];exact Ul hs (h1.l i hi) (h2.l i hi) (hT.1 i hi),fun i hi=>by
  rw [(vY p s t).1] at hi;rw [Lh p s t hi];exact Ul hs (h1.k i hi) (h2.k i (by rw [h2.n,←h1.n];exact hi)) (hT.2 i hi)⟩
def tu (p:List aj)(s:aH):Nat:=(s.loc.map (rank p)).sum+(s.stk.map (rank p)).sum
theorem Vk {f:Int→Nat} :∀ {l l':List Int},l.length=l'.length→(∀i,i<l.length→f (l'.getD i 0)≤f (l.getD i 0))→(l'.map f).sum≤(l.map f).sum∧((∃i,i<l.length∧f (l'.getD i 0)<f (l.getD i 0))→(l'.map f).sum<(l.map f).sum)
 | [], [], _, _ => ⟨Nat.le_refl _, fun ⟨i, h, _⟩ => by simp at h⟩
 | a :: l, b :: l', h, hp => by
  have h0:f b≤f a:=hp 0 (by simp);obtain⟨h1,h2⟩:=Vk (f:=f) (l:=l) (l':=l') (by simpa using h) (fun i hi=>hp (i+1) (by simpa using hi));simp only [List.map_cons,List.sum_cons];refine⟨by omega,?_⟩;rintro ⟨i,hi,hlt⟩
  cases i with
  | zero =>
   have:f b<f a:=hlt;omega
  | succ i =>
   have:=h2 ⟨i,by simpa using hi,hlt⟩;omega
 | [], _ :: _, h, _ => by simp at h
 | _ :: _, [], h, _ => by simp at h
theorem abR {p:List aj}(hs:aU p p.length)(h6:p.length≤6){s t:aH}(hl:s.loc.length=8)(ht:t.loc.length=8)(hn:s.stk.length=t.stk.length)(hb:¬jw p t s=true):tu p (jh p s t)<tu p s:=by
 have hu:=aa1 (p:=p) (s:=s) (t:=t) hl;have hv:=Ur (p:=p) (s:=s) (t:=t) hl hn;obtain⟨j1,j2⟩:=vY p s t;obtain⟨a1,a2⟩:=Vk (f:=rank p) (l:=s.loc) (l':=(jh p s t).loc) j2.symm (fun i hi=>(DU hs h6 (hu.l i (by omega))).1);obtain⟨b1,b2⟩:=Vk (f:=rank p) (l:=s.stk) (l':=(jh p s t).stk) j1.symm (fun i hi=>(DU hs h6 (hu.k i hi)).1);unfold tu;rw [le_iff ht hl] at hb
 have:(∃i,i<8∧bf p (t.loc.getD i 0) (s.loc.getD i 0)=false)∨∃i,i<s.stk.length∧bf p (t.stk.getD i 0) (s.stk.getD i 0)=false:=by
  apply Classical.byContradiction
  intro hc
  apply hb
  refine⟨hn.symm,fun i hi=>?_,fun i hi=>?_⟩
  ·cases e:bf p (t.loc.getD i 0) (s.loc.getD i 0) with
   | true => rfl
   | false => exact absurd (.inl ⟨i, hi, e⟩) hc
  ·cases e:bf p (t.stk.getD i 0) (s.stk.getD i 0) with
   | true => rfl
   | false => exact absurd (.inr ⟨i, by omega, e⟩) hc
 rcases this with ⟨i,hi,e⟩ | ⟨i,hi,e⟩
 ·have:=a2 ⟨i,by omega,(DU hs h6 (hu.l i hi)).2 (fun h=>by
   have:=hv.l i hi;rw [←h,e] at this
   cases this)⟩
  omega
 ·have:=b2 ⟨i,hi,(DU hs h6 (hu.k i hi)).2 (fun h=>by
   have:=hv.k i (by omega);rw [←h,e] at this
   cases this)⟩
  omega
theorem abS {p:List aj}(hs:aU p p.length)(h6:p.length≤6){s:aH}(hl:s.loc.length=8)(hk:s.stk.length≤8):tu p s≤320:=by
 have key:∀l:List Int,(l.map (rank p)).sum≤20*l.length:=by
  intro l
  induction l with
  | nil => simp
  | cons a l ih =>
   have:=aiN hs h6 a;simp only [List.map_cons,List.sum_cons,List.length_cons];omega
 have h1:=key s.loc;have h2:=key s.stk;unfold tu;omega
def uX (f:Nat→Nat):Nat→Nat
 | 0 => 0
 | n + 1 => uX f n + f n
theorem PK {f g:Nat→Nat}{i:Nat}(h:∀j,j≠i→f j=g j):∀n,(i<n→uX f n+g i=uX g n+f i)∧(n≤i→uX f n=uX g n)
 | 0 => ⟨fun h => by omega, fun _ => rfl⟩
 | n + 1 => by
  obtain⟨h1,h2⟩:=PK h n;refine⟨fun hi=>?_,fun hi=>?_⟩
  ·show uX f n+f n+g i=uX g n+g n+f i
   by_cases e:i=n
   ·subst e;rw [h2 (Nat.le_refl _)];omega
   ·have:=h1 (by omega);have:=h n (fun x=>e x.symm);omega
  ·show uX f n+f n=uX g n+g n
   rw [h2 (by omega),h n (by omega)]
def mu (p:List aj)(s:aJ):Nat:=uX (fun i=>if s.re.getD i false then tu p (s.st.getD i zeroS) else 400) 40
def cnt (s:aJ):Nat:=uX (fun i=>if s.ra.getD i false then 1 else 0) 40
structure fZ (p:List aj)(m:aC)(s:aJ):Prop where
 l1:s.st.length=40
 l2:s.re.length=40
 l3:s.ra.length=40
 ok:∀i,i<40→(s.st.getD i zeroS).loc.length=8∧((s.st.getD i zeroS).stk.length:Int)≤m.stack
theorem kF {α :Type}{l:List α}{i:Nat}(h:i<l.length)(x d: α):(l.set i x).getD i d=x:=by
 rw [List.getD_eq_getElem?_getD,List.getElem?_set_self h];rfl
theorem getD_set_ne {α :Type}{l:List α}{i j:Nat}(h:j≠i)(x d: α):(l.set i x).getD j d=l.getD j d:=by
 rw [List.getD_eq_getElem?_getD,List.getElem?_set_ne (fun e=>h e.symm),←List.getD_eq_getElem?_getD]
theorem fZ.put {p:List aj}{m:aC}{s:aJ}(h:fZ p m s){i:Nat}(hi:i<40){g:aH}(hl:g.loc.length=8)(hk:(g.stk.length:Int)≤m.stack):fZ p m (dK s i g):=by
 refine⟨by simpa [dK] using h.l1,by simpa [dK] using h.l2,by simpa [dK] using h.l3,fun j hj=>?_⟩
 show ((s.st.set i g).getD j zeroS).loc.length=8∧_
 by_cases e:j=i
 ·subst e
  show ((s.st.set j g).getD j zeroS).loc.length=8∧(((s.st.set j g).getD j zeroS).stk.length:Int)≤m.stack
  rw [kF (by rw [h.l1];exact hj)];exact⟨hl,hk⟩
 ·show ((s.st.set i g).getD j zeroS).loc.length=8∧(((s.st.set i g).getD j zeroS).stk.length:Int)≤m.stack
  rw [getD_set_ne e];exact h.ok j hj
theorem Pg {p:List aj}{m:aC}{s:aJ}(h:fZ p m s){i:Nat}(hi:i<40){g:aH}(hlt:tu p g<(if s.re.getD i false then tu p (s.st.getD i zeroS) else 400)):mu p (dK s i g)<mu p s∧cnt (dK s i g)≤cnt s+1:=by
 constructor
 ·unfold mu
  have:=(PK (i:=i) (f:=fun j=>if (dK s i g).re.getD j false then tu p ((dK s i g).st.getD j zeroS) else 400) (g:=fun j=>if s.re.getD j false then tu p (s.st.getD j zeroS) else 400) (fun j hj=>by
   show (if (s.re.set i true).getD j false then tu p ((s.st.set i g).getD j zeroS) else 400)=_
   rw [getD_set_ne hj,getD_set_ne hj]) 40).1 hi
  have e:(if (dK s i g).re.getD i false then tu p ((dK s i g).st.getD i zeroS) else 400)=tu p g:=by
   show (if (s.re.set i true).getD i false then tu p ((s.st.set i g).getD i zeroS) else 400)=_
   rw [kF (by rw [h.l2];exact hi),kF (by rw [h.l1];exact hi),if_pos rfl]
  rw [e] at this;omega
 ·unfold cnt
  have:=(PK (i:=i) (f:=fun j=>if (dK s i g).ra.getD j false then 1 else 0) (g:=fun j=>if s.ra.getD j false then 1 else 0) (fun j hj=>by
   show (if (s.ra.set i true).getD j false then 1 else 0)=_
   rw [getD_set_ne hj]) 40).1 hi
  have e:(if (dK s i g).ra.getD i false then 1 else 0)≤1:=by split <;> omega
  omega
def mZ (p:List aj)(s:aJ):Nat:=mu p s*41+cnt s
section
variable {p : List aj} {m : aC} (hs : aU p p.length) (h6 : p.length ≤ 6) (h8 : m.stack ≤ 8)
include hs h6 h8
theorem LM {s s':aJ}(h:fZ p m s){i:Nat}(hi:i<40){g:aH}(hl:g.loc.length=8)(hk:(g.stk.length:Int)≤m.stack)(e:ji p i g s=some s'):fZ p m s'∧mZ p s'≤mZ p s:=by
 unfold ji at e
 split at e
 ·rename_i hre
  split at e
  ·cases e
   exact⟨h,Nat.le_refl _⟩
  ·rename_i hb
   split at e
   ·rename_i hn
    cases e
    have ho:=h.ok i hi;obtain⟨j1,j2⟩:=vY p (s.st.getD i zeroS) g;have hP:=h.put hi (g:=jh p (s.st.getD i zeroS) g) (by rw [j2];exact ho.1) (by rw [j1];exact ho.2);refine⟨hP,?_⟩;have:=Pg h hi (g:=jh p (s.st.getD i zeroS) g) (by rw [if_pos hre];exact abR hs h6 ho.1 hl hn hb);unfold mZ;omega
   ·cases e
 ·rename_i hre
  cases e
  refine⟨h.put hi hl hk,?_⟩;have:=Pg h hi (g:=g) (by rw [if_neg hre];have:=abS hs h6 hl (by omega);omega);unfold mZ;omega
theorem Pj {n:aH}(hl:n.loc.length=8)(hk:(n.stk.length:Int)≤m.stack):∀(l:List (Int×Bool)) (s s':aJ),fZ p m s→(∀y∈l,y.1.toNat<40)→lF p n l s=some s'→fZ p m s'∧mZ p s'≤mZ p s
 | [], s, s', h, _, e => by cases e; exact ⟨h, Nat.le_refl _⟩
 | y :: l, s, s', h, hy, e => by
  unfold lF at e;obtain⟨s1,e1,e2⟩:=bY e;obtain⟨h1,h2⟩:=LM hs h6 h8 h (hy y (by simp)) hl hk e1;obtain⟨h3,h4⟩:=Pj hl hk l s1 s' h1 (fun z hz=>hy z (by simp [hz])) e2;exact⟨h3,by omega⟩
end
section
variable {p : List aj} {m : aC}
theorem lC {t:Int}{s s':aH}(h:bM m t s=some s')(hk:(s.stk.length:Int)≤m.stack):(s'.stk.length:Int)≤m.stack∧s'.loc=s.loc:=by
 obtain⟨h1,h2,h3⟩:=Uw h;refine⟨?_,h3⟩;rw [h2,List.length_append,List.length_singleton];omega
theorem pW {t:Int}{s s':aH}(h:dw p t s=some s')(hk:(s.stk.length:Int)≤m.stack):(s'.stk.length:Int)≤m.stack∧s'.loc=s.loc:=by
 obtain⟨u,h1,h2,_⟩:=acP h;refine⟨?_,h2⟩;rw [h1,List.length_append] at hk;omega
theorem PX {s s':aH}(h:jX s=some s')(hk:(s.stk.length:Int)≤m.stack):(s'.stk.length:Int)≤m.stack∧s'.loc=s.loc:=by
 obtain⟨u,h1,h2,_⟩:=acM h;refine⟨?_,h2⟩;rw [h1,List.length_append] at hk;omega
theorem take_len {s s':aH}{t:Int}(h:fA s=some (t,s'))(hk:(s.stk.length:Int)≤m.stack):(s'.stk.length:Int)≤m.stack∧s'.loc=s.loc:=by
 obtain⟨h1,h2⟩:=LX h;refine⟨?_,h2⟩;rw [h1,List.length_append] at hk;omega
theorem PY:∀(l:List Int) {s s':aH},fU p l s=some s'→(s.stk.length:Int)≤m.stack→(s'.stk.length:Int)≤m.stack∧s'.loc=s.loc
 | [], s, s', h, hk => by cases h; exact ⟨hk, rfl⟩
 | t :: l, s, s', h, hk => by
  unfold fU at h;obtain⟨s1,h1,h2⟩:=bY h;obtain⟨a1,a2⟩:=pW h1 hk;obtain⟨b1,b2⟩:=PY l h2 a1;exact⟨b1,b2.trans a2⟩
theorem afC {i:eF}{s s':aH}(h:aY p m i s=some s')(hl:s.loc.length=8)(hk:(s.stk.length:Int)≤m.stack):s'.loc.length=8∧(s'.stk.length:Int)≤m.stack:=by
 unfold aY at h
 by_cases c:i.op=0
 ·rw [if_pos c] at h;obtain⟨a,b⟩:=lC h hk;exact⟨by rw [b];exact hl,a⟩
 rw [if_neg c] at h;clear c
 by_cases c:i.op=1
 ·rw [if_pos c] at h;obtain⟨t,_,h⟩:=bY h;obtain⟨a,b⟩:=lC h hk;exact⟨by rw [b];exact hl,a⟩
 rw [if_neg c] at h;clear c
 by_cases c:i.op=2
 ·rw [if_pos c] at h;obtain⟨⟨t,s1⟩,h1,h2⟩:=bY h;obtain⟨a,b⟩:=take_len h1 hk;obtain⟨u,_,rfl⟩:=Option.map_eq_some_iff.1 h2;exact⟨by dsimp only;rw [List.length_set,b];exact hl,a⟩
 rw [if_neg c] at h;clear c
 by_cases c:i.op=3∨i.op=4∨i.op=5∨i.op=6
 ·rw [if_pos c] at h;obtain⟨s1,h1,h2⟩:=bY h;obtain⟨s2,h3,h4⟩:=bY h2;obtain⟨a1,b1⟩:=pW h1 hk;obtain⟨a2,b2⟩:=pW h3 a1;obtain⟨a3,b3⟩:=lC h4 a2;exact⟨by rw [b3,b2,b1];exact hl,a3⟩
 rw [if_neg c] at h;clear c
 by_cases c:i.op=8∨i.op=19
 ·rw [if_pos c] at h;obtain⟨a1,b1⟩:=pW h hk;exact⟨by rw [b1];exact hl,a1⟩
 rw [if_neg c] at h;clear c
 by_cases c:i.op=9
 ·rw [if_pos c] at h;obtain⟨a,b⟩:=lC h hk;exact⟨by rw [b];exact hl,a⟩
 rw [if_neg c] at h;clear c
 by_cases c:i.op=10
 ·rw [if_pos c] at h;obtain⟨s1,h1,h2⟩:=bY h;obtain⟨a1,b1⟩:=pW h1 hk;obtain⟨a3,b3⟩:=lC h2 a1;exact⟨by rw [b3,b1];exact hl,a3⟩
 rw [if_neg c] at h;clear c
 by_cases c:i.op=11
 ·rw [if_pos c] at h;obtain⟨s1,h1,h2⟩:=bY h;obtain⟨a1,b1⟩:=pW h1 hk;obtain⟨a3,b3⟩:=pW h2 a1;exact⟨by rw [b3,b1];exact hl,a3⟩
 rw [if_neg c] at h;clear c
 by_cases c:i.op=12
 ·rw [if_pos c] at h;obtain⟨s1,h1,h2⟩:=bY h;obtain⟨s2,h3,h4⟩:=bY h2;obtain⟨a1,b1⟩:=PY _ h1 hk;obtain⟨a2,b2⟩:=pW h3 a1;obtain⟨a3,b3⟩:=lC h4 a2;exact⟨by rw [b3,b2,b1];exact hl,a3⟩
 rw [if_neg c] at h;clear c
 by_cases c:i.op=13
 ·rw [if_pos c] at h;obtain⟨a1,b1⟩:=pW h hk;exact⟨by rw [b1];exact hl,a1⟩
 rw [if_neg c] at h;clear c
 by_cases c:i.op=14
 ·rw [if_pos c] at h;obtain⟨⟨t,s1⟩,h1,rfl⟩:=Option.map_eq_some_iff.1 h;obtain⟨a1,b1⟩:=take_len h1 hk;exact⟨by dsimp only;rw [b1];exact hl,a1⟩
 rw [if_neg c] at h;clear c
 by_cases c:i.op=15
 ·rw [if_pos c] at h;obtain⟨⟨t,s1⟩,h1,h2⟩:=bY h;obtain⟨s2,h3,h4⟩:=bY h2;obtain⟨a1,b1⟩:=take_len h1 hk;obtain⟨a2,b2⟩:=lC h3 a1;obtain⟨a3,b3⟩:=lC h4 a2;exact⟨by rw [b3,b2,b1];exact hl,a3⟩
 rw [if_neg c] at h;clear c
 by_cases c:i.op=16
 ·rw [if_pos c] at h;obtain⟨a,b⟩:=lC h hk;exact⟨by rw [b];exact hl,a⟩
 rw [if_neg c] at h;clear c
 by_cases c:i.op=17
 ·rw [if_pos c] at h;obtain⟨s1,h1,h2⟩:=bY h;obtain⟨a1,b1⟩:=PX (m:=m) h1 hk;obtain⟨a3,b3⟩:=lC h2 a1;exact⟨by rw [b3,b1];exact hl,a3⟩
 rw [if_neg c] at h;clear c
 by_cases c:i.op=18
 ·rw [if_pos c] at h;obtain⟨a1,b1⟩:=PX (m:=m) h hk;exact⟨by rw [b1];exact hl,a1⟩
 rw [if_neg c] at h;clear c
 by_cases c:i.op=20
 ·rw [if_pos c] at h;obtain⟨⟨t,s1⟩,h1,h2⟩:=bY h;obtain⟨⟨u,s2⟩,h3,h4⟩:=bY h2;obtain⟨s3,h5,h6⟩:=bY h4;obtain⟨a1,b1⟩:=take_len h1 hk;obtain⟨a2,b2⟩:=take_len h3 a1;obtain⟨a3,b3⟩:=lC h5 a2;obtain⟨a4,b4⟩:=lC h6 a3;dsimp only at b2 b3;exact⟨by rw [b4,b3,b2,b1];exact hl,a4⟩
 rw [if_neg c] at h
 cases h
 exact⟨hl,hk⟩
theorem FI {pc:Nat}{s s':aH}(h:jy p m pc s=some s')(hl:s.loc.length=8)(hk:(s.stk.length:Int)≤m.stack):s'.loc.length=8∧(s'.stk.length:Int)≤m.stack:=by
 unfold jy at h;obtain⟨s1,h1,h2⟩:=bY h
 split at h2
 ·cases h2
 ·cases h2
  exact afC h1 hl hk
theorem NH {s:aJ}(h:fZ p m s){i:Nat}(hi:i<40)(hr:s.ra.getD i false=true):fZ p m { s with ra:=s.ra.set i false }∧mZ p { s with ra:=s.ra.set i false } + 1=mZ p s:=by
 refine⟨⟨h.l1,h.l2,by simpa using h.l3,h.ok⟩,?_⟩
 have:=(PK (i:=i) (f:=fun j=>if (s.ra.set i false).getD j false then 1 else 0) (g:=fun j=>if s.ra.getD j false then 1 else 0) (fun j hj=>by
  show (if (s.ra.set i false).getD j false then 1 else 0)=_
  rw [getD_set_ne hj]) 40).1 hi
 have e1:(if (s.ra.set i false).getD i false then 1 else 0)=0:=by rw [kF (by rw [h.l3];exact hi)];rfl
 have e2:(if s.ra.getD i false then 1 else 0)=1:=by rw [hr];rfl
 unfold mZ
 show mu p s*41+uX (fun j=>if (s.ra.set i false).getD j false then 1 else 0) 40+1=mu p s*41+uX (fun j=>if s.ra.getD j false then 1 else 0) 40
 omega
variable (hs : aU p p.length) (h6 : p.length ≤ 6) (h8 : m.stack ≤ 8) (TP : m.code.length ≤ 40) (hins : ∀ i ∈ m.code, bC p m i = true)
include hs h6 h8 TP hins
theorem adI {k:Nat}(hk:k<m.code.length){s s':aJ×Bool}(h:fZ p m s.1)(e:pG p m k s=some s'):fZ p m s'.1∧mZ p s'.1≤mZ p s.1∧(s'≠s→mZ p s'.1<mZ p s.1)∧(s'.2=s.2∨(s'.2=true∧mZ p s'.1<mZ p s.1)):=by
 unfold pG at e
 split at e
 ·rename_i hr;obtain⟨s1,h1,rfl⟩:=Option.map_eq_some_iff.1 e;obtain⟨c1,c2⟩:=NH h (show k<40 by omega) hr;unfold uK at h1;obtain⟨n,g1,g2⟩:=bY h1;have ho:=c1.ok k (by omega);obtain⟨n1,n2⟩:=FI g1 ho.1 ho.2;have hin:=AZ hk hins g1;obtain⟨r1,r2⟩:=Pj hs h6 h8 n1 n2 _ _ _ c1 (fun y hy=>by have:=hin y hy;omega) g2;exact⟨r1,by dsimp only;omega,fun _=>by dsimp only;omega,.inr ⟨rfl,by dsimp only;omega⟩⟩
 ·cases e
  exact⟨h,Nat.le_refl _,fun e=>absurd rfl e,.inl rfl⟩
theorem ab4 {s:aJ}(h:fZ p m s):∀(k:Nat) (s':aJ×Bool),k≤m.code.length→lQ p m s k=some s'→fZ p m s'.1∧mZ p s'.1≤mZ p s∧(s'.2=true→mZ p s'.1<mZ p s)∧(s'.2=false→s'.1=s)
 | 0, s', _, e => by cases e; exact ⟨h, Nat.le_refl _, fun e => (by cases e), fun _ => rfl⟩
 | k + 1, s', hk, e => by
  unfold lQ at e;obtain⟨s1,e1,e2⟩:=bY e;obtain⟨a1,a2,a3,a4⟩:=ab4 h k s1 (by omega) e1;obtain⟨b1,b2,b3,b4⟩:=adI hs h6 h8 TP hins (by omega) a1 e2;refine⟨b1,by omega,fun ht=>?_,fun hf=>?_⟩
  ·rcases b4 with b4 | ⟨_,b4⟩
   ·have:=a3 (by rw [←b4];exact ht);omega
   ·omega
  ·rcases b4 with b4 | ⟨b4,_⟩
   ·rw [hf] at b4;have e0:=a4 b4.symm
    apply Classical.byContradiction
    intro hc;have hne:s'≠s1:=fun e=>hc (by rw [e];exact e0);unfold pG at e2
    split at e2
    ·obtain⟨s2,_,rfl⟩:=Option.map_eq_some_iff.1 e2
     cases hf
    ·cases e2
     exact hne rfl
   ·rw [hf] at b4;cases b4
theorem acy:∀(n:Nat) (s:aJ),fZ p m s→mZ p s<n→∃r,jC p m n s=some r
 | 0, s, _, h => by omega
 | n + 1, s, h, hn => by
  unfold jC
  cases e:lQ p m s m.code.length with
  | none => exact ⟨none, rfl⟩
  | some x =>
   obtain⟨s',b⟩:=x;obtain⟨a1,a2,a3,a4⟩:=ab4 hs h6 h8 TP hins h _ _ (Nat.le_refl _) e
   cases b with
   | true =>
    have:=a3 rfl;exact acy n s' a1 (by dsimp only at this;omega)
   | false => exact ⟨some s', rfl⟩
end
def jH (p:List aj):List Int→List Int→Prop
 | [], [] => True
 | a :: l, b :: u => bf p a b = true ∧ jH p l u
 | _, _ => False
theorem jH.len {p:List aj} :∀ {l u:List Int},jH p l u→l.length=u.length
 | [], [], _ => rfl
 | _ :: _, _ :: _, h => by simp only [List.length_cons]; rw [jH.len h.2]
 | [], _ :: _, h => h.elim
 | _ :: _, [], h => h.elim
theorem jH.app {p:List aj} :∀ {l u l' u':List Int},jH p l u→jH p l' u'→jH p (l++l') (u++u')
 | [], [], _, _, _, h => h
 | _ :: _, _ :: _, _, _, h, h' => ⟨h.1, jH.app h.2 h'⟩
 | [], _ :: _, _, _, h, _ => h.elim
 | _ :: _, [], _, _, h, _ => h.elim
theorem jH.snoc {p:List aj} :∀ {u l:List Int} {t:Int},jH p l (u++ [t])→∃r x,l=r++ [x]∧jH p r u∧bf p x t=true
 | [], [x], _, h => ⟨[], x, rfl, trivial, h.1⟩
 | [], [], _, h => h.elim
 | [], _ :: _ :: _, _, h => h.2.elim
 | b :: u, [], _, h => h.elim
 | b :: u, a :: l, t, h => by
  obtain⟨r,x,rfl,h1,h2⟩:=jH.snoc (u:=u) h.2;exact⟨a::r,x,rfl,⟨h.1,h1⟩,h2⟩
theorem jH.iff {p:List aj} :∀ {l u:List Int},l.length=u.length→(jH p l u↔∀i,i<l.length→bf p (l.getD i 0) (u.getD i 0)=true)
 | [], [], _ => ⟨fun _ i h => by simp at h, fun _ => trivial⟩
 | a :: l, b :: u, h => by
  show (bf p a b=true∧jH p l u)↔_
  rw [jH.iff (by simpa using h)]
  constructor
  ·rintro ⟨h1,h2⟩ i hi
   cases i with
   | zero => exact h1
   | succ i => exact h2 i (by simpa using hi)
  ·intro h;exact⟨h 0 (by simp),fun i hi=>h (i+1) (by simpa using hi)⟩
 | [], _ :: _, h => by simp at h
 | _ :: _, [], h => by simp at h
structure dU (p:List aj)(s t:aH):Prop where
 l:∀i,i<8→bf p (s.loc.getD i 0) (t.loc.getD i 0)=true
 k:jH p s.stk t.stk
 sl:s.loc.length=8
 tl:t.loc.length=8
theorem dU.iff {p:List aj}{s t:aH}(hs:s.loc.length=8)(ht:t.loc.length=8):dU p s t↔qH p s t:=
 ⟨fun h=>⟨h.k.len,h.l,(jH.iff h.k.len).1 h.k⟩,fun h=>⟨h.l,(jH.iff h.n).2 h.k,hs,ht⟩⟩
theorem take_mk {s:aH}{r:List Int}{x:Int}(h:s.stk=r++ [x]):fA s=some (x,{ s with stk:=r }):=by
 unfold fA;rw [h,List.getLast?_concat,List.dropLast_concat];rfl
section
variable {p : List aj} {m : aC} {s t t' : aH}
theorem FX (h:dU p s t){u:Int}(e:fA t=some (u,t')):∃u' s',fA s=some (u',s')∧dU p s' t'∧bf p u' u=true:=by
 obtain⟨h1,h2⟩:=LX e;have hk:=h.k;rw [h1] at hk;obtain⟨r,x,hr,h3,h4⟩:=hk.snoc;exact⟨x,{ s with stk:=r },take_mk hr,⟨fun i hi=>by rw [h2];exact h.l i hi,h3,h.sl,by rw [h2];exact h.tl⟩,h4⟩
theorem Bv (hs:aU p p.length)(h:dU p s t){x:Int}(e:dw p x t=some t'):∃s',dw p x s=some s'∧dU p s' t':=by
 unfold dw at e;obtain⟨⟨u,t1⟩,e1,e2⟩:=bY e;obtain⟨u',s',h1,h2,h3⟩:=FX h e1;dsimp only at e2
 split at e2
 ·rename_i hb
  cases e2
  refine⟨s',?_,h2⟩;unfold dw;rw [h1,Option.bind_some,if_pos (RG hs h3 hb)]
 ·cases e2
theorem ah8 {u u':Int}(h:bf p u' u=true)(hu:qC u=true):qC u'=true:=by
 unfold qC at hu ⊢;rw [zS] at h;simp only [Bool.or_eq_true,beq_iff_eq,decide_eq_true_eq] at hu ⊢;omega
theorem acN (h:dU p s t)(e:jX t=some t'):∃s',jX s=some s'∧dU p s' t':=by
 unfold jX at e;obtain⟨⟨u,t1⟩,e1,e2⟩:=bY e;obtain⟨u',s',h1,h2,h3⟩:=FX h e1;dsimp only at e2
 split at e2
 ·rename_i hb
  cases e2
  refine⟨s',?_,h2⟩;unfold jX;rw [h1,Option.bind_some,if_pos (ah8 h3 hb)]
 ·cases e2
theorem vZ (h:dU p s t){x x':Int}(hx:bf p x' x=true)(e:bM m x t=some t'):∃s',bM m x' s=some s'∧dU p s' t':=by
 obtain⟨h1,h2,h3⟩:=Uw e;refine⟨{ s with stk:=s.stk++ [x'] },?_,⟨fun i hi=>by rw [h3];exact h.l i hi,by rw [h2];exact h.k.app ⟨hx,trivial⟩,h.sl,by rw [h3];exact h.tl⟩⟩;unfold bM;rw [h.k.len,if_neg h1]
theorem acT (hs:aU p p.length):∀(l:List Int) {s t t':aH},dU p s t→fU p l t=some t'→∃s',fU p l s=some s'∧dU p s' t'
 | [], s, t, t', h, e => by cases e; exact ⟨s, rfl, h⟩
 | x :: l, s, t, t', h, e => by
  unfold fU at e;obtain⟨t1,e1,e2⟩:=bY e;obtain⟨s1,f1,f2⟩:=Bv hs h e1;obtain⟨s2,f3,f4⟩:=acT hs l f2 e2;refine⟨s2,?_,f4⟩;unfold fU;rw [f1,Option.bind_some,f3]
theorem aa5 {u u':Int}(h:bf p u' u=true){x:Int}(e:lM u=some x):∃x',lM u'=some x'∧bf p x' x=true:=by
 obtain⟨rfl,h2⟩:=Uu e;refine⟨u',?_,h⟩;unfold lM;rw [if_neg];rw [zS] at h;omega
theorem afD (hs:aU p p.length){i:eF}(hloc:(i.op=1∨i.op=2)→i.a.toNat<8)(h:dU p s t)(e:aY p m i t=some t'):∃s',aY p m i s=some s'∧dU p s' t':=by
 unfold aY at e ⊢
 by_cases c:i.op=0
 ·rw [if_pos c] at e ⊢;exact vZ h (wQ _ _) e
 rw [if_neg c] at e ⊢;clear c
 by_cases c:i.op=1
 ·rw [if_pos c] at e ⊢;obtain⟨x,e1,e2⟩:=bY e;obtain⟨x',f1,f2⟩:=aa5 (h.l i.a.toNat (hloc (.inl c))) e1;rw [f1,Option.bind_some];exact vZ h f2 e2
 rw [if_neg c] at e ⊢
 by_cases c2:i.op=2
 ·rw [if_pos c2] at e ⊢;obtain⟨⟨u,t1⟩,e1,e2⟩:=bY e;obtain⟨u',s',h1,h2,h3⟩:=FX h e1;obtain⟨x,e3,rfl⟩:=Option.map_eq_some_iff.1 e2;obtain⟨x',f1,f2⟩:=aa5 h3 e3;rw [h1,Option.bind_some];dsimp only;rw [f1];refine⟨_,rfl,⟨fun j hj=>?_,h2.k,by dsimp only;rw [List.length_set];exact h2.sl,by dsimp only;rw [List.length_set];exact h2.tl⟩⟩;dsimp only
  by_cases ej:j=i.a.toNat
  ·subst ej;rw [kF (by rw [h2.sl];exact hj),kF (by rw [h2.tl];exact hj)];exact f2
  ·rw [getD_set_ne ej,getD_set_ne ej];exact h2.l j hj
 rw [if_neg c2] at e ⊢;clear c c2
 by_cases c:i.op=3∨i.op=4∨i.op=5∨i.op=6
 ·rw [if_pos c] at e ⊢;obtain⟨t1,e1,e2⟩:=bY e;obtain⟨t2,e3,e4⟩:=bY e2;obtain⟨s1,f1,g1⟩:=Bv hs h e1;obtain⟨s2,f2,g2⟩:=Bv hs g1 e3;rw [f1,Option.bind_some,f2,Option.bind_some];exact vZ g2 (wQ _ _) e4
 rw [if_neg c] at e ⊢;clear c
 by_cases c:i.op=8∨i.op=19
 ·rw [if_pos c] at e ⊢;exact Bv hs h e
 rw [if_neg c] at e ⊢;clear c
 by_cases c:i.op=9
 ·rw [if_pos c] at e ⊢;exact vZ h (wQ _ _) e
 rw [if_neg c] at e ⊢;clear c
 by_cases c:i.op=10
 ·rw [if_pos c] at e ⊢;obtain⟨t1,e1,e2⟩:=bY e;obtain⟨s1,f1,g1⟩:=Bv hs h e1;rw [f1,Option.bind_some];exact vZ g1 (wQ _ _) e2
 rw [if_neg c] at e ⊢;clear c
 by_cases c:i.op=11
 ·rw [if_pos c] at e ⊢;obtain⟨t1,e1,e2⟩:=bY e;obtain⟨s1,f1,g1⟩:=Bv hs h e1;rw [f1,Option.bind_some];exact Bv hs g1 e2
 rw [if_neg c] at e ⊢;clear c
 by_cases c:i.op=12
 ·rw [if_pos c] at e ⊢;obtain⟨t1,e1,e2⟩:=bY e;obtain⟨t2,e3,e4⟩:=bY e2;obtain⟨s1,f1,g1⟩:=acT hs _ h e1;obtain⟨s2,f2,g2⟩:=Bv hs g1 e3;rw [f1,Option.bind_some,f2,Option.bind_some];exact vZ g2 (wQ _ _) e4
 rw [if_neg c] at e ⊢;clear c
 by_cases c:i.op=13
 ·rw [if_pos c] at e ⊢;exact Bv hs h e
 rw [if_neg c] at e ⊢;clear c
 by_cases c:i.op=14
 ·rw [if_pos c] at e ⊢;obtain⟨⟨u,t1⟩,e1,rfl⟩:=Option.map_eq_some_iff.1 e;obtain⟨u',s',h1,h2,h3⟩:=FX h e1;rw [h1];exact⟨s',rfl,h2⟩
 rw [if_neg c] at e ⊢;clear c
 by_cases c:i.op=15
 ·rw [if_pos c] at e ⊢;obtain⟨⟨u,t1⟩,e1,e2⟩:=bY e;obtain⟨t2,e3,e4⟩:=bY e2;obtain⟨u',s',h1,h2,h3⟩:=FX h e1;obtain⟨s2,f2,g2⟩:=vZ h2 h3 e3;rw [h1,Option.bind_some];dsimp only;rw [f2,Option.bind_some];exact vZ g2 h3 e4
 rw [if_neg c] at e ⊢;clear c
 by_cases c:i.op=16
 ·rw [if_pos c] at e ⊢;exact vZ h (wQ _ _) e
 rw [if_neg c] at e ⊢;clear c
 by_cases c:i.op=17
 ·rw [if_pos c] at e ⊢;obtain⟨t1,e1,e2⟩:=bY e;obtain⟨s1,f1,g1⟩:=acN h e1;rw [f1,Option.bind_some];exact vZ g1 (wQ _ _) e2
 rw [if_neg c] at e ⊢;clear c
 by_cases c:i.op=18
 ·rw [if_pos c] at e ⊢;exact acN h e
 rw [if_neg c] at e ⊢;clear c
 by_cases c:i.op=20
 ·rw [if_pos c] at e ⊢;obtain⟨⟨u,t1⟩,e1,e2⟩:=bY e;obtain⟨⟨v,t2⟩,e3,e4⟩:=bY e2;obtain⟨t3,e5,e6⟩:=bY e4;obtain⟨u',s1,h1,h2,h3⟩:=FX h e1;obtain⟨v',s2,k1,k2,k3⟩:=FX h2 e3;obtain⟨s3,f2,g2⟩:=vZ k2 h3 e5;rw [h1,Option.bind_some];dsimp only;rw [k1,Option.bind_some];dsimp only;rw [f2,Option.bind_some];exact vZ g2 k3 e6
 rw [if_neg c] at e ⊢
 cases e
 exact⟨s,rfl,h⟩
theorem abv (hs:aU p p.length)(hins:∀i∈m.code,bC p m i=true)(AA:m.locals≤8){pc:Nat}(hpc:pc<m.code.length)(h:dU p s t)(e:jy p m pc t=some t'):∃s',jy p m pc s=some s'∧dU p s' t':=by
 unfold jy at e ⊢;obtain⟨t1,e1,e2⟩:=bY e
 have hmem:bH m pc∈m.code:=by
  unfold bH;rw [List.getElem?_eq_getElem hpc];exact List.getElem_mem _
 have J:=AO (p:=p) (m:=m) (op:=(bH m pc).op) (a:=(bH m pc).a) (b:=(bH m pc).b) (hins _ hmem);obtain⟨s1,f1,g1⟩:=afD hs (fun ho=>by have:=J.loc ho;omega) h e1;rw [f1,Option.bind_some]
 split at e2
 ·cases e2
 ·rename_i hne
  cases e2
  rw [if_neg hne];exact⟨s1,rfl,g1⟩
end
def gI (p:List aj)(s:aH):Prop:=(∀x∈s.loc,bT p.length x)∧∀x∈s.stk,bT p.length x
theorem L8 {n:Nat}{l:List Int}(h:∀x∈l,bT n x)(i:Nat):bT n (l.getD i 0):=by
 rw [List.getD_eq_getElem?_getD]
 cases e:l[i]? with
 | none => exact ⟨by simp, by simp; omega⟩
 | some x => exact h x (List.mem_of_getElem? e)
theorem gI.acI {p:List aj}{s:aH}(h:gI p s):XA p s:=
 ⟨fun i _ _=>by have:=(L8 h.1 i).2;omega,fun i _ _=>by have:=(L8 h.2 i).2;omega⟩
section
variable {p : List aj} {m : aC} {s s' : aH}
theorem LY (h:gI p s){u:Int}(e:fA s=some (u,s')):gI p s'∧bT p.length u:=by
 obtain⟨h1,h2⟩:=LX e;refine⟨⟨by rw [h2];exact h.1,fun x hx=>h.2 x (by rw [h1];simp [hx])⟩,h.2 u (by rw [h1];simp)⟩
theorem Bz (h:gI p s){x:Int}(e:dw p x s=some s'):gI p s':=by
 obtain⟨u,h1,h2,_⟩:=acP e;exact⟨by rw [h2];exact h.1,fun x hx=>h.2 x (by rw [h1];simp [hx])⟩
theorem acO (h:gI p s)(e:jX s=some s'):gI p s':=by
 obtain⟨u,h1,h2,_⟩:=acM e;exact⟨by rw [h2];exact h.1,fun x hx=>h.2 x (by rw [h1];simp [hx])⟩
theorem wu (h:gI p s){x:Int}(hx:bT p.length x)(e:bM m x s=some s'):gI p s':=by
 obtain⟨_,h2,h3⟩:=Uw e;refine⟨by rw [h3];exact h.1,fun y hy=>?_⟩;rw [h2] at hy
 rcases List.mem_append.1 hy with hy | hy
 ·exact h.2 y hy
 ·obtain rfl:=List.mem_singleton.1 hy;exact hx
theorem acU:∀(l:List Int) {s s':aH},gI p s→fU p l s=some s'→gI p s'
 | [], s, s', h, e => by cases e; exact h
 | x :: l, s, s', h, e => by
  unfold fU at e;obtain⟨s1,e1,e2⟩:=bY e;exact acU l (Bz h e1) e2
theorem YN (G:Good p){i:eF}(J:Gu p m i.op i.a i.b)(h:gI p s)(e:aY p m i s=some s'):gI p s':=by
 have z0:bT p.length 0:=⟨by omega,by omega⟩;have z1:bT p.length 1:=⟨by omega,by omega⟩;unfold aY at e
 by_cases c:i.op=0
 ·rw [if_pos c] at e;exact wu h z0 e
 rw [if_neg c] at e;clear c
 by_cases c:i.op=1
 ·rw [if_pos c] at e;obtain⟨t,e1,e2⟩:=bY e;obtain⟨rfl,_⟩:=Uu e1;exact wu h (L8 h.1 _) e2
 rw [if_neg c] at e;clear c
 by_cases c:i.op=2
 ·rw [if_pos c] at e;obtain⟨⟨t,s1⟩,e1,e2⟩:=bY e;obtain⟨h1,h2⟩:=LY h e1;obtain⟨u,e3,rfl⟩:=Option.map_eq_some_iff.1 e2;obtain⟨rfl,_⟩:=Uu e3;refine⟨fun x hx=>?_,h1.2⟩
  rcases List.mem_or_eq_of_mem_set hx with hx | rfl
  ·exact h1.1 x hx
  ·exact h2
 rw [if_neg c] at e;clear c
 by_cases c:i.op=3∨i.op=4∨i.op=5∨i.op=6
 ·rw [if_pos c] at e;obtain⟨s1,e1,e2⟩:=bY e;obtain⟨s2,e3,e4⟩:=bY e2;exact wu (Bz (Bz h e1) e3) z0 e4
 rw [if_neg c] at e;clear c
 by_cases c:i.op=8∨i.op=19
 ·rw [if_pos c] at e;exact Bz h e
 rw [if_neg c] at e;clear c
 by_cases c:i.op=9
 ·rw [if_pos c] at e;have:=J.cls (by omega);exact wu h ⟨by omega,by omega⟩ e
 rw [if_neg c] at e;clear c
 by_cases c:i.op=10
 ·rw [if_pos c] at e;obtain⟨s1,e1,e2⟩:=bY e;have hc:=J.cls (by omega);have hf:=J.pJ (by omega);obtain⟨j,hj⟩:=Int.eq_ofNat_of_zero_le hf.1;refine wu (Bz h e1) ?_ e2;rw [hj];exact G.pJ i.a j hc.1 hc.2 (by omega)
 rw [if_neg c] at e;clear c
 by_cases c:i.op=11
 ·rw [if_pos c] at e;obtain⟨s1,e1,e2⟩:=bY e;exact Bz (Bz h e1) e2
 rw [if_neg c] at e;clear c
 by_cases c:i.op=12
 ·rw [if_pos c] at e;obtain⟨s1,e1,e2⟩:=bY e;obtain⟨s2,e3,e4⟩:=bY e2;have hc:=J.cls (by omega);exact wu (Bz (acU _ h e1) e3) (G.arg i.a i.b hc.1 hc.2 (J.call c)).2 e4
 rw [if_neg c] at e;clear c
 by_cases c:i.op=13
 ·rw [if_pos c] at e;exact Bz h e
 rw [if_neg c] at e;clear c
 by_cases c:i.op=14
 ·rw [if_pos c] at e;obtain⟨⟨t,s1⟩,e1,rfl⟩:=Option.map_eq_some_iff.1 e;exact (LY h e1).1
 rw [if_neg c] at e;clear c
 by_cases c:i.op=15
 ·rw [if_pos c] at e;obtain⟨⟨t,s1⟩,e1,e2⟩:=bY e;obtain⟨s2,e3,e4⟩:=bY e2;obtain⟨h1,h2⟩:=LY h e1;exact wu (wu h1 h2 e3) h2 e4
 rw [if_neg c] at e;clear c
 by_cases c:i.op=16
 ·rw [if_pos c] at e;exact wu h z1 e
 rw [if_neg c] at e;clear c
 by_cases c:i.op=17
 ·rw [if_pos c] at e;obtain⟨s1,e1,e2⟩:=bY e;have:=J.cls (by omega);exact wu (acO h e1) ⟨by omega,by omega⟩ e2
 rw [if_neg c] at e;clear c
 by_cases c:i.op=18
 ·rw [if_pos c] at e;exact acO h e
 rw [if_neg c] at e;clear c
 by_cases c:i.op=20
 ·rw [if_pos c] at e;obtain⟨⟨t,s1⟩,e1,e2⟩:=bY e;obtain⟨⟨u,s2⟩,e3,e4⟩:=bY e2;obtain⟨s3,e5,e6⟩:=bY e4;obtain⟨h1,h2⟩:=LY h e1;obtain⟨h3,h4⟩:=LY h1 e3;exact wu (wu h3 h2 e5) h4 e6
 rw [if_neg c] at e
 cases e
 exact h
theorem OW (G:Good p)(hins:∀i∈m.code,bC p m i=true){pc:Nat}(hpc:pc<m.code.length)(h:gI p s)(e:jy p m pc s=some s'):gI p s':=by
 unfold jy at e;obtain⟨t1,e1,e2⟩:=bY e
 have hmem:bH m pc∈m.code:=by
  unfold bH;rw [List.getElem?_eq_getElem hpc];exact List.getElem_mem _
 split at e2
 ·cases e2
 ·cases e2
  exact YN G (AO (p:=p) (m:=m) (op:=(bH m pc).op) (a:=(bH m pc).a) (b:=(bH m pc).b) (hins _ hmem)) h e1
end
structure EC (p:List aj)(c:Int)(m:aC)(σ :Nat→Option aH):Prop where
 wO:∃s,σ 0=some s∧dU p (dO c m) s
 go:∀i s,i<m.code.length→σ i=some s→∃n,jy p m i s=some n∧∀y∈gy (bH m i) i,∃t,σ y.1.toNat=some t∧dU p n t
structure mP (p:List aj)(σ :Nat→Option aH)(s:aJ):Prop where
 le:∀i,i<40→s.re.getD i false=true→∃t,σ i=some t∧dU p (s.st.getD i zeroS) t
 ty:∀i,i<40→s.re.getD i false=true→gI p (s.st.getD i zeroS)
section
variable {p : List aj} {m : aC} {c : Int} {σ : Nat → Option aH}
theorem Um {s t:aH}(hl:s.loc.length=8)(_hs:gI p s)(ht:gI p t):gI p (jh p s t):=by
 have hj:∀a b:Int,bT p.length b→bT p.length (dJ p a b):=fun a b hb=>by
  unfold dJ
  split
  ·exact hb
  ·split
   ·rcases Jc p b (chainOf p (a-3)) with ⟨h1,_⟩ | ⟨pre,d,post,h1,h2,_,_⟩
    ·rw [h1];exact⟨by omega,by omega⟩
    ·rw [h2];have hd:gY p (a-3) (d:Int)=true:=NK.2 (by rw [h1];simp)
     have hlt:d<p.length:=by
      have hm:d∈chainOf p (a-3):=by rw [h1];simp
      unfold chainOf at hm
      have key:∀(f:Nat) (c:Int) (x:Nat),x∈chain p f c→x<p.length:=by
       intro f
       induction f with
       | zero => intro c x h; cases h
       | succ f ih =>
        intro c x h;unfold chain at h
        split at h
        ·cases h
        ·split at h
         ·cases h
         ·rename_i y hy
          rcases List.mem_cons.1 h with rfl | h
          ·exact (List.getElem?_eq_some_iff.1 hy).1
          ·exact ih _ _ h
      exact key _ _ _ hm
     exact⟨by omega,by omega⟩
   ·exact⟨by omega,by omega⟩
 obtain⟨j1,j2⟩:=vY p s t;refine⟨fun x hx=>?_,fun x hx=>?_⟩
 ·obtain⟨i,hi,rfl⟩:=List.getElem_of_mem hx;have:(jh p s t).loc[i]=(jh p s t).loc.getD i 0:=by rw [List.getD_eq_getElem?_getD,List.getElem?_eq_getElem hi];rfl
  rw [this,Ik p s t hl (by omega)];exact hj _ _ (L8 ht.1 i)
 ·obtain⟨i,hi,rfl⟩:=List.getElem_of_mem hx;have:(jh p s t).stk[i]=(jh p s t).stk.getD i 0:=by rw [List.getD_eq_getElem?_getD,List.getElem?_eq_getElem hi];rfl
  rw [this,Lh p s t (by omega)];exact hj _ _ (L8 ht.2 i)
theorem dU.trans (hs:aU p p.length){s t u:aH}(h:dU p s t)(h':dU p t u):dU p s u:=
 (dU.iff h.sl h'.tl).2 (((dU.iff h.sl h.tl).1 h).trans hs ((dU.iff h'.sl h'.tl).1 h'))
theorem dU.refl {s:aH}(h:s.loc.length=8):dU p s s:=(dU.iff h h).2 (qH.refl p s)
theorem mP.put {s:aJ}(O:fZ p m s)(B:mP p σ s){i:Nat}(hi:i<40){x t:aH}(hσ : σ i=some t)(hx:dU p x t)(hT:gI p x):mP p σ (dK s i x):=by
 refine⟨fun j hj hr=>?_,fun j hj hr=>?_⟩
 ·by_cases e:j=i
  ·subst e;refine⟨t,hσ,?_⟩
   show dU p ((s.st.set j x).getD j zeroS) t
   rw [kF (by rw [O.l1];exact hj)];exact hx
  ·have hr':(s.re.set i true).getD j false=true:=hr;rw [getD_set_ne e] at hr'
   show ∃t,σ j=some t∧dU p ((s.st.set i x).getD j zeroS) t
   rw [getD_set_ne e];exact B.le j hj hr'
 ·by_cases e:j=i
  ·subst e
   show gI p ((s.st.set j x).getD j zeroS)
   rw [kF (by rw [O.l1];exact hj)];exact hT
  ·have hr':(s.re.set i true).getD j false=true:=hr;rw [getD_set_ne e] at hr'
   show gI p ((s.st.set i x).getD j zeroS)
   rw [getD_set_ne e];exact B.ty j hj hr'
theorem aiS (hs:aU p p.length){s:aJ}(O:fZ p m s)(B:mP p σ s){i:Nat}(hi:i<40){g t:aH}(hσ : σ i=some t)(hg:dU p g t)(hT:gI p g):∃s',ji p i g s=some s'∧mP p σ s':=by
 unfold ji
 cases hr:s.re.getD i false with
 | false => exact ⟨_, rfl, B.put O hi hσ hg hT⟩
 | true =>
  rw [if_pos rfl];obtain⟨t0,h1,h2⟩:=B.le i hi hr;rw [hσ] at h1
  cases h1
  have ho:=O.ok i hi
  cases hb:jw p g (s.st.getD i zeroS) with
  | true => exact ⟨s, rfl, B⟩
  | false =>
   have hn:(s.st.getD i zeroS).stk.length=g.stk.length:=by rw [h2.k.len,hg.k.len]
   rw [if_neg (by simp),if_pos hn];refine⟨_,rfl,B.put O hi hσ ?_ (Um ho.1 (B.ty i hi hr) hT)⟩;have hj:=vY p (s.st.getD i zeroS) g;exact (dU.iff (by rw [hj.2];exact ho.1) h2.tl).2 (aaZ hs ho.1 (B.ty i hi hr).acI ((dU.iff ho.1 h2.tl).1 h2) ((dU.iff hg.sl hg.tl).1 hg))
theorem UY (hs:aU p p.length)(h6:p.length≤6)(h8:m.stack≤8){n:aH}(hl:n.loc.length=8)(hk:(n.stk.length:Int)≤m.stack)(hT:gI p n):∀(l:List (Int×Bool)) (s:aJ),fZ p m s→mP p σ s→(∀y∈l,y.1.toNat<40∧∃t,σ y.1.toNat=some t∧dU p n t)→∃s',lF p n l s=some s'∧mP p σ s'∧fZ p m s'
 | [], s, O, B, _ => ⟨s, rfl, B, O⟩
 | y :: l, s, O, B, hy => by
  obtain⟨h1,t,h2,h3⟩:=hy y (by simp);obtain⟨s1,e1,B1⟩:=aiS hs O B h1 h2 h3 hT;obtain⟨O1,_⟩:=LM hs h6 h8 O h1 hl hk e1;obtain⟨s2,e2,B2,O2⟩:=UY hs h6 h8 hl hk hT l s1 O1 B1 (fun z hz=>hy z (by simp [hz]));refine⟨s2,?_,B2,O2⟩;unfold lF;rw [e1,Option.bind_some,e2]
theorem adH (hF:bD p=0)(hz:bn p≤4194304){k:Int}(hown:bQ p c k=some m)(S:EC p c m σ){i:Nat}(hi:i<m.code.length){s:aJ×Bool}(O:fZ p m s.1)(B:mP p σ s.1)(hra:∀j,s.1.ra.getD j false=true→s.1.re.getD j false=true):∃s',pG p m i s=some s'∧mP p σ s'.1∧fZ p m s'.1:=by
 have hs:=wX hF;have G:=CW hF hz;obtain⟨_,_,M⟩:=qY hF hown;have h6:=(qX hF).1.2;have dD:=M.c40;unfold pG
 split
 ·rename_i hr;obtain⟨c1,_⟩:=NH O (show i<40 by omega) hr;have B1:mP p σ { s.1 with ra:=s.1.ra.set i false } :=⟨B.le,B.ty⟩;have hre:=hra i hr;obtain⟨t,h1,h2⟩:=B.le i (by omega) hre;obtain⟨n',g1,g2⟩:=S.go i t hi h1;obtain⟨n,f1,f2⟩:=abv hs M.ins M.ok.loc hi h2 g1;have ho:=O.ok i (by omega);obtain⟨n1,n2⟩:=FI f1 ho.1 ho.2;have hin:=AZ hi M.ins f1;have hT:=OW G M.ins hi (B.ty i (by omega) hre) f1
  obtain⟨s',e1,B2,O2⟩:=UY (σ := σ) hs h6 M.ok.stk n1 n2 hT (gy (bH m i) i) _ c1 B1 (fun y hy=>by
   obtain⟨t',k1,k2⟩:=g2 y hy
   exact⟨by have:=hin y hy;omega,t',k1,f2.trans hs k2⟩)
  refine⟨(s',true),?_,B2,O2⟩;unfold uK
  show ((jy p m i (s.1.st.getD i zeroS)).bind _).map _=_
  rw [f1,Option.bind_some,e1]
  rfl
 ·exact⟨s,rfl,B,O⟩
end
structure Up (p:List aj)(s s':aJ):Prop where
 re:∀i,i<40→s.re.getD i false=true→s'.re.getD i false=true
 le:∀i,i<40→s.re.getD i false=true→dU p (s.st.getD i zeroS) (s'.st.getD i zeroS)
 ch:∀i,i<40→s'.re.getD i false=true→s'.ra.getD i false=true∨(s.re.getD i false=true∧s'.st.getD i zeroS=s.st.getD i zeroS∧s'.ra.getD i false=s.ra.getD i false)
 ra:∀i,i<40→s'.ra.getD i false=true→s'.re.getD i false=true∨s.ra.getD i false=true
section
variable {p : List aj} {m : aC}
theorem Up.refl {s:aJ}(O:fZ p m s):Up p s s:=⟨fun _ _ h=>h,fun i hi _=>dU.refl (O.ok i hi).1,fun _ _ h=>.inr ⟨h,rfl,rfl⟩,fun _ _ h=>.inr h⟩
theorem Up.trans (hs:aU p p.length){s t u:aJ}(h:Up p s t)(h':Up p t u):Up p s u:=by
 refine⟨fun i hi hr=>h'.re i hi (h.re i hi hr),fun i hi hr=>(h.le i hi hr).trans hs (h'.le i hi (h.re i hi hr)),fun i hi hr=>?_,fun i hi hr=>?_⟩
 ·rcases h'.ch i hi hr with e | ⟨e1,e2,e3⟩
  ·exact .inl e
  ·rcases h.ch i hi e1 with e | ⟨f1,f2,f3⟩
   ·exact .inl (by rw [e3];exact e)
   ·exact .inr ⟨f1,e2.trans f2,e3.trans f3⟩
 ·rcases h'.ra i hi hr with e | e
  ·exact .inl e
  ·rcases h.ra i hi e with e | e
   ·exact .inl (h'.re i hi e)
   ·exact .inr e
theorem abI {s:aJ}(O:fZ p m s){i:Nat}(hi:i<40){x:aH}(hx:s.re.getD i false=true→dU p (s.st.getD i zeroS) x):Up p s (dK s i x):=by
 have a1:∀j,(dK s i x).re.getD j false=(s.re.set i true).getD j false:=fun _=>rfl;have a2:∀j,(dK s i x).st.getD j zeroS=(s.st.set i x).getD j zeroS:=fun _=>rfl;have a3:∀j,(dK s i x).ra.getD j false=(s.ra.set i true).getD j false:=fun _=>rfl;refine⟨fun j hj hr=>?_,fun j hj hr=>?_,fun j hj hr=>?_,fun j hj hr=>?_⟩
 ·rw [a1]
  by_cases e:j=i
  ·subst e;rw [kF (by rw [O.l2];exact hj)]
  ·rw [getD_set_ne e];exact hr
 ·rw [a2]
  by_cases e:j=i
  ·subst e;rw [kF (by rw [O.l1];exact hj)];exact hx hr
  ·rw [getD_set_ne e];exact dU.refl (O.ok j hj).1
 ·rw [a1] at hr;rw [a2,a3]
  by_cases e:j=i
  ·subst e;left;rw [kF (by rw [O.l3];exact hj)]
  ·rw [getD_set_ne e] at hr
   right
   rw [getD_set_ne e,getD_set_ne e];exact⟨hr,rfl,rfl⟩
 ·rw [a3] at hr;rw [a1]
  by_cases e:j=i
  ·subst e;left;rw [kF (by rw [O.l2];exact hj)]
  ·rw [getD_set_ne e] at hr;exact .inr hr
theorem aiV (_hs:aU p p.length){s s':aJ}(O:fZ p m s){i:Nat}(hi:i<40){g:aH}(hl:g.loc.length=8)(e:ji p i g s=some s'):Up p s s'∧s'.re.getD i false=true∧dU p g (s'.st.getD i zeroS):=by
 have ho:=O.ok i hi
 have b1:∀x,(dK s i x).re.getD i false=true:=fun x=>by
  show (s.re.set i true).getD i false=true
  rw [kF (by rw [O.l2];exact hi)]
 have b2:∀x,(dK s i x).st.getD i zeroS=x:=fun x=>by
  show (s.st.set i x).getD i zeroS=x
  rw [kF (by rw [O.l1];exact hi)]
 unfold ji at e
 split at e
 ·rename_i hr
  split at e
  ·rename_i hb
   cases e
   exact⟨Up.refl O,hr,(dU.iff hl ho.1).2 ((le_iff hl ho.1).1 hb)⟩
  ·split at e
   ·rename_i hn
    cases e
    have hj:=(vY p (s.st.getD i zeroS) g).2;refine⟨abI O hi (fun _=>(dU.iff ho.1 (by rw [hj];exact ho.1)).2 (aa1 ho.1)),b1 _,?_⟩;rw [b2];exact (dU.iff hl (by rw [hj];exact ho.1)).2 (Ur ho.1 hn)
   ·cases e
 ·rename_i hr
  cases e
  refine⟨abI O hi (fun h=>absurd h hr),b1 _,?_⟩;rw [b2];exact dU.refl hl
theorem UZ (hs:aU p p.length)(h6:p.length≤6)(h8:m.stack≤8){n:aH}(hl:n.loc.length=8)(hk:(n.stk.length:Int)≤m.stack):∀(l:List (Int×Bool)) (s s':aJ),fZ p m s→(∀y∈l,y.1.toNat<40)→lF p n l s=some s'→Up p s s'∧∀y∈l,s'.re.getD y.1.toNat false=true∧dU p n (s'.st.getD y.1.toNat zeroS)
 | [], s, s', O, _, e => by cases e; exact ⟨Up.refl O, fun y h => by cases h⟩
 | y :: l, s, s', O, hy, e => by
  unfold lF at e;obtain⟨s1,e1,e2⟩:=bY e;obtain⟨u1,u2,u3⟩:=aiV hs O (hy y (by simp)) hl e1;obtain⟨O1,_⟩:=LM hs h6 h8 O (hy y (by simp)) hl hk e1;obtain⟨v1,v2⟩:=UZ hs h6 h8 hl hk l s1 s' O1 (fun z hz=>hy z (by simp [hz])) e2;refine⟨u1.trans hs v1,fun z hz=>?_⟩
  rcases List.mem_cons.1 hz with rfl | hz
  ·exact⟨v1.re _ (hy z (by simp)) u2,u3.trans hs (v1.le _ (hy z (by simp)) u2)⟩
  ·exact v2 z hz
def Done (p:List aj)(m:aC)(s:aJ)(i:Nat):Prop:=∃n,jy p m i (s.st.getD i zeroS)=some n∧∀y∈gy (bH m i) i,s.re.getD y.1.toNat false=true∧dU p n (s.st.getD y.1.toNat zeroS)
structure uq (p:List aj)(c:Int)(m:aC)(s:aJ):Prop where
 ok:fZ p m s
 wO:s.re.getD 0 false=true∧dU p (dO c m) (s.st.getD 0 zeroS)
 dn:∀i,i<m.code.length→s.re.getD i false=true→s.ra.getD i false=false→Done p m s i
 ra:∀i,i<40→s.ra.getD i false=true→s.re.getD i false=true
theorem XH {c:Int}(hs:aU p p.length)(h6:p.length≤6)(h8:m.stack≤8)(dD:m.code.length≤40)(hins:∀i∈m.code,bC p m i=true){i:Nat}(hi:i<m.code.length){s s':aJ×Bool}(I:uq p c m s.1)(e:pG p m i s=some s'):uq p c m s'.1:=by
 unfold pG at e
 split at e
 ·rename_i hr;obtain⟨s1,h1,rfl⟩:=Option.map_eq_some_iff.1 e;obtain⟨c1,_⟩:=NH I.ok (show i<40 by omega) hr;unfold uK at h1;obtain⟨n,g1,g2⟩:=bY h1;have g1':jy p m i (s.1.st.getD i zeroS)=some n:=g1;have ho:=I.ok.ok i (by omega);obtain⟨n1,n2⟩:=FI g1' ho.1 ho.2;have hin:=AZ hi hins g1';have Ih:∀y∈gy (bH m i) i,y.1.toNat<40:=fun y hy=>by have:=hin y hy;omega
  obtain⟨u1,u2⟩:=UZ hs h6 h8 n1 n2 _ _ _ c1 Ih g2;obtain⟨O1,_⟩:=Pj hs h6 h8 n1 n2 _ _ _ c1 Ih g2;have ag1:∀j,j≠i→(s.1.ra.set i false).getD j false=s.1.ra.getD j false:=fun j hj=>getD_set_ne hj _ _;refine⟨O1,⟨u1.re 0 (by omega) I.wO.1,I.wO.2.trans hs (u1.le 0 (by omega) I.wO.1)⟩,fun j hj hre hra=>?_,fun j hj hr'=>?_⟩
  ·rcases u1.ch j (by omega) hre with e | ⟨e1,e2,e3⟩
   ·dsimp only at hra;rw [hra] at e;cases e
   ·by_cases ej:j=i
    ·subst ej;refine⟨n,?_,u2⟩;dsimp only;rw [e2];exact g1'
    ·have hr0:s.1.ra.getD j false=false:=by
      rw [←ag1 j ej];exact e3.symm.trans hra
     obtain⟨nj,d1,d2⟩:=I.dn j hj e1 hr0;refine⟨nj,?_,fun y hy=>?_⟩
     ·dsimp only;rw [e2];exact d1
     ·have hyj:=AZ hj hins d1 y hy;obtain⟨k1,k2⟩:=d2 y hy;exact⟨u1.re _ (by omega) k1,k2.trans hs (u1.le _ (by omega) k1)⟩
  ·rcases u1.ra j hj hr' with e | e
   ·exact e
   ·have e':(s.1.ra.set i false).getD j false=true:=e
    by_cases ej:j=i
    ·subst ej;rw [kF (by rw [I.ok.l3];omega)] at e'
     cases e'
    ·rw [getD_set_ne ej] at e';exact u1.re j hj (I.ra j hj e')
 ·cases e
  exact I
theorem Po {c:Int}(hs:aU p p.length)(h6:p.length≤6)(h8:m.stack≤8)(dD:m.code.length≤40)(hins:∀i∈m.code,bC p m i=true){s:aJ}(I:uq p c m s):∀(k:Nat) (s':aJ×Bool),k≤m.code.length→lQ p m s k=some s'→uq p c m s'.1∧(s'.2=false→s'.1=s∧∀i,i<k→s.ra.getD i false=false)
 | 0, s', _, e => by cases e; exact ⟨I, fun _ => ⟨rfl, fun i h => by omega⟩⟩
 | k + 1, s', hk, e => by
  unfold lQ at e;obtain⟨s1,e1,e2⟩:=bY e;obtain⟨I1,h1⟩:=Po hs h6 h8 dD hins I k s1 (by omega) e1;refine⟨XH hs h6 h8 dD hins (by omega) I1 e2,fun hf=>?_⟩;unfold pG at e2
  split at e2
  ·obtain⟨s2,_,rfl⟩:=Option.map_eq_some_iff.1 e2
   cases hf
  ·rename_i hr
   cases e2
   obtain⟨h2,h3⟩:=h1 hf;refine⟨h2,fun i hi=>?_⟩
   by_cases ei:i=k
   ·subst ei;rw [h2] at hr;simpa using hr
   ·exact h3 i (by omega)
theorem PE {c:Int}(hs:aU p p.length)(h6:p.length≤6)(h8:m.stack≤8)(dD:m.code.length≤40)(hins:∀i∈m.code,bC p m i=true):∀(n:Nat) (s r:aJ),uq p c m s→jC p m n s=some (some r)→uq p c m r∧∀i,i<m.code.length→r.ra.getD i false=false
 | 0, s, r, _, e => by cases e
 | n + 1, s, r, I, e => by
  unfold jC at e
  cases hq:lQ p m s m.code.length with
  | none => rw [hq] at e; cases e
  | some x =>
   obtain⟨s',b⟩:=x;rw [hq] at e;obtain⟨I1,h1⟩:=Po hs h6 h8 dD hins I _ _ (Nat.le_refl _) hq
   cases b with
   | true => exact PE hs h6 h8 dD hins n s' r I1 e
   | false =>
    cases e
    obtain⟨h2,h3⟩:=h1 rfl;dsimp only at h2;subst h2;exact⟨I1,h3⟩
theorem IZ {c:Int}(ha:m.args.length≤7)(hk0:0≤m.stack):uq p c m (dK sv0 0 (dO c m)):=by
 have hz:∀i,i<40→(sv0.st.getD i zeroS)=zeroS:=fun i hi=>by
  show (List.replicate 40 zeroS).getD i zeroS=zeroS
  rw [List.getD_eq_getElem?_getD,List.getElem?_replicate]
  split <;> rfl
 have hb:∀i,(List.replicate 40 false).getD i false=false:=fun i=>by
  rw [List.getD_eq_getElem?_getD,List.getElem?_replicate]
  split <;> rfl
 have O0:fZ p m sv0:=⟨by simp [sv0],by simp [sv0],by simp [sv0],fun i hi=>by rw [hz i hi];exact⟨rfl,hk0⟩⟩;have hl:=(OX (c:=c) ha).1;refine⟨O0.put (by omega) hl (by show ((0:Nat):Int)≤m.stack;omega),⟨?_,?_⟩,fun i hi hr hra=>?_,fun i hi hr=>?_⟩
 ·show (sv0.re.set 0 true).getD 0 false=true
  rw [kF (by rw [O0.l2];omega)]
 ·show dU p _ ((sv0.st.set 0 (dO c m)).getD 0 zeroS)
  rw [kF (by rw [O0.l1];omega)];exact dU.refl hl
 ·have hr':(sv0.re.set 0 true).getD i false=true:=hr;have aaC:(sv0.ra.set 0 true).getD i false=false:=hra
  by_cases e:i=0
  ·subst e;rw [kF (by rw [O0.l3];omega)] at aaC
   cases aaC
  ·rw [getD_set_ne e] at hr';have:=hb i;rw [show sv0.re=List.replicate 40 false from rfl,this] at hr'
   cases hr'
 ·have hr':(sv0.ra.set 0 true).getD i false=true:=hr
  show (sv0.re.set 0 true).getD i false=true
  by_cases e:i=0
  ·subst e;rw [kF (by rw [O0.l2];omega)]
  ·rw [getD_set_ne e] at hr';rw [show sv0.ra=List.replicate 40 false from rfl,hb i] at hr'
   cases hr'
end
section
variable {p : List aj} {m : aC} {c : Int} {σ : Nat → Option aH}
theorem ab3 (hF:bD p=0)(hz:bn p≤4194304){k:Int}(hown:bQ p c k=some m)(S:EC p c m σ){s:aJ}(I:uq p c m s)(B:mP p σ s):∀(n:Nat),n≤m.code.length→∃s',lQ p m s n=some s'∧mP p σ s'.1∧uq p c m s'.1
 | 0, _ => ⟨(s, false), rfl, B, I⟩
 | n + 1, hn => by
  obtain⟨_,_,M⟩:=qY hF hown;obtain⟨s1,e1,B1,I1⟩:=ab3 hF hz hown S I B n (by omega)
  obtain⟨s2,e2,B2,_⟩:=adH hF hz hown S (show n<m.code.length by omega) I1.ok B1 (fun j hj=>by
   rcases Nat.lt_or_ge j 40 with h | h
   ·exact I1.ra j h hj
   ·rw [List.getD_eq_getElem?_getD,List.getElem?_eq_none (by rw [I1.ok.l3];exact h)] at hj
    cases hj)
  refine⟨s2,?_,B2,XH (wX hF) (qX hF).1.2 M.ok.stk M.c40 M.ins (by omega) I1 e2⟩;unfold lQ;rw [e1,Option.bind_some,e2]
theorem Vh (hF:bD p=0)(hz:bn p≤4194304){k:Int}(hown:bQ p c k=some m)(S:EC p c m σ):∀(n:Nat) (s:aJ) (r:Option aJ),uq p c m s→mP p σ s→jC p m n s=some r→∃t,r=some t∧mP p σ t
 | 0, s, r, _, _, e => by cases e
 | n + 1, s, r, I, B, e => by
  obtain⟨s1,e1,B1,I1⟩:=ab3 hF hz hown S I B m.code.length (Nat.le_refl _);unfold jC at e;rw [e1] at e;obtain⟨s',b⟩:=s1
  cases b with
  | true => exact Vh hF hz hown S n s' r I1 B1 e
  | false =>
   cases e
   exact⟨s',rfl,B1⟩
theorem Rz (O:Gw p c m):gI p (dO c m):=⟨O.bg.1,O.bg.2.1⟩
theorem PI (O:Gw p c m)(hk0:0≤m.stack)(S:EC p c m σ):mP p σ (dK sv0 0 (dO c m)):=by
 have hb:∀i,(List.replicate 40 false).getD i false=false:=fun i=>by
  rw [List.getD_eq_getElem?_getD,List.getElem?_replicate]
  split <;> rfl
 have I:=IZ (p:=p) (c:=c) O.a7 hk0
 have hr0:∀i,i≠0→(dK sv0 0 (dO c m)).re.getD i false=false:=fun i hi=>by
  show ((List.replicate 40 false).set 0 true).getD i false=false
  rw [getD_set_ne hi,hb]
 have hst:(dK sv0 0 (dO c m)).st.getD 0 zeroS=dO c m:=by
  show ((List.replicate 40 zeroS).set 0 (dO c m)).getD 0 zeroS=dO c m
  rw [kF (by simp)]
 refine⟨fun i hi hr=>?_,fun i hi hr=>?_⟩
 ·by_cases e:i=0
  ·subst e;obtain⟨t,h1,h2⟩:=S.wO;exact⟨t,h1,by rw [hst];exact h2⟩
  ·rw [hr0 i e] at hr;cases hr
 ·by_cases e:i=0
  ·subst e;rw [hst];exact Rz O
  ·rw [hr0 i e] at hr;cases hr
theorem aaK (hF:bD p=0){k:Int}(hown:bQ p c k=some m):∃N r,jC p m N (dK sv0 0 (dO c m))=some r:=by
 obtain⟨_,_,O⟩:=qY hF hown;have hk0:0≤m.stack:=by have:=O.bg.2.2;have h:((dO c m).stk.length:Int)=0:=rfl;omega
 have I:=IZ (p:=p) (c:=c) O.a7 hk0;obtain⟨r,hr⟩:=acy (wX hF) (qX hF).1.2 O.ok.stk O.c40 O.ins (mZ p (dK sv0 0 (dO c m))+1) _ I.ok (by omega);exact⟨_,r,hr⟩
end
end Go.Proofs.YtiiokkllmchohaaGreat
