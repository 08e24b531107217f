/- The code's Run, whatever it answers. -/
import Derived.Test.YtiiokkllmchohaaGreatT31
set_option maxHeartbeats 0
set_option maxRecDepth 99999
namespace Go.Proofs.YtiiokkllmchohaaGreat
open Go.Value renaming int->J,slice->O,pointer->zP,bool->zB
open Go.IntKind renaming i64->I
open Option renaming none->U,some->M
open Bool renaming true->K,false->F
open Go.Ending renaming returned->zR
open Go.Obj renaming cells->zC
open Go.RowKit Go.Shelf
section
attribute [local go_sem ↓] Go.wp_at_zero Go.wp_at_succ
attribute [local go_sem] eZ
theorem MH(p h e c)(m:ed c e 24 [h])(g:eQ c h p)(n:fi p=0)(o:eM p<=4194304):
  Calls Tryz.prog 60 #[zP (M ⟨e,0,U⟩)] c λa q=>un (kN p) c q a:=by
 have j:=Ou g;obtain⟨c,_,_,c,rfl,_⟩:=g;have:=m.c0;have i:=Ou n;go_in
 go_wp2_with fail;refine(Lp p _ _ j i o).mono ?_;rintro a c ⟨k,l,f⟩
 cases b:kN p with
 | true =>
  obtain rfl:=k b;have d:=Ou b;go_wp2;go_end0;exact⟨λ_=>rfl,λa=>(by rw[ea d]at a;cases a),f⟩
 | false =>
  obtain rfl:=l b;have d:=Ou b;go_wp2_with fail;exact⟨rfl,λa=>(by rw[ea d]at a;cases a),λ_=>rfl,f⟩
theorem MJ(p l j a)(u:ed a j 24 [l])(w:eQ a l p)(v:fi p=0)(x:eM p<=4194304):
  Calls Tryz.prog 36 #[.func (.func 60) #[] #[zP (M ⟨j,0,U⟩)]] a λe z=>FA (kN p) a z e:=by
 have:∀(c:Fn) (first b:Array Value) (a:World),(Instr.makeFunc c first b).run Tryz.prog a= .ok (.func c first b) a:=λ_ _ _ _=>rfl;have k:=ev a (zC #[J I 0] 26);have m:=Ou (aq (u.bl k) (eA (Oq k) w));have o:=Oz a #[J I 0] 26;have n:=Ou v
 go_enter_defers Tryz.func36,Tryz.ntmps36
 go_wp2_with fail;generalize a.alloc _=W at *;refine Calls.mono (MH p l j _ m.1 m.2 n x) ?_;rintro e j ⟨s,t,j⟩;have d:=o.bl j;have q:=d.c0;have r:=d.frozen 0;have l:=eu k j;have h:=Ou l
 cases g:kN p with
 | false =>
  obtain rfl:=t g;have i:=Ou g;go_wp2_with fail;refine leaves_cons (f:=72) (args:= #[zP (M ⟨a.heap.size,0,U⟩)]) (by simp) (by simp[go_sem]) ?_;refine(Gk ⟨a.heap.size,0,U⟩ 5 0 _ q r).mono ?_;rintro e y A ⟨rfl,rfl,rfl⟩;have b:=((d.alloc (zC #[J I 5] 119)).setCell 0 (J I 5)).cell 0;have c:=(h.alloc h.size (zC #[J I 5] 119)).setCell (p:=⟨a.heap.size,0,U⟩) (ai _) (J I 5);generalize World.setCell _ _ _=Z at b c ⊢;replace b:Z.cell? ⟨a.heap.size,0,U⟩=M (J I 5):=b;simp[Leaves,settle,results,Tryz.results36,go_sem,b];exact⟨by rw[ea i];rfl,c⟩
 | true =>
  obtain rfl:=s g;have i:=Ou g;go_wp2_with fail;have b:=(d.setCell 0 (J I 0)).cell 0;have c:=h.setCell (p:=⟨a.heap.size,0,U⟩) (ai _) (J I 0);generalize World.setCell _ _ _=Z at b c ⊢;replace b:Z.cell? ⟨a.heap.size,0,U⟩=M (J I 0):=b;refine leaves_cons (f:=72) (args:= #[zP (M ⟨a.heap.size,0,U⟩)]) (by simp) (by simp[go_sem]) ?_;refine(catch_idle ⟨a.heap.size,0,U⟩ _).mono ?_;rintro e y A ⟨rfl,rfl,rfl⟩;simp[Leaves,settle,results,Tryz.results36,go_sem,b];exact⟨by rw[ea i];rfl,c⟩
def kB (p:On)(c slot:Int)(n:Nat)(fuel:Int)(ask:Bool):Int:=
 if fi p=0 then (if mP p c slot n=K/\0<=fuel/\fuel<=5000 then (if ask=K\/kN p=K then 0 else 5) else 4) else fi p
def nQ (p:On)(c slot:Int)(args:Ok)(fuel:Int):eJ×Int:=(runM p fuel (fuel.toNat+1) (ny p c slot args)).getD (Av,0)
theorem vq{p c d b a}(f:fi p=0)(o:eM p<=4194304)(l:mP p c d b.length=K)(i:0<=a)(j:a<=5000):
  Inv p a (ny p c d b)/\runM p a (a.toNat+1) (ny p c d b)=M (nQ p c d b a):=by
 obtain⟨⟨g,h⟩,m,n,q⟩:=qA.1 l;have e:Inv p a (ny p c d b):=Inv.start f i g h m n;obtain⟨b,k⟩:=Ev f o j (a.toNat+1) _ e (by show a<((0:Nat):Int)+_;omega);refine⟨e,?_⟩;unfold nQ;rw[k];rfl
theorem Eu{p d h c a}(b:fi p=0)(g:eM p<=4194304)(f:mP p d h c.length=K)(j:0<=a)(e:a<=5000)(k:kN p=K):(nQ p d h c a).2≠5:=by
 obtain⟨i,l⟩:=vq b g f j e;obtain⟨⟨a,a⟩,d,h,c⟩:=qA.1 f;have a:uo p:=Ln.1 k;exact EG b g e a _ _ _ i (pq.start b a d h c) l
def ut (p:On)(c slot:Int)(R:eJ×Int)(er:Int)(w w':World)(e:Ending):Prop:=
 (er=0->yA p c slot R w w' e)/\(er≠0->e=zR (.tuple #[.agg #[J I 0,J I 0,O U 0 0,J I 0],J I er]))/\Below w.heap.size w w'
theorem Al{p c e b f g a}(d:yA p c e b f g a):ut p c e b 0 f g a:=by
 have h:=d;obtain⟨_,_,_,i⟩:=h;exact⟨λ_=>d,λa=>absurd rfl a,i⟩
theorem pi:∀a∈[J .i64 0,J I 0,O U 0 0,J I 0],a.oneCell'=K:=λa a=>by
 simp only[aE,aF,or_false]at a
 rcases a with rfl | rfl | rfl | rfl <;> rfl
theorem BY(p aa f g i Z d v h)(S:eQ h aa p)(a5:je p)(m:eM p<=4194304)(V:eG 1 (gF h) Z i)(bn:i.length<=4194304):
  Calls Tryz.prog 27 #[.agg #[aa],J I f,J I g,Z,J I d,zB v] h λa a6=>ut p f g (nQ p f g i d) (kB p f g i.length d v) h a6 a:=by
 have ar:fi p=0->∀a b,(fy p a b).isSome=K->0<=a->a<(p.length:Int)->(ew p a b).args.length<=4194303:=λc a b r _ _=>by
  have:=(jw.1 (nL c r)).2.2.1;omega
 by_cases Q:fi p=0/\(mP p f g i.length=K/\0<=d/\d<=5000)/\v=K
 .obtain⟨c,k,rfl⟩:=Q;have b:kB p f g i.length d K=0:=by unfold kB;rw[am c,am k,am (.inl rfl)]
  rw[b];obtain⟨E,N⟩:=vq c m k.1 k.2.1 k.2.2;obtain⟨⟨G,H⟩,r,a4,a3⟩:=qA.1 k.1;have R:=jw.1 (nL c r);exact(G2 p aa f g i Z d h S a5 m c (ar c) G H r V a4 a3 (by omega) R.2.2.2.2.2.2.1 k.2.2 k.2.1 _ _ (Inv.run c m k.2.2 _ _ E) N).mono λa a6 a=>Al a
 obtain⟨o,P⟩:∃o,o=nQ p f g i d:=⟨_,rfl⟩;obtain⟨n,L⟩:∃n,n=kB p f g i.length d v:=⟨_,rfl⟩;rw[<-P,<-L];have bf:=Ou P;have t:=Ou L;clear P L;have z:=Ou S;have bh:=Ou V;obtain⟨L,_,_,L,rfl,_⟩:=V;obtain⟨X,_,_,Y,rfl,_⟩:=S;have a1:=gS h (zC #[O X p.length Y] 24) (zC #[J I 0,J I 0,O U 0 0,J I 0] 69);have ab:=(Oz h #[O X p.length Y] 24).alloc (zC #[J I 0,J I 0,O U 0 0,J I 0] 69);have B:=Oz (h.alloc (zC #[O X p.length Y] 24)) #[J I 0,J I 0,O U 0 0,J I 0] 69;rw[World.size_alloc]at B;have:∀(b:Fn) (first a:Array Value) (h:World),(Instr.makeFunc b first a).run Tryz.prog h= .ok (.func b first a) h:=λ_ _ _ _=>rfl;go_in
 go_wp2_with fail;generalize (h.alloc _).alloc _=W at *;refine(BJ p _ W (eA (Oq a1) z) a5 m).mono ?_;rintro a bM ⟨rfl,L⟩;have A:=eu a1 L;have ac:=ab.below L (by have:=ab.lt;omega);have ad:=B.below L (by have:=B.lt;omega)
 by_cases c:fi p=0
 .have ak:=oj c m;have e:=Ou c;rw[c];have bI:=ac.c0;have bc:=Ou Q;clear c Q;go_wp2_with fail;refine(G8 p _ f g i.length bM (eA (Oq A) z) ak.sup m bn).mono ?_;rintro a b5 ⟨rfl,B⟩;have q:=eu A B;have C:=ac.bl B;have y:=ad.bl B;have:=C.c0;clear bI
  cases k:mP p f g i.length with
  | false =>
   have l:n=4:=(by rw[ea t];unfold kB;rw[am e.out,af (by rw[k];simp)]);subst l;clear k;go_wp2_with (refine fJ gX y 0 [J I 0,J I 0,O U 0 0,J I 0] rfl (by simp) pi (.tmp 12) (.tmp 37) rfl rfl rfl rfl ?_;intro x b j w;rw[fw (by rfl)]at b)
   refine bodyPost_ret (jk rfl gX b rfl rfl) rfl ?_;exact⟨λa=>(by cases a),λ_=>rfl,q.trans (j.below q.size (λc b a=>by omega))⟩
  | true =>
   have u:=Ou k
   by_cases B:d<0
   .have l:n=4:=(by rw[ea t];unfold kB;rw[am e.out,af (by omega)]);subst l;go_wp2_with (refine fJ gX y 0 [J I 0,J I 0,O U 0 0,J I 0] rfl (by simp) pi (.tmp 12) (.tmp 37) rfl rfl rfl rfl ?_;intro x b j w;rw[fw (by rfl)]at b)
    refine bodyPost_ret (jk rfl gX b rfl rfl) rfl ?_;exact⟨λa=>(by cases a),λ_=>rfl,q.trans (j.below q.size (λc b a=>by omega))⟩
   by_cases B:5000<d
   .have l:n=4:=(by rw[ea t];unfold kB;rw[am e.out,af (by omega)]);subst l;go_wp2_with (refine fJ gX y 0 [J I 0,J I 0,O U 0 0,J I 0] rfl (by simp) pi (.tmp 12) (.tmp 37) rfl rfl rfl rfl ?_;intro x b j w;rw[fw (by rfl)]at b)
    refine bodyPost_ret (jk rfl gX b rfl rfl) rfl ?_;exact⟨λa=>(by cases a),λ_=>rfl,q.trans (j.below q.size (λc b a=>by omega))⟩
   cases v with
   | true => exact absurd ⟨ea e, ⟨ea u, by omega, by omega⟩, rfl⟩ bc
   | false =>
    have an:Hid (n=if kN p=K then 0 else 5):=by
     show _=_
     rw[ea t];unfold kB;rw[am e.out,am ⟨ea u,by omega,by omega⟩];simp
    go_wp2_with fail;refine(MJ p _ h.heap.size b5 C (eA (Oq q) z) e m).mono ?_;rintro a b6 ⟨rfl,h⟩;have s:=eu q h;have a8:=C.bl h;have D:=y.bl h
    cases M:kN p with
    | false =>
     have l:n=5:=(by rw[ea an,M];rfl);subst l;rw[show (if F=K then (0:Int) else 5)=5 from rfl];go_wp2_with (refine fJ gX D 0 [J I 0,J I 0,O U 0 0,J I 0] rfl (by simp) pi (.tmp 12) (.tmp 44) rfl rfl rfl rfl ?_;intro x b j w;rw[fw (by rfl)]at b)
     refine bodyPost_ret (jk rfl gX b rfl rfl) rfl ?_;exact⟨λa=>(by cases a),λ_=>rfl,s.trans (j.below s.size (λc b a=>by omega))⟩
    | true =>
     have l:n=0:=(by rw[ea an,M];rfl);subst l;have be:=Ou M;have:=a8.c0;rw[show (if K=K then (0:Int) else 5)=0 from rfl];go_wp2_with fail;obtain⟨E,N⟩:=vq e m u (by omega:0<=d) (by omega);have bo:=Eu e m u (by omega:0<=d) (by omega) be;obtain⟨⟨G,H⟩,r,a4,a3⟩:=qA.1 u;have R:=jw.1 (nL e r);refine(Dx p _ f g i _ d b6 (eA (Oq s) z) ak (ar e) G H r (fu (Oq s) bh) (by omega) R.2.2.2.2.2.2.1 (by omega) (by omega) _ _ (Inv.run e m (by omega) _ _ E) N F (.inr bo)).mono ?_;rintro a d ⟨d,rfl,T,a0⟩;have ba:=D.bl a0;obtain⟨bs,bz,rfl⟩:=fd T;rw[<-ea bf]at T ⊢;generalize br:(if o.2=1 then kh o.1 o.1.told (ew p f g).ret else 0)=vv at *;have bk:=Ou br;have ao:=Ou T;go_wp2_with (refine fJ gX ba 0 [J I o.2,J I vv,O bs o.1.out.length bz,J I (o.1.steps:Int)] rfl (by simp) (λb a=>by simp only[aE,aF,or_false]at a;rcases a with rfl | rfl | rfl | rfl <;> rfl) (.tmp 12) (.tmp 52) rfl rfl rfl rfl ?_;intro x b j w;rw[fw (by rfl)]at b)
     refine bodyPost_ret (jk rfl gX b rfl rfl) rfl ?_;have a2:=eu s a0;refine Al ⟨_,by rw[ea bk];rfl,Ov (eX ao j (λd f a=>?_)) s.size,a2.trans (j.below a2.size (λc b a=>by omega))⟩;have:=(ao.lt d f).1;have:=D.lt;omega
 .have l:n=fi p:=by rw[ea t];unfold kB;rw[af c]
  subst l;have e:=Ou c;have:(fi p != 0)=K:=by simpa using c
  go_wp2_with (refine fJ gX ad 0 [J I 0,J I 0,O U 0 0,J I 0] rfl (by simp) pi (.tmp 12) (.tmp 20) rfl rfl rfl rfl ?_;intro x b j w;rw[fw (by rfl)]at b)
  refine bodyPost_ret (jk rfl gX b rfl rfl) rfl ?_;exact⟨λa=>absurd a e,λ_=>rfl,A.trans (j.below A.size (λc b a=>by omega))⟩
theorem zU(K c b d f e):∀a∈[J .i64 K,J I c,O d f e,J I b],a.oneCell'=true:=λa a=>by
 simp only[aE,aF,or_false]at a
 rcases a with rfl | rfl | rfl | rfl <;> rfl
theorem Inv.outs{p c}(f:fi p=0)(i:eM p<=4194304)(g:c<=5000):∀(e:Nat) (d:eJ) (a:eJ×Int),Inv p c d->runM p c e d=M a->a.1.out.length<=a.1.steps
 | 0, _, _, _, h => by cases h
 | e + 1, d, a, k, h => by
  unfold runM at h
  cases b:OQ p c d with
  | inr c =>
   rw[b]at h
   cases h
   have c:=xR b;rw[c.2.1,c.2.2.1];exact k.out
  | inl j =>
   rw[b]at h;exact Inv.outs f i g e j a (k.step f i g b) h
theorem MI{p f g e a}(c:fi p=0)(d:eM p<=4194304)(i:mP p f g e.length=K)(h:0<=a)(b:a<=5000):(nQ p f g e a).1.out.length<=5000:=by
 obtain⟨a,e⟩:=vq c d i h b;have:=Inv.outs c d b _ _ _ a e;have:=Inv.last c d b _ _ _ a e;omega
end
theorem HS.MR{h j k c g r q p o n m l}(a:HS h k c g r q p n m l)(s:mD j c (g.set 5 o))(e:ee (λd=>d=c) h j):HS j k c (g.set 5 o) r q p n m l:=by
 have b:∀(b:TypeId),b≠53->∀d e,ed h d b e->¬d=c:=λb c d e d g=>by subst g;exact c (d.uniq a.hands.1)
 exact⟨s,by rw[ah (by omega)];exact a.c0,by rw[ah (by omega)];exact a.c1,by rw[ah (by omega)];exact a.c2,a.t.mods e (b _ (by decide)) (b _ (by decide)),a.i.mods e (b _ (by decide)) (b _ (by decide)),a.f.mods e (b _ (by decide)) (b _ (by decide)),a.lt,ap a.le e.size⟩
theorem rM.inn{f g h b d i a e}(c:rM f g h i (O U 0 0) b [] a d e)(j:b<=f.heap.size)(k:a.length<=1048576):AW g b e [(d,a.length+1)]:=
 ⟨c.row,λd b=>by
  obtain rfl:=aC.1 b;exact⟨ap j c.new,by simp,by show a.length+1<=_;omega,_,c.blk,by simp,by simp⟩,by simp⟩
theorem rM.only{b c a d g f i j}(e:rM b c a f (O U 0 0) d [] i g j):ee (λh=>h=a) b c:=e.mods.mono λ_ _ b=>b.elim id λa=>by cases a
theorem rM.read{k b f d c g a j i h}(e:rM k b f g j d h a c i):eG 1 (gF b) (O (M ⟨c,0,U⟩) a.length (a.length+1)) a:=fu (qT [3] b) (q9 e.blk (by simp) (Nat.le_succ _))
theorem MS(b:Oj)(c a):((((((b.set 5 c).set 0 a).set 1 a).set 2 a).set 3 a).set 4 a).set 5 a=(((((b.set 0 a).set 1 a).set 2 a).set 3 a).set 4 a).set 5 a:=by
 rw[dH _ _ (show 5≠0 by decide),dH _ _ (show 5≠1 by decide),dH _ _ (show 5≠2 by decide),dH _ _ (show 5≠3 by decide),dH _ _ (show 5≠4 by decide),db]
structure FJ where
 k:Int
 v:Int
 out:List Int
 jt:Int
def oz (p:On)(c slot:Int)(R:eJ×Int)(er:Int):FJ:=if er=0 then ⟨R.2,if R.2=1 then kh R.1 R.1.told (ew p c slot).ret else 0,R.1.out,(R.1.steps:Int)⟩ else ⟨0,0,[],0⟩
theorem ut.form{p c d b a g i j}(n:ut p c d b a g i j):∃e f,j=zR (.tuple #[.agg #[J I (oz p c d b a).k,J I (oz p c d b a).v,O e (oz p c d b a).out.length f,J I (oz p c d b a).jt],J I a])/\
  i.ownsRow g.heap.size 3 1 (O e (oz p c d b a).out.length f) (oz p c d b a).out.length ((oz p c d b a).out.map (J .i64))/\Below g.heap.size g i:=by
 obtain⟨o,q,l⟩:=n;unfold oz
 by_cases h:a=0
 .subst h;rw[am rfl];obtain⟨a,rfl,m,_⟩:=o rfl;obtain⟨e,f,rfl⟩:=fd m;exact⟨e,f,rfl,m,l⟩
 .rw [af h];exact⟨U,0,q h,World.ownsRow_nil _ _ _ _,l⟩
theorem Ld(p b d e c g)(h:eM p<=4194304):(oz p b d (nQ p b d e c) (kB p b d e.length c g)).out.length<=5000:=by
 unfold oz
 by_cases a:kB p b d e.length c g=0
 .rw [am a];unfold kB at a
  by_cases f:fi p=0
  .rw [am f]at a
   by_cases g:mP p b d e.length=K/\0<=c/\c<=5000
   .exact MI f h g.1 g.2.1 g.2.2
   .rw [af g]at a;cases a
  .rw [af f]at a;exact absurd a f
 .rw [af a];exact az _
end Go.Proofs.YtiiokkllmchohaaGreat
