/- The reference's machine: is something that is taken strange? -/
import Derived.Test.YtiiokkllmchohaaGreatT44
set_option maxHeartbeats 0
set_option maxRecDepth 99999
namespace Go.Proofs.YtiiokkllmchohaaGreat
open Go.Value renaming int->J,slice->O,pointer->zP,bool->zB
open Go.IntKind renaming i64->I
open Option renaming none->U,some->M
open Bool renaming true->K,false->F
open Go.Ending renaming returned->zR
open Go.Obj renaming cells->zC
open Go.RowKit Go.Shelf
section
attribute [local go_sem ↓] Go.wp_at_zero Go.wp_at_succ
attribute [local go_sem] eZ
def mC (g:Addr->Option Value)(x:LVal)(b o:Nat):Prop:=g ⟨b,o,U⟩=M (J I (fq x))/\g ⟨b,o+1,U⟩=M (J I (eI x))
theorem xZ{b c}(d:fN b c){f e}(a:eG 2 (mC b) f e):eG 2 (mC c) f e:=a.mono λ_ _ _ a=>⟨d _ _ a.1,d _ _ a.2⟩
theorem uX{w:World}{v d t a}(o:w.ownsRow v d 2 t a.length (fY a)):eG 2 (mC w.cell?) t a:=by
 rcases o.2 with ⟨rfl,x⟩ | ⟨f,e,t,rfl,t,t,q,t,t,t⟩
 .obtain rfl:a= []:=aV x;exact⟨U,0,0,0,rfl,ai _,⟨λd=>absurd rfl d,.inl ⟨rfl,rfl⟩⟩,λc u b=>by simp at b⟩
 .obtain⟨g,h,d,_,_,r⟩ | i:(∃g h,O (M ⟨f,0,U⟩) a.length e=O (M ⟨g,0,U⟩) a.length h/\a.length<=h/\(O (M ⟨f,0,U⟩) a.length e).ownBlock=M g/\∀c,c<a.length*2->w.cell? ⟨g,c,U⟩=(fY a)[c]?)\/a.length=0:=by
   by_cases i:0<a.length
   .exact .inl (jH o i)
   .exact .inr (by omega)
  .cases d
   refine⟨_,f,0,e,rfl,q,⟨λ_=>rfl,.inr (.inl rfl)⟩,λc u b=>?_⟩;have:=(ag.1 b).1;have l:=vg b (j:=0) (by omega);have m:=vg b (j:=1) (by omega);rw[pG]at l m;exact⟨by rw[bJ,r _ (by omega)];exact l,by rw[bJ,r _ (by omega)];exact m⟩
  .obtain rfl:a= []:=aV i;exact⟨_,f,0,e,rfl,q,⟨λ_=>rfl,.inr (.inl rfl)⟩,λc u b=>by simp at b⟩
section
variable {p : List eb} {objs : List fL} {tk : List Int} {taken : List LVal} {op : Int} {k n : Nat}
theorem KV:ld p objs tk taken op (k+1)=(ld p objs tk taken op k && mj p objs op k (taken.getD k eO) (tk.getD k 0)):=by
 unfold ld;rw[dl,bR,cX,List.all_nil,dy]
theorem KU (b:k<n)(a:mj p objs op k (taken.getD k eO) (tk.getD k 0)=F):ld p objs tk taken op n=F:=by
 unfold ld;rw[cx];exact⟨k,bw.2 b,by rw[a];simp⟩
end
section
variable {p : List eb} {w0 w : World} {ρ : Nat -> Nat × Nat} {mb : Nat} {vp : Value} {ask : Bool} {s : RS}
theorem Mv(h:fh p w0 w ρ mb vp ask s){c b}(t:s.fx=c++ [b])(C:c.length<=30)(a:Nat)(e)(j:a<b.1.loc.length)(P tk taken):
  Calls Tryz.prog 217 #[zP (M ⟨mb,0,U⟩),.agg #[J I 1,J I (a:Int),J I e],P] w λo Q=>o=zR (zB (nR p (s.ox.map Prod.fst) b.1.loc tk taken 1 (a:Int)))/\Below w.heap.size w Q:=by
 have r:s.fx[c.length]? =M b:=by rw[t];simp
 have z:s.fx.length=c.length+1:=by rw[t];simp
 obtain⟨g,m,D,_,t,y⟩:=h.call r;obtain⟨t,H,L,K,E,t,A,B⟩:=eN (uX (h.fr _ _ r).lo);obtain rfl:=A (eW j)
 have x:nR p (s.ox.map Prod.fst) b.1.loc tk taken 1 (a:Int)=(fq b.1.loc[a] == 0):=by
  unfold nR;rw[am rfl,aK,aj,ae j];rfl
 rw[x];have l:=(B a j).1;generalize fq b.1.loc[a]=kn at *;have f:w.cell? ⟨g,c.length*5+3,U⟩=M (O (M ⟨H,L,U⟩) b.1.loc.length K):=by rw[<-E];exact y 3 (by omega)
 have N:w.cell? ⟨mb,3,U⟩=M (O (M ⟨g,0,U⟩) (c.length+1) m):=by rw[<-z,<-D];exact h.eH.cell 3
 have q:=ev w (zC #[J I 1,J I (a:Int),J I e] 60);have v:=Oz w #[J I 1,J I (a:Int),J I e] 60;have:=fp a;have:(a:Int)<(b.1.loc.length:Int):=by omega
 go_in
 go_wp2_with fail;generalize w.alloc _=W at *;refine(rz W mb g c.length m C (Oq q _ _ N)).mono ?_;rintro o u ⟨rfl,a⟩;have i:=eu q a;have d:=v.bl a;have:=d.c0;have:=d.c1;replace f:=Oq i _ _ f;replace l:=Oq i _ _ l;have F:=Oo f;have G:=Oo l;have:=d.lt;dsimp only at F G;go_wp2;refine fk (jC u.heap.size u) (λ_ _ _=>rfl) λhHeld=>?_;refine dZ 17 0 ?_;refine dZ 18 1 ?_;refine dZ 19 2 ?_;refine dZ 20 3 ?_;refine dZ 21 4 ?_;refine dZ 22 5 ?_;refine dZ 23 6 ?_;refine dZ 24 7 ?_;refine dZ 25 8 ?_;refine dZ 26 9 ?_;refine dZ 6 10 ?_;refine eV ?_;go_wp2;go_ret;exact⟨rfl,i.drew⟩
end
structure yp (p:On)(m:eh)(x:fG):Prop where
 F:fi p=0
 z:eM p<=4194304
 J:lP p m x.op x.a x.b
 W:qN p m x.op x.a x.b
 ub:∀k,(eB p m x).1.getD k 0<=4194310
 al:x.op=12->(ew p x.a x.b).args.length<=4194304
theorem qN.tk {p:On}{e:eh}{f b c:Int}(h:qN p e f b c){d:Nat}(i:d<(eB p e ⟨f,b,c⟩).1.length):let a:=(eB p e ⟨f,b,c⟩).1.getD d 0;a=2\/a= -2\/a= -1\/a=0\/3<=a:=by
 intro a
 rcases h.ty.get d i with ⟨g,_⟩ | ⟨g,_⟩ | ⟨g,_⟩ <;> omega
section
variable {p : List eb} {w0 w : World} {ρ : Nat -> Nat × Nat} {mb : Nat} {vp : Value} {ask : Bool} {s : RS}
theorem Mw(R:fh p w0 w ρ mb vp ask s)(ce:eQ w0 vp p){B f}(ak:s.fx=B++ [f])(cb:B.length<=30)(eP:s.ox.length<=100)(d5:jX p (s.ox.map Prod.fst))(x)(k:yp p f.1.m x)(bz:x.op≠1)(cs g)(L:g.length=(eB p f.1.m x).1.length)(ci:eG 2 (mC w.cell?) cs g)(eK:∀h∈g,fv (s.ox.map Prod.fst) h):
  Calls Tryz.prog 217 #[zP (M ⟨mb,0,U⟩),.agg #[ .int I x.op, .int I x.a, .int I x.b],cs] w λj e9=>j=zR (zB (nR p (s.ox.map Prod.fst) f.1.loc (eB p f.1.m x).1 g x.op x.a))/\Below w.heap.size w e9:=by
 have b9:s.fx[B.length]? =M f:=by rw[ak];simp
 have b7:s.fx.length=B.length+1:=by rw[ak];simp
 have er:=ap (fQ p) k.z;have cg:=iA k.F;have X:=k.W;obtain⟨bs,br,cm,_,fs,ej⟩:=R.call b9;have bI:nR p (s.ox.map Prod.fst) f.1.loc (eB p f.1.m x).1 g x.op x.a= !ld p (s.ox.map Prod.fst) (eB p f.1.m x).1 g x.op (eB p f.1.m x).1.length:=af bz;rw[bI];clear bI;have cn:w.cell? ⟨mb,3,U⟩=M (O (M ⟨bs,0,U⟩) (B.length+1) br):=by rw[<-b7,<-cm];exact R.eH.cell 3
 have an:=R.eH.c0;have aa:=ev w (zC #[ .int I x.op, .int I x.a, .int I x.b] 60);have a8:=Oz w #[ .int I x.op, .int I x.a, .int I x.b] 60;have ep:(x.op == 1)=false:=by simpa using bz
 obtain⟨gk,gl,gn,gm,rfl,f0,et,ck⟩:=eN ci;have ao:=Ou ce;obtain⟨f6,_,_,f9,rfl,_⟩:=ce;have be:=Ou R;have d2:=Ou ck;have bk:=Ou L;have d4:=Ou ak;clear R ck ci ej b7 cm b9 L ak;obtain⟨d,N,P⟩:=x;dsimp only at *;go_in
 go_wp2_with fail;generalize w.alloc _=Wb at *;refine(rz Wb mb bs B.length br cb (Oq aa _ _ cn)).mono ?_;rintro j cu ⟨rfl,a1⟩;have ab:=aa.trans (a1.mono aa.size);have u:=a8.bl a1;have bo:=u.c0;have d9:=u.c1;have ec:=u.c2;replace an:=Oq ab _ _ an;have eR:=Oo an;have eS:=u.lt;dsimp only at eR;have ba:=Ou u;have v:=Ou (be.below ab (ai _));clear a8 u aa a1 cn;go_wp2;refine fk (jC cu.heap.size cu) (λ_ _ _=>rfl) λhHeld=>?_;refine dZ 28 0 ?_;refine dZ 29 1 ?_;refine dZ 30 2 ?_;refine dZ 31 3 ?_;refine dZ 32 4 ?_;refine dZ 34 6 ?_;refine el 5 (λbn S=>?_);go_simp;refine(xF v.drew ao d4 cb).mono ?_;rintro j fa ⟨e5,e6,e7,rfl,b8,b5⟩;have E:=mA b5;have bc:=Ou (b8.keep (Oq (v.bel.trans (E.mono v.bel.size))));have bh:=Ou (eA (Oq (v.bel.trans (E.mono v.bel.size))) ao);clear b8;go_wp2_with fail;refine S.out _ _ (λQ V T=>E.cell (p:=⟨Q,V,U⟩) T) λhHeld=>?_;refine el 7 (λbn S=>?_);go_simp;refine(xH p _ f.1.m e5 e6 e7 ⟨d,N,P⟩ fa bh bc cg k.z k.J k.al).mono ?_;rintro j cz ⟨gq,gp,rfl,ac,en,b6⟩;have a2:=E.trans (b6.mono E.size);go_wp2_with fail;refine S.out _ _ (λQ V T=>a2.cell (p:=⟨Q,V,U⟩) T) λhHeld=>?_;refine dZ 27 8 ?_;refine dZ 36 9 ?_;refine dZ 37 10 ?_;refine dZ 8 11 ?_;refine dZ 9 12 ?_;refine eV ?_;replace ac:=fu (iR) ac;obtain⟨ga,gb,gf,gc,rfl,ft,es,cf⟩:=it ac;have d1:=Ou cf;have a4:=ab.trans (a2.mono ab.size);have ds:=Ou (be.below a4 (ai _));have dp:=Ou (ba.below a2 eS);have L:=ea bk;have d6:qN p f.1.m d N P:=X
 have f4:(eB p f.1.m ⟨d,N,P⟩).1.length<=4194305:=by
  rw[X.ty.len];unfold gN
  repeat' split
  all_goals try simp
  rename_i j;have:=k.al j;omega
 have d3:Hid (∀c,c<(eB p f.1.m ⟨d,N,P⟩).1.length->let e:=(eB p f.1.m ⟨d,N,P⟩).1.getD c 0;e=2\/e= -2\/e= -1\/((e=0\/3<=e)/\e<=4194310)):=λc ca=>by
  have:=X.tk ca;have:=k.ub c;dsimp only at this ⊢;omega
 generalize bM:(eB p f.1.m ⟨d,N,P⟩).1=tk at *;have ar:=Ou bM;clear bM X d6 bc bh en cf ac b6 b5 E v ba L bo d9 ec an ep;go_wp2
 go_loopw [10] (λa5 wr=>∃c:Nat,c<=tk.length/\a5= .int I c/\ld p (s.ox.map Prod.fst) tk g d c=K/\Below cz.heap.size cz wr) (λa5 _=>tk.length-(intOf a5).toNat)
 case atStart=>exact ⟨0,az _,rfl,rfl,ay _ _⟩
 case round=>
  obtain⟨c,ca,rfl,cc,n⟩:=hrel;have bf:=Ou cc;have G:=a4.trans (n.mono a4.size);clear cc
  by_cases o:c<tk.length
  .obtain rfl:=es (eW o);have L:=ea bk;have H:c<g.length:=(by omega);obtain rfl:=et (eW H);have e2:=Oq n _ _ (d1 c o);obtain⟨a6,cp⟩:=d2 c H;replace a6:=Oq G _ _ a6;replace cp:=Oq G _ _ cp;have eo:fv (s.ox.map Prod.fst) g[c]:=eK _ (av H);have cA:=dp.bl n;have bo:=cA.c0;have ad:=ea d3 c o
   have i:Hid (ld p (s.ox.map Prod.fst) tk g d (c+1)=mj p (s.ox.map Prod.fst) d c g[c] tk[c]):=by
    show _=_
    rw[KV,ea bf,bO,aj,ae H,aj,ae o];rfl
   have q:Hid (mj p (s.ox.map Prod.fst) d c g[c] tk[c]=false->ld p (s.ox.map Prod.fst) tk g d tk.length=false):=λj=>KU o (by rw[aj,ae H,aj,ae o];exact j);rw[aj,ae o,dM]at ad;generalize tk[c]=e at *;generalize g[c]=h at *;have f1:=fp c;have f2:(c:Int)<(tk.length:Int):=(by omega);have f3:(c:Int)<(g.length:Int):=(by omega);clear L o H
   by_cases C:e=2\/e= -2
   .have l:mj p (s.ox.map Prod.fst) d c h e=K:=am C;rw[l]at i;clear l q ad
    rcases C with rfl | rfl
    all_goals
     go_wp2
     go_roundw
     case rel=>exact ⟨c+1,by omega,by go_num,ea i,n⟩
     case measure=>simp[intOf];omega
   .have fc:(e == 2)=false:=(by simp;omega);have fn:(e == -2)=false:=(by simp;omega);have e0:=Oo e2;have e1:=Oo a6;dsimp only at e0 e1
    by_cases Z:e= -1\/(c=0/\(d=10\/d=11\/d=12))
    .have l:mj p (s.ox.map Prod.fst) d c h e=(fq h == 2):=(by unfold mj;rw[af C,am Z]);rw[l]at i q;clear l ad C
     have D:((e == -1)=K\/((e == -1)=false/\((c:Int) == 0)=K/\(d == 10)=K))\/((e == -1)=false/\((c:Int) == 0)=K/\(d == 10)=false/\(d == 11)=K)\/((e == -1)=false/\((c:Int) == 0)=K/\(d == 10)=false/\(d == 11)=false/\(d == 12)=K):=by
      simp only[beq_iff_eq,beq_eq_false_iff_ne,ne_eq];omega
     clear Z
     cases t:fq h == 2 with
     | true =>
      rw[t]at i
      rcases D with (D | ⟨r,y,A⟩) | ⟨r,y,A,Y⟩ | ⟨r,y,A,Y,eg⟩
      all_goals
       go_wp2
       go_roundw
       case rel=>exact ⟨c+1,by omega,by go_num,ea i,n⟩
       case measure=>simp[intOf];omega
     | false =>
      have a0:=Ou (q t)
      rcases D with (D | ⟨r,y,A⟩) | ⟨r,y,A,Y⟩ | ⟨r,y,A,Y,eg⟩
      all_goals
       go_wp2;go_ret;exact⟨eC (by rw[ea ar,ea a0];rfl),G⟩
    .have l:mj p (s.ox.map Prod.fst) d c h e=rd p (s.ox.map Prod.fst) h e:=(by unfold mj;rw[af C,af Z]);rw[l]at i q;have fo:(e == -1)=false:=(by simp;omega)
     have D:((c:Int) == 0)=false\/(((c:Int) == 0)=K/\(d == 10)=false/\(d == 11)=false/\(d == 12)=false):=by
      simp only[beq_iff_eq,beq_eq_false_iff_ne,ne_eq];omega
     have e3:0<=e:=(by omega);have e4:e<=9223372036854775807:=(by omega);clear l Z C ad;have d0:=Ou (ds.below n (ai _))
     rcases D with r | ⟨r,y,A,Y⟩
     all_goals
      go_wp2;refine fk (jC wr.heap.size wr) (λ_ _ _=>rfl) λhHeld=>?_;refine dZ 44 0 ?_;refine dZ 45 1 ?_;refine dZ 46 2 ?_;refine dZ 47 3 ?_;refine dZ 48 4 ?_;refine dZ 49 5 ?_;refine dZ 50 6 ?_;refine dZ 51 7 ?_;refine dZ 52 8 ?_;refine el 9 (λbn S=>?_);go_simp;refine(Mj d0.drew ao cg er eP h e eo d5 e3 e4).mono ?_;rintro j gs ⟨rfl,ei⟩;have a3:=mA ei;go_wp2_with fail;refine S.out _ _ (λQ V T=>a3.cell (p:=⟨Q,V,U⟩) T) λhHeld=>?_;refine dZ 11 10 ?_;refine eV ?_
      cases t:rd p (s.ox.map Prod.fst) h e with
      | true =>
       rw[t]at i;clear t q;go_wp2
       go_roundw
       case rel=>exact ⟨c+1,by omega,by go_num,ea i,n.trans (a3.mono n.size)⟩
       case measure=>simp[intOf];omega
      | false =>
       have a0:=Ou (q t);clear t q i;go_wp2;go_ret;exact⟨eC (by rw[ea ar,ea a0];rfl),G.trans (a3.mono G.size)⟩
  .obtain rfl:c=tk.length:=by omega
   go_wp2;go_ret;exact⟨eC (by rw[ea ar,ea bf];rfl),G⟩
end
def qU (a : Option Addr) (cap n : Nat) : Option Addr := if cap = n then a else a.map (·.add (n * 2))
theorem zg{f ρ x e}(j:f.op= .slice 181 x (M e) U U){c}{a b n:Nat}(hx: ρ x=O c a b){d}(h: ρ e=J I d)(g:d=(n:Int))(i:n<=a)(w):
  (execOp ρ f).run Tryz.prog w= .ok (.value (O (qU c b n) (a-n) (b-n))) w:=by
 subst g;have k:(sizeOf 183).run Tryz.prog w= .ok 2 w:=run_sizeOf uw w;unfold execOp;simp only[j,hx,bD,h,Option.map_none];simp[Instr.sliceAt,run_underlying Tryz.underlying181,Instr.slice,Instr.sliceBounds,Instr.sliceBound,asIntOf,k,qU,i]
theorem y7{n d l c b}(q:eG 2 (mC n) (O d l c) b)(a)(x:a<=b.length):eG 2 (mC n) (O (qU d c a) (l-a) (c-a)) (b.drop a):=by
 obtain⟨l,m,i,l,e,l,⟨r,t⟩,v⟩:=q
 cases e
 have u:(b.drop a).length=b.length-a:=cv;unfold qU
 by_cases k:c=a
 .rw [am k];have l:b.drop a= []:=dF (by omega);rw[l];have j:b.length-a=0:=by omega
  refine⟨d,m,i,c-a,by rw[j];rfl,by simp,⟨λe=>absurd rfl e,?_⟩,λh o g=>by simp at g⟩
  by_cases f:d=U
  .exact .inl ⟨f,by omega⟩
  .exact .inr (.inr ⟨rfl,f⟩)
 .rw [af k];refine ⟨d.map (·.add (a * 2)), m, i + a * 2, c - a, by rw[u], by omega, ⟨λe => ?_, ?_⟩, λh o g => ?_⟩
  .have f:b≠[]:=λj=>e (by rw[j];simp);rw[r f];simp[addr_add]
  .rcases t with ⟨f,j⟩ | f | ⟨f,j⟩
   .exact absurd (show c=a by omega) k
   .rw [f];simp[addr_add]
   .right;right
    exact⟨by rw[f];simp,by simpa using j⟩
  .rw [cS]at g;have:=v (a+h) o g;rw[show i+a*2+h*2=i+(a+h)*2 by omega];exact this
theorem Iy(s c b a x d e w):(Instr.field 63 (.agg #[J I s,x,J I c,J I b,J I a,d,e]) 4).run Tryz.prog w= .ok (J I a) w:=by kernel_rfl
attribute [local go_sem] Iy
structure A6 (p:On)(s:RS)(y:eD×gD)(x:fG)(ask:Bool):Prop where
 C:yp p y.1.m x
 O:jX p (s.ox.map Prod.fst)
 n:s.fx.length<=31
 jR:s.ox.length<=100
 vs:∀v∈y.1.stk,fv (s.ox.map Prod.fst) v
 loc:x.op=1->x.a.toNat<y.1.loc.length
 sl:y.1.stk.length<=4194304
 ask:ask=K\/((eB p y.1.m x).1.length<=y.1.stk.length/\((10<=x.op/\x.op<=12)->iy (lH p y.1.m y.1.stk x).kind=K))
section
variable {p : List eb} {w0 w : World} {ρ : Nat -> Nat × Nat} {mb : Nat} {vp : Value} {ask : Bool} {s : RS}
theorem Ml(h:fh p w0 w ρ mb vp ask s)(fs:eQ w0 vp p){P c}(bs:s.fx=P++ [c])(x)(l:A6 p s c x ask):
  Calls Tryz.prog 177 #[zP (M ⟨mb,0,U⟩),.agg #[ .int I x.op, .int I x.a, .int I x.b]] w λj a8=>j=zR ( .int I (qt p ask (s.ox.map Prod.fst) c.1.m c.1.loc c.1.stk x))/\Below w.heap.size w a8:=by
 have cp:s.fx[P.length]? =M c:=by rw[bs];simp
 have fa:s.fx.length=P.length+1:=by rw[bs];simp
 have a3:P.length<=30:=by have:=l.n;omega
 have hf:=ap (fQ p) l.C.z;have f1:=iA l.C.F;have hj:=l.jR;have hO:=l.sl;obtain⟨cc,et,f4,_,hH,e7⟩:=h.call cp;have cA:=uX (h.fr _ _ cp).st;have eo:=Ou cA;obtain⟨d4,hZ,h0,a6,cu,hN,hg,f0⟩:=eN cA;have bI:=h.eH.c0;have gc:=h.eH.c1;have gf:w.cell? ⟨mb,3,U⟩=M ( .slice (M ⟨cc,0,U⟩) (P.length+1) et):=by rw[<-fa,<-f4];exact h.eH.cell 3
 have es:w.cell? ⟨cc,P.length*5+4,U⟩=M ( .slice d4 c.1.stk.length a6):=by rw[<-cu];exact e7 4 (by omega)
 rw[cu]at eo;have bn:=ev w (zC #[ .int I x.op, .int I x.a, .int I x.b] 60);have d6:=Oz w #[ .int I x.op, .int I x.a, .int I x.b] 60;have an:=Ou fs;obtain⟨hS,_,_,hT,rfl,_⟩:=fs;have be:=Ou h;have bf:=Ou bs;have g0:=Ou f0;obtain⟨d,e,g⟩:=x;dsimp only at *;clear h f0 cA e7 fa f4 cp bs cu;go_in
 go_wp2_with fail;generalize w.alloc _=Wb at *;refine(rz Wb mb cc P.length et a3 (Oq bn _ _ gf)).mono ?_;rintro j gk ⟨rfl,cf⟩;have a2:=bn.trans (cf.mono bn.size);have V:=d6.bl cf;have bh:=V.c0;have ao:=V.c1;have er:=V.c2;replace bI:=Oq a2 _ _ bI;have hn:=Oo bI;have ho:=V.lt;dsimp only at hn;have d9:=Ou V;have Y:=Ou (be.below a2 (ai _));clear d6 V bn cf gf;go_wp2;refine fk (jC gk.heap.size gk) (λ_ _ _=>rfl) λhHeld=>?_;refine dZ 16 0 ?_;refine dZ 17 1 ?_;refine dZ 18 2 ?_;refine dZ 19 3 ?_;refine dZ 20 4 ?_;refine dZ 22 6 ?_;refine el 5 (λca Q=>?_);go_simp;refine(xF Y.drew an bf a3).mono ?_;rintro j hA ⟨hx,hy,hz,rfl,fc,e3⟩;have Z:=mA e3;have ej:=Ou (fc.keep (Oq (Y.bel.trans (Z.mono Y.bel.size))));have en:=Ou (eA (Oq (Y.bel.trans (Z.mono Y.bel.size))) an);clear fc;go_wp2_with fail;refine Q.out _ _ (λN H R=>Z.cell (p:=⟨N,H,U⟩) R) λhHeld=>?_;refine el 7 (λca Q=>?_);go_simp;refine(xH p _ c.1.m hx hy hz ⟨d,e,g⟩ hA en ej f1 l.C.z l.C.J l.C.al).mono ?_;rintro j hB ⟨h5,h4,rfl,hi,hc,e4⟩;have cg:=Z.trans (e4.mono Z.size);go_wp2_with fail;refine Q.out _ _ (λN H R=>cg.cell (p:=⟨N,H,U⟩) R) λhHeld=>?_;refine dZ 15 8 ?_;refine dZ 24 9 ?_;refine dZ 25 10 ?_;refine dZ 6 11 ?_;refine dZ 7 12 ?_;refine eV ?_;clear hHeld;have t:=a2.trans (cg.mono a2.size);obtain⟨hV,_,_,hW,rfl,_⟩:=hi;obtain⟨hX,_,_,hY,rfl,_⟩:=hc;have X:=Ou (d9.below cg ho);have r:=Ou l;have D:=l.C.W
 have hP:(eB p c.1.m ⟨d,e,g⟩).1.length<=4194305:=by
  rw[D.ty.len];unfold gN
  repeat' split
  all_goals try simp
  rename_i j;have:=l.C.al j;omega
 have hK:(eB p c.1.m ⟨d,e,g⟩).2.length<=4194306:=by
  have:=D.room.1;unfold oR at this;dsimp only at this
  split at this
  .rename_i j;subst j;simp[eB]
  .omega
 have b7:Hid (oR p c.1.m ⟨d,e,g⟩=if d=1 then 1 else (eB p c.1.m ⟨d,e,g⟩).2.length):=rfl;generalize e2:(eB p c.1.m ⟨d,e,g⟩).1.length=tl at *;generalize (eB p c.1.m ⟨d,e,g⟩).2.length=ll at *;have q:=Ou e2;have hk:=X.out.c0;have hl:=X.out.c1;have hm:=X.out.c2;have d0:=Oq t _ _ es;have f9:=Oq t _ _ gc;clear D ej en e4 e3 Z Y d9 bh ao er bI e2 l es gc;go_upto_if 30 with fail
 go_cut [8] (λhw T=>hw= .int I (oR p c.1.m ⟨d,e,g⟩)/\T=hB)
 case first=>
  by_cases o:d=1
  .have g1:(d == 1)=K:=(by simpa using o);go_wp2
   go_meet
   case rel=>exact ⟨by rw[ea b7,am o];rfl,rfl⟩
  .have g1:(d == 1)=false:=(by simpa using o);go_wp2
   go_meet
   case rel=>exact ⟨by rw[ea b7,af o],rfl⟩
 case rest=>
  obtain⟨rfl,rfl⟩:=hcut
  have hL:oR p c.1.m ⟨d,e,g⟩<=4194306:=by
   rw[ea b7]
   split <;> omega
  generalize e1:oR p c.1.m ⟨d,e,g⟩=mn at *;have gs:=Ou e1;clear e1
  by_cases br:c.1.stk.length<tl
  .have hu:(c.1.stk.length:Int)-(tl:Int)<0:=(by omega);have u:=Ou br;clear br;go_wp2;go_ret;exact⟨iQ (by unfold qt;dsimp only;rw[ea q,am u.out]),t⟩
  have hu:¬(c.1.stk.length:Int)-(tl:Int)<0:=by omega
  have u:=Ou br;obtain⟨f,fo⟩:∃f:Nat,f=c.1.stk.length-tl:=⟨_,rfl⟩;have hU:(c.1.stk.length:Int)-(tl:Int)=(f:Int):=by omega
  have hE:Hid ((if d=1 then fq (c.1.loc.getD e.toNat eO) == 0 else !ld p (s.ox.map Prod.fst) (eB p c.1.m ⟨d,e,g⟩).1 (c.1.stk.drop f) d tl)=nR p (s.ox.map Prod.fst) c.1.loc (eB p c.1.m ⟨d,e,g⟩).1 (c.1.stk.drop f) d e):=by
   show _=_
   unfold nR;rw[ea q]
  have y:=Ou fo;have cs:f<=c.1.stk.length:=by omega
  clear br fo;go_upto_if 44 with fail
  have b6:=Ou (be.below t (ai _));have ep:=Ou (xZ (Oq t) eo)
  go_cut [] (λT=>(ask && nR p (s.ox.map Prod.fst) c.1.loc (eB p c.1.m ⟨d,e,g⟩).1 (c.1.stk.drop f) d e)=false/\Below wc.heap.size wc T)
  case first=>
   cases ask with
   | false =>
    go_wp2
    go_meet
    case rel=>exact ⟨rfl,ay _ _⟩
   | true =>
    have d1:=Oo d0;have ga:w.heap.size<wc.heap.size:=X.lt;dsimp only at d1;go_wp2;refine fk (jC wc.heap.size wc) (λ_ _ _=>rfl) λhHeld=>?_;refine dZ 45 0 ?_;refine dZ 46 1 ?_;refine dZ 47 2 ?_;refine dZ 48 3 ?_;refine dZ 49 4 ?_;refine dZ 50 5 ?_;refine dZ 51 6 ?_;refine jm (M 52) (i:=7) (v:=( .slice (qU d4 a6 f) (c.1.stk.length-f) (a6-f))) rfl rfl (by kernel_rfl) (by kernel_rfl) (by kernel_rfl) (λ_ _ _ h=>h) (dd ⟨by rfl,λa8 hG=>zg rfl rfl rfl rfl cs a8⟩) (by assumption) ?_;refine el 8 (λca Q=>?_);go_simp;have g8:c.1.stk.length-f=(c.1.stk.drop f).length:=(by simp);have e9:(c.1.stk.drop f).length=(eB p c.1.m ⟨d,e,g⟩).1.length:=(by rw[ea q,cv];have:=ea y;have:=ea u;omega)
    have ec:Hid (Calls Tryz.prog 217 #[zP (M ⟨mb,0,U⟩),.agg #[ .int I d, .int I e, .int I g], .slice (qU d4 a6 f) (c.1.stk.length-f) (a6-f)] wc.drew λj a8=>j=zR (zB (nR p (s.ox.map Prod.fst) c.1.loc (eB p c.1.m ⟨d,e,g⟩).1 (c.1.stk.drop f) d e))/\Below wc.drew.heap.size wc.drew a8):=by
     by_cases o:d=1
     .subst o;obtain⟨ds,g9⟩:∃ds:Nat,e=(ds:Int):=ax (r.C.J.loc (.inl rfl)).1;subst g9;exact Mv b6.drew bf a3 ds g (by simpa using r.loc rfl) _ _ _
     .exact Mw b6.drew an bf a3 hj r.O ⟨d,e,g⟩ r.C o _ _ e9 (y7 ep f cs) (λL a4=>r.vs L (List.mem_of_mem_drop a4))
    refine ec.mono ?_;rintro j bM ⟨rfl,g4⟩;have ci:=mA g4;clear g8 e9 ec;go_wp2_with fail;refine Q.out _ _ (λN H R=>ci.cell (p:=⟨N,H,U⟩) R) λhHeld=>?_;refine dZ 10 9 ?_;refine eV ?_;clear hHeld
    cases k:nR p (s.ox.map Prod.fst) c.1.loc (eB p c.1.m ⟨d,e,g⟩).1 (c.1.stk.drop f) d e with
    | true =>
     have A:=Ou k;clear k;go_wp2;go_ret;exact⟨iQ (by unfold qt;dsimp only;rw[ea q,af u.out,<-ea y,ea A];rfl),t.trans (ci.mono t.size)⟩
    | false =>
     have A:=Ou k;clear k;go_wp2
     go_meet
     case rel=>exact ⟨by rw[ea A];rfl,ci⟩
  case rest=>
   obtain⟨k,a1⟩:=hcut
   rename World=>ac
   have A:=Ou k;have E:=t.trans (a1.mono t.size);have ba:=X.bl a1;have bh:=ba.c0;have ao:=ba.c1;have er:=Oq a1 _ _ d0;have cb:=Oq a1 _ _ f9;have hD:=Ou ba;have ad:=Ou (be.below E (ai _));clear k a1 hk hl hm d0 f9 ba X b6 ep t a2;go_upto_region 13 with fail
   go_cut [62] (λhv T=>hv=zB (decide (10<=d) && decide (d<=12))/\T=ac)
   case first=>
    by_cases e0:10<=d
    .by_cases g3:d<=12
     all_goals
      go_wp2
      go_meet
      case rel=>exact ⟨by simp[e0,g3],rfl⟩
    .have gl:=Ou e0;go_wp2
     go_meet
     case rel=>exact ⟨by rw[decide_eq_false (show ¬10<=d by have:=ea gl;omega)];rfl,rfl⟩
   case rest=>
   obtain⟨rfl,rfl⟩:=hcut
   rename World=>ac
   go_upto_if 62 with fail
   go_cut [] (λT=>Below w.heap.size w T/\¬((10<=d/\d<=12)/\eI (lH p c.1.m c.1.stk ⟨d,e,g⟩)=0)/\¬((10<=d/\d<=12)/\(ask && !fD p (jD (s.ox.map Prod.fst) (lH p c.1.m c.1.stk ⟨d,e,g⟩)) e)=K))
   case first=>
    by_cases G:10<=d/\d<=12
    rotate_left
    .have a0:(decide (10<=d) && decide (d<=12))=false:=(by simp only[cQ,decide_eq_false_iff_not];omega);have ak:=Ou G;rw[a0];clear G a0;go_wp2
     go_meet
     case rel=>exact ⟨E,λh=>ea ak h.1,λh=>ea ak h.1⟩
    have a0:(decide (10<=d) && decide (d<=12))=K:=(by simpa using G);rw[a0];have ak:=Ou G;have D:=r.C.W;obtain⟨_,_,dp⟩:=D.cls G;rw[<-D.ty.len,ea q]at dp;have ab:f<c.1.stk.length:=(by have:=ea y;have:=ea u;omega);obtain rfl:=hg (eW ab);obtain⟨eP,eR⟩:=g0 f ab
    have a4:lH p c.1.m c.1.stk ⟨d,e,g⟩=c.1.stk[f]:=by
     unfold lH;rw[ea q,<-ea y,aj,ae ab];rfl
    have cz:fv (s.ox.map Prod.fst) c.1.stk[f]:=r.vs _ (av ab)
    have fn:iy (c.1.stk[f]).kind=K:=by
     rcases r.ask with ce | ce
     .have k:=ea A;rw[ce,bO]at k;unfold nR at k;rw[af (by omega),ea q,Bool.not_eq_false']at k;unfold ld at k;have eS:=aJ.1 k 0 (bw.2 dp)
      have hh:(eB p c.1.m ⟨d,e,g⟩).1.getD 0 0=e+3:=by
       have:d=10\/d=11\/d=12:=by omega
       rcases this with rfl | rfl | rfl <;> simp[eB]
      have hQ:0<=e:=(D.cls G).1
      have ha:mj p (s.ox.map Prod.fst) d 0 c.1.stk[f] (e+3)=(fq c.1.stk[f] == 2):=by
       unfold mj;rw[af (by omega),am (.inr ⟨rfl,by omega⟩)]
      rw[hh,getD_drop,bK,aj,ae ab,dM,ha,vL cz r.out.O]at eS;exact eS
     .have:=ce.2 G;rw[a4]at this;exact this
    have b9:=Ou a4;generalize c.1.stk[f]=L at *;replace eP:=Oq E _ _ eP;replace eR:=Oq E _ _ eR;have ij:=fp f;have is:(f:Int)<(c.1.stk.length:Int):=(by omega);have aa:=ev ac (zC #[ .int I (fq L), .int I (eI L)] 183);have bc:=Oz ac #[ .int I (fq L), .int I (eI L)] 183;have hC:=bc.c1;clear D a4 G a0 dp cs ab
    rcases pf cz fn with ⟨o,ar,bk⟩ | ⟨a5,H,o,ar,bk,g2,eK⟩
    .have gm:=Ou o;rw[o]at aa bc hC;clear ar bk;go_wp2;go_ret;exact⟨iQ (by unfold qt;dsimp only;rw[ea q,af u.out,<-ea y,af (by rw[ea A];simp),am ⟨ea ak,by rw[ea b9];exact ea gm⟩]),E.trans (aa.mono E.size)⟩
    .rw [aU]at ar;obtain⟨d5,bz,rfl⟩:=aW.1 ar;obtain⟨hq,hr,f6,_,hM,d3,_⟩:=ad.sE bz;have hJ:=(ag.1 bz).1;have d2:ac.cell? ⟨mb,2,U⟩=M ( .slice (M ⟨hq,0,U⟩) s.ox.length hr):=(by rw[<-f6];exact ad.eH.cell 2);have gb:=ad.out.eH.c0;have g7:=r.O.cls d5.1 (bF.2 ⟨d5,aB bz,rfl⟩);have gp:=Ou eK;have gn:=Ou bk;have S:=Oq aa;replace d2:=S _ _ d2;replace gb:=S _ _ gb;replace d3:=S _ _ d3;replace bh:=S _ _ bh;replace ao:=S _ _ ao;replace cb:=S _ _ cb;have d1:=Oo d2;have ga:=Oo d3;have hp:=Oo ao;have hR:=bc.lt;dsimp only at d1 ga hp;have gx:=Ou (eA (Oq (ad.bel.trans (aa.mono ad.bel.size))) an);have h9:=fp a5;have ia:(a5:Int)<(s.ox.length:Int):=(by omega);have ii:IntKind.i64.wrap (a5:Int)=(a5:Int):=(by rw[IntKind.wrap_i64];omega);have ib:(eI L == 0)=false:=(by simp;omega);have ih:eI L-1=(a5:Int):=(by omega);generalize d5.1.cls=cl at *;have e6:=E.trans (aa.mono E.size);clear o ar bk g2 eK bz f6 S bc cz fn aa;go_wp2_with fail;generalize ac.alloc _=bM at *;refine fk (jC bM.heap.size bM) (λ_ _ _=>rfl) λhHeld=>?_;refine dZ 73 0 ?_;refine dZ 74 1 ?_;refine dZ 75 2 ?_;refine dZ 76 3 ?_;refine dZ 77 4 ?_;refine dZ 78 5 ?_;refine dZ 79 6 ?_;refine dZ 80 7 ?_;refine dZ 81 8 ?_;refine dZ 82 9 ?_;refine dZ 83 10 ?_;refine dZ 84 11 ?_;refine dZ 85 12 ?_;refine dZ 86 13 ?_;refine dZ 87 14 ?_;refine dZ 88 15 ?_;refine el 16 (λca Q=>?_);go_simp;refine(xG p _ cl e bM.drew gx f1 (by omega) g7.2 hf).mono ?_;rintro j h6 ⟨rfl,g5⟩;have ck:=mA g5;go_wp2_with fail;refine Q.out _ _ (λN H R=>ck.cell (p:=⟨N,H,U⟩) R) λhHeld=>?_;refine dZ 12 17 ?_;refine eV ?_;clear hHeld;have hF:=Oq ck _ _ cb;have cm:=e6.trans (ck.mono e6.size);have eg:Hid (fD p (jD (s.ox.map Prod.fst) (lH p c.1.m c.1.stk ⟨d,e,g⟩)) e=fD p cl e):=(by show _=_;rw[ea b9,ea gp]);have B:Hid (¬((10<=d/\d<=12)/\eI (lH p c.1.m c.1.stk ⟨d,e,g⟩)=0)):=λh=>by have:=h.2;rw[ea b9,ea gn]at this;omega
     cases bo:fD p cl e with
     | true =>
      have b5:=Ou (eg.trans bo);clear bo
      cases ask
      all_goals
       go_wp2
       go_meet
       case rel=>exact ⟨cm,ea B,λh=>by have:=h.2;rw[ea b5]at this;simp at this⟩
     | false =>
      have b5:=Ou (eg.trans bo);clear bo
      cases ask with
      | false =>
       go_wp2
       go_meet
       case rel=>exact ⟨cm,ea B,λh=>by have:=h.2;simp at this⟩
      | true =>
       go_wp2;go_ret;exact⟨iQ (by unfold qt;dsimp only;rw[ea q,af u.out,<-ea y,af (by rw[ea A];simp),af B.out,am ⟨ea ak,by rw[ea b5];rfl⟩]),cm⟩
   case rest=>
    obtain⟨cn,f2,f3⟩:=hcut
    rename World=>h7
    have B:=Ou (aq f2 f3);have gq:=Ou (be.below cn (ai _));clear f2 f3;go_wp2_with fail;refine(xF gq an bf a3).mono ?_;rintro j h8 ⟨h1,h2,h3,rfl,hI,g6⟩;unfold fB;have e5:=cn.trans (g6.mono cn.size);have ei:Hid ((c.1.stk.length-tl+oR p c.1.m ⟨d,e,g⟩:Nat)=f+mn):=(by show _=_;rw[ea gs,<-ea y])
    by_cases ft:c.1.m.stack<((f:Int)+(mn:Int))
    .have b8:=Ou ft;go_wp2;go_ret;exact⟨iQ (by unfold qt;dsimp only;rw[ea q,af u.out,ea ei,<-ea y,af (by rw[ea A];simp),af B.out.1,af B.out.2,am (by have:=ea b8;omega)]),e5⟩
    .have b8:=Ou ft;go_wp2;go_ret;exact⟨iQ (by unfold qt;dsimp only;rw[ea q,af u.out,ea ei,<-ea y,af (by rw[ea A];simp),af B.out.1,af B.out.2,af (by have:=ea b8;omega)]),e5⟩
end
theorem zv:(Tryz.prog.info? 183).map (λa=>(a.zero,a.size,a.bytes))=M (M (.agg #[J I 0,J I 0]),2,16):=by kernel_rfl
theorem Jv:(Tryz.prog.info? 245).map (λa=>(a.zero,a.size,a.bytes))=M (M (.agg #[J I 0,O U 0 0]),2,32):=by kernel_rfl
theorem wa{a f e l}(k:a.ownsRow f 183 2 e l.length (fY l))(m:f<=a.heap.size)(A:l.length<=4194400)(x h)(n:a.heap.size=h):
  ∃b c d,(Builtin.append_ #[181,181] 181 #[e,O (M ⟨h,0,U⟩) 1 1]).run Tryz.prog (a.alloc (zC #[J I (fq x),J I (eI x)] 183))= .ok (O b (l.length+1) c) d/\d.ownsRow f 183 2 (O b (l.length+1) c) (l++ [x]).length (fY (l++ [x]))/\
   ee (λg=>e.ownBlock=M g) a d/\((O b (l.length+1) c).ownBlock=e.ownBlock\/∃g,a.heap.size<=g/\(O b (l.length+1) c).ownBlock=M g):=by
 subst n;obtain⟨z,q,u,v,y⟩:=info_parts zv;have j:=xB x;rw[pG]at j;obtain⟨g,d,r,i,o,t⟩:=iN (P:=Tryz.prog) (W:=a) 181 181 183 z _ 2 16 Tryz.underlying181 q u v y rfl (by decide) f e l.length _ k #[J I (fq x),J I (eI x)] rfl j a.heap.size rfl (by unfold maxLen;omega) (by omega) m;obtain⟨b,c,rfl⟩:=fd i;refine⟨b,c,d,r,?_,o,t⟩;rw[xA,aw];have:fY [x]= [J I (fq x),J I (eI x)]:=by unfold fY;rw[dr,pG]
 rw[this];exact i
theorem zW {a:World}{f b:Nat}{c d:TypeId}{k j:Nat}{e:Value}{m l:Oj}(g:a.ownsRow f c k e j m)(h:ed a b d l)(i:c≠d:=by decide):¬e.ownBlock=M b:=OO g h i
def qI (p:On)(w0:World)(mb:Nat)(vp:Value)(ask:Bool)(s:RS)(c:Nat)(w w':World)(e:Ending):Prop:=
 if s.ox.length=100 then e=zR (J I 0)/\w'=w
 else e=zR (J I ((s.ox.length:Int)+1))/\(∃ ρ' vo' vf,fh p w0 w' ρ' mb vp ask { s with ox:=s.ox++ [(⟨(c:Int),(OE p c).map fV⟩,vf)],vo:=vo' })/\ee (λk=>k=mb\/s.vo.ownBlock=M k) w w'
section
variable {p : List eb} {w0 w : World} {ρ : Nat -> Nat × Nat} {mb : Nat} {vp : Value} {ask : Bool} {s : RS}
theorem Es(n:fh p w0 w ρ mb vp ask s)(a6:eQ w0 vp p)(ce:ez p p.length)(cf:eM p<=4194304)(cu:s.ox.length<=100)(e)(b7:e<p.length)(b8:(OE p e).length<=4194304):
  Calls Tryz.prog 118 #[zP (M ⟨mb,0,U⟩),J I (e:Int)] w λd k=>qI p w0 mb vp ask s e w k d:=by
 obtain⟨ak,an,a8⟩:=fd n.obj;have cn:w.cell? ⟨mb,2,U⟩=M (O ak s.ox.length an):=by rw[<-a8];exact n.eH.cell 2
 have bc:=n.eH.c0
 by_cases a5:s.ox.length=100
 .have Z:qI p w0 mb vp ask s e w w (zR (J I 0)):=by unfold qI;rw[am a5];exact⟨rfl,rfl⟩
  have V:=Ou Z;have b6:(100:Int)<=(s.ox.length:Int):=by omega
  go_in
  go_wp2;go_ret;exact V
 have Z:∀k d,(d=Ending.returned (J I ((s.ox.length:Int)+1))/\(∃ b a A,fh p w0 k b mb vp ask { s with ox:=s.ox++ [(⟨(e:Int),(OE p e).map fV⟩,A)],vo:=a })/\ee (λa=>a=mb\/s.vo.ownBlock=M a) w k)->qI p w0 mb vp ask s e w k d:=λk d a=>by unfold qI;rw[af a5];exact a
 have V:=Ou Z;have b6:¬(100:Int)<=(s.ox.length:Int):=by omega
 have R:=Ou n;have bn:=Ou a6;obtain⟨cp,_,_,cs,rfl,_⟩:=a6;have:=n.eH.lt;have H:=ev w (zC #[J I (e:Int),O U 0 0] 245);have N:=Oz w #[J I (e:Int),O U 0 0] 245;have cm:=Oq H _ _ bc;have bo:=Ou (eA (Oq (n.bel.trans (H.mono n.bel.size))) bn);have o:=Ou a8;have:s.ox.length<100:=by omega
 go_in
 go_wp2_with fail;generalize w.alloc _=W at *;refine(sH p p.length ce (ai _) cf e _ W bo b7).mono ?_;rintro d B ⟨n,rfl,Y,G⟩;have aa:=eu H G;have be:=N.bl G;obtain⟨n,a1,n,n,rfl,b9,a3,a4⟩:=it (zX rfl Y);have a0:=Ou a4;have:=N.lt;have ba:=G.size;obtain⟨b,ab⟩:∃b,b=OE p (e:Int):=⟨_,rfl⟩;rw[<-ab]at a0 a3 b9 b8 ⊢;have bh:=Ou ab;have bk:=Ou Y;clear H N G Y a4 ab bc cm;go_wp2
 go_loopw [7] (λd wr=>∃(a:Nat) (A:Value),a<=b.length/\d=J I a/\ed wr w.heap.size 245 [J I (e:Int),A]/\wr.ownsRow B.heap.size 183 2 A ((b.take a).map fV).length (fY ((b.take a).map fV))/\ee (λa=>a=w.heap.size) B wr) (λd _=>b.length-(intOf d).toNat)
 case atStart=>exact ⟨0,_,az _,rfl,be,World.ownsRow_nil _ _ _ _,Ow _ _⟩
 case round=>
  obtain⟨a,A,y,rfl,l,v,D⟩:=hrel;have z:((b.take a).map fV).length=a:=by rw[aZ,aR];omega
  have:=D.size;obtain⟨g,h,rfl⟩:=fd v
  by_cases ac:a<b.length
  .obtain rfl:=a3 (eW ac);have ao:=ea a0 a ac;have ca:=Oo ao;dsimp only at ca;have bz:¬a1=w.heap.size:=(by have:=(bk.lt a1 rfl).1;omega);replace ao:=D.cell ao bz;have bM:b[a]? =M b[a]:=ae ac;generalize b[a]=t at *;have bf:=Ou bM;have:=fp a;have:(a:Int)<(b.length:Int):=(by omega);have T:=Ou v;go_wp2_with fail;refine(Mi t wr).mono ?_;rintro d ar ⟨rfl,bs⟩;rw[pG,show zq t=fV t from rfl];have n:=ev ar (zC #[J I (fq (fV t)),J I (eI (fV t))] 183);have x:=eu bs n;have Q:=l.bl x;have n:=Oz ar #[J I (fq (fV t)),J I (eI (fV t))] 183;have:=n.c0;have:=n.c1;have a2:=eX T (Ox x) (λf j d=>by have:=(T.lt f j).2;omega);obtain⟨r,u,i,F,E,q,ad⟩:=wa a2 (by have:=x.size;omega) (by omega) (fV t) (ar.heap.size+1) (by simp);have L:=zW a2 Q;have m:=Q.mods q L;have br:=Q.c1;have X:=m.c1;have b5:=m.frozen 1;have bI:((b.take (a+1)).map fV)=(b.take a).map fV++ [fV t]:=(by rw[bd,ea bf,aM];rfl);have n:=jG i w.heap.size 1 (O r (((b.take a).map fV).length+1) u);have A:∀f,(O g ((b.take a).map fV).length h).ownBlock=M f->B.heap.size<=f:=λf j=>(T.lt f j).1;have:=x.size
   have C:Hid (ed (i.setCell ⟨w.heap.size,1,U⟩ (O r (((b.take a).map fV).length+1) u)) w.heap.size 245 [J I (e:Int),O r (((b.take a).map fV).length+1) u]/\(i.setCell ⟨w.heap.size,1,U⟩ (O r (((b.take a).map fV).length+1) u)).ownsRow B.heap.size 183 2 (O r (((b.take a).map fV).length+1) u) ((b.take (a+1)).map fV).length (fY ((b.take (a+1)).map fV))/\ee (λa=>a=w.heap.size) B (i.setCell ⟨w.heap.size,1,U⟩ (O r (((b.take a).map fV).length+1) u))):=by
    rw[bI];refine⟨m.setCell 1 _,eX E n (λf j d=>?_),((D.trans (Ox x) (λa y d=>by omega)).trans q (λa y d=>by have:=A a d;omega)).trans n (λ_ _ d=>d)⟩;subst d
    rcases ad with d | ⟨f,f,d⟩
    .exact L (d▸j)
    .rw [j]at d;cases d;omega
   have:=Ou z;rw[z]at C F br X;go_wp2_with (at_builtin;refine OA rfl (.tmp 35) (.tmp 37) 181 rfl _ _ rfl rfl F ?_)
   go_roundw
   case rel=>exact ⟨a+1,_,by omega,by go_num,C.1,C.2.1,C.2.2⟩
   case measure=>simp[intOf];omega
  .obtain rfl:a=b.length:=by omega
   rw[bG]at v z l;obtain⟨ck,ca,cg,ba,ci⟩:=info_parts Jv;have r:Below w.heap.size w wr:=aa.trans (D.below aa.size (λa y d=>by omega));have Q:=Ou (R.below r (ai _));have a2:=Q.drew.obj;rw[ea o]at a2;rw[z]at l v
   have cc:∀d∈(#[J I (e:Int),O g b.length h]:Array Value).toList,d.oneCell'=K:=λd a=>by
    simp only[aE,aF,or_false]at a
    rcases a with rfl | rfl <;> rfl
   obtain⟨n,i,F,E,q,ad⟩:=iN (P:=Tryz.prog) (W:=wr.drew) 185 185 245 ck _ 2 32 Tryz.underlying185 ca cg ba ci rfl (by decide) w0.heap.size _ s.ox.length _ a2 #[J I (e:Int),O g b.length h] rfl cc wr.heap.size rfl (by unfold maxLen;omega) (by omega) Q.bel.size;obtain⟨u,x,rfl⟩:=fd E;have cb:=R.newObj (w2:=wr.drew) (W:=i) r.drew (c:=(e:Int)) (fl:=b.map fV) (by rw[z];exact Ov v (by have:=aa.size;omega)) (by rw[ea o];exact q) E (by rw[ea o];exact ad);obtain⟨⟨n,ar⟩,X,b5⟩:=cb;rw[ea o]at X;have L:¬(O ak s.ox.length an).ownBlock=M w.heap.size:=λd=>by have:=(R.obj.lt _ (by rw[ea o];exact d)).2;omega
   have:=l.lt;have T:=l.c0;have ao:=l.c1;have n:=l.drew.alloc (zC #[J I (e:Int),O g b.length h] 245);have m:=l.drew.mods q L;have l:=m.gP (p:=⟨mb,2,U⟩) (by dsimp only;omega) (O u (s.ox.length+1) x);have bM:(wr.drew.alloc (zC #[J I (e:Int),O g b.length h] 245)).cell? ⟨w.heap.size,0,U⟩=M (J I (e:Int))/\(wr.drew.alloc (zC #[J I (e:Int),O g b.length h] 245)).cell? ⟨w.heap.size,1,U⟩=M (O g b.length h):=⟨n.cell 0,n.cell 1⟩;have bz:i.cell? ⟨w.heap.size,0,U⟩=M (J I (e:Int))/\i.cell? ⟨w.heap.size,1,U⟩=M (O g b.length h):=⟨m.cell 0,m.cell 1⟩;have bI:(i.setCell ⟨mb,2,U⟩ (O u (s.ox.length+1) x)).cell? ⟨w.heap.size,0,U⟩=M (J I (e:Int))/\(i.setCell ⟨mb,2,U⟩ (O u (s.ox.length+1) x)).cell? ⟨w.heap.size,1,U⟩=M (O g b.length h):=⟨l.cell 0,l.cell 1⟩;have l:wr.cell? ⟨mb,2,U⟩=M (O ak s.ox.length an):=Oq r _ _ cn;have:=kK wr (zC #[J I (e:Int),O g b.length h] 245) _ _ l;have:=ar.eH.c2;have bf:Hid (qI p w0 mb (O cp p.length cs) ask s e w (i.setCell ⟨mb,2,U⟩ (O u (s.ox.length+1) x)) (zR (J I ((s.ox.length:Int)+1)))):=ea V _ _ ⟨rfl,⟨_,_,_,by rw[<-ea bh];exact ar⟩,((fX (S:=λa=>a=mb\/s.vo.ownBlock=M a) r.drew).trans q (λa y d=>.inr (by rw[ea o];exact d))).trans (jG _ _ _ _) (λa y d=>.inl d)⟩;have br:=Ou bz;have bs:=Ou bI;have C:=Ou bM;go_wp2;refine iY (λk=>k.cell? ⟨w.heap.size,0,U⟩=M (J I (e:Int))/\k.cell? ⟨w.heap.size,1,U⟩=M (O g b.length h)) ⟨T,ao⟩ λhHeld=>?_;refine dZ 40 0 ?_;refine dZ 41 1 ?_;refine dZ 42 2 ?_;refine dZ 43 3 ?_;refine dZ 45 5 ?_;refine iu 4 6 (λj f=>?_) λj f=>?_;go_simp;refine f.out _ _ ⟨T,ao⟩ λhHeld=>?_;clear f j hHeld;refine el 6 (λj f=>?_);go_simp;refine f.out _ _ C λhHeld=>?_;clear f j hHeld;rotate_left;go_simp;refine f.out _ _ C λhHeld=>?_;clear f j hHeld;refine el 4 (λj f=>?_);go_simp;refine f.out _ _ C λhHeld=>?_;clear f j hHeld
   all_goals
    refine el 7 (λj f=>?_);refine ON (.tmp 44) (.tmp 46) 185 rfl _ _ rfl rfl F ?_;go_simp;refine f.out _ _ br λhHeld=>?_;refine dZ 48 8 ?_;refine dZ 49 9 ?_;refine el 10 (λj f=>?_);go_simp;refine f.out _ _ bs λhHeld=>?_;refine ig ?_;go_wp2;go_ret;exact bf
end
theorem Ju:(Tryz.prog.info? 248).map (λa=>(a.zero,a.size,a.bytes))=M (M (.agg #[J I 0,J I 0,J I 0,O U 0 0,O U 0 0]),5,72):=by kernel_rfl
theorem Fl{m f i k c}(q:eG 2 (mC m) (O f i k) c):
  i=c.length/\(f=U->i=0/\k=0)/\∀g,f=M g->∀(a:Nat) (j:Value),(fY c)[a]? =M j->m (g.add a)=M j:=by
 obtain⟨f,f,f,f,b,f,h,r⟩:=q
 cases b
 refine⟨rfl,λb=>?_,λg b a j e=>?_⟩
 .rcases h.2 with ⟨_,d⟩ | d | ⟨_,d⟩
  .exact⟨Nat.eq_zero_of_not_pos λa=>(by have:=h.1 (List.ne_nil_of_length_pos a);rw[b]at this;cases this),d⟩
  .rw [b]at d;cases d
  .exact absurd b d
 .have t:a<c.length*2:=by rw[<-Ah];exact(ag.1 e).1
  have u:c≠[]:=λa=>by subst a;simp at t
  have l:=h.1 u;rw[b]at l
  cases l
  have hx:c[a / 2]? =M c[a / 2]:=ae (by omega);have o:=r (a / 2) _ hx;have n:a=a / 2*2+a % 2:=by omega
  rw[n,vg hx (by omega),pG]at e;rw[addr_add,n];have d:a % 2=0\/a % 2=1:=by omega
  rcases d with d | d <;> rw[d]at e ⊢
  .cases e;exact o.1
  .cases e;exact o.2
theorem Bk{a e g l}(h:a.ownsRow e 183 2 g l.length (fY l))(u:e<=a.heap.size)(E:l.length<=4194400){k d j x}(hx:eG 2 (mC a.cell?) (O k d j) x)(F:d<=4194400):
  ∃b c i,(Builtin.append_ #[181,181] 181 #[g,O k d j]).run Tryz.prog a= .ok (O b (l.length+d) c) i/\i.ownsRow e 183 2 (O b (l.length+d) c) (l++x).length (fY (l++x))/\
   ee (λf=>g.ownBlock=M f) a i/\((O b (l.length+d) c).ownBlock=g.ownBlock\/∃f,a.heap.size<=f/\(O b (l.length+d) c).ownBlock=M f):=by
 obtain⟨q,o,A,B,C⟩:=info_parts zv;obtain⟨rfl,v,z⟩:=Fl hx;rw[xA,aw]
 cases k with
 | none =>
  obtain⟨m,n⟩:=v rfl;obtain rfl:x= []:=aV m;subst n;obtain⟨b,c,rfl⟩:=fd h;exact⟨b,c,a,run_append_owned_none (P:=Tryz.prog) (w:=a) e 181 181 183 q 2 Tryz.underlying181 o _ _ _ h,by simpa[fY]using h,Ow _ _,.inl rfl⟩
 | some m =>
  obtain⟨d,D,y,n,r,_,t⟩:=run_append_own_at (P:=Tryz.prog) a e 181 181 183 q _ 2 16 Tryz.underlying181 o A B C rfl (by decide) g _ _ h m x.length j (fY x) (Ah x) (z m rfl) (Eb x) (by unfold maxLen;omega) (by omega) u;obtain⟨b,c,rfl⟩:=fd n;exact⟨b,c,D,y,n,(Ow _ a).grown r (λf a _=>a),t.imp id (λa=>⟨_,ai _,a⟩)⟩
structure pS (w V:World)(bx ci ki:Nat)(vl:Value)(l:List LVal):Prop where
 bel:Below w.heap.size w V
 box:ed V bx 248 [J I (ci:Int),J I (ki:Int),J I 0,vl,O U 0 0]
 row:V.ownsRow w.heap.size 183 2 vl l.length (fY l)
 lo:w.heap.size<=bx
theorem pS.put{w g h e f l o vl d u k}(a:pS w g f l o vl u)(j:Below g.heap.size g h)(i:ee (λc=>vl.ownBlock=M c) h e)(r:e.ownsRow w.heap.size 183 2 d k.length (fY k))(t:d.ownBlock=vl.ownBlock\/∃c,h.heap.size<=c/\d.ownBlock=M c):
  pS w (e.setCell ⟨f,3,U⟩ d) f l o d k/\e.cell? ⟨f,3,U⟩=M vl/\e.frozen? ⟨f,3,U⟩=F:=by
 have:=j.size;have k:=a.bel.size;have:=a.box.lt;have q:=zW a.row a.box;have g:=(a.box.below j a.box.lt).mods i q;have h:=jG e f 3 d;refine⟨⟨((a.bel.trans (j.mono k)).trans (i.below (by omega) (λc n b=>by have:=(a.row.lt c b).1;omega))).trans (h.below (by have:=i.size;omega) (λc n b=>by have:=a.lo;omega)),g.setCell 3 d,eX r h (λd m b=>?_),a.lo⟩,g.cell 3,g.frozen 3⟩;subst b
 rcases t with b | ⟨c,n,b⟩
 .exact q (b▸m)
 .rw [m]at b;cases b;omega
abbrev Five (w:World)(b:Nat)(u v x y z:Value):Prop:=w.cell? ⟨b,0,U⟩=M u/\w.cell? ⟨b,1,U⟩=M v/\w.cell? ⟨b,2,U⟩=M x/\w.cell? ⟨b,3,U⟩=M y/\w.cell? ⟨b,4,U⟩=M z
theorem sj{w b g c d x e f}(a:ed w b g [c,d,x,e,f]):Five w b c d x e f:=⟨a.cell 0,a.cell 1,a.cell 2,a.cell 3,a.cell 4⟩
def qW (p:On)(cl slot:Int)(this:LVal)(args:List LVal):eD:=⟨ew p cl slot,0,this::args++List.replicate ((ew p cl slot).locals.toNat-(1+args.length)) eO,[]⟩
def AR (p:On)(w0:World)(mb:Nat)(vp:Value)(ask:Bool)(s:RS)(f:eD)(w w':World)(e:Ending):Prop:=e=zR (.tuple #[])/\(∃ ρ' x vc',fh p w0 w' ρ' mb vp ask { s with fx:=s.fx++ [(f,x)],vc:=vc' })/\ee (λk=>k=mb\/s.vc.ownBlock=M k) w w'
section
variable {p : List eb} {w0 w : World} {ρ : Nat -> Nat × Nat} {mb : Nat} {vp : Value} {ask : Bool} {s : RS}
theorem Eo(z:fh p w0 w ρ mb vp ask s)(bh:eQ w0 vp p)(bk:ez p p.length)(d9:eM p<=4194304)(e7:s.fx.length<=100)(j n)(e6:0<=j)(ck:j<(p.length:Int))(d0:(fy p j n).isSome=K)(this b a0 a2 a1)(bo:eG 2 (mC w.cell?) (O a0 a2 a1) b)(e9:1+(b.length:Int)<=(ew p j n).locals)(fa:(ew p j n).locals<=8):
  Calls Tryz.prog 119 #[zP (M ⟨mb,0,U⟩),J I j,J I n,.agg #[J I (fq this),J I (eI this)],O a0 a2 a1] w λt aa=>AR p w0 mb vp ask s (qW p j n this b) w aa t:=by
 obtain⟨e,g,d2,bf,_⟩:=sh bk d0;have d1:jU p j n=((e:Int),(g:Int)):=by unfold jU;rw[d2]
 obtain⟨ci,eK,eP,a0,a0,es,a0,a0,a0,a0,rfl,a0,R,a0,bc,a0,a0,a0,Z,a0,a0,a0⟩:=zN bh bf;generalize dp:ew p j n=m at *;have ak:=Ou dp;have br:=z.eH.c0;replace R:=Oq z.bel _ _ R;replace Z:=Oq z.bel _ _ Z;have y:=Ou z;have ce:=Ou bf;have X:=ev w (zC #[J I (fq this),J I (eI this)] 183);have b9:=Oz w #[J I (fq this),J I (eI this)] 183;have cf:=Ou (eA (Oq (z.bel.trans (X.mono z.bel.size))) bh);obtain rfl:=(Fl bo).1;have cg:=Ou bo;have eR:=Oq X _ _ br;go_in
 go_wp2_with fail;generalize w.alloc _=W at *;refine(vj p _ p.length j n W cf bk (ai _) (by omega) ck d9).mono ?_;rintro t u ⟨rfl,z⟩;rw[d1];dsimp only;have Y:=eu X z;have a0:=b9.bl z;have X:=Oz u #[J I (e:Int),J I (g:Int),J I 0,O U 0 0,O U 0 0] 248;have D:=ev u (zC #[J I (e:Int),J I (g:Int),J I 0,O U 0 0,O U 0 0] 248);have z:=a0.bl D;have N:pS w _ u.heap.size e g (O U 0 0) []:=⟨eu Y D,X,World.ownsRow_nil _ _ _ _,Y.size⟩;have e0:=z.c0;have e1:=z.c1;have e2:=X.c3;obtain⟨ao,a3,eS,v,cz,cs,d5⟩:=wa (l:= []) N.row (by have:=N.bel.size;exact this) (by simp) this (u.heap.size+1) (by simp);obtain⟨z,e4,cn⟩:=N.put (ay _ _) cs cz d5;have C:pS w (eS.setCell ⟨u.heap.size,3,U⟩ (O ao 1 a3)) u.heap.size e g (O ao 1 a3) [this]:=z;rw[show ([]:List LVal).length+1=1 from rfl]at v;obtain⟨ar,a4,b7,V,cA,cu,d6⟩:=Bk C.row C.bel.size (by simp) (xZ (Oq C.bel) cg) (by omega);obtain⟨z,e5,cp⟩:=C.put (ay _ _) cu cA d6;have ca:pS w (b7.setCell ⟨u.heap.size,3,U⟩ (O ar (1+b.length) a4)) u.heap.size e g (O ar (1+b.length) a4) (this::b):=z;rw[show [this].length+b.length=1+b.length from rfl]at V;have e3:=C.box.c3;have ac:=Ou ca
 go_wp2_with (first
  | (at_builtin; refine OA rfl (.tmp 27) (.tmp 29) 181 rfl _ _ rfl rfl v ?_)
  | (at_builtin; refine OA rfl (.tmp 33) (.tmp 34) 181 rfl _ _ rfl rfl V ?_))
 generalize b7.setCell _ _=V0 at *;obtain⟨r,D⟩:∃r,r=u.heap.size:=⟨_,rfl⟩;rw[<-D]at ac ⊢;clear D v V e4 cn e5 cp e0 e1 e2 e3 eR Y
 go_loopw [] (λwr=>∃(i:Nat) (b6:Value),1+b.length+i<=m.locals.toNat/\pS w wr r e g b6 (this::b++List.replicate i eO)) (λwr=>m.locals.toNat-oY (wr.cell? ⟨r,3,U⟩))
 case atStart=>exact ⟨0,_,by omega,by rw[List.replicate_zero,bL];exact ea ac⟩
 case round=>
  obtain⟨i,b6,be,a⟩:=hrel;obtain⟨d,F⟩:∃d,d=this::b++List.replicate i eO:=⟨_,rfl⟩;have a8:d.length=1+b.length+i:=by rw[F];simp;omega
  rw[<-F]at a;have an:=Ou F;obtain⟨A,B,rfl⟩:=fd a.row;have a5:=a.box.c3;have L:=Oq a.bel;have u:=L _ _ br;have z:=L _ _ R;have C:=L _ _ Z;have en:=Oo u;have eo:=Oo z;have ep:=Oo C;have er:=Oo a5;dsimp only at en eo ep er;have u:=fp e;have u:(e:Int)<(p.length:Int):=by omega
  have u:=fp g;have u:(g:Int)<(es:Int):=by omega
  have E:=Ou a8;have ad:=Ou a;clear F L a8
  by_cases u:1+b.length+i<m.locals.toNat
  .have d4:(d.length:Int)<m.locals:=(by have:=ea E;omega);have o:=(ay wr.heap.size wr).drew;have Q:=eX a.row (Ox o) (λb bc t=>by have:=(a.row.lt b bc).2;omega);obtain⟨q,x,ba,v,H,G,T⟩:=wa Q (ap a.bel.size o.size) (by have:=ea E;omega) eO wr.heap.size rfl;obtain⟨h,u,u⟩:=a.put o G H T;rw[show fq eO=0 from rfl,show eI eO=0 from rfl]at v
   have ab:Hid (pS w (ba.setCell ⟨r,3,U⟩ (O q (d.length+1) x)) r e g (O q (d.length+1) x) (this::b++List.replicate (i+1) eO)):=by
    show pS _ _ _ _ _ _ _
    have:this::b++List.replicate (i+1) eO=d++ [eO]:=by rw[ea an,cC,<-a9]
    rw[this];exact h
   have a6:=h.box.c3;clear a h H G T Q o;go_wp2;refine fk (jC wr.heap.size wr) (λ_ _ _=>rfl) λhHeld=>?_;refine dZ 37 0 ?_;refine dZ 38 1 ?_;refine dZ 39 2 ?_;refine dZ 40 3 ?_;refine dZ 41 4 ?_;refine dZ 42 5 ?_;refine dZ 43 6 ?_;refine dZ 44 7 ?_;refine dZ 45 8 ?_;refine dZ 46 9 ?_;refine dZ 47 10 ?_;refine dZ 48 11 ?_;refine dZ 49 12 ?_;refine dZ 50 13 ?_;refine dZ 51 14 ?_;refine dZ 52 15 ?_;refine dZ 53 16 ?_;refine eV ?_;go_wp2_with (at_builtin;refine OA rfl (.tmp 55) (.tmp 57) 181 rfl _ _ rfl rfl v ?_)
   refine⟨⟨i+1,_,by omega,ea ab⟩,?_⟩;rw[a6,a5]
   show m.locals.toNat-(d.length+1)<m.locals.toNat-d.length
   have:=ea E;omega
  .have d4:¬(d.length:Int)<m.locals:=(by have:=ea E;omega);obtain⟨ej,ds,ec,eg,ei⟩:=info_parts Ju
   have a6:d=(qW p j n this b).loc:=by
    unfold qW;dsimp only;rw[ea ak,ea an,show m.locals.toNat-(1+b.length)=i by omega]
   have o:Below w.heap.size w wr.drew.drew:=a.bel.drew.drew;have H:=(y.below o (ai _)).cal;obtain⟨bM,b5,x⟩:=fd H;rw[x]at H
   have d3:∀b∈(#[J I (e:Int),J I (g:Int),J I 0,O A d.length B,O U 0 0]:Array Value).toList,b.oneCell'=K:=λb a=>by
    simp only[aE,aF,or_false]at a
    rcases a with rfl | rfl | rfl | rfl | rfl <;> rfl
   obtain⟨u,b8,v,T,G,bn⟩:=iN (P:=Tryz.prog) (W:=wr.drew.drew) 186 186 248 ej _ 5 72 Tryz.underlying186 ds ec eg ei rfl (by decide) w0.heap.size _ s.fx.length _ H #[J I (e:Int),J I (g:Int),J I 0,O A d.length B,O U 0 0] rfl d3 wr.heap.size rfl (by unfold maxLen;omega) (by omega) (y.bel.trans (o.mono y.bel.size)).size;obtain⟨bs,bI,rfl⟩:=fd T;obtain⟨⟨u,ba⟩,cm,u⟩:=y.push (w2:=wr.drew.drew) (W:=b8) o (c:=e) (k:=g) (f:=qW p j n this b) (vl:=O A d.length B) (by unfold qW;dsimp only;rw[ea ak];exact ce) (by rw[<-a6];exact a.row) rfl (by rw[x];exact G) T (by rw[x];exact bn);rw[x]at cm;have u:=a.box.lt;have bz:¬(O bM s.fx.length b5).ownBlock=M r:=λt=>by have:=(y.cal.lt _ (by rw[x];exact t)).2;have:=a.lo;omega
   have u:wr.cell? ⟨mb,3,U⟩=M (O bM s.fx.length b5):=(by rw[<-x];exact(y.below a.bel (ai _)).eH.cell 3);have z:=kK wr (zC #[J I (e:Int),J I (g:Int),J I 0,O A d.length B,O U 0 0] 248) _ _ u;have et:r≠mb:=(by have:=y.eH.lt;have:=a.lo;omega);have cc:Hid (AR p w0 mb (O (M ⟨ci,eK,U⟩) p.length eP) ask s (qW p j n this b) w (b8.setCell ⟨mb,3,U⟩ (O bs (s.fx.length+1) bI)) (zR (.tuple #[]))):=⟨rfl,⟨_,_,_,ba⟩,((fX (S:=λi=>i=mb\/s.vc.ownBlock=M i) o).trans G (λi be t=>.inr (by rw[x];exact t))).trans (jG _ _ _ _) (λi be t=>.inl t)⟩;have ab:=Ou (a.box.drew.drew.mods G bz);have cb:=Ou (ab.gP (p:=⟨mb,3,U⟩) et (O bs (s.fx.length+1) bI));have Q:=Ou (a.box.drew.drew.alloc (zC #[J I (e:Int),J I (g:Int),J I 0,O A d.length B,O U 0 0] 248));clear ba T G bn H bz o a a6 x;go_wp2;refine fk (jC wr.heap.size wr) (λ_ _ _=>rfl) λhHeld=>?_;refine dZ 37 0 ?_;refine dZ 38 1 ?_;refine dZ 39 2 ?_;refine dZ 40 3 ?_;refine dZ 41 4 ?_;refine dZ 42 5 ?_;refine dZ 43 6 ?_;refine dZ 44 7 ?_;refine dZ 45 8 ?_;refine dZ 46 9 ?_;refine dZ 47 10 ?_;refine dZ 48 11 ?_;refine dZ 49 12 ?_;refine dZ 50 13 ?_;refine dZ 51 14 ?_;refine dZ 52 15 ?_;refine dZ 53 16 ?_;refine eV ?_;clear hHeld;go_wp2;refine iY (λaa=>Five aa r (J I (e:Int)) (J I (g:Int)) (J I 0) (O A d.length B) (O U 0 0)) (sj ad.box) λhHeld=>?_;refine dZ 60 0 ?_;refine dZ 61 1 ?_;refine dZ 62 2 ?_;refine dZ 63 3 ?_;refine dZ 65 5 ?_;refine iu 4 6 (λq h=>?_) λq h=>?_;go_simp;refine h.out _ _ (sj ad.box) λhHeld=>?_;clear h q hHeld;refine el 6 (λq h=>?_);go_simp;refine h.out _ _ (sj Q) λhHeld=>?_;clear h q hHeld;rotate_left;go_simp;refine h.out _ _ (sj Q) λhHeld=>?_;clear h q hHeld;refine el 4 (λq h=>?_);go_simp;refine h.out _ _ (sj Q) λhHeld=>?_;clear h q hHeld
   all_goals
    refine el 7 (λq h=>?_);refine ON (.tmp 64) (.tmp 66) 186 rfl _ _ rfl rfl v ?_;go_simp;refine h.out _ _ (sj ab) λhHeld=>?_;refine dZ 68 8 ?_;refine dZ 69 9 ?_;refine el 10 (λq h=>?_);go_simp;refine h.out _ _ (sj cb) λhHeld=>?_;refine ig ?_;go_wp2;go_end0;exact cc
end
abbrev iD (N:Nat)(v:Value)(cb oc:Nat)(W w':World):Prop:=∀b o,b<N->¬v.ownBlock=M b->¬(b=cb/\o=oc)->w'.cell? ⟨b,o,U⟩=W.cell? ⟨b,o,U⟩
section
variable {W W' : World} {v v' : Value} {cb oc : Nat}
theorem iD.alloc(a):iD W.heap.size v cb oc W (W.alloc a):=λ_ _ a _ _=>World.cell?_alloc_lt _ _ _ a
theorem iD.of (d:ee (λa=>v.ownBlock=M a) W W'):iD W.heap.size v cb oc W W':=λa _ b c _=>World.cell?_of_block (d.block a b c)
theorem iD.set (e:ee (λk=>v.ownBlock=M k) W W'):iD W.heap.size v cb oc W (W'.setCell ⟨cb,oc,U⟩ v'):=λb f c d a=>by
 rw[World.cell?_setCell_other _ _ _ _ (λb=>a (by cases b;exact⟨rfl,rfl⟩))];exact iD.of e b f c d a
end
theorem Bj{W e v l}(j:W.ownsRow e 183 2 v l.length (fY l))(y:e<=W.heap.size)(z:l.length<=4194400){xs}(hx:xs.length<=2){f}(q:f.toList=fY xs)(a g)(o:a=xs.length)(m:W.heap.size=g):
  ∃b c W',(Builtin.append_ #[181,181] 181 #[v,O (M ⟨g,0,U⟩) a a]).run Tryz.prog (W.alloc (zC f 183))= .ok (O b (l.length+a) c) W'/\W'.ownsRow e 183 2 (O b (l.length+a) c) (l++xs).length (fY (l++xs))/\
   ee (λa=>v.ownBlock=M a) W W'/\((O b (l.length+a) c).ownBlock=v.ownBlock\/∃h,W.heap.size<=h/\(O b (l.length+a) c).ownBlock=M h):=by
 subst m o;obtain⟨x,n,t,u,w⟩:=info_parts zv
 obtain⟨v',W',r,i,k,_,d⟩:=run_append_own_at (P:=Tryz.prog) (W.alloc (zC f 183)) e 181 181 183 x _ 2 16 Tryz.underlying181 n t u w rfl (by decide) v _ _ (eX j ((Ow (λ_=>False) W).alloc _) (λ_ _ a=>a)) ⟨W.heap.size,0,U⟩ xs.length xs.length (fY xs) (Ah xs)
  (λb c a=>by
    have:=(Oz W f 183).cell b;rw[addr_add,bJ,this,q]
    exact a) (Eb xs) (by unfold maxLen;omega) (by omega) (by simp;omega)
 obtain⟨b,c,rfl⟩:=fd i;rw[xA,aw];refine⟨b,c,W',r,i,((Ow _ W).alloc _).grown k (λa a _=>a),?_⟩
 rcases d with d | d
 .exact .inl d
 .exact .inr ⟨_,by simp[World.size_alloc],d⟩
section
variable {p : List eb} {w0 V : World} {ρ : Nat -> Nat × Nat} {mb : Nat} {vp : Value} {ask : Bool} {s : RS}
theorem fh.tR(g:fh p w0 V ρ mb vp ask s){fx y}(l:s.fx=fx++ [y]){cb}(o:s.vc.ownBlock=M cb)(x:y.1.stk.length<=4194304)(e)(hx:e.length<=2){news}(t:news.toList=fY e)(a f)(q:a=e.length)(m:V.heap.size=f){d}(r:d=y.1.stk.length):
  ∃b c W',(Builtin.append_ #[181,181] 181 #[y.2.vs,O (M ⟨f,0,U⟩) a a]).run Tryz.prog (V.alloc (zC news 183))= .ok (O b (d+a) c) W'/\
   (∃ i,fh p w0 (W'.setCell ⟨cb,fx.length*5+4,U⟩ (O b (d+a) c)) i mb vp ask { s with fx:=fx++ [({ y.1 with stk:=y.1.stk++e },{ y.2 with vs:=O b (d+a) c })] })/\
   (W'.cell? ⟨cb,fx.length*5+4,U⟩=M y.2.vs/\W'.frozen? ⟨cb,fx.length*5+4,U⟩=F)/\iD V.heap.size y.2.vs cb (fx.length*5+4) V (V.alloc (zC news 183))/\iD V.heap.size y.2.vs cb (fx.length*5+4) V W'/\iD V.heap.size y.2.vs cb (fx.length*5+4) V (W'.setCell ⟨cb,fx.length*5+4,U⟩ (O b (d+a) c)):=by
 subst r;have k:s.fx[fx.length]? =M y:=by rw[l];simp
 obtain⟨b,c,W',u,n,h,w⟩:=Bj (g.fr _ _ k).st g.bel.size (by omega) hx t a f q m;obtain⟨⟨i,j⟩,a,d⟩:=g.stk k o h n w;refine⟨b,c,W',u,⟨i,?_⟩,⟨a,d⟩,iD.alloc _,iD.of h,iD.set h⟩;rw[l,rA]at j;exact j
end
end
end Go.Proofs.YtiiokkllmchohaaGreat
