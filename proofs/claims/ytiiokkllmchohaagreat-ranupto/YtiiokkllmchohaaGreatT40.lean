/- The document's pass and the code's answer alike (pure, over RsO). -/
import Derived.Test.YtiiokkllmchohaaGreatT37
import Derived.Test.YtiiokkllmchohaaGreatT39
set_option maxHeartbeats 0
set_option maxRecDepth 99999
namespace Go.Proofs.YtiiokkllmchohaaGreat
open Go.Value renaming int->J,slice->O,pointer->zP,bool->zB
open Go.IntKind renaming i64->I
open Option renaming none->U,some->M
open Bool renaming true->K,false->F
open Go.Ending renaming returned->zR
open Go.Obj renaming cells->zC
open Go.RowKit Go.Shelf
section
variable {p : List eb} {m : eh} {c : Int}
def kG (p:On)(m:eh)(s:ef):Prop:=s.loc.length=8/\Hi m s/\(s.stk.length:Int)<=m.stack/\gO p s
theorem Fe(e:gK p.length m (-1) m.frames=K)(j:m.locals<=8){g a}(b:ji m g=M a):kG p m (gW a)/\fm m (gW a)=iE a:=by
 obtain⟨d,g,h⟩:=zo e b;have:(a.locals.length:Int)=m.locals:=g;have f:(gW a).loc.length=8:=by unfold gW;simp;omega
 refine⟨⟨f,λe e e=>?_,h,⟨λi hx=>?_,d.2⟩⟩,?_⟩
 .unfold gW;dsimp only;rw[aj,aP (by omega),cL,am (by omega)]
  rfl
 .unfold gW at hx
  rcases aN.1 hx with b | b
  .exact d.1 i b
  .rw [(cJ.1 b).2];exact⟨by omega,by omega⟩
 .unfold fm gW iE;dsimp only;rw[show m.locals.toNat=a.locals.length by omega,List.take_left']
  rfl
theorem wC(d:0<=m.locals)(e:m.locals<=8){a}(b:a.loc.length=8):((fm m a).loc.length:Int)=m.locals:=by
 unfold fm;simp[b];omega
theorem AG(d:0<=m.locals)(e:m.locals<=8){a b}(f:a.loc.length=8)(g:b.loc.length=8)(h:Hi m b):iH p (fm m a) (fm m b)=gA p a b:=by
 rw[<-Ha (p:=p) f g h d e];unfold iH gA
 have h:((fm m a).loc.length == (fm m b).loc.length)=K:=by
  have:=wC d e f;have:=wC d e g;simp;omega
 rw[h,dy,Bool.and_assoc,Bool.and_assoc,Bool.and_comm (((fm m a).stk.zip _).all _)]
theorem IZ (n:gK p.length m (-1) m.frames=K)(k:0<=m.locals)(i:m.locals<=8)(d:Nat)(e:Option ef)(j:∀a,e=M a->kG p m a) :
  (∃f,oP p m d (e.map (fm m))=M (f.map (fm m))/\(∀a,f=M a->kG p m a)/\stepS p m d e=(match f with | none=>M U | some a=>kv p m d a))\/(oP p m d (e.map (fm m))=U/\stepS p m d e=U):=by
 unfold oP stepS jP;rw[show (m.frames.find? λb=>b.pc == (d:Int))=ji m d from rfl]
 cases l:ji m d with
 | none =>
  left
  refine⟨e,rfl,j,?_⟩
  cases e <;> rfl
 | some b =>
  obtain⟨g,h⟩:=Fe n i l
  cases e with
  | none => exact .inl ⟨M (gW b), by rw[bD, h]; rfl, λa a => by cases a; exact g, rfl⟩
  | some a =>
   have o:=j a rfl;have e:iH p (fm m a) (iE b)=gA p a (gW b):=(by rw[<-h];exact AG k i o.1 g.1 g.2.1)
   show (∃f,(if iH p (fm m a) (iE b) then M (M (iE b)) else U)=_/\_/\(if gA p a (gW b) then kv p m d (gW b) else U)=_)\/((if iH p (fm m a) (iE b) then M (M (iE b)) else U)=U/\(if gA p a (gW b) then kv p m d (gW b) else U)=U)
   rw[e]
   cases gA p a (gW b) with
   | true => exact .inl ⟨M (gW b), by rw[bD, h]; rfl, λa a => by cases a; exact g, rfl⟩
   | false => exact .inr ⟨rfl, rfl⟩
theorem Da(h:gK p.length m (-1) m.frames=K)(f:0<=m.locals)(e:m.locals<=8){b}(i:b.loc.length=8)(a):rg p m (fm m b) a=jp p m b a:=by
 unfold rg jp jP;rw[show (m.frames.find? λd=>d.pc == a)=ji m a from rfl]
 cases g:ji m a with
 | none => rfl
 | some d =>
  obtain⟨a,j⟩:=Fe h e g
  show iH p (fm m b) (iE d)=gA p b (gW d)
  rw[<-j];exact AG f e i a.1 a.2.1
theorem Lt (v:Good p)(E:mU p m)(x:0<=m.locals)(B:∀d∈m.code,eU p m d=K)(z:gK p.length m (-1) m.frames=K)(S:kG p m (fH c m)) :
  ∀d,d<=m.code.length->(∀f,iP p c m d=M f->mp p c m d=M (f.map (fm m))/\(∀h,f=M h->kG p m h)/\(0<d->d=m.code.length->f=U))/\(iP p c m d=U->nv p c m=F):=by
 have y:=E.loc;intro d
 induction d with
 | zero =>
  intro _;refine⟨λf e=>?_,λe=>by cases e⟩
  cases e
  exact⟨rfl,λh e=>by cases e;exact S,λf=>by omega⟩
 | succ d V =>
  intro S;obtain⟨L,N⟩:=V (by omega)
  cases t:iP p c m d with
  | none => exact ⟨λf e => (by unfold iP at e; rw[t]at e; cases e), λ_ => N t⟩
  | some f =>
   obtain⟨I,W,_⟩:=L f t;have P:iP p c m (d+1)=stepS p m d f:=(by unfold iP;rw[t];rfl);have G:mp p c m (d+1)=nO p m d (f.map (fm m)):=(by unfold mp;rw[I];rfl);rw[P,G];have i:nO p m d (f.map (fm m))=U->nv p c m=F:=λe=>vh (by omega) I e
   rcases IZ z x y d f W with ⟨Q,r,w,O⟩ | ⟨r,w⟩
   .rw [O];unfold nO at i ⊢;rw[r,au]at i ⊢
    cases Q with
    | none => exact ⟨λd e => (by cases e; exact ⟨rfl, λh e => (by cases e), λ_ _ => rfl⟩), λe => (by cases e)⟩
    | some h =>
     obtain⟨D,X,u,J⟩:=w h rfl
     have T:ey m d∈m.code:=by
      unfold ey;rw[ae (show d<m.code.length by omega)];exact av _
     have t:=B _ T;have l:=kM (p:=p) (m:=m) (op:=(ey m d).op) (a:=(ey m d).a) (b:=(ey m d).b) t
     have hcut:gB p m (ey m d) (fm m h)=(fe p m (ey m d) h).map (fm m):=by
      rw[Ae (by exact u) (λe d=>((J.1 e (cV d))).1) (λf=>(l.cls (by omega)).1) (λf=>by
       have g:=l.cls (by omega);have o:=l.im (by omega);obtain⟨j,q⟩:=ax o.1;rw[q];exact(v.im _ j g.1 g.2 (by omega)).1) (λf=>by
       have g:=l.cls (by omega);obtain⟨j,k⟩:=v.arg _ _ g.1 g.2 (l.call f)
       exact⟨λe d=>(j e d).1,k.1⟩) E.ret.1]
      exact Ca (λf=>by have:=l.loc f;omega)
     have C:iq p m d h=(fe p m (ey m d) h).bind λj=>if kX m d then U else M j:=rfl
     dsimp only[Option.map_some]at i ⊢;rw[hcut]at i ⊢
     cases n:fe p m (ey m d) h with
     | none =>
      rw[n]at i;refine⟨λf e=>?_,λ_=>i rfl⟩;unfold kv at e;rw[C,n]at e
      cases e
     | some j =>
      rw[n]at i;rw[bD,au]at i ⊢;have H:=Ci n D u;rw[Da z x y H.1]at i ⊢
      cases g:kX m d with
      | true =>
       have A:kv p m d h=U:=(by unfold kv;rw[C,n,au,g];rfl);refine⟨λf e=>(by rw[A]at e;cases e),λ_=>?_⟩
       cases q:(gz (ey m d) && !jp p m j (ey m d).a) with
       | true => exact i (by rw[q]; rfl)
       | false =>
        have s:gJ (ey m d)=K/\d+1=m.code.length:=by
         unfold kX gU at g
         cases o:gJ (ey m d) with
         | true =>
          refine⟨rfl,?_⟩;rw[o]at g
          cases k:gz (ey m d) with
          | true =>
           rw[k]at g;have R:=l.jmp (by unfold gz at k;simp only[bB,beq_iff_eq]at k;omega);simp at g;omega
          | false =>
           rw[k]at g;simp at g;omega
         | false =>
          rw[o]at g
          cases k:gz (ey m d) with
          | true =>
           rw[k]at g;have R:=l.jmp (by unfold gz at k;simp only[bB,beq_iff_eq]at k;omega);simp at g;omega
          | false => rw[k]at g; simp at g
        have k:mp p c m m.code.length=M (M (fm m j)):=by
         rw[<-s.2,G];unfold nO;rw[r,au];dsimp only[Option.map_some];rw[hcut,n,bD,au,Da z x y H.1,q,s.1]
         rfl
        unfold nv;rw[k]
      | false =>
       have s:iq p m d h=M j:=(by rw[C,n,au,g];rfl)
       have A:kv p m d h=if gz (ey m d) && !jp p m j (ey m d).a then U else M (if gJ (ey m d) then M j else U):=by
        unfold kv;rw[s,au]
        have k:((gU (ey m d) d).all λd=> !d.2 || jp p m j d.1)= !(gz (ey m d) && !jp p m j (ey m d).a):=by
         unfold gU
         cases gz (ey m d) <;> cases gJ (ey m d) <;> simp
        rw[k]
        cases (gz (ey m d) && !jp p m j (ey m d).a) <;> rfl
       rw[A]
       have R:kG p m j:=by
        obtain⟨k,l⟩:=rk s D u;exact⟨k,(zu B).nx d h j (by omega) X D u s,l,uT v B (by omega) J s⟩
       cases q:(gz (ey m d) && !jp p m j (ey m d).a) with
       | true => exact ⟨λf e => (by cases e), λ_ => i (by rw[q]; rfl)⟩
       | false =>
        cases o:gJ (ey m d) with
        | true =>
         refine⟨λf e=>?_,λe=>by cases e⟩
         cases e
         refine⟨rfl,λh e=>(by cases e;exact R),λ_ j=>?_⟩
         exfalso
         unfold kX gU at g;rw[o]at g
         cases k:gz (ey m d) with
         | true => rw[k]at g; simp at g; omega
         | false => rw[k]at g; simp at g; omega
        | false => exact ⟨λf e => (by cases e; exact ⟨rfl, λh e => (by cases e), λ_ _ => rfl⟩), λe => (by cases e)⟩
   .rw [w];unfold nO at i;rw[r]at i;exact⟨λf e=>(by cases e),λ_=>i rfl⟩
theorem Lu (e:Good p)(f:mU p m)(h:0<=m.locals)(k:∀l∈m.code,eU p m l=K)(j:gK p.length m (-1) m.frames=K)(i:kG p m (fH c m))(q:1<=m.code.length):nv p c m=iX p c m:=by
 obtain⟨b,d⟩:=Lt (c:=c) e f h k j i m.code.length (ai _);unfold iX
 cases a:iP p c m m.code.length with
 | none => rw[d a]; rfl
 | some g =>
  obtain⟨n,_,o⟩:=b g a;obtain rfl:=o (by omega) rfl;unfold nv;rw[n]
  rfl
end
section
attribute [local go_sem ↓] Go.wp_at_zero Go.wp_at_succ
attribute [local go_sem] eZ
theorem IX{p c}{b:Nat}{h a}(e:ji c (b:Int)=M a):oP p c b h=if h.isSome && !iH p (jc h) (iE a) then U else M (M (iE a)):=by
 unfold oP;rw[e]
 cases h with
 | none => rfl
 | some d =>
  show (if iH p d (iE a) then M (M (iE a)) else U)=_
  cases b:iH p d (iE a) <;> simp[jc,b]
def pB (m:eh)(i:Int):ef:=jc ((ji m i).map iE)
theorem ym.form{b a p h o i}(r:ym b a p h o i):∃n c l e d m f,i=zR (.agg #[zB n,O c l e,O d m f])/\n=(ji b a).isSome/\eY p.cell? (pB b a) (O c l e) (O d m f)/\Below h.heap.size h o:=by
 obtain⟨s,t,j⟩:=r;unfold pB
 cases k:ji b a with
 | none => exact ⟨F, _, _, _, _, _, _, t k, rfl, ⟨ow, ow⟩, j⟩
 | some q =>
  obtain⟨a,a,rfl,g⟩:=s q k;obtain⟨c,_,_,e,rfl,_⟩:=g.1;obtain⟨d,_,_,f,rfl,_⟩:=g.2;exact⟨K,_,_,_,_,_,_,rfl,rfl,g,j⟩
theorem IG{p m}(c:gK p.length m (-1) m.frames=K)(a):gO p (pB m a):=by
 unfold pB
 cases b:ji m a with
 | none => exact ⟨λa hx => (by cases hx), λa hx => (by cases hx)⟩
 | some a => exact(zo c b).1
theorem Jy(p b c a):rg p b c a=((ji b a).isSome && iH p c (pB b a)):=by
 unfold rg pB
 cases ji b a <;> rfl
theorem vZ.form{p h x f l o a}(s:vZ p h x f l o a):∃k b i d c j e n,a=zR (.tuple #[.agg #[zB k,O b i d,O c j e],zB n])/\(∀g,gB p h x f=M g->k=K/\n=K/\rN l.heap.size o g (O b i d) (O c j e))/\(gB p h x f=U->n=F)/\Below l.heap.size l o:=by
 obtain⟨t,u,q⟩:=s
 cases r:gB p h x f with
 | none =>
  obtain⟨k,b,i,d,c,j,e,rfl⟩:=u r;exact⟨k,b,i,d,c,j,e,F,rfl,λg a=>(by cases a),λ_=>rfl,q⟩
 | some g =>
  obtain⟨h,h,rfl,m⟩:=t g r;obtain⟨b,_,_,d,rfl,_⟩:=m.1;obtain⟨c,_,_,e,rfl,_⟩:=m.2;exact⟨K,_,_,_,_,_,_,K,rfl,λf a=>(by cases a;exact⟨rfl,rfl,m⟩),λa=>(by cases a),q⟩
def goK (p:On)(m:eh)(x:fG)(out:ef):Nat->Option (Option ef)
 | 0 => M U
 | j + 1 => (goK p m x out j).bind λh => if gJ x && (j == 0) then M (M out) else if rg p m out x.a then M h else U
theorem IR(p c x b e):goK p c x b (jF x e).length=if gz x && !rg p c b x.a then U else M (if gJ x then M b else U):=by
 unfold jF
 cases d:gJ x <;> cases e:gz x <;> cases e:rg p c b x.a <;> simp[goK,d,e]
theorem CU{p e x f b}(c:goK p e x f b=U):∀a,b<=a->goK p e x f a=U:=by
 intro a e
 induction a with
 | zero =>
  obtain rfl:b=0:=by omega
  exact c
 | succ a g =>
  rcases bt a b with d | d
  .obtain rfl:b=a+1:=by omega
   exact c
  .unfold goK;rw[g d];rfl
theorem IS{x i j y}(b:(jF x i)[j]? =M y):(y=(i:Int)+1/\j=0/\x.op≠7↔(gJ x && (j == 0))=K)/\((gJ x && (j == 0))=F->y=x.a):=by
 unfold jF at b;have d:gJ x=K->x.op≠7:=λb c=>by unfold gJ at b;rw[c]at b;cases b
 have f:gJ x=F->gz x=K->x.op=7:=λb c=>by
  unfold gJ at b;unfold gz at c;simp at b c;omega
 cases c:gJ x <;> cases e:gz x <;> simp only[c,e,if_true,if_false,Bool.false_eq_true,bL,bN,dO]at b ⊢
 .cases b
 .match j,b with
  | 0, b => cases b; simp[f c e]
 .match j,b with
  | 0, b => cases b; simp[d c]
 .match j,b with
  | 0, b => cases b; simp[d c]
  | 1, b => cases b; simp
theorem LX{p a b c e d}(f:oP p a b c=M (M e))(g:gB p a (ey a b) e=M d):nO p a b c=goK p a (ey a b) d (jF (ey a b) b).length:=by
 unfold nO;rw[f,au];dsimp only;rw[g,au,IR]
structure qJ (V:World)(p:On)(m:eh)(bh bo:Nat)(out:ef)(vl vs:Value):Prop where
 blk:ed V bo 149 [zB K,vl,vs]
 st:eY (sel (λk=>k≠bh) V) out vl vs
 ok:kq p m out
 ne:bh<bo
theorem qJ.below{b c p g e f h i j}(a:qJ b p g e f h i j)(d:Below b.heap.size b c):qJ c p g e f h i j:=
 ⟨a.blk.below d a.blk.lt,OU (fW (Ox d) λd c a=>⟨λb=>by omega,a⟩) a.st,a.ok,a.ne⟩
theorem qJ.mods{c d p h b e i j k}(a:qJ c p h b e i j k)(f:ee (λg=>g=b) c d):qJ d p h b e i j k:=
 ⟨a.blk.mods f (by have:=a.ne;omega),OU (fW f λg _ a=>⟨a,a⟩) a.st,a.ok,a.ne⟩
theorem C9{g j b}(k:eG 1 (gy g) j b):∃e c d f,j=O e b.length f/\b.length<=f/\(b≠[]->e=M ⟨c,d,U⟩)/\∀(a:Nat) (i:a<b.length),g ⟨c,d+a,U⟩=M (J I b[a]):=by
 obtain⟨e,c,d,f,j,l,m,n⟩:=eN k;refine⟨e,c,d,f,j,l,m,λa i=>?_⟩;have h:g ⟨c,d+a*1,U⟩=M (J I b[a]):=n a i;rw[cE]at h;exact h
theorem nM{h b c f d g e}:∀a∈[Value.bool h,O b f d,O c g e],a.oneCell'=K:=λa a=>by
 simp only[aE,aF,or_false]at a
 rcases a with rfl | rfl | rfl <;> rfl
theorem Mm(p hw l c eg ei ej e)(gs:eQ e hw p)(a6:fK e.cell? c eg ei ej)(hR:fi p=0)(hm:eM p<=4194304)(bz:mU p c)(gp:∀a4∈c.code,eU p c a4=K)(hX:gK p.length c (-1) c.frames=K)(kW:c.frames.length<=40)(j0:c.code.length<=40)(j3:0<=l)(kD:l<(p.length:Int))(i9:1+(c.args.length:Int)<=c.locals)(gl:kG p c (fH l c)):
  Calls Tryz.prog 105 #[.agg #[hw],J I l,fB c eg ei ej] e λf t=>f=zR (zB (nv p l c))/\Below e.heap.size e t:=by
 have f1:=Ou gs;have f3:=Ou a6;have fc:=oj hR hm;have h7:p.length<=4194304:=ap (fQ p) hm;have hC:=Ou (λe a6=>En l c eg ei ej e a6 j3 (by omega) i9 bz.loc);have fo:=Ou (λ(a4:Int) H d=>Mg c eg ei ej a4 e H a6 d (by omega));have g5:=Ou (λ(g:fG) u l e5 e6 e gs a6 f d n k C=>Et p hw c eg ei ej g u l e5 e6 e gs a6 hR hm bz f d n k C);have hF:=Ou (λ(a4:Nat) e a6 f=>Ep c eg ei ej a4 e a6 f j0);unfold fB at hC fo g5 hF ⊢;obtain⟨a8,_,_,ba,rfl,_⟩:=gs;obtain⟨an,_,_,ao,rfl,_⟩:=a6.1;obtain⟨d1,be,bn,ad,rfl,_,j4,hW⟩:=eN a6.2.1;obtain⟨a0,_,_,a1,rfl,_⟩:=a6.2.2;have i0:=Ou hW;clear hW a6;have hT:Below e.heap.size e ((e.alloc (zC #[O a8 p.length ba] 24)).alloc (zC #[J I c.slot,O an c.args.length ao,J I c.ret,J I c.locals,J I c.stack,O d1 c.code.length ad,O a0 c.frames.length a1] 63)):=gS _ _ _;have hB:=(Oz e #[O a8 p.length ba] 24).alloc (zC #[J I c.slot,O an c.args.length ao,J I c.ret,J I c.locals,J I c.stack,O d1 c.code.length ad,O a0 c.frames.length a1] 63);have fa:=Oz (e.alloc (zC #[O a8 p.length ba] 24)) #[J I c.slot,O an c.args.length ao,J I c.ret,J I c.locals,J I c.stack,O d1 c.code.length ad,O a0 c.frames.length a1] 63;rw[World.size_alloc]at fa;go_in
 go_wp2_with fail;generalize (e.alloc _).alloc _=W at *;refine(ea hC W (Ot (Oq hT) f3.out)).mono ?_;rintro f er ⟨ko,rfl,hh,et⟩;have hS:=eu hT et;have ki:∃D c l,ko=O D c l:=by obtain⟨D,_,_,l,rfl,_⟩:=hh.1;exact⟨D,_,l,rfl⟩
 obtain⟨g7,hv,g9,rfl⟩:=ki;have d4:=ev er (zC #[zB K,O g7 hv g9,O U 0 0] 149);have a6:=fa.lt;have j2:=et.size;have ka:kq p c (fm c (fH l c)):=⟨⟨λg hx=>gl.2.2.2.1 g (cV hx),gl.2.2.2.2⟩,wC (by omega) bz.loc gl.1,gl.2.2.1⟩
 have g2:Hid (lU e (er.alloc (zC #[zB K,O g7 hv g9,O U 0 0] 149)) p c er.heap.size (O a8 p.length ba) (O an c.args.length ao) (O d1 c.code.length ad) (O a0 c.frames.length a1) (M (fm c (fH l c))) (O g7 hv g9) (O U 0 0)):=
  ⟨eu hS d4,(hB.bl et).alloc _,(fa.bl et).alloc _,Oz er _ _,λu f=>⟨by cases f;exact OU (fW (Ox d4) λd C d=>⟨λf=>by omega,by omega⟩) hh,by cases f;exact ka⟩,λf=>(by cases f),by omega⟩
 have iS:=Ou j4;clear hh hB fa et;go_wp2_with fail;obtain⟨q,hU⟩:∃q,q=er.heap.size:=⟨_,rfl⟩;rw[<-hU]at g2 ⊢
 go_loopg [8] c.code.length (λf a4 H=>∃(d:Nat) (n:Option ef) (e5 e6:Value),d<=c.code.length/\f=c.code.length-d/\a4=J I d/\mp p l c d=M n/\lU e H p c q (O a8 p.length ba) (O an c.args.length ao) (O d1 c.code.length ad) (O a0 c.frames.length a1) n e5 e6)
 case atStart=>exact ⟨0,_,_,_,az _,rfl,rfl,rfl,ea g2⟩
 case round=>
  clear g2 d4 hU j2 hS;obtain⟨d,n,e5,e6,C,h0,rfl,s,ak⟩:=hrel;have g1:=Ou ak;have ck:=Ou s;have hE:=Ou h0;have eR:wr.cell? ⟨e.heap.size+1,5,U⟩=M (O d1 c.code.length ad):=ak.b1.cell 5;clear s h0
  by_cases ci:d<c.code.length
  rotate_left
  .obtain rfl:d=c.code.length:=by omega
   have r:¬(c.code.length:Int)<(c.code.length:Int):=(by omega);have cu:wr.cell? ⟨q,0,U⟩=M (zB n.isSome):=ak.bx.cell 0
   have k:(!n.isSome)=nv p l c:=by
    unfold nv;rw[ea ck]
    cases n <;> rfl
   have o:=Ou k;generalize n.isSome=ec at *;have hl:=ak.bel;clear ak k;go_wp2;go_ret;exact⟨eC o.out,hl⟩
  have hn:wr.cell? ⟨e.heap.size+1,0,U⟩=M (J I c.slot):=ak.b1.cell 0;have ho:wr.cell? ⟨e.heap.size+1,1,U⟩=M (O an c.args.length ao):=ak.b1.cell 1;have hp:wr.cell? ⟨e.heap.size+1,2,U⟩=M (J I c.ret):=ak.b1.cell 2;have hq:wr.cell? ⟨e.heap.size+1,3,U⟩=M (J I c.locals):=ak.b1.cell 3;have hr:wr.cell? ⟨e.heap.size+1,4,U⟩=M (J I c.stack):=ak.b1.cell 4;have hu:wr.cell? ⟨e.heap.size+1,6,U⟩=M (O a0 c.frames.length a1):=ak.b1.cell 6;have a6:(d:Int)<(c.code.length:Int):=by omega
  have a6:(0:Int)<=(d:Int):=by omega
  obtain rfl:=ea iS (eW ci);obtain⟨kp,ks,kr,rfl⟩:∃D c l,e5=O D c l:=by obtain⟨D,_,_,l,rfl,_⟩:=ak.hand.1;exact⟨D,_,l,rfl⟩
  obtain⟨kw,kA,kx,rfl⟩:∃D c l,e6=O D c l:=by obtain⟨D,_,_,l,rfl,_⟩:=ak.hand.2;exact⟨D,_,l,rfl⟩
  clear ak;go_wp2_with fail;refine(ea fo (d:Int) wr g1.out.bel).mono ?_;rintro f d0 cg;obtain⟨ec,b9,cb,ca,cc,cf,ce,rfl,a3,d2,gm⟩:=cg.form;clear hn ho hp hq hr eR hu cg;have hN:=g1.out.below gm;have d4:=ev d0 (zC #[zB ec,O b9 cb ca,O cc cf ce] 149);have ac:=hN.below d4;have b6:=Oz d0 #[zB ec,O b9 cb ca,O cc cf ce] 149;have ha:(d0.alloc (zC #[zB ec,O b9 cb ca,O cc cf ce] 149)).cell? ⟨d0.heap.size,0,U⟩=M (zB ec):=b6.cell 0;obtain⟨b8,hk⟩:∃b8,b8=d0.heap.size:=⟨_,rfl⟩;have ak:q≠b8:=by have:=g1.out.bx.lt;have:=gm.size;omega
  have ft:=Ou ac;have f2:=Ou a3;have g4:=Ou d2;have fn:=Ou b6;clear d4 hN ac a3 d2 b6;go_upto_if 31 with fail
  generalize d0.alloc _=V2 at *;rw[<-hk]at fn ha ⊢;have iT:=Ou (aq gm hk);clear gm hk
  go_cut [] (λf=>∃(es:Option ef) (hy hz:Value),oP p c d n=M es/\lU e f p c q (O a8 p.length ba) (O an c.args.length ao) (O (M ⟨be,bn,U⟩) c.code.length ad) (O a0 c.frames.length a1) es hy hz)
  case first=>
   cases ec with
   | false =>
    have r:Hid (oP p c d n=M n):=by
     show _=_
     unfold oP
     cases o:ji c (d:Int) with
     | none => rfl
     | some k => have a5 := ea f2; rw[o]at a5; cases a5
    go_wp2
    go_meet
    case rel=>exact ⟨n,_,_,ea r,ea ft⟩
   | true =>
    obtain⟨k,o⟩:∃k,ji c (d:Int)=M k:=by
     have a5:=ea f2
     cases o:ji c (d:Int) with
     | none => rw[o]at a5; cases a5
     | some k => exact ⟨k, rfl⟩
    have ac:=ea ft;have b6:=ea fn;have d2:eY e.cell? (iE k) (O b9 cb ca) (O cc cf ce):=(by have a5:=ea g4;unfold pB at a5;rw[o]at a5;exact a5);have ab:V2.cell? ⟨b8,1,U⟩=M (O b9 cb ca):=b6.cell 1;have ar:V2.cell? ⟨b8,2,U⟩=M (O cc cf ce):=b6.cell 2;have cn:V2.cell? ⟨q,0,U⟩=M (zB n.isSome):=ac.bx.cell 0;have Y:V2.cell? ⟨q,1,U⟩=M (O kp ks kr):=ac.bx.cell 1;have Z:V2.cell? ⟨q,2,U⟩=M (O kw kA kx):=ac.bx.cell 2;have bk:V2.cell? ⟨e.heap.size,0,U⟩=M (O a8 p.length ba):=ac.b0.cell 0;have Q:=zo hX o;have V:=OU (Oq ac.bel) d2;have kc:=bz.loc;have kd:=bz.stk;have T:=Ou d2;have w:=Ou (IX (p:=p) (h:=n) o)
    have a2:(jc n).loc.length<=8/\(jc n).stk.length<=8:=by
     cases n with
     | none => exact ⟨by simp[jc], by simp[jc]⟩
     | some u =>
      obtain⟨_,en,r⟩:=(ac.st u rfl).2;exact⟨by show u.loc.length<=8;omega,by show u.stk.length<=8;omega⟩
    obtain⟨a3,R⟩:∃a3,a3=n.isSome:=⟨_,rfl⟩;rw[<-R]at cn;have N:=Ou R;clear o R d2 f2 g4;go_wp2_with fail;refine(Ak p _ (jc n) (iE k) a3 K _ _ _ _ V2 (eA (Oq ac.bel) f1.out) fc.sup h7 ac.hand V ac.IY Q.1 (by omega) (by omega)).mono ?_;rintro f L ⟨rfl,z⟩;have A:=ac.below z;have G:=b6.bl z;have aa:L.cell? ⟨q,0,U⟩=M (zB a3):=(by rw[ea N];exact A.bx.cell 0);have R:L.cell? ⟨b8,0,U⟩=M (zB K):=G.cell 0;have R:L.cell? ⟨b8,1,U⟩=M (O b9 cb ca):=G.cell 1;have R:L.cell? ⟨b8,2,U⟩=M (O cc cf ce):=G.cell 2;rw[<-ea N]at w;have P:=A.bx;clear ha ab ar cn Y Z bk ac b6 V a2 G fn ft
    by_cases r:(a3 && !iH p (jc n) (iE k))=K
    .have E:Hid (nv p l c=F):=vh ci ck.out (by unfold nO;rw[ea w,am r];rfl);have B:a3=K:=by revert r;cases a3 <;> simp
     have v:iH p (jc n) (iE k)=F:=by revert r;cases iH p (jc n) (iE k) <;> simp
     rw[v];rw[B]at aa;have bh:=A.bel;clear r v A P w;go_wp2;go_ret;exact⟨eC E.out.symm,bh⟩
    .have dp:Hid (oP p c d n=M (M (iE k))):=(by show _=_;rw[ea w,af r])
     have bf:a3=F\/(a3=K/\iH p (jc n) (iE k)=K):=by
      revert r
      cases a3 <;> cases iH p (jc n) (iE k) <;> simp
     have v:=Ou A;have S:=Ou Q;generalize iH p (jc n) (iE k)=bc at *;clear r A w N Q
     rcases bf with rfl | ⟨rfl,rfl⟩
     .go_wp2_with (refine fJ ip P 0 [zB K,O b9 cb ca,O cc cf ce] rfl (by simp) nM (.tmp 7) (.tmp 42) rfl rfl rfl rfl ?_;intro X B E bh;rw[fw (by rfl)]at B)
      go_meet
      case rel=>exact ⟨M (iE k),_,_,ea dp,v.put E B (λu f=>by cases f;exact⟨OU (AK (Ox v.bel) λd C=>⟨by omega,by have:=v.lo;omega⟩) T,ea S⟩) (λf=>by cases f)⟩
     .go_wp2_with (refine fJ ip P 0 [zB K,O b9 cb ca,O cc cf ce] rfl (by simp) nM (.tmp 7) (.tmp 42) rfl rfl rfl rfl ?_;intro X B E bh;rw[fw (by rfl)]at B)
      go_meet
      case rel=>exact ⟨M (iE k),_,_,ea dp,v.put E B (λu f=>by cases f;exact⟨OU (AK (Ox v.bel) λd C=>⟨by omega,by have:=v.lo;omega⟩) T,ea S⟩) (λf=>by cases f)⟩
  case rest=>
   obtain⟨es,hy,hz,h2,A⟩:=hcut;have dp:=Ou h2;clear ft f2 g4 fn ha iT h2;obtain⟨ii,is,ij,rfl⟩:∃D c l,hy=O D c l:=by obtain⟨D,_,_,l,rfl,_⟩:=A.hand.1;exact⟨D,_,l,rfl⟩
   obtain⟨iF,iJ,iG,rfl⟩:∃D c l,hz=O D c l:=by obtain⟨D,_,_,l,rfl,_⟩:=A.hand.2;exact⟨D,_,l,rfl⟩
   have cn:wc.cell? ⟨q,0,U⟩=M (zB es.isSome):=A.bx.cell 0;have v:=Ou A
   cases es with
   | none =>
    dsimp only[Option.isSome]at cn
    have r:Hid (mp p l c (d+1)=M U):=by
     show _=_
     unfold mp;rw[ea ck,au];unfold nO;rw[ea dp]
     rfl
    clear A;go_wp2
    go_roundg (c.code.length-(d+1))
    case measure=>have:=ea hE;omega
    case rel=>exact ⟨d+1,U,_,_,by omega,rfl,by go_num,ea r,ea v⟩
   | some u =>
    dsimp only[Option.isSome]at cn;obtain⟨hi,bM⟩:=A.st u rfl;have hf:ey c d=c.code[d]:=(by unfold ey;rw[ae ci];rfl);have eK:ey c d∈c.code:=(by rw[hf];exact av _);obtain⟨cz,e7,e9⟩:=ea i0 d ci;rw[<-hf]at cz e7 e9;obtain⟨g,hx⟩:∃g,g=ey c d:=⟨_,rfl⟩;rw[<-hx]at cz e7 e9 eK;have f4:=Ou hx;have i6:=Ou (aq cz (aq e7 e9));have G:=Ou (λd (c:Below wc.heap.size wc d)=>aq ((v.out.below c).b0.cell 0) (aq ((v.out.below c).b1.cell 0) (aq ((v.out.below c).b1.cell 1) (aq ((v.out.below c).b1.cell 2) (aq ((v.out.below c).b1.cell 3) (aq ((v.out.below c).b1.cell 4) (aq ((v.out.below c).b1.cell 5) (aq ((v.out.below c).b1.cell 6) (aq ((v.out.below c).bx.cell 0) (aq ((v.out.below c).bx.cell 1) (aq ((v.out.below c).bx.cell 2) (aq (Oq (v.out.below c).bel _ _ cz) (aq (Oq (v.out.below c).bel _ _ e7) (Oq (v.out.below c).bel _ _ e9))))))))))))));clear hx hf cz e7 e9;go_upto_region 12 with fail
    have kb:=A.bx.lt
    go_cut [11,12] (λk d f=>(gB p c g u=U/\d=zB F/\Below e.heap.size e f)\/∃(B:ef) (bo:Nat) (L N:Om) (R P S Q:Nat),gB p c g u=M B/\k=zP (M ⟨bo,0,U⟩)/\d=zB K/\lU e f p c q (O a8 p.length ba) (O an c.args.length ao) (O (M ⟨be,bn,U⟩) c.code.length ad) (O a0 c.frames.length a1) (M u) (O ii is ij) (O iF iJ iG)/\qJ f p c q bo B (O L R P) (O N S Q))
    case first=>
     clear cn;refine fk (λt=>t.cell? ⟨e.heap.size,0,U⟩=M (O a8 p.length ba)/\t.cell? ⟨e.heap.size+1,0,U⟩=M (J I c.slot)/\t.cell? ⟨e.heap.size+1,1,U⟩=M (O an c.args.length ao)/\t.cell? ⟨e.heap.size+1,2,U⟩=M (J I c.ret)/\t.cell? ⟨e.heap.size+1,3,U⟩=M (J I c.locals)/\t.cell? ⟨e.heap.size+1,4,U⟩=M (J I c.stack)/\t.cell? ⟨e.heap.size+1,5,U⟩=M (O (M ⟨be,bn,U⟩) c.code.length ad)/\t.cell? ⟨e.heap.size+1,6,U⟩=M (O a0 c.frames.length a1)/\t.cell? ⟨q,0,U⟩=M (zB K)/\t.cell? ⟨q,1,U⟩=M (O ii is ij)/\t.cell? ⟨q,2,U⟩=M (O iF iJ iG)/\t.cell? ⟨be,bn+d*3,U⟩=M (J I g.op)/\t.cell? ⟨be,bn+d*3+1,U⟩=M (J I g.a)/\t.cell? ⟨be,bn+d*3+2,U⟩=M (J I g.b)) (G.out _ ik) λhHeld=>?_;refine dZ 47 0 ?_;refine dZ 48 1 ?_;refine dZ 49 2 ?_;refine dZ 50 3 ?_;refine dZ 51 4 ?_;refine dZ 52 5 ?_;refine dZ 53 6 ?_;refine dZ 54 7 ?_;refine iu 8 12 (λbc s=>?_) λbc s=>?_
     .go_simp;refine(ea g5 g u K _ _ wc.drew (eA (Oq ik) (eA (Oq A.bel) f1.out)) (Ot (Oq ik) (Ot (Oq A.bel) f3.out)) (gp _ eK) (OU (Oq ik) (OU iR hi)) bM.1 bM.2.1 bM.2.2).mono ?_;rintro f ab a5;obtain⟨cu,L,R,P,N,S,Q,cm,rfl,X,bh,r⟩:=a5.form;have E:Below wc.heap.size wc ab:=⟨r.os,r.tape,r.output,r.size,r.block⟩;have aa:=E.size;have b7:wc.drew.heap.size=wc.heap.size:=rfl;have HS:=Ou (aq X bh);clear a5 X bh r;go_wp2_with fail;refine s.out _ _ (G.out _ E) λhHeld=>?_;refine dZ 46 9 ?_;refine dZ 56 10 ?_;refine dZ 57 11 ?_;refine el 12 (λbc s=>?_);go_simp;have z:Below wc.heap.size wc (ab.alloc (zC #[zB F,O U 0 0,O U 0 0] 149)):=E.alloc E.size _;have V:=Oz ab #[zB F,O U 0 0,O U 0 0] 149;have bI:Hid (∀k,gB p c g u=M k->rN wc.heap.size (ab.alloc (zC #[zB F,O U 0 0,O U 0 0] 149)) k (O L R P) (O N S Q)):=λk f=>OU (fW (Ox (ev ab _)) λd C d=>⟨λf=>by omega,d⟩) (HS.out.1 k f).2.2;refine s.out _ _ (G.out _ z) λhHeld=>?_;obtain⟨ar,bk⟩:∃c,c=ab.heap.size:=⟨_,rfl⟩;have hj:wc.heap.size<=ar:=(by omega);rw[<-bk]at V ⊢;have br:Hid (∀k,gB p c g u=M k->eY (sel (λd=>d≠q/\d≠ar) (ab.alloc (zC #[zB F,O U 0 0,O U 0 0] 149))) k (O L R P) (O N S Q)):=λk f=>OU (fW (Ox (ev ab _)) λd C d=>⟨λf=>by omega,by (try dsimp only at d);omega,by omega⟩) (HS.out.1 k f).2.2;generalize ab.alloc _=H at *;clear bk E aa hHeld bI b7;refine el 13 (λbc s=>?_);refine kS ip V 0 [zB cu,O L R P,O N S Q] rfl (by simp) nM (.tmp 11) (.tmp 56) rfl rfl rfl ?_;intro b5 bf a2 cs;rw[fw (by rfl)]at bf;have Z:Below wc.heap.size wc b5:=z.trans (a2.below z.size (λd C f=>by omega));refine s.out _ _ (G _ Z) λhHeld=>?_;try simp only[Act.put,aG]
      refine dZ 12 14 ?_;refine eV ?_;have w:=A.below Z;have bs:Hid (∀k,gB p c g u=M k->eY (sel (λd=>d≠q) b5) k (O L R P) (O N S Q)):=λk f=>OU (fW a2 λd C d=>⟨d.2,d.1⟩) (br k f);clear hHeld a2 cs V br z;go_wp2
      go_meet
      case rel=>
       cases o:gB p c g u with
       | none => exact .inl ⟨rfl, by rw[HS.out.2 o], w.bel⟩
       | some B =>
        obtain⟨T,Y,_⟩:=HS.1 B o;subst T Y;exact .inr ⟨B,ar,L,N,R,P,S,Q,rfl,rfl,rfl,w,bf,ea bs B o,xx fc bz (gp _ eK) bM o,by omega⟩
     .go_simp;have ab:=ev wc.drew (zC #[zB F,O U 0 0,O U 0 0] 149);have aa:Below wc.heap.size wc (wc.drew.alloc (zC #[zB F,O U 0 0,O U 0 0] 149)):=⟨ab.os,ab.tape,ab.output,ab.size,ab.block⟩;refine s.out _ _ (G.out _ aa) λhHeld=>?_;refine el 8 (λbc s=>?_);go_simp;refine(ea g5 g u K _ _ _ (eA (Oq aa) (eA (Oq A.bel) f1.out)) (Ot (Oq aa) (Ot (Oq A.bel) f3.out)) (gp _ eK) (OU (Oq aa) (OU iR hi)) bM.1 bM.2.1 bM.2.2).mono ?_;rintro f H a5;obtain⟨cu,L,R,P,N,S,Q,cm,rfl,X,bh,r⟩:=a5.form;have E:Below (wc.heap.size+1) (wc.drew.alloc (zC #[zB F,O U 0 0,O U 0 0] 149)) H:=⟨r.os,r.tape,r.output,by have:=r.size;simpa using this,λa4 f=>r.block a4 (by simpa using f)⟩;have z:Below wc.heap.size wc H:=aa.trans (E.mono (by simp));have en:ed (wc.drew.alloc (zC #[zB F,O U 0 0,O U 0 0] 149)) wc.heap.size 149 [zB F,O U 0 0,O U 0 0]:=Oz wc.drew #[zB F,O U 0 0,O U 0 0] 149;have V:=en.below E (by omega);have bI:(wc.drew.alloc (zC #[zB F,O U 0 0,O U 0 0] 149)).heap.size=wc.heap.size+1:=(by simp);have HS:=Ou (aq X bh);obtain⟨ar,bk⟩:∃c,c=wc.heap.size:=⟨_,rfl⟩;have br:Hid (∀k,gB p c g u=M k->eY (sel (λd=>d≠q/\d≠ar) H) k (O L R P) (O N S Q)):=λk f=>OU (fW (Ow (λ_=>False) H) λd C d=>⟨λf=>f,by (try dsimp only at d);omega,by (try dsimp only at d);omega⟩) (HS.out.1 k f).2.2;clear a5 X bh r bI;go_wp2_with fail;refine s.out _ _ (G.out _ z) λhHeld=>?_;refine dZ 46 9 ?_;refine dZ 56 10 ?_;refine dZ 57 11 ?_;have hj:wc.heap.size<=ar:=(by omega);rw[<-bk]at V ⊢;clear bk E aa ab hHeld en;refine el 13 (λbc s=>?_);refine kS ip V 0 [zB cu,O L R P,O N S Q] rfl (by simp) nM (.tmp 11) (.tmp 56) rfl rfl rfl ?_;intro b5 bf a2 cs;rw[fw (by rfl)]at bf;have Z:Below wc.heap.size wc b5:=z.trans (a2.below z.size (λd C f=>by omega));refine s.out _ _ (G _ Z) λhHeld=>?_;try simp only[Act.put,aG]
      refine dZ 12 14 ?_;refine eV ?_;have w:=A.below Z;have bs:Hid (∀k,gB p c g u=M k->eY (sel (λd=>d≠q) b5) k (O L R P) (O N S Q)):=λk f=>OU (fW a2 λd C d=>⟨d.2,d.1⟩) (br k f);clear hHeld a2 cs V br z;go_wp2
      go_meet
      case rel=>
       cases o:gB p c g u with
       | none => exact .inl ⟨rfl, by rw[HS.out.2 o], w.bel⟩
       | some B =>
        obtain⟨T,Y,_⟩:=HS.1 B o;subst T Y;exact .inr ⟨B,ar,L,N,R,P,S,Q,rfl,rfl,rfl,w,bf,ea bs B o,xx fc bz (gp _ eK) bM o,by omega⟩
    case rest=>
     clear cn G kb hi bM v A
     rcases hcut with ⟨h5,rfl,hl⟩ | ⟨B,bo,L,N,R,P,S,Q,h8,rfl,rfl,g6,hO⟩
     .have E:Hid (nv p l c=F):=vh ci ck.out (by unfold nO;rw[ea dp,au];dsimp only;rw[<-ea f4,h5];rfl);clear h5;go_wp2;go_ret;exact⟨eC E.out.symm,hl⟩
     .have fs:Hid (nO p c d n=goK p c g B (jF g d).length):=(by show _=_;have a5:=LX dp.out (by rw[<-ea f4];exact h8);rw[<-ea f4]at a5;exact a5);have hG:=Ou g6;have hK:=Ou hO;have hV:=g6.bx;clear h8 g6 hO;go_upto_region 16 with (refine fJ ip hV 0 [zB F,O U 0 0,O U 0 0] rfl (by simp) uj (.tmp 7) (.tmp 60) rfl rfl rfl rfl ?_;intro bI hc hg kf;rw[fw (by rfl)]at hc)
      have bs:lU e bI p c q (O a8 p.length ba) (O an c.args.length ao) (O (M ⟨be,bn,U⟩) c.code.length ad) (O a0 c.frames.length a1) U (O U 0 0) (O U 0 0):=hG.out.put hg hc (λu f=>by cases f) (λ_=>⟨rfl,rfl⟩);have hP:=hK.out.mods hg;have hn:bI.cell? ⟨e.heap.size+1,0,U⟩=M (J I c.slot):=bs.b1.cell 0;have ho:bI.cell? ⟨e.heap.size+1,1,U⟩=M (O an c.args.length ao):=bs.b1.cell 1;have hp:bI.cell? ⟨e.heap.size+1,2,U⟩=M (J I c.ret):=bs.b1.cell 2;have hq:bI.cell? ⟨e.heap.size+1,3,U⟩=M (J I c.locals):=bs.b1.cell 3;have hr:bI.cell? ⟨e.heap.size+1,4,U⟩=M (J I c.stack):=bs.b1.cell 4;have eR:bI.cell? ⟨e.heap.size+1,5,U⟩=M (O (M ⟨be,bn,U⟩) c.code.length ad):=bs.b1.cell 5;have hu:bI.cell? ⟨e.heap.size+1,6,U⟩=M (O a0 c.frames.length a1):=bs.b1.cell 6;have f0:=Ou bs;have hL:=Ou hP;clear hG hK hV hc hg kf bs hP;go_wp2_with fail;refine(ea hF d bI (Ot (Oq f0.out.bel) f3.out) ci).mono ?_;rintro f hQ ⟨D,rfl,gk,Z⟩;rw[<-ea f4]at gk;obtain⟨w,gn⟩:∃w,w=jF g d:=⟨_,rfl⟩;rw[<-gn]at gk fs;obtain⟨D,d6,d9,D,rfl,_,h3,h4⟩:=C9 gk;have hH:=Ou (f0.out.below Z);have hM:=Ou (hL.out.below Z);have hI:Hid (∀(k:Nat) (d5:k<w.length),sel (λd=>d≠q) hQ ⟨d6,d9+k,U⟩=M (J I w[k])):=λk d5=>fW (Ow (λ_=>False) hQ) (λd C d=>⟨λf=>f,by have:=f0.out.bx.lt;(try dsimp only at d);omega⟩) _ _ (h4 k d5);have D:w.length<=2:=by rw[gn];unfold jF;cases gJ g <;> cases gz g <;> simp
      have i4:=Ou h3;have i1:=Ou gn;clear hn ho hp hq hr eR hu gk h4 h3 gn Z f0 hL;go_wp2
      go_loopg [14] w.length (λf a4 H=>∃(k:Nat) (cp:Option ef) (ih iC:Value),k<=w.length/\f=w.length-k/\a4=J I k/\goK p c g B k=M cp/\lU e H p c q (O a8 p.length ba) (O an c.args.length ao) (O (M ⟨be,bn,U⟩) c.code.length ad) (O a0 c.frames.length a1) cp ih iC/\qJ H p c q bo B (O L R P) (O N S Q)/\∀(k:Nat) (d5:k<w.length),sel (λd=>d≠q) H ⟨d6,d9+k,U⟩=M (J I w[k]))
      case atStart=>exact ⟨0,U,_,_,az _,rfl,rfl,rfl,ea hH,ea hM,ea hI⟩
      case round=>
       clear hH hM hI;obtain⟨k,cp,ih,iC,d5,hZ,rfl,h1,eo,b7,ep⟩:=hrel;have X:=Ou eo;have ds:=Ou b7;have g3:=Ou ep;have hD:=Ou hZ;have g0:=Ou h1;clear hZ h1
       by_cases gq:k<w.length
       rotate_left
       .obtain rfl:k=w.length:=by omega
        have o:¬(w.length:Int)<(w.length:Int):=(by omega)
        have r:Hid (mp p l c (d+1)=M cp):=by
         show _=_
         unfold mp;rw[ea ck,au,ea fs];exact ea g0
        clear eo b7 ep;go_wp2
        go_roundg (c.code.length-(d+1))
        case measure=>have:=ea hE;omega
        case rel=>exact ⟨d+1,cp,_,_,by omega,rfl,by go_num,ea r,ea X⟩
       obtain rfl:=ea i4 (eW gq);have D:(0:Int)<=(k:Int):=(by omega);have D:(k:Int)<(w.length:Int):=(by omega);have hA:=(iw (ep k gq)).2;obtain⟨cA,gx⟩:∃cA,cA=w[k]:=⟨_,rfl⟩;have hY:=IS (x:=g) (i:=d) (j:=k) (y:=cA) (by rw[<-ea i1,gx,ae gq]);rw[<-gx]at hA;have hJ:Hid (sel (λd=>d≠q) wr ⟨d6,d9+k,U⟩=M (J I cA)):=(by rw[gx];exact ep k gq);have cz:=Oq eo.bel _ _ i6.out.1;have eR:wr.cell? ⟨e.heap.size+1,5,U⟩=M (O (M ⟨be,bn,U⟩) c.code.length ad):=eo.b1.cell 5;have br:=Ou hY;clear gx hY eo b7 ep;go_upto_region 20 with fail
       go_cut [89] (λc f=>c=zB (gJ g && (k == 0))/\f=wr)
       case first=>
        have D:=Ou hA
        by_cases T:cA=(d:Int)+1
        .have z:(cA == (d:Int)+1)=K:=by simpa using T
         by_cases Y:k=0
         .have E:((k:Int) == 0)=K:=by simpa using Y
          by_cases r:g.op=7
          .have o:Hid ((gJ g && (k == 0))=F):=cw.2 (λn=>(br.out.1.2 n).2.2 r);have V:(g.op != 7)=F:=(by simpa using r);clear T Y r;clear br;go_wp2
           go_meet
           case rel=>exact ⟨by rw[ea o],rfl⟩
          .have o:Hid ((gJ g && (k == 0))=K):=br.out.1.1 ⟨T,Y,r⟩;have V:(g.op != 7)=K:=(by simpa using r);clear T Y r;clear br;go_wp2
           go_meet
           case rel=>exact ⟨by rw[ea o],rfl⟩
         .have o:Hid ((gJ g && (k == 0))=F):=cw.2 (λn=>Y (br.out.1.2 n).2.1);have E:((k:Int) == 0)=F:=(by simpa using Y);clear T Y;clear br;go_wp2
          go_meet
          case rel=>exact ⟨by rw[ea o],rfl⟩
        .have o:Hid ((gJ g && (k == 0))=F):=cw.2 (λn=>T (br.out.1.2 n).1);have z:(cA == (d:Int)+1)=F:=(by simpa using T);clear T;clear br;go_wp2
         go_meet
         case rel=>exact ⟨by rw[ea o],rfl⟩
       case rest=>
        obtain⟨j1,kk⟩:=hcut;subst j1;subst kk
        rename World=>o
        clear cz eR hA;obtain⟨g8,d3⟩:∃g8,g8=(gJ g && (k == 0)):=⟨_,rfl⟩;rw[<-d3]
        cases g8 with
        | true =>
         have r:Hid (goK p c g B (k+1)=M (M B)):=(by show _=_;unfold goK;rw[ea g0,au,<-d3];rfl);have b7:=ea ds;have ia:o.cell? ⟨bo,0,U⟩=M (zB K):=b7.blk.cell 0;have ib:o.cell? ⟨bo,1,U⟩=M (O L R P):=b7.blk.cell 1;have en:o.cell? ⟨bo,2,U⟩=M (O N S Q):=b7.blk.cell 2;have T:=X.out.bx;clear b7 d3;go_wp2_with (refine fJ ip T 0 [zB K,O L R P,O N S Q] rfl (by simp) nM (.tmp 7) (.tmp 90) rfl rfl rfl rfl ?_;intro n E z n;rw[fw (by rfl)]at E)
         go_roundg (w.length-(k+1))
         case measure=>have:=ea hD;omega
         case rel=>exact ⟨k+1,M B,_,_,by omega,rfl,by go_num,ea r,X.out.put z E (λu f=>by cases f;exact⟨ds.out.st,ds.out.ok⟩) (λf=>by cases f),ds.out.mods z,λa2 ab=>fW z (λd _ C=>⟨C,C⟩) _ _ (ea g3 a2 ab)⟩
        | false =>
         have kl:=br.out.2 d3.symm;subst kl;have iM:=Ou d3;have G:=Ou (λd (c:Below o.heap.size o d)=>aq ((X.out.below c).b1.cell 0) (aq ((X.out.below c).b1.cell 1) (aq ((X.out.below c).b1.cell 2) (aq ((X.out.below c).b1.cell 3) (aq ((X.out.below c).b1.cell 4) (aq ((X.out.below c).b1.cell 5) (aq ((X.out.below c).b1.cell 6) (Oq c _ _ (iw hJ.out).2))))))));clear d3;go_upto_region 22 with fail
         go_cut [15] (λd f=>∃(cm:Nat) (f6 f9:Om) (gc ga gf gb:Nat),d=zP (M ⟨cm,0,U⟩)/\ed f cm 149 [zB (ji c g.a).isSome,O f6 gc ga,O f9 gf gb]/\eY e.cell? (pB c g.a) (O f6 gc ga) (O f9 gf gb)/\Below o.heap.size o f)
         case first=>
          refine fk (λt=>t.cell? ⟨e.heap.size+1,0,U⟩=M (J I c.slot)/\t.cell? ⟨e.heap.size+1,1,U⟩=M (O an c.args.length ao)/\t.cell? ⟨e.heap.size+1,2,U⟩=M (J I c.ret)/\t.cell? ⟨e.heap.size+1,3,U⟩=M (J I c.locals)/\t.cell? ⟨e.heap.size+1,4,U⟩=M (J I c.stack)/\t.cell? ⟨e.heap.size+1,5,U⟩=M (O (M ⟨be,bn,U⟩) c.code.length ad)/\t.cell? ⟨e.heap.size+1,6,U⟩=M (O a0 c.frames.length a1)/\t.cell? ⟨d6,d9+k,U⟩=M (J I g.a)) (G.out _ ik) λhHeld=>?_;refine dZ 91 0 ?_;refine dZ 92 1 ?_;refine dZ 93 2 ?_;refine dZ 94 3 ?_;refine dZ 95 4 ?_;refine iu 5 6 (λbc s=>?_) λbc s=>?_
          .go_simp;refine(ea fo g.a o.drew X.out.bel.drew).mono ?_;rintro f ab cg;obtain⟨cu,eS,e3,e1,e0,e4,e2,rfl,eP,bh,r⟩:=cg.form;have E:Below o.heap.size o ab:=⟨r.os,r.tape,r.output,r.size,r.block⟩;have aa:=E.size;have HS:=Ou (aq eP bh);clear cg eP bh r;go_wp2_with fail;refine s.out _ _ (G.out _ E) λhHeld=>?_;refine el 6 (λbc s=>?_);go_simp;have z:Below o.heap.size o (ab.alloc (zC #[zB F,O U 0 0,O U 0 0] 149)):=E.alloc E.size _;have V:=Oz ab #[zB F,O U 0 0,O U 0 0] 149;refine s.out _ _ (G.out _ z) λhHeld=>?_;obtain⟨ar,bk⟩:∃c,c=ab.heap.size:=⟨_,rfl⟩;have hj:o.heap.size<=ar:=(by omega);rw[<-bk]at V ⊢;generalize ab.alloc _=H at *;clear bk E aa hHeld;refine el 7 (λbc s=>?_);refine kS ip V 0 [zB cu,O eS e3 e1,O e0 e4 e2] rfl (by simp) nM (.tmp 15) (.tmp 96) rfl rfl rfl ?_;intro b5 bf a2 cs;rw[fw (by rfl)]at bf;have Z:Below o.heap.size o b5:=z.trans (a2.below z.size (λd C f=>by omega));refine s.out _ _ (G _ Z) λhHeld=>?_;try simp only[Act.put,aG]
           refine eV ?_;clear hHeld a2 cs V z;go_wp2
           go_meet
           case rel=>
            obtain⟨T,Y⟩:=HS;subst T;exact⟨ar,eS,e0,e3,e1,e4,e2,rfl,bf,Y,Z⟩
          .go_simp;have ab:=ev o.drew (zC #[zB F,O U 0 0,O U 0 0] 149);have aa:Below o.heap.size o (o.drew.alloc (zC #[zB F,O U 0 0,O U 0 0] 149)):=⟨ab.os,ab.tape,ab.output,ab.size,ab.block⟩;refine s.out _ _ (G.out _ aa) λhHeld=>?_;refine el 5 (λbc s=>?_);go_simp;refine(ea fo g.a _ (X.out.bel.trans (aa.mono X.out.bel.size))).mono ?_;rintro f H cg;obtain⟨cu,eS,e3,e1,e0,e4,e2,rfl,eP,bh,r⟩:=cg.form;have E:Below (o.heap.size+1) (o.drew.alloc (zC #[zB F,O U 0 0,O U 0 0] 149)) H:=⟨r.os,r.tape,r.output,by have:=r.size;simpa using this,λa4 f=>r.block a4 (by simpa using f)⟩;have z:Below o.heap.size o H:=aa.trans (E.mono (by simp));have en:ed (o.drew.alloc (zC #[zB F,O U 0 0,O U 0 0] 149)) o.heap.size 149 [zB F,O U 0 0,O U 0 0]:=Oz o.drew #[zB F,O U 0 0,O U 0 0] 149;have V:=en.below E (by omega);have HS:=Ou (aq eP bh);clear cg eP bh r;go_wp2_with fail;refine s.out _ _ (G.out _ z) λhHeld=>?_;obtain⟨ar,bk⟩:∃c,c=o.heap.size:=⟨_,rfl⟩;have hj:o.heap.size<=ar:=(by omega);rw[<-bk]at V ⊢;clear bk E aa ab hHeld en;refine el 7 (λbc s=>?_);refine kS ip V 0 [zB cu,O eS e3 e1,O e0 e4 e2] rfl (by simp) nM (.tmp 15) (.tmp 96) rfl rfl rfl ?_;intro b5 bf a2 cs;rw[fw (by rfl)]at bf;have Z:Below o.heap.size o b5:=z.trans (a2.below z.size (λd C f=>by omega));refine s.out _ _ (G _ Z) λhHeld=>?_;try simp only[Act.put,aG]
           refine eV ?_;clear hHeld a2 cs V z;go_wp2
           go_meet
           case rel=>
            obtain⟨T,Y⟩:=HS;subst T;exact⟨ar,eS,e0,e3,e1,e4,e2,rfl,bf,Y,Z⟩
         case rest=>
          rename World=>r
          obtain⟨cm,f6,f9,gc,ga,gf,gb,rfl,V,e3,bf⟩:=hcut;clear G;have Y:=X.out.below bf;have z:=ds.out.below bf;have eS:Hid (∀(k:Nat) (d5:k<w.length),sel (λd=>d≠q) r ⟨d6,d9+k,U⟩=M (J I w[k])):=λa2 ab=>fW (Ox bf) (λd C d=>⟨λf=>by omega,d⟩) _ _ (ea g3 a2 ab);clear bf X ds g3 hJ;have kn:r.cell? ⟨e.heap.size,0,U⟩=M (O a8 p.length ba):=Y.b0.cell 0;have ia:r.cell? ⟨bo,0,U⟩=M (zB K):=z.blk.cell 0;have ib:r.cell? ⟨bo,1,U⟩=M (O L R P):=z.blk.cell 1;have en:r.cell? ⟨bo,2,U⟩=M (O N S Q):=z.blk.cell 2;have cu:r.cell? ⟨cm,0,U⟩=M (zB (ji c g.a).isSome):=V.cell 0;have i7:r.cell? ⟨cm,1,U⟩=M (O f6 gc ga):=V.cell 1;have i8:r.cell? ⟨cm,2,U⟩=M (O f9 gf gb):=V.cell 2;have b5:=Ou (Jy p c B g.a);have h6:=IG (p:=p) (m:=c) hX g.a;have e4:=OU (Oq Y.bel) e3;have kc:=bz.loc;have kd:=bz.stk;have ke:=z.ok.2;obtain⟨T,hj⟩:∃T,T=(ji c g.a).isSome:=⟨_,rfl⟩;rw[<-hj]at cu b5 V;have eP:=Ou Y;have e0:=Ou z;have bk:=Ou V;clear hj e3 V;go_wp2_with fail;refine(Ak p _ B (pB c g.a) K T _ _ _ _ r (eA (Oq Y.bel) f1.out) fc.sup h7 (OU iR z.st) e4 z.ok.1 h6 (by omega) (by omega)).mono ?_;rintro f e2 ⟨rfl,aa⟩;have cs:=eP.out.below aa;have e1:=e0.out.below aa;have i3:Hid (∀(k:Nat) (d5:k<w.length),sel (λd=>d≠q) e2 ⟨d6,d9+k,U⟩=M (J I w[k])):=λa2 ab=>fW (Ox aa) (λd C d=>⟨λf=>by omega,d⟩) _ _ (ea eS a2 ab);have e:e2.cell? ⟨cm,0,U⟩=M (zB T):=(bk.out.below aa bk.out.lt).cell 0;have bh:=cs.bel;have i2:=Ou cs;have i5:=Ou e1;clear kn ia ib en cu i7 i8 Y z h6 e4 ke eP e0 eS bk aa cs e1;obtain⟨bc,h9⟩:∃bc,bc=iH p B (pB c g.a):=⟨_,rfl⟩;rw[<-h9]at b5 ⊢;clear h9
          have ar:Hid (goK p c g B (k+1)=if T && bc then M cp else U):=by
           show _=_
           unfold goK;rw[ea g0,au,<-ea iM,ea b5]
           rfl
          cases T with
          | false =>
           have E:Hid (nv p l c=F):=vh ci ck (by rw[ea fs];exact CU ar _ (by omega));clear ar;go_wp2;go_ret;exact⟨eC E.symm,bh⟩
          | true =>
           cases bc with
           | false =>
            have E:Hid (nv p l c=F):=vh ci ck (by rw[ea fs];exact CU ar _ (by omega));clear ar;go_wp2;go_ret;exact⟨eC E.symm,bh⟩
           | true =>
            go_wp2
            go_roundg (w.length-(k+1))
            case measure=>have:=ea hD;omega
            case rel=>exact ⟨k+1,cp,_,_,by omega,rfl,by go_num,ea ar,ea i2,ea i5,ea i3⟩
end
def od (p:On)(out:ef)(i:Nat)(x:List (Option ef)×Bool):Option (List (Option ef)×Bool):=
 match x.1.getD i U with
 | none => M (x.1.set i (M out), K)
 | some t => if t.stk.length = out.stk.length then (if iH p (nk p t out) t then M x else M (x.1.set i (M (nk p t out)), K)) else U
def jN (p:On)(n:Nat)(out:ef):List Int->List (Option ef)×Bool->Option (List (Option ef)×Bool)
 | [], x => M x
 | y :: l, x => if (n : Int) <= y then U else (od p out y.toNat x).bind (jN p n out l)
def rX (p:On)(m:eh)(i:Nat)(x:List (Option ef)×Bool):Option (List (Option ef)×Bool):=
 match x.1.getD i U with
 | none => M x
 | some s => (gB p m (ey m i) s).bind λout => jN p m.code.length out (jF (ey m i) i) x
def me (p:On)(m:eh)(R:List (Option ef)):Nat->Option (List (Option ef)×Bool)
 | 0 => M (R, F)
 | k + 1 => (me p m R k).bind (rX p m k)
def pw (p:On)(m:eh):Nat->List (Option ef)->Option (Option (List (Option ef)))
 | 0, _ => U
 | n + 1, R => match me p m R m.code.length with
  | none => M U
  | some (R', true) => pw p m n R'
  | some (R', false) => M (M R')
def wm (c:Int)(m:eh):List (Option ef):=(List.replicate m.code.length U).set 0 (M (fm m (fH c m)))
theorem wQ{α :Type}{b a}(x d: α)(e:a<b):(List.replicate b x).getD a d=x:=by
 rw[aj,cL,am e]
 rfl
section
variable {p : List eb} {m : eh} {c : Int}
structure kj (p:On)(m:eh)(s:eT)(R:List (Option ef)):Prop where
 ok:gM p m s
 cd:mS (kG p m) s
 len:R.length=m.code.length
 at_:∀i,i<m.code.length->R.getD i U=(lL s i).map (fm m)
theorem Gl (l:Good p)(f:∀g∈m.code,eU p m g=K):Kept p m (kG p m):=by
 refine⟨λg d n h b a i e=>?_,λd k b j a=>?_⟩
 .obtain⟨o,q⟩:=rk e a i;exact⟨o,(zu f).nx g d n h b.2.1 a i e,q,uT l f h b.2.2.2 e⟩
 .obtain⟨e,g⟩:=om p d k;exact⟨by rw[g];exact a,(zu f).jn d k b.2.1 j.2.1 a,by rw[e];exact b.2.2.1,zD a b.2.2.2 j.2.2.2⟩
theorem kj.put{g h}(a:kj p m g h)(i:m.code.length<=40){f}(j:f<m.code.length){x}(hx:kG p m x):kj p m (gH g f x) (h.set f (M (fm m x))):=by
 refine⟨⟨by simp[gH,a.ok.l1],by simp[gH,a.ok.l2],by simp[gH,a.ok.l3],λd e=>?_⟩,Ab a.ok a.cd hx,by simp[a.len],λd e=>?_⟩
 .by_cases b:d=f
  .subst b
   show ((g.st.set d x).getD d OM).loc.length=8/\_
   unfold gH;dsimp only;rw[jq (by rw[a.ok.l1];exact e)];exact⟨hx.1,hx.2.2.1⟩
  .unfold gH;dsimp only;rw[OS b];exact a.ok.ok d e
 .by_cases b:d=f
  .subst b;unfold lL gH;dsimp only;rw[jq (by rw[a.len];exact e),jq (by rw[a.ok.l2];omega),jq (by rw[a.ok.l1];omega)]
   rfl
  .unfold lL gH;dsimp only;rw[OS b,OS b,OS b];exact a.at_ d e
theorem Hd(z:ez p p.length)(r:m.code.length<=40)(K:Kept p m (kG p m))(u:0<=m.locals)(n:m.locals<=8){e k}(g:kj p m e k){i}(o:i<m.code.length){a}(j:kG p m a)(l):
  (∀f,mo p i a e=M f->∃q,od p (fm m a) i (k,l)=M (q,l || qd p i a e)/\kj p m f q)/\(mo p i a e=U->od p (fm m a) i (k,l)=U):=by
 have v:=g.at_ i o;unfold od mo qd;dsimp only;rw[v];unfold lL
 cases y:e.re.getD i F with
 | false => exact ⟨λf a => (by cases a; exact ⟨_, by simp, g.put r o j⟩), λa => by cases a⟩
 | true =>
  have b:=g.cd i (by omega) y;generalize e.st.getD i OM=t at *;have x:(fm m t).stk=t.stk:=rfl;have w:(fm m a).stk=a.stk:=rfl;simp only[if_true,bD,x,w]
  by_cases d:t.stk.length=a.stk.length
  .simp only [am d];have s:=K.jn t a b j b.1
   have e:iH p (nk p (fm m t) (fm m a)) (fm m t)=gA p a t:=by
    rw[Cb b.1 j.1 d n,AG u n s.1 b.1 b.2.1,Jz z b.1 j.1 d b.2.2.2]
   rw[e]
   cases h:gA p a t with
   | true => exact ⟨λf a => (by cases a; exact ⟨k, by simp, g⟩), λa => by cases a⟩
   | false =>
    simp only[Bool.false_eq_true,if_false];rw[Cb b.1 j.1 d n];exact⟨λf a=>(by cases a;exact⟨_,by simp,g.put r o s⟩),λa=>by cases a⟩
  .rw [af d]
   have h:gA p a t=F:=by
    cases h:gA p a t with
    | false => rfl
    | true =>
     exfalso
     unfold gA at h;simp only[aD,beq_iff_eq]at h;omega
   rw[h,af (by simp),af d];exact⟨λf a=>(by cases a),λ_=>rfl⟩
theorem Cc(o:ez p p.length)(j:m.code.length<=40)(K:Kept p m (kG p m))(h:0<=m.locals)(k:m.locals<=8){a}(l:kG p m a):∀(b:List (Int×Bool)) (x:eT×Bool) (e:List (Option ef)),kj p m x.1 e->(∀d∈b,0<=d.1/\d.1<(m.code.length:Int))->
  (∀ f, oV p a b x = M f -> ∃ g, jN p m.code.length (fm m a) (b.map (·.1)) (e, x.2) = M (g, f.2) /\ kj p m f.1 g) /\ (oV p a b x = U -> jN p m.code.length (fm m a) (b.map (·.1)) (e, x.2) = U)
 | [], x, e, C, _ => ⟨λf a => (by cases a; exact ⟨e, rfl, C⟩), λa => by cases a⟩
 | d :: b, x, e, C, hl => by
  obtain⟨e,e⟩:=hl d (by simp);obtain⟨r,s⟩:=Hd o j K h k C (i:=d.1.toNat) (by omega) l x.2;unfold oV;rw[bC];unfold jN;rw[af (by omega)]
  cases n:mo p d.1.toNat a x.1 with
  | none => rw[s n]; exact ⟨λf a => (by cases a), λ_ => rfl⟩
  | some q =>
   obtain⟨g,e,t⟩:=r q n;rw[e,au,au];exact Cc o j K h k l b (q,x.2 || qd p d.1.toNat a x.1) g t (λb a=>hl b (by simp[a]))
theorem Hc(l:Good p)(v:mU p m)(C:m.code.length<=40)(B:0<=m.locals)(r:∀d∈m.code,eU p m d=K){x j}(k:kj p m x.1 j){d}(o:d<m.code.length):
  (∀i,sF p m d x=M i->∃w,rX p m d (j,x.2)=M (w,i.2)/\kj p m i.1 w)/\(sF p m d x=U->rX p m d (j,x.2)=U):=by
 have D:=k.at_ d o;have u:=Gl l r;unfold rX sF;dsimp only;rw[D];unfold lL
 cases J:x.1.re.getD d F with
 | false => exact ⟨λi h => (by cases h; exact ⟨j, rfl, k⟩), λh => by cases h⟩
 | true =>
  obtain⟨z,L,t,A⟩:=k.cd d (by omega) J;generalize w:x.1.st.getD d OM=s at *;simp only[if_true,bD]
  have I:ey m d∈m.code:=by
   unfold ey;rw[ae o];exact av _
  have g:=kM (p:=p) (m:=m) (op:=(ey m d).op) (a:=(ey m d).a) (b:=(ey m d).b) (r _ I)
  have hcut:gB p m (ey m d) (fm m s)=(fe p m (ey m d) s).map (fm m):=by
   rw[Ae (by exact t) (λe d=>((A.1 e (cV d))).1) (λe=>(g.cls (by omega)).1) (λe=>by
    have f:=g.cls (by omega);have n:=g.im (by omega);obtain⟨q,h⟩:=ax n.1;rw[h];exact(l.im _ q f.1 f.2 (by omega)).1) (λe=>by
    have f:=g.cls (by omega);obtain⟨h,q⟩:=l.arg _ _ f.1 f.2 (g.call e)
    exact⟨λe d=>(h e d).1,q.1⟩) v.ret.1]
   exact Ca (λe=>by have:=g.loc e;omega)
  rw[hcut];have y:iq p m d s=(fe p m (ey m d) s).bind λq=>if kX m d then U else M q:=rfl
  rw[y]
  cases G:fe p m (ey m d) s with
  | none => exact ⟨λi h => (by cases h), λ_ => rfl⟩
  | some q =>
   rw[bD,au,au]
   cases e:kX m d with
   | true =>
    refine⟨λi h=>(by cases h),λ_=>?_⟩
    have H:gJ (ey m d)=K/\d+1=m.code.length:=by
     unfold kX gU at e
     cases n:gJ (ey m d) with
     | true =>
      refine⟨rfl,?_⟩;rw[n]at e
      cases f:gz (ey m d) with
      | true =>
       rw[f]at e;have E:=g.jmp (by unfold gz at f;simp only[bB,beq_iff_eq]at f;omega);simp at e;omega
      | false =>
       rw[f]at e;simp at e;omega
     | false =>
      rw[n]at e
      cases f:gz (ey m d) with
      | true =>
       rw[f]at e;have E:=g.jmp (by unfold gz at f;simp only[bB,beq_iff_eq]at f;omega);simp at e;omega
      | false => rw[f]at e; simp at e
    unfold jF;rw[H.1,am rfl,dO];unfold jN;rw[am (by omega)]
   | false =>
    have f:iq p m d s=M q:=(by rw[y,G,au,e];rfl);have e:=u.nx d s q o ⟨z,L,t,A⟩ z t f;have d:=ro o r f;rw[IT];exact Cc l.sup C u B v.loc e _ x j k (λf e=>d f (dJ.1 e))
theorem Cd(h:Good p)(i:mU p m)(k:m.code.length<=40)(j:0<=m.locals)(l:∀r∈m.code,eU p m r=K){e d}(g:kj p m e d):∀(a:Nat),a<=m.code.length->
  (∀b,nN p m e a=M b->∃f,me p m d a=M (f,b.2)/\kj p m b.1 f)/\(nN p m e a=U->me p m d a=U)
 | 0, _ => ⟨λb a => (by cases a; exact ⟨d, rfl, g⟩), λa => by cases a⟩
 | a + 1, hk => by
  obtain⟨o,q⟩:=Cd h i k j l g a (by omega);unfold nN me
  cases n:nN p m e a with
  | none => rw[q n]; exact ⟨λb a => (by cases a), λ_ => rfl⟩
  | some s =>
   obtain⟨f,b,a⟩:=o s n;rw[b,au,au];exact Hc h i k j l a (by omega)
theorem Ce (l:Good p)(n:mU p m)(q:m.code.length<=40)(o:0<=m.locals)(r:∀x∈m.code,eU p m x=K):∀(h:Nat) (e:eT) (f:List (Option ef)),kj p m e f->∀b,pF p m h e=M b->∃j,pw p m h f=M j/\(b=U->j=U)/\∀i,b=M i->∃d,j=M d/\kj p m i d
 | 0, e, f, C, b, a => by cases a
 | h + 1, e, f, C, b, a => by
  obtain⟨t,u⟩:=Cd l n q o r C m.code.length (ai _);unfold pF at a;unfold pw
  cases g:nN p m e m.code.length with
  | none =>
   rw[g]at a
   cases a
   rw[u g];exact⟨U,rfl,λ_=>rfl,λi a=>(by cases a)⟩
  | some s =>
   obtain⟨d,w,k⟩:=t s g;obtain⟨y,v⟩:=s;rw[g]at a;rw[w]
   cases v with
   | true => exact Ce l n q o r h y d k b a
   | false =>
    cases a
    exact⟨_,rfl,λa=>(by cases a),λi a=>(by cases a;exact⟨d,rfl,k⟩)⟩
theorem He (f:m.code.length<=40)(h:1<=m.code.length)(i:0<=m.stack)(g:kG p m (fH c m)):kj p m (gH sv0 0 (fH c m)) (wm c m):=by
 have e:kj p m sv0 (List.replicate m.code.length U):=by
  refine⟨⟨by simp[sv0],by simp[sv0],by simp[sv0],λb a=>?_⟩,λb a d=>?_,by simp,λb a=>?_⟩
  .have:sv0.st.getD b OM=OM:=wQ _ _ a;rw[this];exact⟨rfl,by show ((0:Nat):Int)<=m.stack;omega⟩
  .exfalso
   have:sv0.re.getD b F=F:=wQ _ _ a;rw[this]at d
   cases d
  .have:sv0.re.getD b F=F:=wQ _ _ (by omega);unfold lL;rw[this];rw[wQ _ _ a]
   rfl
 exact e.put f (by omega) g
end
def ni (m:eh)(R:List (Option ef))(at_:Nat):Nat->Bool
 | 0 => F
 | k + 1 => ni m R at_ k || ((R.getD k U).isSome && gz (ey m k) && ((ey m k).a == (at_ : Int)))
def jh (m:eh)(R:List (Option ef))(pl:Bool):Nat->List fT
 | 0 => []
 | k + 1 => jh m R pl k ++ (if (!pl || ni m R k m.code.length) && (R.getD k U).isSome then [⟨(k : Int), ((R.getD k U).getD ⟨[], []⟩).loc, ((R.getD k U).getD ⟨[], []⟩).stk⟩] else [])
section
variable {p : List eb} {m : eh} {c : Int}
theorem kj.isSome{b d}(e:kj p m b d){a}(f:a<m.code.length):(d.getD a U).isSome=b.re.getD a F:=by
 rw[e.at_ a f];unfold lL
 cases b.re.getD a F <;> rfl
theorem Lw{h g}(j:kj p m h g)(k:∀e∈m.code,eU p m e=K)(f):ni m g f m.code.length=uY m h f:=by
 have o:∀d,d<=m.code.length->ni m g f d=(List.range d).any λe=>h.re.getD e F && gz (ey m e) && ((ey m e).a.toNat == f):=by
  intro d
  induction d with
  | zero => intro _; rfl
  | succ d n =>
   intro e;unfold ni;rw[n (by omega),dl,List.any_append,List.any_cons,List.any_nil,dY,j.isSome (by omega)]
   congr 1
   cases i:gz (ey m d) with
   | false => simp
   | true =>
    have l:ey m d∈m.code:=by
     unfold ey;rw[ae (show d<m.code.length by omega)];exact av _
    have e:=kM (p:=p) (m:=m) (op:=(ey m d).op) (a:=(ey m d).a) (b:=(ey m d).b) (k _ l);have:=e.jmp (by unfold gz at i;simp only[bB,beq_iff_eq]at i;omega)
    congr 1
    rw[de,beq_iff_eq,beq_iff_eq];omega
 exact o _ (ai _)
theorem II{b e}(d:kj p m b e):∀a,a<=m.code.length->jh m e F a=kL m b a:=by
 intro a
 induction a with
 | zero => intro _; rfl
 | succ a f =>
  intro e;unfold jh kL;rw[f (by omega),d.isSome (by omega),d.at_ a (by omega)];unfold lL
  cases b.re.getD a F <;> rfl
theorem IJ{b e}(d:kj p m b e)(g:∀h∈m.code,eU p m h=K):jh m e K m.code.length=py m b:=by
 have j:∀a,a<=m.code.length->jh m e K a=(kL m b a).filter λe=>uY m b e.pc.toNat:=by
  intro a
  induction a with
  | zero => intro _; rfl
  | succ a i =>
   intro h;unfold jh kL;rw[i (by omega),List.filter_append,Lw d g,d.isSome (by omega),d.at_ a (by omega)];unfold lL
   cases b.re.getD a F with
   | false => simp
   | true =>
    cases f:uY m b a with
    | false => simp[f]
    | true => simp[f, fm]
 exact j _ (ai _)
theorem CR{d e}(f:∀b,b<40->d.re.getD b F=e.re.getD b F/\(d.re.getD b F=K->d.st.getD b OM=e.st.getD b OM)):∀a,a<=40->kL m d a=kL m e a:=by
 intro a
 induction a with
 | zero => intro _; rfl
 | succ a j =>
  intro b;unfold kL;obtain⟨g,h⟩:=f a (by omega);rw[j (by omega)]
  congr 1
  rw[<-g]
  cases i:d.re.getD a F with
  | false => rfl
  | true => rw[h i]
theorem Gp{d h}(i:m.code.length<=40)(g:∀a,a<40->d.re.getD a F=h.re.getD a F/\(d.re.getD a F=K->d.st.getD a OM=h.st.getD a OM)):py m d=py m h:=by
 unfold py;rw[CR g _ i]
 congr 1
 funext f
 unfold uY;rw[de,dI,dI]
 constructor
 .rintro ⟨a,b,e⟩;exact⟨a,b,by rw[<-(g a (by rw[bw]at b;omega)).1];exact e⟩
 .rintro ⟨a,b,e⟩;exact⟨a,b,by rw[(g a (by rw[bw]at b;omega)).1];exact e⟩
theorem Na(d:fi p=0)(q:eM p<=4194304){E}(n:gh p c E=M m)(C:kG p m (fH c m))(A:1<=m.code.length)(z:0<=m.locals){v g}(y:mq p m v (gH sv0 0 (fH c m))=M g):
  ∃G h,pw p m G (wm c m)=M h/\(g=U->h=U)/\∀e,g=M e->∃b,h=M b/\b.length=m.code.length/\jh m b K m.code.length=py m e/\jh m b F m.code.length=kL m e m.code.length:=by
 have D:=iA d;obtain⟨_,_,a⟩:=kZ d n;have B:=(kY d).1.2;have t:=oj d q;have l:0<=m.stack:=by have:=a.bg.2.2;have k:((fH c m).stk.length:Int)=0:=rfl;omega
 have u:=vC (p:=p) (c:=c) a.a7 l;obtain⟨r,j⟩:=DY D B a.ok.stk a.c40 a.ins (mu p (gH sv0 0 (fH c m))+1) _ u.ok (by omega);obtain⟨i,w⟩:=Nb d q n y j;obtain⟨h,g,d,x⟩:=Ce t a.ok a.c40 z a.ins _ _ _ (He a.c40 A l C) r j;refine⟨_,h,g,λk=>d (i.1 k),λe o=>?_⟩
 cases f:r with
 | none =>
  have:=i.2 f;rw[o]at this
  cases this
 | some s =>
  obtain⟨b,h,d⟩:=x s f;have g:=w e s o f;exact⟨b,h,d.len,by rw[IJ d a.ins];exact(Gp a.c40 g).symm,by rw[II d _ (ai _)];exact(CR g _ a.c40).symm⟩
end
section
variable {p : List eb} {m : eh}
theorem yP(b c):∀(e a:Ok) (x:List (Option ef)×Bool),jN p b c (e++a) x=(jN p b c e x).bind (jN p b c a)
 | [], a, x => rfl
 | y :: e, a, x => by
  rw[cB];unfold jN
  by_cases d:(b:Int)<=y
  .rw [am d,am d];rfl
  .rw [af d,af d]
   cases od p c y.toNat x with
   | none => rfl
   | some d => exact yP b c e a d
theorem Gi(c d b a x):jN p c d (b++ [a]) x=(jN p c d b x).bind λx=>if (c:Int)<=a then U else od p d a.toNat x:=by
 rw[yP]
 congr 1
 funext e
 unfold jN
 by_cases b:(c:Int)<=a
 .rw [am b,am b]
 .rw [af b,af b]
  cases od p d a.toNat e with
  | none => rfl
  | some e => rfl
theorem Bt{b c a j x}(e:jN p b c (a.take j) x=U):jN p b c a x=U:=by
 have d:=yP (p:=p) b c (a.take j) (a.drop j) x;rw[bH]at d;rw[d,e]
 rfl
theorem Gj{c b}(d:me p m c b=U):∀a,b<=a->me p m c a=U:=by
 intro a c
 induction a with
 | zero =>
  obtain rfl:b=0:=by omega
  exact d
 | succ a f =>
  rcases bt a b with e | e
  .obtain rfl:b=a+1:=by omega
   exact d
  .unfold me;rw[f e];rfl
def lZ (p:On)(r:Option ef)(out:ef):Option ef:=match r with
 | none => M out
 | some t => if t.stk.length = out.stk.length then M (nk p t out) else U
def ux (p:On)(r:Option ef)(x:ef):Bool:=match r with
 | none => F
 | some t => iH p x t
theorem Bu(c a x):od p c a x=(lZ p (x.1.getD a U) c).bind λd=>if ux p (x.1.getD a U) d then M x else M (x.1.set a (M d),K):=by
 unfold od lZ ux
 cases x.1.getD a U with
 | none => rfl
 | some e =>
  dsimp only
  by_cases b:e.stk.length=c.stk.length
  .rw [am b,am b];rfl
  .rw [af b,af b];rfl
theorem yQ{c e b d}(a:pw p m b c=M e)(g:d<=m.code.length)(f:me p m c d=U):e=U:=by
 cases b with
 | zero => cases a
 | succ b =>
  unfold pw at a;rw[Gj f _ g]at a
  cases a
  rfl
theorem LC{e f}(h:kq p m e)(i:kq p m f)(j:e.stk.length=f.stk.length):kq p m (nk p e f):=by
 obtain⟨e,e,e⟩:=h;obtain⟨g,e,e⟩:=i;refine⟨⟨λe hx=>?_,λe hx=>?_⟩,?_,?_⟩
 .unfold nk at hx;obtain⟨c,d,rfl⟩:=bF.1 hx;exact zw (g.1 _ (List.of_mem_zip (a:=c.1) (b:=c.2) d).2)
 .unfold nk at hx;obtain⟨c,d,rfl⟩:=bF.1 hx;exact zw (g.2 _ (List.of_mem_zip (a:=c.1) (b:=c.2) d).2)
 .unfold nk;simp;omega
 .unfold nk;simp;omega
theorem Gh{b e c}(h:∀f,b=M f->kq p m f)(d:kq p m e)(a:lZ p b e=M c):kq p m c:=by
 unfold lZ at a
 cases b with
 | none => cases a; exact d
 | some i =>
  dsimp only at a
  split at a
  .rename_i g
   cases a
   exact LC (h i rfl) d g
  .cases a
end
section
attribute [local go_sem ↓] Go.wp_at_zero Go.wp_at_succ
attribute [local go_sem] eZ
structure FM (p:On)(c:Int)(m:eh):Prop where
 c0:0<=c
 c1:c<(p.length:Int)
 ok:mU p m
 ins:∀i∈m.code,eU p m i=K
 c40:m.code.length<=40
 cl:1<=m.code.length
 f40:m.frames.length<=40
 fr:gK p.length m (-1) m.frames=K
 l1:1+(m.args.length:Int)<=m.locals
 cd:kG p m (fH c m)
theorem Eg{p e i f}(g:fi p=0)(b:gh p e i=M f):FM p e f:=by
 obtain⟨k,l,a⟩:=kZ g b
 have hx:∃d,p[e.toNat]? =M d/\d.ek[i.toNat]? =M f:=by
  unfold gh at b
  split at b
  .cases hx:p[e.toNat]? with
   | none => rw[hx]at b; cases b
   | some d => rw[hx]at b; exact ⟨d, rfl, b⟩
  .cases b
 obtain⟨d,b,i⟩:=hx;have j:=jw.1 (tD g b i);have h:=(kY g).2.2 d (aB b) f (aB i);unfold gY at h;simp only[aD]at h;have:=j.2.2.2.2.2.1;refine⟨k,l,a.ok,a.ins,a.c40,a.c1,a.f40,h.2,by omega,?_,F9 (by omega) a.a7,?_,yI a⟩
 .exact (xg (c:=e) a.a7).1
 .exact a.bg.2.2
end
section
attribute [local go_sem ↓] Go.wp_at_zero Go.wp_at_succ
theorem Bx{a c d e f}(g:ee (λ_=>False) e f)(h:c<=d):fN (jb a c e) (jb a d f):=λc d a=>by
 have b:=uz a;unfold jb at a ⊢;rw[am b]at a;rw[am ⟨b.1,by omega⟩];exact g.cell a (λb=>b)
end
end Go.Proofs.YtiiokkllmchohaaGreat
