/- The arguments of a law, read as data, as plain programs. -/
import Derived.ProofKit
import Derived.OpenShut
import Derived.JoinedCond
import Derived.ChangeArms
import Derived.Carry
import Derived.ChangeMaps5
import Derived.Test.YtiiokkllmchohaaGreatT01
set_option maxHeartbeats 0
set_option maxRecDepth 99999
namespace Go.Proofs.YtiiokkllmchohaaGreat
open Go.Value renaming int->J,slice->O,pointer->zP,bool->zB
open Go.IntKind renaming i64->I
open Option renaming none->U,some->M
open Bool renaming true->K,false->F
open Go.Ending renaming returned->zR
open Go.Obj renaming cells->zC
section
open Go.RowKit
theorem cell_spot{w:World}{a d}(b:w.cell? a=M d):a=⟨a.block,a.off,U⟩:=by
 obtain⟨d,d,c⟩:=a;unfold World.cell? at b
 cases c with
 | none => rfl
 | some a =>
  simp only at b
  split at b
  .simp at b
  .cases b
theorem Gg{H}(a:DataW H):1<=Rows.uptoBulk a:=by
 cases a with
 | lit l => cases l <;> simp[Rows.uptoBulk]
 | nil => simp[Rows.uptoBulk]
 | ptr a => simp[Rows.uptoBulk]
 | slice b b => simp[Rows.uptoBulk]
 | agg b => simp[Rows.uptoBulk]
 | iface t a => simp[Rows.uptoBulk]
 | map entries => simp[Rows.uptoBulk]
 | held h => simp[Rows.uptoBulk]
theorem th{w:World}{d e c b}(f:w.cells? 0 ⟨d,e,U⟩ c=M b):b.length=c/\∀a,a<c->w.cell? ⟨d,e+a,U⟩=b[a]? :=by
 obtain⟨_,b,c⟩:=World.cells?_some f;refine⟨b,λa b=>?_⟩;rw[<-addr_add];exact c a b
theorem J6 {α :Type}{b:List α}(c:b.length=1):∃a,b= [a]:=by
 match b,c with
 | [a], _ => exact ⟨a, rfl⟩
theorem tH {α :Type}{d:List α}(e:d.length=3):∃a b c,d= [a,b,c]:=by
 match d,e with
 | [a, b, c], _ => exact ⟨a, b, c, rfl⟩
theorem Dn {α :Type}{h:List α}(i:h.length=7):∃a b c d e f g,h= [a,b,c,d,e,f,g]:=by
 match h,i with
 | [a, b, c, d, e, f, g], _ => exact ⟨a, b, c, d, e, f, g, rfl⟩
theorem xU{α :Type}(a):∀b:List α,(b.map λ_=>a).sum=a*b.length
 | [] => by simp
 | _ :: r => by rw[bC, dk, xU a r, bA, Nat.mul_succ]; omega
section
variable {H : Type} {enc : TypeId × Value -> H} {w : World}
abbrev TR (enc:TypeId×Value->H)(w:World)(fuel:Nat)(t:TypeId)(cs:Oj)(y:DataW H×List MemPlace):Prop:=DataW.trod enc Tryz.prog w 0 (λ_=>K) K fuel t cs=M y
theorem Bs{α :Type}{sz b}(j: α->Nat->Nat->Prop)(l: α->Prop)(k):∀(m:List (DataW H×List MemPlace)) (d:Nat),
  (∀ f i, m[f]? = M i -> ∃ x, j x b (d + f * sz) /\ l x /\ k x <= Rows.uptoBulk i.1) -> ∃ g : List α, g.length = m.length /\ (∀ c x, g[c]? = M x -> j x b (d + c * sz)) /\ (∀ x ∈ g, l x) /\ (g.map k).sum <= Rows.uptoBulkAll (m.map (·.1))
 | [], d, _ => ⟨[], rfl, λc x e => (by simp at e), λx e => (by cases e), by simp[Rows.uptoBulkAll]⟩
 | i :: r, d, e => by
  obtain⟨x,n,o,m⟩:=e 0 i rfl
  obtain⟨g,p,q,s,i⟩:=Bs j l k r (d+sz) (λf h a=>by
   have:=e (f+1) h (by simpa using a)
   rwa[cq,show d+(f*sz+sz)=d+sz+f*sz by omega]at this)
  refine⟨x::g,by simp[p],λc h a=>?_,λh a=>?_,?_⟩
  .cases c with
   | zero => simp at a; subst a; exact n
   | succ c =>
    have:=q c h (by simpa using a)
    rwa[cq,show d+(c*sz+sz)=d+sz+c*sz by omega]
  .rcases aE.1 a with rfl | a
   .exact o
   .exact s h a
  .simp only [bC,dk,Rows.uptoBulkAll];omega
theorem open_list{α y c d}(n)(p: α->Prop)(o)(F:Tryz.prog.underlying y=M (.slice c))(C:Tryz.prog.cellsOf c=d)(E:0<d)(D:∀u e f i k,w.cells? 0 ⟨e,f,U⟩ d=M i->TR enc w u c i k->∃x,n x e f/\p x/\o x<=Rows.uptoBulk k.1){A m k}(B:TR enc w A y [m] k):
  ∃h:List α,eG d n m h/\(∀x∈h,p x)/\(h.map o).sum+1<=Rows.uptoBulk k.1:=by
 rcases DataW.trod_slice F B with ⟨s,rfl⟩ | ⟨a,l,q,z,rest,u,_,s,rfl,_,k,_,k,t,_⟩
 .obtain rfl:m=O U 0 0:=by simpa using s
  exact⟨[],⟨U,0,0,0,rfl,ai _,⟨λc=>absurd rfl c,.inl ⟨rfl,rfl⟩⟩,λc x a=>by simp at a⟩,λx hx=>(by cases hx),by simp[Rows.uptoBulk]⟩
 .obtain rfl:m=O (M a) l q:=by simpa using s
  rw[C]at t
  rcases dc l with r | r
  .subst r;refine⟨[],⟨M a,0,0,q,rfl,az _,⟨λc=>absurd rfl c,.inr (.inr ⟨rfl,λc=>by cases c⟩)⟩,λc x a=>by simp at a⟩,λx hx=>(by cases hx),by simp only[cy,List.sum_nil];exact Gg _⟩
  .have v:a=⟨a.block,a.off,U⟩:=by
    have:=t 0 r;rw[cr]at this
    cases g:w.cells? 0 (a.add 0) d with
    | none =>
     rw[g,ae (by omega)]at this
     cases this
    | some i =>
     obtain⟨_,c,c⟩:=World.cells?_some g;have j:=c 0 E;rw[show (a.add 0).add 0=a by simp[Addr.add]]at j;exact cell_spot (j.trans (ae (by omega)))
   obtain⟨e,f,c⟩:=a;simp only[Addr.mk.injEq,true_and]at v;subst v
   obtain⟨h,a,G,I,a⟩:=Bs (b:=e) (sz:=d) n p o z f (λa h c=>by
    have k:a<l:=(by have:=(ag.1 c).1;omega);have j:=t a k;rw[c,addr_add]at j
    cases g:w.cells? 0 ⟨e,f+a*d,U⟩ d with
    | none => rw[g]at j; cases j
    | some i =>
     rw[g]at j
     exact D u e (f+a*d) i h g j)
   have a:h.length=l:=(by omega);refine⟨h,⟨M ⟨e,f,U⟩,e,f,q,by rw[a],by omega,⟨λ_=>rfl,.inr (.inl rfl)⟩,G⟩,I,?_⟩;simp only[Rows.uptoBulk];omega
theorem By:Tryz.prog.cellsOf 3=1/\Tryz.prog.cellsOf 43=1/\Tryz.prog.cellsOf 40=1/\Tryz.prog.cellsOf 61=1/\Tryz.prog.cellsOf 36=1/\Tryz.prog.cellsOf 64=1/\Tryz.prog.cellsOf 22=1:=
 ⟨by kernel_rfl,by kernel_rfl,by kernel_rfl,by kernel_rfl,by kernel_rfl,by kernel_rfl,by kernel_rfl⟩
theorem uA:Tryz.prog.cellsOf 60=3/\Tryz.prog.cellsOf 42=3/\Tryz.prog.cellsOf 63=7/\Tryz.prog.cellsOf 66=3/\Tryz.prog.cellsOf 24=1:=
 ⟨by kernel_rfl,by kernel_rfl,by kernel_rfl,by kernel_rfl,by kernel_rfl⟩
theorem wf_i64{a}(b:(Lit.int .i64 a).wf=K):I64 a:=by
 have: -9223372036854775808<=a/\a<=9223372036854775807:=by simpa[Lit.wf,IntKind.min,IntKind.max,IntKind.signed,IntKind.bits]using b
 exact this
theorem qv{c}(h:Tryz.prog.underlying c=M (.int .i64)){e b d}(f:TR enc w e c [b] d):∃a,b=J I a/\I64 a/\Rows.uptoBulk d.1=1:=by
 obtain⟨a,g,rfl,b⟩:=DataW.trod_int h f;exact⟨a,by simpa using g,wf_i64 b,by simp[Rows.uptoBulk]⟩
theorem xj{h c b}(i:TR enc w h 40 [c] b):∃a,eG 1 (gF w) c a/\(∀x∈a,I64 x)/\a.length+1<=Rows.uptoBulk b.1:=by
 obtain⟨a,j,k,l⟩:=open_list (enc:=enc) (w:=w) (gF w) I64 (λ_=>1) Tryz.underlying40 By.2.1 (by decide) (λc c c c b m n=>by
  obtain⟨b,d⟩:=th m;obtain⟨x,e,f,g⟩:=DataW.trod_int Tryz.underlying43 n;subst e;refine⟨x,?_,wf_i64 g,by rw[f];simp[Rows.uptoBulk]⟩;have:=d 0 (by omega)
  simpa[gy]using this) i
 exact⟨a,j,k,by rw[xU]at l;omega⟩
theorem K8{m b g c h}(k:w.cells? 0 ⟨b,g,U⟩ 3=M c)(j:TR enc w m 60 c h):∃x,rQ w x b g/\uh x/\4<=Rows.uptoBulk h.1:=by
 obtain⟨i,a⟩:=th k;obtain⟨b,b,_,rfl,_,l,hx⟩:=DataW.trod_struct Tryz.underlying60 j;obtain⟨b,b,b,rfl⟩:=tH i;obtain⟨b,b,b,rfl⟩:=tH l;have d:=hx 0 _ rfl;have e:=hx 1 _ rfl;have f:=hx 2 _ rfl;simp only[bY,bU]at d e f;obtain⟨n,rfl,q,b⟩:=qv Tryz.underlying3 d;obtain⟨o,rfl,r,b⟩:=qv Tryz.underlying3 e;obtain⟨p,rfl,b,c⟩:=qv Tryz.underlying3 f;exact⟨⟨n,o,p⟩,⟨a 0 (by omega),a 1 (by omega),a 2 (by omega)⟩,⟨q,r,b⟩,by simp only[bC,cy,Rows.uptoBulk,Rows.uptoBulkAll];omega⟩
theorem K4{d c b}(e:TR enc w d 61 [c] b):∃a,eG 3 (rQ w) c a/\(∀x∈a,uh x)/\4*a.length+1<=Rows.uptoBulk b.1:=by
 obtain⟨a,c,d,f⟩:=open_list (enc:=enc) (w:=w) (rQ w) uh (λ_=>4) Tryz.underlying61 uA.1 (by decide) (λe c f d b a b=>K8 a b) e;refine⟨a,c,d,?_⟩;rw[xU]at f;omega
theorem K6{p b g c h}(m:w.cells? 0 ⟨b,g,U⟩ 3=M c)(l:TR enc w p 42 c h):∃x,ur w x b g/\ug x/\iB x<=Rows.uptoBulk h.1:=by
 obtain⟨k,a⟩:=th m;obtain⟨b,b,_,rfl,_,n,hx⟩:=DataW.trod_struct Tryz.underlying42 l;obtain⟨b,i,j,rfl⟩:=tH k;obtain⟨b,b,b,rfl⟩:=tH n;have d:=hx 0 _ rfl;have e:=hx 1 _ rfl;have f:=hx 2 _ rfl;simp only[bY,bU]at d e f;obtain⟨q,rfl,s,b⟩:=qv Tryz.underlying3 d;obtain⟨o,r,t,b⟩:=xj e;obtain⟨b,c,d,e⟩:=xj f;refine⟨⟨q,o,b⟩,⟨i,j,a 0 (by omega),a 1 (by omega),a 2 (by omega),r,c⟩,⟨s,t,d⟩,?_⟩;unfold iB;simp only[bC,cy,Rows.uptoBulk,Rows.uptoBulkAll];omega
theorem K7{d c b}(e:TR enc w d 36 [c] b):∃a,eG 3 (ur w) c a/\(∀x∈a,ug x)/\(a.map iB).sum+1<=Rows.uptoBulk b.1:=
 open_list (enc := enc) (w := w) (ur w) ug iB Tryz.underlying36 uA.2.1 (by decide) (λe c f d b a b => K6 a b) e
theorem La{v b k c l}(r:w.cells? 0 ⟨b,k,U⟩ 7=M c)(q:TR enc w v 63 c l):∃x,sV w x b k/\pQ x/\fI x<=Rows.uptoBulk l.1:=by
 obtain⟨p,a⟩:=th r;obtain⟨b,b,_,rfl,_,s,hx⟩:=DataW.trod_struct Tryz.underlying63 q;obtain⟨b,m,b,b,b,n,o,rfl⟩:=Dn p;obtain⟨b,b,b,b,b,b,b,rfl⟩:=Dn s;have d:=hx 0 _ rfl;have e:=hx 1 _ rfl;have f:=hx 2 _ rfl;have g:=hx 3 _ rfl;have h:=hx 4 _ rfl;have i:=hx 5 _ rfl;have j:=hx 6 _ rfl;simp only[bY,bU]at d e f g h i j;obtain⟨y,rfl,E,b⟩:=qv Tryz.underlying3 d;obtain⟨t,C,F,b⟩:=xj e;obtain⟨z,rfl,G,b⟩:=qv Tryz.underlying43 f;obtain⟨A,rfl,I,b⟩:=qv Tryz.underlying3 g;obtain⟨B,rfl,J,b⟩:=qv Tryz.underlying3 h;obtain⟨u,D,K,b⟩:=K4 i;obtain⟨b,c,d,e⟩:=K7 j;refine⟨⟨y,t,z,A,B,u,b⟩,⟨m,n,o,⟨C,D,c⟩,a 0 (by omega),a 1 (by omega),a 2 (by omega),a 3 (by omega),a 4 (by omega),a 5 (by omega),a 6 (by omega)⟩,⟨E,F,G,I,J,K,d⟩,?_⟩;unfold fI;simp only[bC,cy,Rows.uptoBulk,Rows.uptoBulkAll];omega
theorem Lb{d c b}(e:TR enc w d 64 [c] b):∃a,eG 7 (sV w) c a/\(∀x∈a,pQ x)/\(a.map fI).sum+1<=Rows.uptoBulk b.1:=
 open_list (enc := enc) (w := w) (sV w) pQ fI Tryz.underlying64 uA.2.2.1 (by decide) (λe c f d b a b => La a b) e
theorem KZ{p b g c h}(m:w.cells? 0 ⟨b,g,U⟩ 3=M c)(l:TR enc w p 66 c h):∃x,yy w x b g/\AI x/\gV x<=Rows.uptoBulk h.1:=by
 obtain⟨k,a⟩:=th m;obtain⟨b,b,_,rfl,_,n,hx⟩:=DataW.trod_struct Tryz.underlying66 l;obtain⟨b,i,j,rfl⟩:=tH k;obtain⟨b,b,b,rfl⟩:=tH n;have d:=hx 0 _ rfl;have e:=hx 1 _ rfl;have f:=hx 2 _ rfl;simp only[bY,bU]at d e f;obtain⟨q,rfl,s,b⟩:=qv Tryz.underlying3 d;obtain⟨o,r,t,b⟩:=xj e;obtain⟨b,c,d,e⟩:=Lb f;refine⟨⟨q,o,b⟩,⟨i,j,a 0 (by omega),a 1 (by omega),a 2 (by omega),r,c⟩,⟨s,t,d⟩,?_⟩;unfold gV;simp only[bC,cy,Rows.uptoBulk,Rows.uptoBulkAll];omega
theorem Lc{g h n l}(e:Value.okWide Tryz.prog w .any l 24 g)(d:DataW.Trod enc Tryz.prog w 0 (λ_=>K) K 24 g h n):
  ∃b p,g= .agg #[b]/\eQ w b p/\je p/\eM p+2<=Rows.uptoBulk h:=by
 unfold Value.okWide at e;rw[Tryz.underlying24]at e;obtain⟨c,rfl,k,_⟩:=e;rw[uA.2.2.2.2]at k;obtain⟨e,d⟩:=d;obtain⟨e,e,_,f,_,m,hx⟩:=DataW.trod_struct Tryz.underlying24 d
 obtain⟨b,rfl⟩:∃b,c= #[b]:=by
  match c,k with
  | ⟨[a]⟩, _ => exact ⟨a, rfl⟩
 obtain⟨d,rfl⟩:=J6 m;have j:=hx 0 _ rfl;simp only[bY]at j;obtain⟨d,o,q,e⟩:=open_list (enc:=enc) (w:=w) (yy w) AI gV Tryz.underlying22 uA.2.2.2.1 (by decide) (λe d g c c b f=>KZ b f) j;refine⟨b,d,rfl,o,q,?_⟩;have i:=cP Prod.fst f;simp only at i;rw[i];unfold eM;simp only[bC,cy,Rows.uptoBulk,Rows.uptoBulkAll];omega
end
end
section
open Go.ChangeShapes Go.WideShapes Go.ChangeAt Go.RowKit
section
variable {H : Type} {enc : TypeId × Value -> H} {w : World}
theorem K9{a e q base}(b:Value.okWide Tryz.prog w .any base 51 a)(d:DataW.Trod enc Tryz.prog w 0 (λ_=>K) K 51 a e q):∃c,eG 1 (gF w) a c/\(∀x∈c,I64 x)/\c.length+1<=Rows.uptoBulk e:=by
 obtain⟨e,d⟩:=d
 have o:a.cells.toList= [a]:=by
  unfold Value.okWide at b;rw[Tryz.underlying51]at b;unfold Cell.okWide at b;rw[Tryz.underlying51]at b
  cases a with
  | agg h =>
   simp only[Cell.ok,Tryz.underlying51]at b
  | _ => rfl
 rw[o]at d
 obtain⟨c,l,m,f⟩:=open_list (enc:=enc) (w:=w) (gF w) I64 (λ_=>1) Tryz.underlying51 By.1 (by decide) (λa a a h a n p=>by
  obtain⟨a,g⟩:=th n;obtain⟨x,i,j,k⟩:=DataW.trod_int Tryz.underlying3 p;subst i;refine⟨x,?_,wf_i64 k,by rw[j];simp[Rows.uptoBulk]⟩;have:=g 0 (by omega)
  simpa[gy]using this) d
 exact⟨c,l,m,by rw[xU]at f;dsimp only at f;omega⟩
end
section
variable {H : Type} {enc : TypeId × Value -> H} {P : Program} {w : World} {base : Nat} {spare : Nat -> Bool} {held : Bool}
theorem Nt{s t u t3 t4 o q r}(v:DataW.TrodAll enc P w base spare held [s,t,u,t3,t4] o.toList q r):
  ∃j k l m n a b c d e p f g h i,o= #[j,k,l,m,n]/\q= [a,b,c,d,e]/\r=p++f++g++h++i/\DataW.Trod enc P w base spare held s j a p/\DataW.Trod enc P w base spare held t k b f/\DataW.Trod enc P w base spare held u l c g/\DataW.Trod enc P w base spare held t3 m d h/\DataW.Trod enc P w base spare held t4 n e i:=by
 obtain⟨j,q,a,q,p,q,q,rfl,rfl,x,C⟩:=trodAll_cons v;obtain⟨k,q,b,q,f,q,rfl,rfl,rfl,y,D⟩:=trodAll_cons C;obtain⟨l,q,c,q,g,q,rfl,rfl,rfl,z,E⟩:=trodAll_cons D;obtain⟨m,q,d,q,h,q,rfl,rfl,rfl,A,F⟩:=trodAll_cons E;obtain⟨n,q,e,q,i,q,rfl,rfl,rfl,B,G⟩:=trodAll_cons F;obtain⟨rfl,rfl,rfl⟩:=trodAll_nil G;exact⟨j,k,l,m,n,a,b,c,d,e,p,f,g,h,i,by cases o;simp_all,rfl,by simp,x,y,z,A,B⟩
theorem Nu{d f b p e g c a}(h:DataW.Trod enc P w base spare held d f b p)(i:DataW.TrodAll enc P w base spare held e g c a):
  DataW.TrodAll enc P w base spare held (d::e) (f::g) (b::c) (p++a):=⟨p,a,h,i,rfl⟩
end
theorem Gf{H a b c d e}(g:Rows.uptoSmall H ([a,b,c,d,e]++ [])=K):Rows.uptoBulk a+Rows.uptoBulk b+Rows.uptoBulk c+Rows.uptoBulk d+Rows.uptoBulk e<=1048576:=by
 have f:=of_decide_eq_true g;simp only[bL,Rows.uptoBulkAll]at f;omega
theorem JF:ownKnob Tryz.prog.godebug=U:=by kernel_rfl
theorem uM:laidOutB Tryz.prog=K:=by kernel_rfl
end
end Go.Proofs.YtiiokkllmchohaaGreat
