/- The document's passes. -/
import Derived.Test.YtiiokkllmchohaaGreatT44
set_option maxHeartbeats 0
set_option maxRecDepth 99999
namespace Go.Proofs.YtiiokkllmchohaaGreat
open Go.Value renaming int->J,slice->O,pointer->zP,bool->zB
open Go.IntKind renaming i64->I
open Option renaming none->U,some->M
open Bool renaming true->K,false->F
open Go.Ending renaming returned->zR
open Go.Obj renaming cells->zC
open Go.RowKit Go.Shelf
section
attribute [local go_sem ↓] Go.wp_at_zero Go.wp_at_succ
attribute [local go_sem] eZ
theorem Ku{α :Type}{b:List α}{c a}(e:a<b.length)(d:(b.take a).all c=K):(b.take (a+1)).all c=c b[a]:=by rw[mH e,d,bO]
theorem Kt{α :Type}{a:List α}{c b}(e:b<a.length)(d:c a[b]=F):a.all c=F:=by
 rw[cx];exact⟨a[b],av e,by rw[d];simp⟩
theorem Mn(p R c)(N:eQ c R p)(s:fi p=0)(n:eM p<=4194304):
  Calls Tryz.prog 117 #[.agg #[R]] c λj be=>j=zR (zB (kN p))/\Below c.heap.size c be:=by
 have X:=Ou N;have R:p.length<=4194304:=ap (fQ p) n;obtain⟨Q,a5,a6,x,rfl,_,a1,R⟩:=eN N;have Y:=Ou R;have ao:=ev c (zC #[O Q p.length x] 24);have S:=Oz c #[O Q p.length x] 24;go_in
 go_wp2_with fail;generalize c.alloc _=W at *
 go_loopw [3] (λb wr=>∃a:Nat,a<=p.length/\b=J I a/\(List.range a).all (qw p)=K/\Below W.heap.size W wr) (λb _=>p.length-(intOf b).toNat)
 case atStart=>exact ⟨0,az _,rfl,rfl,ay _ _⟩
 case round=>
  obtain⟨a,c,rfl,an,u⟩:=hrel;obtain⟨o,rfl⟩:∃o:World,o=wr:=⟨_,rfl⟩;have z:=Ou an;have y:=S.bl u;have c:=y.c0;have v:=eu ao u
  by_cases f:a<p.length
  rotate_left
  .have b:Hid (kN p=K):=by
    show (List.range p.length).all _=K
    have:=ea z
    rwa[show a=p.length by omega]at this
   go_wp2;go_ret;exact⟨eC b.symm,v⟩
  .obtain rfl:=a1 (eW f);obtain⟨c,c,c,c,ac,c,ar⟩:=Y a f;obtain⟨c,c,c,c,rfl,c,a0,N⟩:=eN ar;have c:=xp f;have V:Hid (∀b (w:b<p[a].ek.length),gh p a b=M p[a].ek[b]):=λb w=>zV f w;have Q:p[a].ek.length<=4194304:=ap (mO _) (ap (kE (av f)) n);have T:=Ou N;have B:=Ou c;generalize p[a].ek=ms at *;have ba:=Oq v _ _ ac;have c:=fp a;have c:(a:Int)<(p.length:Int):=(by omega);go_wp2
   go_loopw [4] (λc e=>∃b:Nat,b<=ms.length/\c=J I b/\(ms.take b).all (iX p (a:Int))=K/\Below o.heap.size o e) (λc _=>ms.length-(intOf c).toNat)
   case atStart=>exact ⟨0,az _,rfl,rfl,ay _ _⟩
   case round=>
    obtain⟨b,w,rfl,ak,h⟩:=hrel;obtain⟨e,rfl⟩:∃e:World,e=wr:=⟨_,rfl⟩;have A:=Ou ak;have k:=eu v h;have c:=y.bl h;have a8:=c.c0;have bc:=Oq h _ _ ba
    by_cases i:b<ms.length
    rotate_left
    .have g:Hid ((List.range (a+1)).all (qw p)=K):=by
      show _=_
      rw[D6 _ _ z.out,ea B];have:=ea A
      rwa[show b=ms.length by omega,bG]at this
     go_wp2
     go_roundw
     case rel=>exact ⟨a+1,by omega,by go_num,ea g,eu u h⟩
     case measure=>simp[intOf];omega
    .obtain rfl:=a0 (eW i);obtain⟨o,u,v,l,r,C,D,E,G,H,L⟩:=T b i;have c:=Eg s (V b i);have q:=Mm p (O (M ⟨a5,a6,U⟩) p.length x) (a:Int) ms[b] o u v e.drew (eA (Oq k) X) (l.keep (Oq k)) s n c.ok c.ins c.fr c.f40 c.c40 c.c0 c.c1 c.l1 c.cd;rw[Lu (oj s n) c.ok (by have:=c.l1;omega) c.ins c.fr c.cd c.cl]at q;unfold fB at q;have ab:=Ou q;have Z:Hid ((ms.take (b+1)).all (iX p (a:Int))=iX p (a:Int) ms[b]):=Ku i A;have aa:Hid (iX p (a:Int) ms[b]=F->kN p=F):=λj=>D5 f (by rw[ea B];exact Kt i j);generalize ms[b]=m at *;obtain⟨c,_,_,c,rfl,_⟩:=l.1;obtain⟨c,_,_,c,rfl,_⟩:=l.2.1;obtain⟨c,_,_,c,rfl,_⟩:=l.2.2;have d:=Oq k;replace r:=d _ _ r;replace C:=d _ _ C;replace D:=d _ _ D;replace E:=d _ _ E;replace G:=d _ _ G;replace H:=d _ _ H;replace L:=d _ _ L;have a2:=Oo a8;have a3:=Oo bc;have a4:=Oo r;dsimp only at a2 a3 a4;have c:=fp b;have c:(b:Int)<(ms.length:Int):=(by omega);go_wp2;refine fk (jC e.heap.size e) (λ_ _ _=>rfl) λhHeld=>?_;refine dZ 24 0 ?_;refine dZ 25 1 ?_;refine dZ 26 2 ?_;refine dZ 27 3 ?_;refine dZ 28 4 ?_;refine dZ 29 5 ?_;refine dZ 30 6 ?_;refine dZ 31 7 ?_;refine dZ 32 8 ?_;refine dZ 33 9 ?_;refine dZ 34 10 ?_;refine el 11 (λc ad=>?_);go_simp;refine ab.mono ?_;rintro j c ⟨rfl,c⟩;have t:=mA c;go_wp2_with fail;refine ad.out _ _ (λa c b=>t.cell (p:=⟨a,c,U⟩) b) λhHeld=>?_;refine dZ 5 12 ?_;refine eV ?_
     cases P:iX p (a:Int) m with
     | true =>
      have g:=Ou (Z.trans P);go_wp2
      go_roundw
      case rel=>exact ⟨b+1,by omega,by go_num,ea g,eu h t⟩
      case measure=>simp[intOf];omega
     | false =>
      have g:=Ou (aa P);go_wp2;go_ret;exact⟨eC g.symm,eu k t⟩
end
end Go.Proofs.YtiiokkllmchohaaGreat
