/- Where an instruction goes on: the function over which one ranges. -/
import Derived.RangeFuncLeaves
import Derived.Shelf.Abstract
import Derived.OwnWalkIn
import Derived.TacticsInMore
import Derived.Test.YtiiokkllmchohaaGreatT16
import Derived.Test.YtiiokkllmchohaaGreatT17
set_option maxHeartbeats 0
set_option maxRecDepth 99999
namespace Go.Proofs.YtiiokkllmchohaaGreat
open Go.Value renaming int->J,slice->O,pointer->zP,bool->zB
open Go.IntKind renaming i64->I
open Option renaming none->U,some->M
open Bool renaming true->K,false->F
open Go.Ending renaming returned->zR
open Go.Obj renaming cells->zC
open Go.RowKit Go.Shelf
section
attribute [local go_sem ↓] Go.wp_at_zero Go.wp_at_succ
attribute [local go_sem] Oper.semAt_some
theorem Iz(a c d b):Calls Tryz.prog 159 #[.agg #[J I a,J I c,J I d]] b λf g=>f=zR (zB (gz ⟨a,c,d⟩))/\Below b.heap.size b g:=by
 unfold gz;dsimp only;have e:=ev b (zC #[J I a,J I c,J I d] 60)
 cases b:a == 7 with
 | true =>
  go_in
  go_wp2;go_ret;exact⟨rfl,e⟩
 | false =>
  cases b:a == 8 with
  | true =>
   go_in
   go_wp2;go_ret;exact⟨rfl,e⟩
  | false =>
   go_in
   go_wp2;go_ret;exact⟨rfl,e⟩
theorem CD(a b c d):Calls Tryz.prog 160 #[.agg #[J I a,J I b,J I c]] d λh i=>h=zR (zB (gJ ⟨a,b,c⟩))/\Below d.heap.size d i:=by
 have f:=ev d (zC #[J I a,J I b,J I c] 60)
 by_cases e:a=7
 .subst e;go_in
  go_wp2;go_ret;exact⟨rfl,f⟩
 .have:(a != 7)=K:=by simpa using e
  have g:Hid (gJ ⟨a,b,c⟩=(a != 13)):=by
   show _=_
   unfold gJ;simp[e,bne]
  go_in
  go_wp2;go_ret;rw[ea g];exact⟨rfl,f⟩
theorem CE(b d c e a):Calls Tryz.prog 103 #[O b d c,J I e] a λf g=>
  f=zR (.func (.func 158) #[] #[zP (M ⟨a.heap.size,0,U⟩),zP (M ⟨a.heap.size+1,0,U⟩)])/\g=(a.alloc (zC #[O b d c] 61)).alloc (zC #[J I e] 3):=by
 go_in
 go_wp2;go_ret;exact⟨rfl,rfl⟩
theorem DN(A e q X H T G g r n)(be:e<q)(bc:q<=4194304)(L:n.cell? ⟨G,0,U⟩=M (O (M ⟨H,T,U⟩) q X))(o:n.cell? ⟨g,0,U⟩=M (J I (e:Int)))(ad:rQ n A H (T+e*3))(a1:¬r g)(ac:∀S,r S->S<n.heap.size):
  Bc Tryz.prog 158 #[zP (M ⟨G,0,U⟩),zP (M ⟨g,0,U⟩)] r (gU A e) n:=by
 intro an n n s P n n t x aa;obtain⟨d,b,c⟩:=A;obtain⟨B,C,D⟩:=ad;dsimp only at B C D;have m:=Oq P;have Y:an≠g:=by have:=Oo o;dsimp only at this;omega
 replace L:=m _ _ L;replace o:=m _ _ o;replace B:=m _ _ B;replace C:=m _ _ C;replace D:=m _ _ D;have m:=fp e;have m:(e:Int)<(q:Int):=by omega
 refine callsIn_of_wp Tryz.func158 rfl trivial ?_ rfl;simp only[Tryz.ntmps158,dt,bA,cT,Nat.reduceAdd,Nat.reduceSub,dP,dQ,List.push_toArray,dU,bN,cB]
 gi_wp2_with fail
 refine⟨trivial,rfl,?_⟩;refine(callsIn_wide.2 (Iz d b c _)).mono ?_;rintro a a3 ⟨rfl,n⟩;have m:=(ev s (zC #[J I d,J I b,J I c] 60)).trans (n.mono (by simp));have i:=(Oz s #[J I d,J I b,J I c] 60).below n (by simp);have p:=t _ _ _ aa m;have N:=Oq m _ _ o;have m:s.heap.size<a3.heap.size:=i.lt;have ar:=i.c0;have a0:=i.c1;have m:=i.c2;have m:=P.size
 cases Q:gz ⟨d,b,c⟩ with
 | true =>
  have y:gU ⟨d,b,c⟩ e=(b,K)::(if gJ ⟨d,b,c⟩ then [((e:Int)+1,F)] else []):=by unfold gU;rw[Q];rfl
  rw[y]at p;obtain⟨m,m,m,m,ak,ab⟩:=x _ _ _ p;dsimp only[qV]at ak
  gi_wp2_with fail
  refine⟨rfl,?_⟩;refine ab.mono ?_;rintro a a4 (⟨rfl,v,R⟩ | ⟨h,rfl,l⟩)
  .have m:=i.mods R (λa=>a.elim (λa=>by have:=ac _ a;omega) (λa=>by omega));have a8:=m.c0;have ba:=m.c1;have i:=m.c2;have E:a4.cell? ⟨g,0,U⟩=M (J I (e:Int)):=R.cell N (λa=>a.elim a1 (λa=>Y a.symm))
   gi_wp2_with fail
   refine⟨trivial,rfl,?_⟩;refine(callsIn_wide.2 (CD d b c _)).mono ?_;rintro a a5 ⟨rfl,j⟩;have f:=t _ _ _ v j;have ao:=Oq j _ _ E
   cases k:gJ ⟨d,b,c⟩ with
   | true =>
    rw[k]at f;obtain⟨Z,a2,V,W,z,w⟩:=x _ _ _ f;dsimp only[qV]at z
    gi_wp2_with fail
    refine⟨rfl,?_⟩;refine w.mono ?_;rintro a a6 (⟨rfl,u,_⟩ | ⟨h,rfl,l⟩)
    .gi_wp2_with fail
     go_end0;exact .inl ⟨_,rfl,u⟩
    .gi_wp2_with fail
     exact⟨rfl,.inr ⟨h,rfl,l⟩⟩
   | false =>
    rw[k]at f
    gi_wp2_with fail
    go_end0;exact .inl ⟨_,rfl,f⟩
  .gi_wp2_with fail
   exact⟨rfl,.inr ⟨h,rfl,l⟩⟩
 | false =>
  have y:gU ⟨d,b,c⟩ e=(if gJ ⟨d,b,c⟩ then [((e:Int)+1,F)] else []):=by unfold gU;rw[Q];rfl
  rw[y]at p
  gi_wp2_with fail
  refine⟨λ_ R=>(by cases R),?_⟩;have v:=p;have a8:=ar;have ba:=a0;have E:=N
  gi_wp2_with fail
  refine⟨trivial,rfl,?_⟩;refine(callsIn_wide.2 (CD d b c _)).mono ?_;rintro a a5 ⟨rfl,j⟩;have f:=t _ _ _ v j;have ao:=Oq j _ _ E
  cases k:gJ ⟨d,b,c⟩ with
  | true =>
   rw[k]at f;obtain⟨Z,a2,V,W,z,w⟩:=x _ _ _ f;dsimp only[qV]at z
   gi_wp2_with fail
   refine⟨rfl,?_⟩;refine w.mono ?_;rintro a a6 (⟨rfl,u,_⟩ | ⟨h,rfl,l⟩)
   .gi_wp2_with fail
    go_end0;exact .inl ⟨_,rfl,u⟩
   .gi_wp2_with fail
    exact⟨rfl,.inr ⟨h,rfl,l⟩⟩
  | false =>
   rw[k]at f
   gi_wp2_with fail
   go_end0;exact .inl ⟨_,rfl,f⟩
end
end Go.Proofs.YtiiokkllmchohaaGreat
