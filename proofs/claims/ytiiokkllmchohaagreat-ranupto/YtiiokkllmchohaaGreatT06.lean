/- The law's small pieces: num, the next mark, the document's example. -/
import Derived.Test.YtiiokkllmchohaaGreatT04
import Derived.Test.YtiiokkllmchohaaGreatT05
set_option maxHeartbeats 0
set_option maxRecDepth 99999
namespace Go.Proofs.YtiiokkllmchohaaGreat
open Go.Value renaming int->J,slice->O,pointer->zP,bool->zB
open Go.IntKind renaming i64->I
open Option renaming none->U,some->M
open Bool renaming true->K,false->F
open Go.Ending renaming returned->zR
open Go.Obj renaming cells->zC
open Go.RowKit
section
attribute [local go_sem ↓] Go.wp_at_zero Go.wp_at_succ
theorem JP(a b):Calls Tryz.prog 48 #[J I a] b λx c=>x=zR (J I a)/\c=b:=by
 go_in
 go_wp2
 go_ret;exact⟨rfl,rfl⟩
theorem JO(b:Nat)(c a e)(d:mD c a e)(i:e[6]? =M (J I (b:Int)))(j:b<=1073741824):
  Calls Tryz.prog 88 #[zP (M ⟨a,0,U⟩)] c λh g=>h=zR (J I (-77000001-(b:Int)))/\mD g a (e.set 6 (J I ((b+1:Nat):Int)))/\ee (λf=>f=a) c g:=by
 have e:c.cell? ⟨a,6,U⟩=M (J I (b:Int)):=by rw[d.1.cell];exact i
 have e:=d.1.frozen 6;go_in
 go_wp2;go_ret;refine⟨iQ (by omega),⟨?_,by rw[aO];exact d.2⟩,(Ow (λf=>f=a) c).setCell (p:=⟨a,6,U⟩) (λ_=>rfl) _⟩;have:=d.1.setCell 6 (J I ((b+1:Nat):Int));simpa using this
theorem rW{a:World}{b c d}(e:d=a.heap.size):ed (a.alloc (zC b c)) d c b.toList:=e▸Oz a b c
theorem JM(a):Calls Tryz.prog 19 #[] a λg k=>∃j,g=zR (.agg #[j])/\eQ k j pA/\Below a.heap.size a k:=by
 go_in
 go_wp2_with fail
 have i:Below a.heap.size a (((((((((a.alloc (zC #[O (M ⟨a.heap.size+1+1+1+1+1+1+1+1,0,U⟩) 1 1] 24)).alloc (zC #[J I 1,J I 0,J I 0,J I 10,J I 0,J I 0,J I 13,J I 0,J I 0] 60)).alloc (zC #[J I 0,O U 0 0,J I 0,J I 1,J I 2,O (M ⟨a.heap.size+1,0,U⟩) 3 3,O U 0 0] 63)).alloc (zC #[J I 0] 43)).alloc (zC #[J I 1,J I 0,J I 0,J I 1,J I 1,J I 0,J I 11,J I 0,J I 0,J I 1,J I 0,J I 0,J I 12,J I 0,J I 0,J I 13,J I 0,J I 0] 60)).alloc (zC #[J I 1,O (M ⟨a.heap.size+1+1+1,0,U⟩) 1 1,J I 0,J I 2,J I 3,O (M ⟨a.heap.size+1+1+1+1,0,U⟩) 6 6,O U 0 0] 63)).alloc (zC #[J I 0] 43)).alloc (zC #[J I 0,O U 0 0,J I 0,J I 1,J I 2,O (M ⟨a.heap.size+1,0,U⟩) 3 3,O U 0 0,J I 1,O (M ⟨a.heap.size+1+1+1,0,U⟩) 1 1,J I 0,J I 2,J I 3,O (M ⟨a.heap.size+1+1+1+1,0,U⟩) 6 6,O U 0 0] 63)).alloc (zC #[J I (-1),O (M ⟨a.heap.size+1+1+1+1+1+1,0,U⟩) 1 1,O (M ⟨a.heap.size+1+1+1+1+1+1+1,0,U⟩) 2 2] 66)):=by
  repeat' (first | exact ay _ _ | (refine Below.alloc ?_ (by simp;try omega) _))
 generalize d:World.alloc _ _=F at i ⊢;have m:ed F a.heap.size 24 [O (M ⟨a.heap.size+1+1+1+1+1+1+1+1,0,U⟩) 1 1]:=by rw[<-d];exact Oy (Oy (Oy (Oy (Oy (Oy (Oy (Oy (rW (by simp)) _) _) _) _) _) _) _) _
 have o:ed F (a.heap.size+1) 60 (OH [⟨1,0,0⟩,⟨10,0,0⟩,⟨13,0,0⟩]++ []):=by rw[<-d];exact Oy (Oy (Oy (Oy (Oy (Oy (Oy (rW (by simp)) _) _) _) _) _) _) _
 have p:ed F (a.heap.size+1+1+1) 43 (([0]:List Int).map (J .i64)++ []):=by rw[<-d];exact Oy (Oy (Oy (Oy (Oy (rW (by simp)) _) _) _) _) _
 have q:ed F (a.heap.size+1+1+1+1) 60 (OH [⟨1,0,0⟩,⟨1,1,0⟩,⟨11,0,0⟩,⟨1,0,0⟩,⟨12,0,0⟩,⟨13,0,0⟩]++ []):=by rw[<-d];exact Oy (Oy (Oy (Oy (rW (by simp)) _) _) _) _
 have r:ed F (a.heap.size+1+1+1+1+1+1) 43 (([0]:List Int).map (J .i64)++ []):=by rw[<-d];exact Oy (Oy (rW (by simp)) _) _
 have c:ed F (a.heap.size+1+1+1+1+1+1+1) 63 [J I 0,O U 0 0,J I 0,J I 1,J I 2,O (M ⟨a.heap.size+1,0,U⟩) 3 3,O U 0 0,J I 1,O (M ⟨a.heap.size+1+1+1,0,U⟩) 1 1,J I 0,J I 2,J I 3,O (M ⟨a.heap.size+1+1+1+1,0,U⟩) 6 6,O U 0 0]:=by rw[<-d];exact Oy (rW (by simp)) _
 have f:ed F (a.heap.size+1+1+1+1+1+1+1+1) 66 [J I (-1),O (M ⟨a.heap.size+1+1+1+1+1+1,0,U⟩) 1 1,O (M ⟨a.heap.size+1+1+1+1+1+1+1,0,U⟩) 2 2]:=by rw[<-d];exact rW (by simp)
 clear d;have h:∀ {j :Type} (d:Nat) (c: j->Nat->Nat->Prop),eG d c (O U 0 0) []:=λd c=>⟨U,0,0,0,rfl,ai _,⟨λg=>absurd rfl g,.inl ⟨rfl,rfl⟩⟩,λe l b=>by simp at b⟩;have t:eG 3 (rQ F) (O (M ⟨a.heap.size+1,0,U⟩) 3 3) [⟨1,0,0⟩,⟨10,0,0⟩,⟨13,0,0⟩]:=wB (qT [60] F) (yX (cap:=3) o (by simp) (by decide));have u:eG 1 (gF F) (O (M ⟨a.heap.size+1+1+1,0,U⟩) 1 1) [0]:=fu (qT tT F) (q9 (cap:=1) p (by simp) (by decide));have w:eG 3 (rQ F) (O (M ⟨a.heap.size+1+1+1+1,0,U⟩) 6 6) [⟨1,0,0⟩,⟨1,1,0⟩,⟨11,0,0⟩,⟨1,0,0⟩,⟨12,0,0⟩,⟨13,0,0⟩]:=wB (qT [60] F) (yX (cap:=6) q (by simp) (by decide));have x:eG 1 (gF F) (O (M ⟨a.heap.size+1+1+1+1+1+1,0,U⟩) 1 1) [0]:=fu (qT tT F) (q9 (cap:=1) r (by simp) (by decide))
 have y:eG 7 (sV F) (O (M ⟨a.heap.size+1+1+1+1+1+1+1,0,U⟩) 2 2) [⟨0,[],0,1,2,[⟨1,0,0⟩,⟨10,0,0⟩,⟨13,0,0⟩],[]⟩,⟨1,[0],0,2,3,[⟨1,0,0⟩,⟨1,1,0⟩,⟨11,0,0⟩,⟨1,0,0⟩,⟨12,0,0⟩,⟨13,0,0⟩],[]⟩]:=by
  refine⟨M ⟨_,0,U⟩,_,0,2,rfl,by decide,⟨λ_=>rfl,.inr (.inl rfl)⟩,λe l b=>?_⟩
  match e,b with
  | 0, b =>
   simp at b;subst b;exact⟨O U 0 0,_,O U 0 0,⟨h 1 _,t,h 3 _⟩,c.cell 0,c.cell 1,c.cell 2,c.cell 3,c.cell 4,c.cell 5,c.cell 6⟩
  | 1, b =>
   simp at b;subst b;exact⟨_,_,O U 0 0,⟨u,w,h 3 _⟩,c.cell 7,c.cell 8,c.cell 9,c.cell 10,c.cell 11,c.cell 12,c.cell 13⟩
  | n + 2, b => simp at b
 have s:=m.c0;refine bodyPost_ret (v:=.agg #[O (M ⟨a.heap.size+1+1+1+1+1+1+1+1,0,U⟩) 1 1]) (by simp[results,Tryz.results19,go_sem,s]) rfl ⟨_,rfl,?_,i⟩;refine⟨M ⟨_,0,U⟩,_,0,1,rfl,by decide,⟨λ_=>rfl,.inr (.inl rfl)⟩,λe l b=>?_⟩
 match e,b with
 | 0, b =>
  simp[pA]at b;subst b;exact⟨_,_,f.cell 0,f.cell 1,f.cell 2,x,y⟩
 | n + 1, b => simp[pA]at b
end
end Go.Proofs.YtiiokkllmchohaaGreat
