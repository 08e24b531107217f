/- Walk of the law's numbers. -/
import Derived.Test.YtiiokkllmchohaaGreatT01
set_option maxHeartbeats 0
set_option maxRecDepth 99999
namespace Go.Proofs.YtiiokkllmchohaaGreat
open Go.Value renaming int->J,slice->O,pointer->zP,bool->zB
open Go.IntKind renaming i64->I
open Option renaming none->U,some->M
open Bool renaming true->K,false->F
open Go.Ending renaming returned->zR
open Go.Obj renaming cells->zC
open Go.RowKit
theorem C5:(Tryz.prog.info? 3).map (λa=>(a.zero,a.size,a.bytes))=M (M (J I 0),1,8):=by kernel_rfl
theorem C6:(Tryz.prog.info? 51).map (λa=>(a.zero,a.size,a.bytes))=M (M (O U 0 0),1,24):=by kernel_rfl
structure rM (w w':World)(bh:Nat)(cs:Oj)(vt:Value)(B:Nat)(ts:List (Nat×Nat))(l:Ok)(g:Nat)(vt':Value):Prop where
 new:w.heap.size<=g
 blk:ed w' g 3 (l.map (J .i64)++ [J I (-77000000)])
 hands:mD w' bh (cs.set 5 vt')
 row:w'.ownsRow B 51 1 vt' (ts.length+1) ((ts++ [(g,l.length+1)]).map λe=>O (M ⟨e.1,0,U⟩) e.2 e.2)
 mods:ee (λk=>k=bh\/vt.ownBlock=M k) w w'
 lies:vt'.ownBlock=vt.ownBlock\/∃k,w.heap.size<=k/\vt'.ownBlock=M k
theorem JW{b h i}(n:Tryz.prog.info? 3=M i)(r:i.size=1)(a:Ok)(f j)(p:f=U->a.length=0/\j=0)(q:∀d,f=M d->∀(e:Nat) (g:Value),(a.map (J .i64))[e]? =M g->b.cell? (d.add e)=M g)(k:ed h b.heap.size 3 (madeCells (J .i64 0).cells ((a.length+1)*1)).toList)(l:ee (λ_=>False) b h)(m:h.heap.size=b.heap.size+1):
  ∃c,(Builtin.copy_ #[51,51] 3 #[O (M ⟨b.heap.size,0,U⟩) (a.length+1) (a.length+1),O f a.length j]).run Tryz.prog h= .ok (goInt a.length) c/\
   ee (λ_=>False) b c/\ed c b.heap.size 3 (a.map (J .i64)++ [J I 0])/\c.heap.size=b.heap.size+1:=by
 have h:(madeCells (J .i64 0).cells ((a.length+1)*1)).toList=List.replicate (a.length+1) (J .i64 0):=by
  rw[cE];exact toList_madeCells_one _ _
 rw[h]at k;obtain⟨c,m,h,o,s⟩:=yZ (P:=Tryz.prog) 51 3 3 i 1 Tryz.underlying51 n r b.heap.size (a.length+1) (a.length+1) f a.length j (by omega) p (a.map (J .i64)) (by simp) (λd a e g c=>l.cell (q d a e g c) (λb=>b)) 3 _ k (by simp) (oy _);refine⟨c,m,l.trans o (λc b a=>by omega),?_,by omega⟩;simpa using h
theorem JY(a Y b d u y g c)(H:eG 1 (gF b) Y a)(F:mD b d u)(C:u[5]? =M y)(x:b.ownsRow g 51 1 y c.length (c.map ls))(be:g<=b.heap.size)(bf:d<g)(bh:a.length<=1048576)(bk:c.length+1<=16777216):
  Calls Tryz.prog 63 #[zP (M ⟨d,0,U⟩),Y] b λe bc=>∃o,e=zR (O (M ⟨o,0,U⟩) a.length (a.length+1))/\∃Z,rM b bc d u y g c a o Z:=by
 obtain⟨a8,G,a5,T,a6⟩:=info_parts C5;obtain⟨ba,a1,a2,a3,a4⟩:=info_parts C6;obtain⟨V,X,rfl,v,Q⟩:=mg H;have ak:Hid (V=U->a.length=0/\X=0):=λe=>⟨by rw[(v e).1];rfl,(v e).2⟩;have an:=Ou Q;have a0:=fd x;obtain⟨k,m,rfl⟩:=a0;clear Q v H;go_in
 go_wp2_with (first
  | (at_make; refine sN rfl (.tmp 8) (.tmp 8) 51 rfl 3 a8 (J I 0) 1 8 Tryz.underlying51 G a5 T a6 _ _ _ (a.length + 1) rfl rfl (by omega) (by omega) (by omega) ?_; intro u E K N
     obtain⟨z,u,q,i,R⟩:=JW G T a V X ak an E K N;have u:z.cell? ⟨b.heap.size,a.length,U⟩=M (J I 0):=(by rw[i.cell];simp);have u:=i.frozen a.length;have j:=F.1.mods q (λa=>a);have u:z.cell? ⟨d,5,U⟩=M (O k c.length m):=(by rw[j.cell];exact C);have u:=j.frozen 5;have L:d≠b.heap.size:=(by omega);have u:=Ou i;have u:=Ou j;have ac:=Ou q;obtain⟨Z,A,ar,w,s,D⟩:=iN (P:=Tryz.prog) (W:=z.setCell ⟨b.heap.size,a.length,U⟩ (J I (-77000000))) 50 50 51 ba (O U 0 0) 1 24 Tryz.underlying50 a1 a2 a3 a4 rfl (by decide) g (O k c.length m) c.length (c.map ls) (eX x (q.setCell (λh=>df _ h) _) (λ_ _ a=>a)) #[O (M ⟨b.heap.size,0,U⟩) (a.length+1) (a.length+1)] rfl (by simp[Value.oneCell']) (b.heap.size+1) (by simp[R]) (by unfold maxLen;omega) (by omega) (by simp[R];omega);obtain⟨l,n,rfl⟩:=fd w;have t:∀f,(O k c.length m).ownBlock=M f->g<=f/\f<b.heap.size:=x.lt;have r:=(j.gP (p:=⟨b.heap.size,a.length,U⟩) L (J I (-77000000))).mods s (λe=>by have:=t _ e;omega);have g:A.cell? ⟨d,5,U⟩=M (O k c.length m):=(by rw[r.cell];exact C);have g:=r.frozen 5;have ao:=Ou ((i.setCell a.length (J I (-77000000))).mods s (λe=>by have:=t _ e;omega));have ad:=Ou s;have B:=Ou w;have aa:=Ou D;have ab:=Ou r;have g:=Ou t
     clear E K N i j q s w D r t)
  | (at_builtin; refine OA rfl (.tmp 21) (.tmp 23) 50 rfl _ _ rfl rfl ar ?_))
 go_ret;refine⟨b.heap.size,rfl,O l (c.length+1) n,?_⟩;have q:b.heap.size≠d:=λe=>L e.symm
 have j:ee (λf=>f=d\/(O k c.length m).ownBlock=M f) b (A.setCell ⟨d,5,U⟩ (O l (c.length+1) n)):=
  (((ac.setCell (p:=⟨b.heap.size,a.length,U⟩) (λh=>df _ h) _).mono (λ_ _ a=>a.elim)).trans ad (λb a e=>.inr e)).setCell (λ_=>.inl rfl) _
 have i:=ab.setCell 5 (O l (c.length+1) n);have r:=eX (S:=λf=>f=d) B ((Ow (λf=>f=d) A).setCell (p:=⟨d,5,U⟩) (λ_=>rfl) (O l (c.length+1) n)) (λo e=>by have:=B.lt o e;omega);refine⟨ai _,?_,⟨i,by rw[aO];exact F.2⟩,?_,j,?_⟩
 .have:=ao.gP (p:=⟨d,5,U⟩) q (O l (c.length+1) n)
  rwa[EB (a.map (J .i64)) _ _ _ (by simp)]at this
 .rw [aM];exact r
 .rcases ea aa with h | ⟨f,a,a⟩
  .exact .inl h
  .exact .inr ⟨f,by omega,a⟩
end Go.Proofs.YtiiokkllmchohaaGreat
