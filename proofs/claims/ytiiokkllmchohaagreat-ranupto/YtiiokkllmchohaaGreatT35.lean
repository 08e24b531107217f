/- The document's step: the state that is made, in memory. -/
import Derived.Test.YtiiokkllmchohaaGreatT34
set_option maxHeartbeats 0
set_option maxRecDepth 99999
namespace Go.Proofs.YtiiokkllmchohaaGreat
open Go.Value renaming int->J,slice->O,pointer->zP,bool->zB
open Go.IntKind renaming i64->I
open Option renaming none->U,some->M
open Bool renaming true->K,false->F
open Go.Ending renaming returned->zR
open Go.Obj renaming cells->zC
open Go.RowKit Go.Shelf
structure ix (w V:World)(B b:Nat)(vl:Value)(loc:Ok)(vs:Value)(stk:Ok):Prop where
 bel:Below w.heap.size w V
 box:ed V b 149 [zB K,vl,vs]
 rl:V.ownsRow B 43 1 vl loc.length (loc.map (J .i64))
 rs:V.ownsRow B 43 1 vs stk.length (stk.map (J .i64))
 ne:∀g,vl.ownBlock=M g->vs.ownBlock≠M g
section
variable {w V : World} {B b : Nat} {vl vs : Value} {loc stk : List Int}
theorem ix.start (a:Below w.heap.size w V):ix w (V.alloc (zC #[zB K,O U 0 0,O U 0 0] 149)) B V.heap.size (O U 0 0) [] (O U 0 0) []:=
 ⟨a.alloc a.size _,Oz V _ _,World.ownsRow_nil _ _ _ _,World.ownsRow_nil _ _ _ _,λc a=>by cases a⟩
theorem ix.CV (a:ix w V B b vl loc vs stk):nW w V B b 1 [zB K,vl,vs] vl loc:=⟨a.bel,a.box,rfl,a.rl⟩
theorem ix.growS (a:ix w V B b vl loc vs stk):nW w V B b 2 [zB K,vl,vs] vs stk:=⟨a.bel,a.box,rfl,a.rs⟩
theorem ix.below{d}(a:ix w V B b vl loc vs stk)(c:Below V.heap.size V d):ix w d B b vl loc vs stk:=
 ⟨a.bel.trans (c.mono a.bel.size),a.box.below c a.box.lt,eX a.rl (Ox c) (λc d e=>by have:=(a.rl.lt c d).2;omega),eX a.rs (Ox c) (λc d e=>by have:=(a.rs.lt c d).2;omega),a.ne⟩
theorem ix.locals(v:ix w V B b (O U 0 0) [] (O U 0 0) [])(n:w.heap.size<=B)(o:B<=V.heap.size)(q:w.heap.size<=b)(r:b<B)(f)(hx:f.length<=4194304)(g h j)(t:h=f.length)(s:g=U->h=0/\j=0)(u:∀k,g=M k->∀l m,(f.map (J .i64))[l]? =M m->V.cell? (k.add l)=M m):
  ∃c e d a,(Builtin.append_ #[40,40] 40 #[O U 0 0,O g h j]).run Tryz.prog V= .ok (O c e d) a/\
   a.cell? ⟨b,1,U⟩=M (O U 0 0)/\a.frozen? ⟨b,1,U⟩=F/\Below V.heap.size V a/\ix w (a.setCell ⟨b,1,U⟩ (O c e d)) B b (O c e d) f (O U 0 0) []:=by
 obtain⟨c,e,d,a,p,k,l,m,_,i⟩:=v.CV.more n o q r (by simp) f hx g h j t s u;exact⟨c,e,d,a,p,k,l,m.below (ai _) (λd c a=>by cases a),i.bel,i.box,by simpa using i.row,World.ownsRow_nil _ _ _ _,λc _ a=>by cases a⟩
theorem ix.set(c:ix w V B b vl loc vs stk)(g:w.heap.size<=B){a}(f:vl.ownBlock=M a)(k x):ix w (V.setCell ⟨a,k,U⟩ (J I x)) B b vl (loc.set k x) vs stk/\ee (λd=>d=a) V (V.setCell ⟨a,k,U⟩ (J I x)):=by
 have e:ee (λd=>d=a) V (V.setCell ⟨a,k,U⟩ (J I x)):=(Ow (λd=>d=a) V).setCell (p:=⟨a,k,U⟩) (λ_=>rfl) _;have g:=(c.rl.lt a f).1;refine⟨⟨c.bel.trans (e.below c.bel.size (λd a d=>by omega)),c.box.mods e (λd=>zY c.rl c.box (by rw[f,d])),?_,eX c.rs e (λg e d=>c.ne a f (by rw[e,d])),c.ne⟩,e⟩;have:=Lk c.rl f k (J I x);rw[aO,List.map_set];exact this
theorem ix.more(h:ix w V B b vl loc vs stk)(x:w.heap.size<=B)(y:B<=V.heap.size)(C:w.heap.size<=b)(D:b<B)(E:stk.length<=100)(j)(hx:j.length<=4194304)(k l n)(H:l=j.length)(G:k=U->l=0/\n=0)(I:∀o,k=M o->∀c s,(j.map (J .i64))[c]? =M s->V.cell? (o.add c)=M s):
  ∃e i f a,(Builtin.append_ #[40,40] 40 #[vs,O k l n]).run Tryz.prog V= .ok (O e i f) a/\
   a.cell? ⟨b,2,U⟩=M vs/\a.frozen? ⟨b,2,U⟩=F/\ee (λc=>vs.ownBlock=M c) V a/\ix w (a.setCell ⟨b,2,U⟩ (O e i f)) B b vl loc (O e i f) (stk++j):=by
 obtain⟨e,i,f,a,A,t,u,r,K,m⟩:=h.growS.more x y C D E j hx k l n H G I;have z:ee (λc=>c=b) a (a.setCell ⟨b,2,U⟩ (O e i f)):=(Ow (λc=>c=b) a).setCell (p:=⟨b,2,U⟩) (λ_=>rfl) _;have c:=eX h.rl r (λd g a=>h.ne d g a);refine⟨e,i,f,a,A,t,u,r,m.bel,m.box,eX c z (λd g a=>by have:=(h.rl.lt d g).1;omega),m.row,λd g v=>?_⟩
 rcases K d v with q | q
 .exact h.ne d g q
 .have:=(h.rl.lt d g).2;omega
theorem ix.one(g:ix w V B b vl loc vs stk)(q:w.heap.size<=B)(r:B<=V.heap.size)(u:w.heap.size<=b)(v:b<B)(y:stk.length<=100)(x):
  ∃d h e a,(Builtin.append_ #[40,40] 40 #[vs,O (M ⟨V.heap.size,0,U⟩) 1 1]).run Tryz.prog (V.alloc (zC #[J I x] 43))= .ok (O d h e) a/\
   a.cell? ⟨b,2,U⟩=M vs/\a.frozen? ⟨b,2,U⟩=F/\ee (λi=>vs.ownBlock=M i) V a/\ix w (a.setCell ⟨b,2,U⟩ (O d h e)) B b vl loc (O d h e) (stk++ [x]):=by
 obtain⟨d,h,e,a,t,m,n,l,z,j⟩:=g.growS.one q r u v y x;have s:ee (λi=>i=b) a (a.setCell ⟨b,2,U⟩ (O d h e)):=(Ow (λi=>i=b) a).setCell (p:=⟨b,2,U⟩) (λ_=>rfl) _;have i:=eX g.rl l (λc f a=>g.ne c f a);refine⟨d,h,e,a,t,m,n,l,j.bel,j.box,eX i s (λc f a=>by have:=(g.rl.lt c f).1;omega),j.row,λc f o=>?_⟩
 rcases z c o with k | k
 .exact g.ne c f k
 .have:=(g.rl.lt c f).2;omega
theorem ix.read (a:ix w V B b vl loc vs stk):rN B V ⟨loc,stk⟩ vl vs:=
 ⟨rt a.rl (λc d=>(a.rl.lt c d).1),rt a.rs (λc d=>(a.rs.lt c d).1)⟩
end
end Go.Proofs.YtiiokkllmchohaaGreat
