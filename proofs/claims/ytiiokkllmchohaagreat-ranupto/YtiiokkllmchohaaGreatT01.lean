/- The data of programs as plain Lean values, and what it means that a value of the machine's memory holds them; that such a reading stays while old blocks stay. -/
import Derived.WalkKit
import Derived.WalkSpells
import Derived.WalkLawsBesides
import Derived.Maps.AppendAt
import Derived.Laws.CopyRow
import Derived.Test.YtiiokkllmchohaaGreatRows
import Derived.Deep.QuietTactic
import Derived.BigQuiet
import Derived.Deep.LoopGhost
import Derived.Deep.RegionHeld3
import Derived.Deep.DrawnRows
import Derived.Laws.MakeOwn
set_option maxHeartbeats 0
set_option maxRecDepth 99999
namespace Go.Proofs.YtiiokkllmchohaaGreat
open Go.Value renaming int->J,slice->O,pointer->zP,bool->zB
open Go.IntKind renaming i64->I
open Option renaming none->U,some->M
open Bool renaming true->K,false->F
open Go.Ending renaming returned->zR
open Go.Obj renaming cells->zC
open Go.RowKit
abbrev Oj:=List Value
abbrev Ok:=List Int
abbrev Ol:=List Nat
abbrev Om:=Option Addr
abbrev ae:=@List.getElem?_eq_getElem
abbrev af:=@if_neg
abbrev ag:=@List.getElem?_eq_some_iff
abbrev ah:=@List.getElem?_set_ne
abbrev ai:=@Nat.le_refl
abbrev aj:=@List.getD_eq_getElem?_getD
abbrev am:=@if_pos
abbrev ap:=@Nat.le_trans
abbrev aq:=@And.intro
abbrev au:=@Option.bind_some
abbrev av:=@List.getElem_mem
abbrev aw:=@List.length_append
abbrev ax:=@Int.eq_ofNat_of_zero_le
abbrev ay:=@Below.refl
abbrev az:=@Nat.zero_le
abbrev aA:=@List.getElem?_set_self
abbrev aB:=@List.mem_of_getElem?
abbrev aC:=@List.mem_singleton
abbrev aD:=@Bool.and_eq_true
abbrev aE:=@List.mem_cons
abbrev aF:=@List.not_mem_nil
abbrev aG:=@List.setIfInBounds_toArray
abbrev aH:=@List.take_of_length_le
abbrev aI:=@List.length_dropLast
abbrev aJ:=@List.all_eq_true
abbrev aK:=@Int.toNat_natCast
abbrev aL:=@List.getElem?_append_left
abbrev aM:=@List.map_append
abbrev aN:=@List.mem_append
abbrev aO:=@List.length_set
abbrev aP:=@List.getElem?_append_right
abbrev aQ:=@List.dropLast_concat
abbrev aR:=@List.length_take
abbrev aS:=@List.length_singleton
abbrev aT:=@Option.some.inj
abbrev aU:=@List.getElem?_map
abbrev aV:=@List.eq_nil_of_length_eq_zero
abbrev aW:=@Option.map_eq_some_iff
abbrev aX:=@Option.some.injEq
abbrev aY:=@Array.getElem?_eq_some_iff
abbrev aZ:=@List.length_map
abbrev a9:=@List.append_assoc
abbrev bd:=@List.take_add_one
abbrev bi:=@List.set_cons_zero
abbrev bj:=@List.getElem?_take
abbrev bq:=@List.set_cons_succ
abbrev bt:=@Nat.lt_or_ge
abbrev bu:=@List.getLast?_concat
abbrev bv:=@Bool.and_false
abbrev bw:=@List.mem_range
abbrev bA:=@List.length_cons
abbrev bB:=@Bool.or_eq_true
abbrev bC:=@List.map_cons
abbrev bD:=@Option.map_some
abbrev bE:=@List.mem_or_eq_of_mem_set
abbrev bF:=@List.mem_map
abbrev bG:=@List.take_length
abbrev bH:=@List.take_append_drop
abbrev bJ:=@Nat.zero_add
abbrev bK:=@Nat.add_zero
abbrev bL:=@List.append_nil
abbrev bN:=@List.nil_append
abbrev bO:=@Bool.true_and
abbrev bP:=@Nat.mul_le_mul_right
abbrev bQ:=@Option.isSome_iff_exists
abbrev bR:=@List.all_append
abbrev bS:=@List.set_append_right
abbrev bT:=@List.getElem_of_mem
abbrev bU:=@List.getElem?_cons_succ
abbrev bV:=@Int.lt_or_le
abbrev bW:=@List.drop_append_of_le_length
abbrev bX:=@List.eq_nil_or_concat
abbrev bY:=@List.getElem?_cons_zero
abbrev bZ:=@Bool.false_ne_true
abbrev cj:=@List.dropLast_subset
abbrev co:=@Nat.sub_self
abbrev cq:=@Nat.succ_mul
abbrev cr:=@Nat.zero_mul
abbrev ct:=@List.drop_of_length_le
abbrev cv:=@List.length_drop
abbrev cw:=@Bool.eq_false_iff
abbrev cx:=@List.all_eq_false
abbrev cy:=@List.map_nil
abbrev cB:=@List.cons_append
abbrev cC:=@List.replicate_succ'
abbrev cD:=@Bool.false_and
abbrev cE:=@Nat.mul_one
abbrev cF:=@List.flatMap_cons
abbrev cG:=@List.flatMap_append
abbrev cH:=@List.getElem?_eq_none
abbrev cI:=@List.take_append_of_le_length
abbrev cJ:=@List.mem_replicate
abbrev cK:=@List.getElem?_of_mem
abbrev cL:=@List.getElem?_replicate
abbrev cM:=@List.ext_getElem?
abbrev cN:=@Nat.min_eq_left
abbrev cO:=@Below.heap_alloc
abbrev cP:=@congrArg
abbrev cQ:=@Bool.and_eq_false_iff
abbrev cR:=@List.concat_eq_append
abbrev cS:=@List.getElem?_drop
abbrev cT:=@List.length_nil
abbrev cU:=@List.mem_of_getLast?
abbrev cV:=@List.mem_of_mem_take
abbrev cW:=@Nat.not_lt_zero
abbrev cX:=@List.all_cons
abbrev cY:=@List.drop_append
abbrev cZ:=@Below.heap_setCell
abbrev da:=@Int.add_comm
abbrev db:=@List.set_set
abbrev dc:=@Nat.eq_zero_or_pos
abbrev dd:=@Or.inl
abbrev de:=@Bool.eq_iff_iff
abbrev df:=@Nat.lt_irrefl
abbrev dg:=@List.drop_eq_getElem_cons
abbrev dh:=@List.set_eq_take_append_cons_drop
abbrev di:=@List.append_inj'
abbrev dj:=@Nat.add_sub_cancel_left
abbrev dk:=@List.sum_cons
abbrev dl:=@List.range_succ
abbrev dm:=@Nat.lt_of_lt_of_le
abbrev dq:=@Option.toList_some
abbrev dr:=@List.flatMap_singleton
abbrev dt:=@List.size_toArray
abbrev du:=@List.length_replicate
abbrev dv:=@List.take_take
abbrev dw:=@List.getElem_zip
abbrev dx:=@List.map_toArray
abbrev dy:=@Bool.and_true
abbrev dz:=@List.take_succ_cons
abbrev dA:=@Classical.byContradiction
abbrev dB:=@List.mem_of_find?_eq_some
abbrev dC:=@List.getElem?_take_of_lt
abbrev dD:=@Bool.not_eq_true'
abbrev dE:=@List.getElem_take
abbrev dF:=@List.drop_eq_nil_of_le
abbrev dG:=@Sum.inl.inj
abbrev dH:=@List.set_comm
abbrev dI:=@List.any_eq_true
abbrev dJ:=@List.mem_reverse
abbrev dK:=@List.take_append
abbrev dL:=@List.take_subset
abbrev dM:=@Option.getD_some
abbrev dN:=@List.dropLast_eq_take
abbrev dO:=@List.singleton_append
abbrev dP:=@Array.replicate_succ
abbrev dQ:=@Array.replicate_zero
abbrev dR:=@List.getElem?_mapIdx
abbrev dS:=@List.mem_iff_getElem
abbrev dT:=@List.sum_append
abbrev dU:=@List.append_toArray
abbrev dV:=@List.drop_replicate
abbrev dW:=@List.reverse_append
abbrev dX:=@List.take_set_of_le
abbrev dY:=@Bool.or_false
structure fG where
 op:Int
 a:Int
 b:Int
structure fT where
 pc:Int
 locals:List Int
 stack:List Int
structure eh where
 slot:Int
 args:List Int
 ret:Int
 locals:Int
 stack:Int
 code:List fG
 frames:List fT
structure eb where
 sup:Int
 fields:List Int
 ek:List eh
abbrev On:=List eb
def eG {α :Type}(sz:Nat)(R: α->Nat->Nat->Prop)(v:Value)(l:List α):Prop:=
 ∃(a:Option Addr) (b off cap:Nat),v=O a l.length cap/\l.length<=cap/\((l≠[]->a=M ⟨b,off,U⟩)/\(a=U/\cap=0\/a=M ⟨b,off,U⟩\/l= []/\a≠U))/\∀(j:Nat) (x: α),l[j]? =M x->R x b (off+j*sz)
def gy (g:Addr->Option Value)(x:Int)(b o:Nat):Prop:=g ⟨b,o,U⟩=M (J I x)
def pm (g:Addr->Option Value)(x:fG)(b o:Nat):Prop:=
 g ⟨b,o,U⟩=M (J I x.op)/\g ⟨b,o+1,U⟩=M (J I x.a)/\g ⟨b,o+2,U⟩=M (J I x.b)
def pk (g:Addr->Option Value)(x:fT)(b o:Nat):Prop:=
 ∃vl vs,g ⟨b,o,U⟩=M (J I x.pc)/\g ⟨b,o+1,U⟩=M vl/\g ⟨b,o+2,U⟩=M vs/\
  eG 1 (gy g) vl x.locals/\eG 1 (gy g) vs x.stack
def fK (g:Addr->Option Value)(x:eh)(va vc vf:Value):Prop:=
 eG 1 (gy g) va x.args/\eG 3 (pm g) vc x.code/\eG 3 (pk g) vf x.frames
def mT (g:Addr->Option Value)(x:eh)(b o:Nat):Prop:=
 ∃va vc vf,fK g x va vc vf/\g ⟨b,o,U⟩=M (J I x.slot)/\g ⟨b,o+1,U⟩=M va/\g ⟨b,o+2,U⟩=M (J I x.ret)/\
  g ⟨b,o+3,U⟩=M (J I x.locals)/\g ⟨b,o+4,U⟩=M (J I x.stack)/\g ⟨b,o+5,U⟩=M vc/\g ⟨b,o+6,U⟩=M vf
def lw (g:Addr->Option Value)(x:eb)(b o:Nat):Prop:=
 ∃vf vm,g ⟨b,o,U⟩=M (J I x.sup)/\g ⟨b,o+1,U⟩=M vf/\g ⟨b,o+2,U⟩=M vm/\
  eG 1 (gy g) vf x.fields/\eG 7 (mT g) vm x.ek
abbrev gF (w:World):Int->Nat->Nat->Prop:=gy w.cell?
abbrev rQ (w:World):fG->Nat->Nat->Prop:=pm w.cell?
abbrev ur (w:World):fT->Nat->Nat->Prop:=pk w.cell?
abbrev lR (w:World)(x:eh)(va vc vf:Value):Prop:=fK w.cell? x va vc vf
abbrev sV (w:World):eh->Nat->Nat->Prop:=mT w.cell?
abbrev yy (w:World):eb->Nat->Nat->Prop:=lw w.cell?
abbrev eQ (w:World)(vc:Value)(p:On):Prop:=eG 3 (yy w) vc p
theorem eG.mono{α e b R' f}{c:List α}(h:eG e b f c)(j:∀x a d,b x a d->R' x a d):eG e R' f c:=by
 obtain⟨b,a,k,c,d,e,f,i⟩:=h;exact⟨b,a,k,c,d,e,f,λb x a=>j _ _ _ (i b x a)⟩
def fN (g g':Addr->Option Value):Prop:=∀p v,g p=M v->g' p=M v
theorem fN.trans{a b c}(d:fN a b)(e:fN b c):fN a c:=λa b c=>e a b (d a b c)
abbrev Keeps (w w':World):Prop:=fN w.cell? w'.cell?
theorem Keeps.trans{a b c}(d:Keeps a b)(e:Keeps b c):Keeps a c:=λa b c=>e a b (d a b c)
theorem Oo{b:World}{p c}(a:b.cell? p=M c):p.block<b.heap.size:=by
 unfold World.cell? at a
 rcases bt p.block b.heap.size with g | g
 .exact g
 .rw [Array.getElem?_eq_none g]at a;simp at a
theorem Keeps.of_below{a b}(c:Below a.heap.size a b):Keeps a b:=λb d a=>by rw[c.cell (Oo a)];exact a
section
variable {g g' : Addr -> Option Value}
theorem gy.keep(c:fN g g'){x a b}(d:gy g x a b):gy g' x a b:=c _ _ d
theorem fu(c:fN g g'){b a}(d:eG 1 (gy g) b a):eG 1 (gy g') b a:=d.mono λ_ _ _=>gy.keep c
theorem pm.keep(a:fN g g'){x c d}(b:pm g x c d):pm g' x c d:=⟨a _ _ b.1,a _ _ b.2.1,a _ _ b.2.2⟩
theorem pk.keep(a:fN g g'){x b c}(h:pk g x b c):pk g' x b c:=by
 obtain⟨i,j,b,c,d,e,f⟩:=h;exact⟨i,j,a _ _ b,a _ _ c,a _ _ d,fu a e,fu a f⟩
theorem wB(c:fN g g'){b a}(d:eG 3 (pm g) b a):eG 3 (pm g') b a:=d.mono λ_ _ _=>pm.keep c
theorem wO(c:fN g g'){b a}(d:eG 3 (pk g) b a):eG 3 (pk g') b a:=d.mono λ_ _ _=>pk.keep c
theorem fK.keep(a:fN g g'){x c d e}(b:fK g x c d e):fK g' x c d e:=⟨fu a b.1,wB a b.2.1,wO a b.2.2⟩
theorem mT.keep(a:fN g g'){x b c}(k:mT g x b c):mT g' x b c:=by
 obtain⟨l,m,n,b,c,d,e,f,h,i,j⟩:=k;exact⟨l,m,n,b.keep a,a _ _ c,a _ _ d,a _ _ e,a _ _ f,a _ _ h,a _ _ i,a _ _ j⟩
theorem pC(c:fN g g'){b a}(d:eG 7 (mT g) b a):eG 7 (mT g') b a:=d.mono λ_ _ _=>mT.keep c
theorem lw.keep(a:fN g g'){x b c}(h:lw g x b c):lw g' x b c:=by
 obtain⟨i,j,b,c,d,e,f⟩:=h;exact⟨i,j,a _ _ b,a _ _ c,a _ _ d,fu a e,pC a f⟩
theorem eA(c:fN g g'){b a}(d:eG 3 (lw g) b a):eG 3 (lw g') b a:=d.mono λ_ _ _=>lw.keep c
end
theorem jM(a:World)(b e d):(a.alloc (zC b e)).cell? ⟨a.heap.size,d,U⟩=b[d]? :=by
 show (match (a.heap.push (Obj.cells b e))[a.heap.size]? with | some (zC c _ _)=>if (U:Option Nat).isSome then U else c[d]? | _=>U)=_
 rw[Array.getElem?_push_size];rfl
theorem ev(a b):Below a.heap.size a (a.alloc b):=(ay _ _).alloc (ai _) _
theorem kK(a b):Keeps a (a.alloc b):=Keeps.of_below (ev a b)
theorem gS(a b c):Below a.heap.size a ((a.alloc b).alloc c):=(ev a b).alloc (ev a b).size _
theorem wj(c:World)(a d e b):((c.alloc (zC a d)).alloc e).cell? ⟨c.heap.size,b,U⟩=a[b]? :=by
 rw[World.cell?_alloc_lt _ _ _ (by simp)];exact jM c a d b
theorem wl(a:World)(d b e c):((a.alloc d).alloc (zC b e)).cell? ⟨a.heap.size+1,c,U⟩=b[c]? :=by
 have:=jM (a.alloc d) b e c
 rwa[show (a.alloc d).heap.size=a.heap.size+1 by simp]at this
theorem eC{a b}(c:a=b):Ending.returned (zB a)=zR (zB b):=by rw[c]
theorem iQ{c a b}(d:a=b):Ending.returned (.int c a)=zR (.int c b):=by rw[d]
theorem it{j i a}(k:eG 1 (gF j) i a):
  ∃(c:Om) (d f e:Nat),i=O c a.length e/\a.length<=e/\(a≠[]->c=M ⟨d,f,U⟩)/\∀(b:Nat) (h:b<a.length),j.cell? ⟨d,f+b,U⟩=M (J I a[b]):=by
 obtain⟨c,d,f,e,a,i,j,l⟩:=k;refine⟨c,d,f,e,a,i,j.1,λb h=>?_⟩;have:=l b _ (ae h);unfold gF gy at this
 rwa[cE]at this
theorem mg{p o f}(q:eG 1 (gF p) o f):
  ∃(e:Om) (h:Nat),o=O e f.length h/\(e=U->f= []/\h=0)/\∀i,e=M i->∀(b:Nat) (l:Value),(f.map (J .i64))[b]? =M l->p.cell? (i.add b)=M l:=by
 obtain⟨e,m,n,h,o,p,j,r⟩:=q;refine⟨e,h,o,λc=>?_,λi c b l d=>?_⟩
 .rcases j.2 with ⟨_,a⟩ | a | ⟨_,a⟩
  .exact⟨dA λb=>(by have:=j.1 b;rw[c]at this;cases this),a⟩
  .rw [c]at a;cases a
  .exact absurd c a
 .rcases j.2 with ⟨a,_⟩ | a | ⟨a,_⟩
  .rw [c]at a;cases a
  .rw [c]at a;cases a;rw[aU]at d
   cases k:f[b]? with
   | none => rw[k]at d; cases d
   | some s =>
    rw[k]at d;cases d;have:=r b s k;unfold gF gy at this;rw[cE]at this;rw[show (⟨m,n,U⟩:Addr).add b=⟨m,n+b,U⟩ by unfold Addr.add;split <;> simp_all];exact this
  .subst a;simp at d
theorem GY{k l d}(m:eG 3 (rQ k) l d):
  ∃(i:Om) (f h j:Nat),l=O i d.length j/\d.length<=j/\(d≠[]->i=M ⟨f,h,U⟩)/\
   (∀(c:Nat) (e:c<d.length),k.cell? ⟨f,h+c*3,U⟩=M (J I d[c].op))/\(∀(c:Nat) (e:c<d.length),k.cell? ⟨f,h+c*3+1,U⟩=M (J I d[c].a))/\
   (∀(c:Nat) (e:c<d.length),k.cell? ⟨f,h+c*3+2,U⟩=M (J I d[c].b)):=by
 obtain⟨i,f,h,j,k,l,n,d⟩:=m;exact⟨i,f,h,j,k,l,n.1,λc e=>(d c _ (ae e)).1,λc e=>(d c _ (ae e)).2.1,λc e=>(d c _ (ae e)).2.2⟩
theorem eN{α j h k}{a:List α}(l:eG j h k a):
  ∃(c:Om) (d f e:Nat),k=O c a.length e/\a.length<=e/\(a≠[]->c=M ⟨d,f,U⟩)/\∀(b:Nat) (i:b<a.length),h a[b] d (f+b*j):=by
 obtain⟨c,d,f,e,a,h,j,k⟩:=l;exact⟨c,d,f,e,a,h,j.1,λb i=>k b _ (ae i)⟩
theorem eW{α :Type}{a:List α}{d}(c:d<a.length):a≠[]:=by intro b;subst b;simp at c
theorem mH{α :Type}{b:List α}{f a}(c:a<b.length):(b.take (a+1)).all f=((b.take a).all f && f b[a]):=by
 rw[bd,ae c,bR,dq,cX,List.all_nil,dy]
theorem eu{a b d}(c:Below a.heap.size a b)(e:Below b.heap.size b d):Below a.heap.size a d:=c.trans (e.mono c.size)
theorem Ou{p}(a:p):Hid p:=a
theorem ea{p}(a:Hid p):p:=a
def I64 (x:Int):Prop:= -9223372036854775808<=x/\x<=9223372036854775807
abbrev Oq:=@Keeps.of_below
abbrev Ot:=@fK.keep
section
variable {P : Program} {w : World}
theorem ye{k:Oper}{n K G}(F x l)(B:k.op= .call { callee:=.builtin .append,args:= #[F,x],argTypes:= #[l,l] })(j d e v a r)(D:P.underlying l=M (.slice d))(z:P.info? d=M e)(Y:e.zero=M v)(W:e.size=a)(R:e.bytes=r)(Z:v.cells.size=a)(X:0<a)(c f q)(C:n.eval F=c)(t:w.ownsRow j d a c f q)(o b s g)(hx:n.eval x=O o b s)(A:g.length=b*a)(V:o=U->b=0/\s=0)(T:∀i,o=M i->∀E p,g[E]? =M p->w.cell? (i.add E)=M p)(H:∀p∈g,p.oneCell'=true)(N:f+b<=maxLen)(S:(f+b)*r<=140737488355328)(Q:j<=w.heap.size)(y:∀h m,m.ownsRow j d a h (f+b) (q++g)->w.grownBy m c.ownBlock->(h.ownBlock=c.ownBlock\/h.ownBlock=M w.heap.size)->K (n.put k.dst h) m):k.wp P n w K G:=by
 cases o with
 | none =>
  obtain⟨rfl,rfl⟩:=V rfl;obtain rfl:g= []:=aV (by simpa using A);have u:=run_append_owned_none (P:=P) (w:=w) j l k.type d e a D z c f q t;unfold Oper.wp execOp;simp only[B,resolve,invoke,builtin,Sem.run_bind,Sem.run_pure,Result.andThen_ok,dx,bC,cy,C,hx,u];exact y c w (by simpa using t) ⟨rfl,rfl,rfl,ai _,λ_ _ _=>rfl⟩ (.inl rfl)
 | some i =>
  obtain⟨h,m,u,I,J,_,L⟩:=run_append_own_at (P:=P) w j l k.type d e v a r D z Y W R Z X c f q t i b s g A (T i rfl) H N S Q;unfold Oper.wp execOp;simp only[B,resolve,invoke,builtin,Sem.run_bind,Sem.run_pure,Result.andThen_ok,dx,bC,cy,C,hx,u];exact y h m I J L
theorem AM{z rest l j u}(G:l.guard=U)(r x n)(N:l.op= .call { callee:=.builtin .append,args:= #[r,x],argTypes:= #[n,n] })(k d e t b p)(V:P.underlying n=M (.slice d))(H:P.info? d=M e)(W:e.zero=M t)(S:e.size=b)(E:e.bytes=p)(X:t.cells.size=b)(T:0<b)(h f s)(R:j.eval r=h)(Q:w.ownsRow k d b h f s)(m a q g)(hx:j.eval x=O m a q)(I:g.length=a*b)(L:m=U->a=0/\q=0)(J:∀v,m=M v->∀y o,g[y]? =M o->w.cell? (v.add y)=M o)(B:∀o∈g,o.oneCell'=K)(C:f+a<=maxLen)(F:(f+a)*p<=140737488355328)(D:k<=w.heap.size)(A:∀c i,i.ownsRow k d b c (f+a) (s++g)->w.grownBy i h.ownBlock->(c.ownBlock=h.ownBlock\/c.ownBlock=M w.heap.size)->wpList P z u rest (j.put l.dst c) i):wpList P z u (l::rest) j w:=
 wpList_plain G λ_ j=>ye r x n N k d e t b p V H W S E X T h f s R Q m a q g hx I L J B C F D λc i a b d=>j _ _ (A c i a b d)
end
theorem Ov{w:World}{b c d g h f i}(e:w.ownsRow b d g h f i)(j:c<=b):w.ownsRow c d g h f i:=by
 refine⟨e.1,?_⟩
 rcases e.2 with a | ⟨a,b,c,d,e,f⟩
 .exact .inl a
 .exact .inr ⟨a,b,c,d,ap j e,f⟩
theorem fd{w:World}{e f h c b i}(g:w.ownsRow e f h c b i):∃d a,c=O d b a:=by
 rcases g.2 with ⟨rfl,rfl⟩ | ⟨b,a,a,rfl,_⟩
 .exact⟨_,_,rfl⟩
 .exact⟨_,_,rfl⟩
theorem oy (c:Ok):∀a∈c.map (J .i64),a.oneCell'=K:=by
 intro a b;obtain⟨a,_,rfl⟩:=bF.1 b
 rfl
theorem zX{w j c h a g}(o:g=a.length)(l:w.ownsRow j c 1 h g (a.map (J .i64))):eG 1 (gF w) h a:=by
 subst o
 rcases l.2 with ⟨rfl,m⟩ | ⟨e,k,g,rfl,g,n,p,g,g,q⟩
 .obtain rfl:a= []:=aV m;exact⟨U,0,0,0,rfl,ai _,⟨λc=>absurd rfl c,.inl ⟨rfl,rfl⟩⟩,λf i d=>by simp at d⟩
 .refine⟨M ⟨e,0,U⟩,e,0,k,rfl,p,⟨λ_=>rfl,.inr (.inl rfl)⟩,λf i d=>?_⟩;have b:(a.map (J .i64))[f]? =M (J I i):=by rw[aU,d];rfl
  rw[<-q,bj]at b;unfold gF gy World.cell?;simp only[n,cE,bJ]
  split at b
  .simpa using b
  .cases b
structure ee (S:Nat->Prop)(w w':World):Prop where
 os:w'.os=w.os
 tape:w'.tape=w.tape
 output:w'.output=w.output
 size:w.heap.size<=w'.heap.size
 block:∀k,k<w.heap.size->¬S k->w'.heap[k]? =w.heap[k]?
theorem ee.refl(a w):ee a w w:=⟨rfl,rfl,rfl,ai _,λ_ _ _=>rfl⟩
theorem ee.trans{S T e b f}(c:ee S e b)(d:ee T b f)(g:∀a,a<e.heap.size->T a->S a):ee S e f:=
 ⟨d.os.trans c.os,d.tape.trans c.tape,d.output.trans c.output,ap c.size d.size,λa e f=>(d.block a (dm e c.size) (λt=>f (g a e t))).trans (c.block a e f)⟩
theorem ee.mono{e T d b}(c:ee e d b)(f:∀a,a<d.heap.size->e a->T a):ee T d b:=
 ⟨c.os,c.tape,c.output,c.size,λa d e=>c.block a d (λt=>e (f a d t))⟩
theorem ee.alloc{a c w}(d:ee a c w)(e):ee a c (w.alloc e):=
 d.trans (T:=λ_=>False) ⟨rfl,rfl,rfl,by simp,λd c _=>cO _ _ _ c⟩ (λ_ _ a=>a.elim)
theorem ee.drew{c d w}(a:ee c d w):ee c d w.drew:=⟨a.os,a.tape,a.output,a.size,a.block⟩
theorem ee.setCell{a c w}(d:ee a c w){p}(e:p.block<c.heap.size->a p.block)(f):ee a c (w.setCell p f):=
 d.trans (T:=λg=>g=p.block) ⟨rfl,rfl,rfl,by simp[World.setCell],λf _ d=>cZ _ _ _ _ d⟩ (λf c a=>by subst a;exact e c)
theorem ee.grown{d e w w' f}(g:ee d e w)(a:w.grownBy w' f)(h:∀c,f=M c->c<e.heap.size->d c):ee d e w':=
 g.trans (T:=λc=>f=M c) ⟨a.os,a.tape,a.output,a.size,λd c e=>a.block d c (λa=>e a.symm)⟩ (λd c a=>h d a c)
theorem ee.of_below{c w w'}(a:Below c w w'):ee (λd=>c<=d) w w':=⟨a.os,a.tape,a.output,a.size,λc _ d=>a.block c (by omega)⟩
theorem ee.below{d w w' c}(a:ee d w w')(g:c<=w.heap.size)(f:∀e,e<c->¬d e):Below c w w':=⟨a.os,a.tape,a.output,a.size,λc d=>a.block c (by omega) (f c d)⟩
theorem ee.cell{a w w'}(e:ee a w w'){p d}(c:w.cell? p=M d)(f:¬a p.block):w'.cell? p=M d:=by
 rw[World.cell?_of_block (w:=w) (e.block p.block (Oo c) f)];exact c
def ed (w:World)(b:Nat)(t:TypeId)(cs:Oj):Prop:=w.heap[b]? =M (zC cs.toArray t (0,0))
section
variable {w w' : World} {b : Nat} {t : TypeId} {cs : List Value}
theorem ed.lt (a:ed w b t cs):b<w.heap.size:=(aY.1 a).1
theorem ed.cell(a:ed w b t cs)(c):w.cell? ⟨b,c,U⟩=cs[c]? :=by
 unfold ed at a;simp[World.cell?,a]
theorem ed.frozen(a:ed w b t cs)(c):w.frozen? ⟨b,c,U⟩=F:=by
 unfold ed at a;simp[World.frozen?,a]
theorem ed.mods{a}(c:ed w b t cs)(e:ee a w w')(d:¬a b):ed w' b t cs:=(e.block b c.lt d).trans c
theorem ed.alloc(a:ed w b t cs)(c):ed (w.alloc c) b t cs:=(cO w c b a.lt).trans a
theorem ed.drew (a:ed w b t cs):ed w.drew b t cs:=a
theorem ed.setCell(d:ed w b t cs)(a c):ed (w.setCell ⟨b,a,U⟩ c) b t (cs.set a c):=by
 have:=setCell_eq_setRow w b a cs.toArray t (0,0) c d;unfold ed;rw[this,setRow_heap w b cs.toArray _ t (0,0) d];simp
theorem ed.gP(c:ed w b t cs){p}(d:b≠p.block)(a):ed (w.setCell p a) b t cs:=(cZ w p a b d).trans c
theorem ed.uniq{d e}(c:ed w b t cs)(a:ed w b d e):t=d:=by
 unfold ed at c a;rw[c]at a
 injection a with f
 injection f
theorem ed.new(w:World)(cs t):ed (w.alloc (zC cs t)) w.heap.size t cs.toList:=by
 unfold ed
 show (w.heap.push (Obj.cells cs t))[w.heap.size]? =_
 rw[Array.getElem?_push_size]
theorem j8{g c k f j l}(h:w.ownsRow g c k f j l){d}(e:f.ownBlock=M d):∃a,ed w d c a:=by
 rcases h.2 with ⟨rfl,_⟩ | ⟨c,c,a,rfl,_,i,_⟩
 .cases e
 .cases e
  exact⟨a.toList,by unfold ed;simpa using i⟩
theorem eX{d e i c h j S}(f:w.ownsRow d e i c h j)(q:ee S w w')(p:∀a,c.ownBlock=M a->¬S a):w'.ownsRow d e i c h j:=by
 refine⟨f.1,?_⟩
 rcases f.2 with a | ⟨a,k,l,m,n,g,o⟩
 .exact .inl a
 .subst m;exact .inr ⟨a,k,l,rfl,n,(q.block a (aY.1 g).1 (p a rfl)).trans g,o⟩
end
theorem sN{d w q rest g e j}(E:g.guard=U)(p l t)(G:g.op=Op.makeSlice t p l)(f c i r k)(s:d.underlying t=M (.slice f))(u:d.info? f=M c)(v:c.zero=M i)(x:c.size=r)(y:c.bytes=k)(o n h)(a:Nat)(F:e.eval p= .int o h)(D:e.eval l= .int n h)(B:h=(a:Int))(H:k*a<=281474976710656)(I:a<=4611686018427387904)(z:∀w',ed w' w.heap.size f (madeCells i.cells (a*r)).toList->ee (λ_=>False) w w'->w'.heap.size=w.heap.size+1->wpList d q j rest (e.put g.dst (O (M ⟨w.heap.size,0,U⟩) a a)) w'):
  wpList d q j (g::rest) e w:=by
 refine wpList_plain E λe A=>?_;subst B x y
 have C:(c.bytes:Int)*(a:Int)<=281474976710656:=by
  have m:((c.bytes*a:Nat):Int)<=281474976710656:=by omega
  rwa[Int.natCast_mul]at m
 have m:=run_make (P:=d) w t f c i s u v o n a a (by omega) (Int.le_refl _) C (by omega);simp only[aK]at m;unfold Oper.wp;simp[execOp,G,F,D,m,Result.andThen];exact A _ _ (z _ (ed.new _ _ _) ((ee.refl _ _).alloc _) (by simp))
theorem iN{P W}(t q a g p d n)(H:P.underlying t=M (.slice a))(B:P.info? a=M g)(I:g.zero=M p)(F:g.size=d)(z:g.bytes=n)(J:p.cells.size=d)(G:0<d)(k j i o)(D:W.ownsRow k a d j i o)(c)(C:c.size=d)(s:∀r∈c.toList,r.oneCell'=K)(l)(y:W.heap.size=l)(x:i+1<=maxLen)(A:(i+1)*n<=140737488355328)(L:k<=W.heap.size):
  ∃e m,(Builtin.append_ #[t,t] q #[j,O (M ⟨l,0,U⟩) 1 1]).run P (W.alloc (zC c a))= .ok e m/\m.ownsRow k a d e (i+1) (o++c.toList)/\
   ee (λh=>j.ownBlock=M h) W m/\(e.ownBlock=j.ownBlock\/∃h,l<=h/\e.ownBlock=M h):=by
 subst y
 obtain⟨e,w',E,u,v,_,f⟩:=run_append_own_at (P:=P) (W.alloc (zC c a)) k t q a g p d n H B I F z J G j i o (eX D ((ee.refl (λ_=>False) W).alloc _) (λ_ _ a=>a)) ⟨W.heap.size,0,U⟩ 1 1 c.toList (by simpa using C)
  (λd r e=>by
    have:=(ed.new W c a).cell d;rw[show (⟨W.heap.size,0,U⟩:Addr).add d=⟨W.heap.size,d,U⟩ by unfold Addr.add;split <;> simp_all,this]
    exact e) s x A (by simp;omega)
 refine⟨e,w',E,u,((ee.refl _ W).alloc _).grown v (λh a _=>a),?_⟩
 rcases f with f | f
 .exact .inl f
 .exact .inr ⟨_,by simp,f⟩
theorem OA{d w f rest a c e}(m:a.guard=U)(g x t)(n:a.op= .call { callee:=.builtin .append,args:= #[g,x],argTypes:= #[t,t] })(i h)(p:c.eval g=i)(hx:c.eval x=h){j w'}(o:(Builtin.append_ #[t,t] a.type #[i,h]).run d w= .ok j w')(k:wpList d f e rest (c.put a.dst j) w'):wpList d f e (a::rest) c w:=by
 refine wpList_plain m λa l=>?_;unfold Oper.wp execOp;simp only[n,resolve,invoke,builtin,Sem.run_bind,Sem.run_pure,Result.andThen_ok,dx,bC,cy,p,hx,o];exact l _ _ k
theorem yZ{P w}(t F m r u)(q:P.underlying t=M (.slice m))(n:P.info? m=M r)(D:r.size=u)(a i v g c l)(A:c<=i)(C:g=U->c=0/\l=0)(cs)(o:cs.length=c*u)(E:∀e,g=M e->∀s h,cs[s]? =M h->w.cell? (e.add s)=M h)(f d)(j:ed w a f d)(y:cs.length<=d.length)(x:∀h∈cs,h.oneCell'=K):
  ∃w',(Builtin.copy_ #[t,t] F #[O (M ⟨a,0,U⟩) i v,O g c l]).run P w= .ok (goInt c) w'/\ed w' a f (cs++d.drop cs.length)/\ee (λk=>k=a) w w'/\w'.heap.size=w.heap.size:=by
 subst D;have B:Nat.min c i=c:=cN A
 cases g with
 | none =>
  obtain⟨rfl,rfl⟩:=C rfl;obtain rfl:cs= []:=aV (by simpa using o);refine⟨w,?_,by simpa using j,ee.refl _ _,rfl⟩;simp[Builtin.copy_,run_underlying q,Builtin.lenOf,Builtin.firstCells,sizeOf,typeInfo,n,storeCells]
 | some e =>
  have z:=run_loadCells_list (P:=P) w e cs (E e rfl);have p:=run_storeCells_at P a 0 f cs 0 d.toArray w j (by simpa using y) x;simp only[bJ,List.take_zero,bN]at p;refine⟨w.setRow a (cs++d.drop cs.length).toArray,?_,setRow_heap w a d.toArray _ f (0,0) j,⟨rfl,rfl,rfl,by simp[World.setRow],λk _ c=>setRow_other w a k _ c⟩,by simp[World.setRow]⟩
  .simp [Builtin.copy_,run_underlying q,Builtin.lenOf,Builtin.firstCells,sizeOf,typeInfo,n,B,<-o,z,p]
abbrev Ow:=@ee.refl
abbrev Ox:=@ee.of_below
abbrev Oy:=@ed.alloc
abbrev Oz:=@ed.new
section
variable {w : World} {b : Nat} {t : TypeId} {l : List Value} {a a0 a1 a2 a3 a4 a5 a6 a7 a8 : Value}
theorem ed.c0 (d:ed w b t (a::l)):w.cell? ⟨b,0,U⟩=M a:=d.cell 0
theorem ed.c1 (d:ed w b t (a0::a::l)):w.cell? ⟨b,1,U⟩=M a:=d.cell 1
theorem ed.c2 (d:ed w b t (a0::a1::a::l)):w.cell? ⟨b,2,U⟩=M a:=d.cell 2
theorem ed.c3 (d:ed w b t (a0::a1::a2::a::l)):w.cell? ⟨b,3,U⟩=M a:=d.cell 3
theorem ed.c4 (d:ed w b t (a0::a1::a2::a3::a::l)):w.cell? ⟨b,4,U⟩=M a:=d.cell 4
theorem ed.c5 (d:ed w b t (a0::a1::a2::a3::a4::a::l)):w.cell? ⟨b,5,U⟩=M a:=d.cell 5
theorem ed.c6 (d:ed w b t (a0::a1::a2::a3::a4::a5::a::l)):w.cell? ⟨b,6,U⟩=M a:=d.cell 6
theorem ed.c7 (d:ed w b t (a0::a1::a2::a3::a4::a5::a6::a::l)):w.cell? ⟨b,7,U⟩=M a:=d.cell 7
theorem ed.c8 (d:ed w b t (a0::a1::a2::a3::a4::a5::a6::a7::a::l)):w.cell? ⟨b,8,U⟩=M a:=d.cell 8
theorem ed.c9 (d:ed w b t (a0::a1::a2::a3::a4::a5::a6::a7::a8::a::l)):w.cell? ⟨b,9,U⟩=M a:=d.cell 9
end
section
variable {w W : World} {c c' c'' : Array Value} {t t' t'' : TypeId} {o o' o'' : Obj}
theorem bx1 (d:w.alloc (zC c t)=W):ed W w.heap.size t c.toList:=by rw[<-d];exact Oz w c t
theorem lD (d:(w.alloc (zC c t)).alloc o'=W):ed W w.heap.size t c.toList:=by rw[<-d];exact(Oz w c t).alloc _
theorem gI (d:(w.alloc o).alloc (zC c t)=W):ed W (w.heap.size+1) t c.toList:=by
 have:=Oz (w.alloc o) c t
 rwa[World.size_alloc,d]at this
theorem p8 (d:((w.alloc (zC c t)).alloc o').alloc o''=W):ed W w.heap.size t c.toList:=by rw[<-d];exact((Oz w c t).alloc _).alloc _
theorem nH (d:((w.alloc o).alloc o').alloc (zC c t)=W):ed W (w.heap.size+2) t c.toList:=by
 have:=Oz ((w.alloc o).alloc o') c t
 rwa[World.size_alloc,World.size_alloc,d]at this
theorem qQ (d:w.alloc o=W):Below w.heap.size w W:=d▸ev w o
theorem oK (d:(w.alloc o).alloc o'=W):Below w.heap.size w W:=d▸gS w o o'
theorem qR (d:((w.alloc o).alloc o').alloc o''=W):Below w.heap.size w W:=d▸(gS w o o').alloc (gS w o o').size _
theorem mA{e}(d:Below e w.drew W):Below e w W:=⟨d.os,d.tape,d.output,d.size,d.block⟩
end
theorem fp (d:Nat):(0:Int)<=(d:Int):=Int.natCast_nonneg d
def gd (n:Int)(t:Int):Bool:=t == 0 || (decide (3<=t) && decide (t-3<n))
def gT (n:Int)(t:Int):Bool:=gd n t || t == 1 || t == 2
def fR (v n:Int):Bool:=decide (0<=v) && decide (v<n)
def OC (p:On):Nat->Int->List Nat
 | 0, _ => []
 | f + 1, c => if c < 0 then [] else match p[c.toNat]? with
  | none => []
  | some x => c.toNat :: OC p f x.sup
def OD (p:On)(c:Int):List Nat:=OC p (c.toNat+1) c
def kC (c:Nat)(x:eb):Bool:=if c=0 then x.sup == -1 else decide (0<=x.sup) && decide (x.sup<c)
def ez (p:On)(n:Nat):Prop:=∀(c:Nat) (x:eb),c<n->p[c]? =M x->kC c x=K
theorem Az{x}(a:kC 0 x=K):x.sup= -1:=by simpa[kC]using a
theorem vG{a x}(c:0<a)(b:kC a x=K):0<=x.sup/\x.sup<a:=by
 unfold kC at b;rw[af (by omega)]at b;simpa using b
theorem my{a x}(b:kC a x=K): -1<=x.sup/\x.sup<a:=by
 rcases dc a with rfl | a
 .have:=Az b;omega
 .have:=vG a b;omega
theorem tj(p a){b}(c:b<0):OC p a b= []:=by
 cases a with
 | zero => rfl
 | succ a => simp[OC, c]
theorem Gv(p){h}(i:ez p h):∀(c b:Nat) (a:Int),a<h->a.toNat+1<=c->a.toNat+1<=b->OC p c a=OC p b a:=by
 intro c
 induction c with
 | zero => intro b a _ d; omega
 | succ c j =>
  intro b a c c g
  match b,g with
  | b + 1, g =>
   rcases bV a 0 with d | d
   .rw [tj p _ d,tj p _ d]
   .simp only [OC,af (Int.not_lt.2 d)]
    cases hx:p[a.toNat]? with
    | none => rfl
    | some f =>
     have:=my (i a.toNat f (by omega) hx);simp only
     rcases bV f.sup 0 with e | e
     .rw [tj p _ e,tj p _ e]
     .rw [j b f.sup (by omega) (by omega) (by omega)]
theorem ti(p){a}(b:a<0):OD p a= []:=tj p _ b
theorem sd(p){d}(c:ez p d){a x}(e:a<d)(hx:p[a]? =M x):OD p (a:Int)=a::OD p x.sup:=by
 have:=my (c a x e hx)
 show OC p (a+1) (a:Int)=_
 simp only[OC];rw[af (by omega),aK,hx];simp only
 rcases bV x.sup 0 with b | b
 .rw [tj p _ b,ti p b]
 .unfold OD;rw[Gv p c a (x.sup.toNat+1) x.sup (by omega) (by omega) (by omega)]
def uV (p : List eb) (c : Nat) : List Int := ((p[c]?).map (·.fields)).getD []
def OE (p:On)(c:Int):List Int:=((OD p c).reverse.map (uV p)).flatten
def kQ (ms:List eh)(slot:Int):Option Nat:=ms.findIdx? (λm=>m.slot == slot)
def xk (p:On)(slot:Int)(c:Nat):Option (Nat×Nat):=(p[c]?).bind λx=>(kQ x.ek slot).map λk=>(c,k)
def fy (p:On)(c slot:Int):Option (Nat×Nat):=(OD p c).findSome? (xk p slot)
def mh (p:On)(ck:Nat×Nat):Option eh:=(p[ck.1]?).bind λx=>x.ek[ck.2]?
theorem EF{b d c}(h:c<b.length)(f:b[c].slot=d)(g:∀(a:Nat) (e:a<b.length),a<c->b[a].slot≠d):kQ b d=M c:=by
 unfold kQ;rw[List.findIdx?_eq_some_iff_getElem];refine⟨h,by simpa using f,λa e=>?_⟩;simpa using g a (by omega) e
theorem EE{b d}(e:∀(a:Nat) (c:a<b.length),b[a].slot≠d):kQ b d=U:=by
 unfold kQ;rw[List.findIdx?_eq_none_iff];intro b f;obtain⟨a,c,rfl⟩:=bT f;simpa using e a c
theorem sw(p){a}(c)(b:a<0):fy p a c=U:=by
 unfold fy;rw[ti p b];rfl
theorem sx (p:On){d:Nat}(g:ez p d){a:Nat}{x:eb}(b:Int)(f:a<d)(hx:p[a]? =M x) :
  fy p (a:Int) b=match kQ x.ek b with
   | some c => M (a, c)
   | none => fy p x.sup b := by
 unfold fy;rw[sd p g f hx,List.findSome?_cons];have e:xk p b a=(kQ x.ek b).map λc=>(a,c):=by unfold xk;rw[hx];rfl
 rw[e]
 cases kQ x.ek b <;> rfl
theorem ED{c e b}(a:kQ c e=M b):∃d,c[b]? =M d/\d.slot=e:=by
 unfold kQ at a;rw[List.findIdx?_eq_some_iff_getElem]at a;obtain⟨b,c,_⟩:=a;exact⟨_,ae b,by simpa using c⟩
theorem wX(p){o}(m:ez p o)(d){k n}:∀(b:Nat),b<o->fy p (b:Int) d=M (k,n)->∃f c,p[k]? =M f/\f.ek[n]? =M c/\k<=b/\c.slot=d:=by
 intro b
 induction b using Nat.strongRecOn with
 | ind b ih =>
  intro l a
  cases hx:p[b]? with
  | none =>
   unfold fy OD OC at a;rw[af (by omega),aK,hx]at a;simp at a
  | some e =>
   rw[sx p m d l hx]at a;have:=my (m b e l hx)
   cases j:kQ e.ek d with
   | some b =>
    rw[j]at a
    cases a
    obtain⟨c,h,i⟩:=ED j;exact⟨e,c,hx,h,ai _,i⟩
   | none =>
    rw[j]at a;simp only at a
    rcases bV e.sup 0 with g | g
    .rw [sw p d g]at a;cases a
    .obtain⟨q,b⟩:=ax g;rw[b]at a;obtain⟨f,c,h,i,b,b⟩:=ih q (by omega) (by omega) a;exact⟨f,c,h,i,by omega,b⟩
theorem tz(p){b}(d:ez p b){a x}(c:a<b)(hx:p[a]? =M x):OE p (a:Int)=OE p x.sup++x.fields:=by
 unfold OE;rw[sd p d c hx];simp[uV,hx]
theorem tx(p){a}(b:a<0):OE p a= []:=by unfold OE;rw[ti p b];rfl
def ky (p:On)(x:eb)(m:eh):Bool:=
 match fy p x.sup m.slot with
 | none => K
 | some ck => match mh p ck with
  | none => K
  | some o => o.args == m.args && o.ret == m.ret
def lX (n:Nat)(m:eh):Bool:=
 decide (0<=m.slot) && decide (m.slot<=5) && decide (m.args.length<=3) && m.args.all (gd n) && gd n m.ret && decide (1+m.args.length<=m.locals) && decide (m.locals<=8) && decide (0<=m.stack) && decide (m.stack<=8)
def OF (p:On)(x:eb)(k:Nat)(m:eh):Bool:=
 lX p.length m && ((x.ek.take k).all λo=> !(o.slot == m.slot)) && ky p x m
theorem jw{b a}:lX b a=K↔(0<=a.slot/\a.slot<=5/\a.args.length<=3/\a.args.all (gd b)=K/\gd b a.ret=K/\1+a.args.length<=a.locals/\a.locals<=8/\0<=a.stack/\a.stack<=8):=by
 unfold lX;simp only[aD,decide_eq_true_eq,and_assoc]
theorem qp{p x c}{a:eh}(b:¬(0<=a.slot/\a.slot<=5/\a.args.length<=3/\a.args.all (gd p.length)=K/\gd p.length a.ret=K/\1+a.args.length<=a.locals/\a.locals<=8/\0<=a.stack/\a.stack<=8)):OF p x c a=F:=by
 unfold OF;rw[cw.2 (λa=>b (jw.1 a))]
 rfl
theorem Jc{p x b c a}(e:a<x.ek.length)(f:a<b)(d:x.ek[a].slot=c.slot):OF p x b c=F:=by
 unfold OF;rw[show ((x.ek.take b).all λa=> !(a.slot == c.slot))=F from ?_]
 .simp
 .rw [cx];exact⟨x.ek[a],by rw[dS];exact⟨a,by rw[aR];omega,by rw[dE]⟩,by simp[d]⟩
theorem head_eq{p x k b}(f:lX p.length b=K)(e:∀(a:Nat) (c:a<x.ek.length),a<k->x.ek[a].slot≠b.slot):OF p x k b=ky p x b:=by
 unfold OF;rw[f,show ((x.ek.take k).all λd=> !(d.slot == b.slot))=K from ?_]
 .simp
 .rw [aJ];intro d g;obtain⟨a,c,rfl⟩:=bT g;rw[dE];rw[aR]at c;simpa using e a (by omega) (by omega)
def lr (p:On)(c:Nat)(x:eb):Bool:=
 x.fields.all (gd p.length) && decide ((OE p c).length<=8) && decide (x.ek.length<=6) && (List.range x.ek.length).all λk=>match x.ek[k]? with
  | none => K
  | some m => OF p x k m
def nI (p:On)(c:Nat):Bool:=match p[c]? with
 | none => K
 | some x => kC c x && lr p c x
def eU (p:On)(m:eh)(i:fG):Bool:=
 if i.op=0 then i.b == 0
 else if i.op=1\/i.op=2 then fR i.a m.locals && i.b == 0
 else if i.op=7\/i.op=8\/i.op=18 then fR i.a m.code.length && i.b == 0
 else if i.op=9\/i.op=17 then fR i.a p.length && i.b == 0
 else if i.op=10\/i.op=11 then fR i.a p.length && fR i.b (OE p i.a).length
 else if i.op=12 then fR i.a p.length && (fy p i.a i.b).isSome
 else fR i.op 21 && i.a == 0 && i.b == 0
def m9 (n:Nat)(m:eh)(f:fT):Bool:=
 decide (f.pc<m.code.length) && decide ((f.locals.length:Int)=m.locals) && decide ((f.stack.length:Int)<=m.stack) && f.locals.all (gT n) && f.stack.all (gT n)
def gK (n:Nat)(m:eh):Int->List fT->Bool
 | _, [] => K
 | last, f :: r => decide (last < f.pc) && m9 n m f && gK n m f.pc r
def gY (p:On)(m:eh):Bool:=
 decide (1<=m.code.length) && decide (m.code.length<=40) && decide (m.frames.length<=40) && m.code.all (eU p m) && gK p.length m (-1) m.frames
def fi (p:On):Int:=
 if p.length<1\/6<p.length then 2
 else if (List.range p.length).all (nI p) then
  if p.all (λx=>x.ek.all (gY p)) then 0 else 3
 else 2
def ug (f:fT):Prop:=I64 f.pc/\(∀x∈f.locals,I64 x)/\∀x∈f.stack,I64 x
def uh (i:fG):Prop:=I64 i.op/\I64 i.a/\I64 i.b
def pQ (m:eh):Prop:=I64 m.slot/\(∀x∈m.args,I64 x)/\I64 m.ret/\I64 m.locals/\I64 m.stack/\(∀i∈m.code,uh i)/\∀f∈m.frames,ug f
def AI (x:eb):Prop:=I64 x.sup/\(∀t∈x.fields,I64 t)/\∀m∈x.ek,pQ m
def je (p:On):Prop:=∀x∈p,AI x
def iB (f:fT):Nat:=f.locals.length+f.stack.length+4
def fI (m:eh):Nat:=m.args.length+4*m.code.length+(m.frames.map iB).sum+8
def gV (x:eb):Nat:=x.fields.length+(x.ek.map fI).sum+4
def eM (p:On):Nat:=(p.map gV).sum
theorem uP {α :Type}(b: α->Nat):∀(c:List α) (x: α),x∈c->b x<=(c.map b).sum
 | [], x, a => by simp at a
 | y :: r, x, a => by
  simp only[bC,dk]
  rcases aE.1 a with rfl | a
  .omega
  .have:=uP b r x a;omega
theorem uQ{α :Type}(a)(b:∀x,1<=a x):∀(c:List α),c.length<=(c.map a).sum
 | [] => by simp
 | y :: r => by
  simp only[bC,dk,bA];have:=uQ a b r;have:=b y;omega
theorem fQ(p):p.length<=eM p:=uQ _ (λa=>by unfold gV;omega) p
theorem kE{p x}(a:x∈p):gV x<=eM p:=uP _ p x a
theorem qz{x a}(b:a∈x.ek):fI a<=gV x:=by
 have:=uP fI _ a b;unfold gV;omega
theorem rD(x):x.fields.length<=gV x:=by unfold gV;omega
theorem mO(x):x.ek.length<=gV x:=by
 have:=uQ fI (λa=>by unfold fI;omega) x.ek;unfold gV;omega
theorem vF{α :Type}(b: α->Nat)(c)(a:List α):((a.take c).map b).sum<=(a.map b).sum:=by
 have:=bH c a
 conv=>rhs;rw[<-this]
 rw[aM,dT];omega
theorem Im(p){g}(f:ez p g):∀(a:Nat),a<g->(OE p (a:Int)).length<=((p.take (a+1)).map gV).sum:=by
 intro a
 induction a using Nat.strongRecOn with
 | ind a ih =>
  intro e
  rcases bt a p.length with d | d
  .have hx:=ae d;have g:=my (f a _ e hx);rw[tz p f e hx,bd,hx,aM,dT,aw];have e:gV p[a]=((Option.toList (M p[a])).map gV).sum:=(by simp);have e:=rD p[a]
   rcases bV p[a].sup 0 with c | c
   .rw [tx p c];simp only[cT];omega
   .obtain⟨b,e⟩:=ax c;rw[e];have:=ih b (by omega) (by omega)
    have c:((p.take (b+1)).map gV).sum<=((p.take a).map gV).sum:=by
     have:p.take (b+1)=(p.take a).take (b+1):=by rw[dv];congr 1;omega
     rw[this];exact vF gV (b+1) (p.take a)
    omega
  .unfold OE OD OC;rw[af (by omega),aK,cH d];simp
theorem uE(p){b}(d:ez p b){a}(c:a<b):(OE p (a:Int)).length<=eM p:=by
 refine ap (Im p d a c) ?_;have:=bH (a+1) p;unfold eM
 conv=>rhs;rw[<-this]
 rw[aM,dT];omega
theorem AB{b a}(c:a∈b.frames):iB a<=fI b:=by
 have:=uP iB _ a c;unfold fI;omega
theorem AC(a):a.frames.length<=fI a:=by
 have:=uQ iB (λa=>by unfold iB;omega) a.frames;unfold fI;omega
theorem lj(b a c):
  Calls Tryz.prog 200 #[J I b,J I a] c λd e=>d=zR (zB (fR b a))/\e=c:=by
 go_in
 go_wp2
 all_goals go_ret
 all_goals exact⟨eC (by simp[fR, *] <;> omega),rfl⟩
theorem tY(a b c)(e:I64 a):
  Calls Tryz.prog 147 #[J I a,J I b] c λd f=>d=zR (zB (gd b a))/\f=c:=by
 obtain⟨a,a⟩:=e;go_in
 go_wp2
 all_goals go_ret
 all_goals exact⟨eC (by simp[gd, *] <;> omega),rfl⟩
theorem Ai(a l c g)(n:eG 1 (gF g) l a)(o:∀x∈a,I64 x)(p:a.length<=4194304):
  Calls Tryz.prog 91 #[l,J I c] g λd h=>d=zR (zB (a.all (gd c)))/\h=g:=by
 obtain⟨g,g,g,g,rfl,g,m,g⟩:=it n;go_in
 go_wp2
 go_loop [5] (λd=>∃b:Nat,b<=a.length/\d=J I b/\(a.take b).all (gd c)=K) (λd=>a.length-(intOf d).toNat)
 case atStart=>exact ⟨0,az _,rfl,rfl⟩
 case round=>
  obtain⟨b,g,rfl,g⟩:=hrel;have i:Hid ((a.take b).all (gd c)=K):=g
  by_cases e:b<a.length
  .obtain rfl:=m (eW e);have hx:=o _ (av e);have j:=mH (f:=gd c) e;rw[i.out]at j;have HS:=Ou j
   cases k:gd c a[b]
   .go_wp2_with (go_at_call 147;refine(tY _ _ _ hx).mono ?_;rintro d h ⟨rfl,rfl⟩)
    go_ret;exact⟨eC (by rw[<-bH (b+1) a,bR,ea HS,k];rfl),rfl⟩
   .go_wp2_with (go_at_call 147;refine(tY _ _ _ hx).mono ?_;rintro d h ⟨rfl,rfl⟩)
    go_round
    case rel=>exact ⟨b+1,by omega,by go_num,by rw[ea HS,k];rfl⟩
    case measure=>simp[intOf];omega
  .go_wp2
   go_ret;exact⟨eC (by rw[<-i.out,aH (by omega)]),rfl⟩
theorem LW(b k c g)(n:eG 1 (gF g) k b)(o:∀x∈b,I64 x)(p:b.length<=4194304):
  Calls Tryz.prog 150 #[k,J I c] g λd h=>d=zR (zB (b.all (gT c)))/\h=g:=by
 obtain⟨g,g,g,g,rfl,g,l,g⟩:=it n;go_in
 go_wp2
 go_loop [5] (λd=>∃a:Nat,a<=b.length/\d=J I a/\(b.take a).all (gT c)=K) (λd=>b.length-(intOf d).toNat)
 case atStart=>exact ⟨0,az _,rfl,rfl⟩
 case round=>
  obtain⟨a,g,rfl,g⟩:=hrel;have i:Hid ((b.take a).all (gT c)=K):=g
  by_cases e:a<b.length
  .obtain rfl:=l (eW e);have hx:=o _ (av e);have j:=mH (f:=gT c) e;rw[i.out]at j;have HS:=Ou j
   cases m:gd c b[a]
   .go_wp2_with (go_at_call 147;refine(tY _ _ _ hx).mono ?_;rintro d h ⟨rfl,rfl⟩)
    .exact⟨⟨a+1,by omega,by go_num,by rw[ea HS];simp_all[gT]⟩,by simp[intOf];omega⟩
    .go_ret;exact⟨eC (by rw[<-bH (a+1) b,bR,ea HS];simp_all[gT]),rfl⟩
    .exact⟨⟨a+1,by omega,by go_num,by rw[ea HS];simp_all[gT]⟩,by simp[intOf];omega⟩
   .go_wp2_with (go_at_call 147;refine(tY _ _ _ hx).mono ?_;rintro d h ⟨rfl,rfl⟩)
    go_round
    case rel=>exact ⟨a+1,by omega,by go_num,by rw[ea HS];simp[gT,m]⟩
    case measure=>simp[intOf];omega
  .go_wp2
   go_ret;exact⟨eC (by rw[<-i.out,aH (by omega)]),rfl⟩
theorem Fa{b c:Ok}{a}(e:a<b.length)(f:a<c.length):(b.take (a+1)=c.take (a+1))↔(b.take a=c.take a/\b[a]=c[a]):=by
 rw[bd,bd,ae e,ae f];simp only[dq]
 constructor
 .intro d;have:=di d rfl;simpa using this
 .rintro ⟨d,a⟩;rw[d,a]
theorem L9(b c n m e)(r:eG 1 (gF e) n b)(t:eG 1 (gF e) m c)(w:b.length<=4194304)(x:c.length<=4194304):
  Calls Tryz.prog 148 #[n,m] e λd v=>d=zR (zB (b == c))/\∃h,v=e.drewN h:=by
 obtain⟨m,m,m,m,rfl,m,p,m⟩:=it r;obtain⟨m,m,m,m,rfl,m,q,m⟩:=it t
 by_cases f:b.length=c.length
 .have s:((b.length:Int) == (c.length:Int))=K:=by rw[f];simp
  go_in
  go_wp2
  go_loopw [5] (λd wr=>∃a:Nat,a<=b.length/\d=J I a/\b.take a=c.take a/\∃h,wr=e.drewN h) (λd _=>b.length-(intOf d).toNat)
  case atStart=>exact ⟨0,az _,rfl,rfl,0,rfl⟩
  case round=>
   obtain⟨a,e,rfl,l,u,rfl⟩:=hrel;have j:=Ou l;have i:=Ou f;clear l f
   by_cases g:a<b.length
   .have k:a<c.length:=(by rw[<-ea i];exact g);obtain rfl:=p (eW g);obtain rfl:=q (eW k);have o:=Ou (Fa g k)
    go_wp2
    go_quiet (fail)
    go_wp2
    .go_ret;have hx:b[a]≠c[a]:=(by simp_all);exact⟨eC (by rw[eq_comm,beq_eq_false_iff_ne];intro d;subst d;exact hx rfl),u+nq,by rw[World.drewN_drewN]⟩
    .have hx:b[a]=c[a]:=(by simp_all);exact⟨⟨a+1,by omega,by go_num,o.2 ⟨ea j,hx⟩,_,rfl⟩,by simp[intOf];omega⟩
   .go_wp2
    go_ret;refine⟨eC ?_,_,rfl⟩;have:=ea j;rw[aH (by omega),aH (by have:=ea i;omega)]at this;simp[this]
 .have s:((b.length:Int) == (c.length:Int))=F:=by simp;omega
  go_in
  go_wp2
  go_ret;exact⟨eC (by rw[eq_comm,beq_eq_false_iff_ne];intro d;subst d;exact f rfl),0,rfl⟩
def jU (p:On)(c slot:Int):Int×Int:=match fy p c slot with
 | none => (-1, -1)
 | some (x, y) => (x, y)
theorem vj(p t j)(e b:Int)(a)(E:eQ a t p)(o:ez p j)(R:j<=p.length)(y: -1<=e)(z:e<j)(S:eM p<=4194304):
  Calls Tryz.prog 116 #[.agg #[t],J I e,J I b] a λv Q=>
   v=zR (.tuple #[J I (jU p e b).1,J I (jU p e b).2])/\Below a.heap.size a Q:=by
 obtain⟨q,t,t,r,rfl,t,w,L⟩:=eN E;go_in
 go_wp2
 generalize t:a.alloc _=W;have n:Below a.heap.size a W:=t▸ev _ _;have:W.cell? ⟨a.heap.size,0,U⟩=M (O q p.length r):=t▸jM a #[O q p.length r] 24 0
 go_loop [1] (λa=>∃f:Int,-1<=f/\f<j/\a=J I f/\fy p e b=fy p f b) (λa=>(intOf a+1).toNat)
 case atStart=>exact ⟨e,y,z,rfl,rfl⟩
 case round=>
  obtain⟨f,a,a,rfl,a⟩:=hrel;have k:=Ou a
  rcases bV f 0 with D | G
  .go_wp2
   go_ret2
   exact⟨by simp[jU,ea k,sw p b D],n⟩
  .obtain⟨d,rfl⟩:=ax G;have h:d<p.length:=(by omega);obtain rfl:=w (eW h);obtain⟨a,a,a,a,a,a,B⟩:=(L d h).keep (Oq n);obtain⟨a,N,P,a,rfl,a,A,C⟩:=eN B
   have:∀(a:Nat) (e:a<p[d].ek.length),W.cell? ⟨N,P+a*7,U⟩=M (J I p[d].ek[a].slot):=λa e=>by
    obtain⟨_,_,_,_,g,_⟩:=C a e;exact g
   have:p[d].ek.length<=4194304:=by
    have:=mO p[d];have:=kE (av h);omega
   have m:=Ou (ae h);generalize p[d]=x at *
   go_wp2
   go_loop [8] (λd=>∃c:Nat,c<=x.ek.length/\d=J I c/\∀(a:Nat) (e:a<x.ek.length),a<c->x.ek[a].slot≠b) (λd=>x.ek.length-(intOf d).toNat)
   case atStart=>exact ⟨0,az _,rfl,λa _ g=>absurd g (cW a)⟩
   case round=>
    obtain⟨c,a,rfl,a⟩:=hrel;have l:=Ou a
    by_cases u:c<x.ek.length
    .obtain rfl:=A (eW u)
     by_cases i:x.ek[c].slot=b
     .have H:(x.ek[c].slot == b)=K:=(by simpa using i);have g:=Ou i
      go_wp2
      go_ret2
      exact⟨by simp[jU,ea k,sx p o b (by omega) m.out,EF u g.out l.out],n⟩
     .have H:(x.ek[c].slot == b)=F:=by simpa using i
      go_wp2
      go_round
      case rel=>exact ⟨c+1,by omega,by go_num,λa e g=>by
       rcases bt a c with s | s
       .exact l a e s
       .obtain rfl:a=c:=by omega
        exact i⟩
      case measure=>simp[intOf];omega
    .go_wp2
     have a:=my (o d x (by omega) m);exact⟨⟨x.sup,a.1,by omega,rfl,by rw[ea k,sx p o b (by omega) m.out,EE λa e=>ea l a e (by omega)]⟩,by simp[intOf];omega⟩
section
attribute [local go_sem ↓] Go.wp_at_zero Go.wp_at_succ
theorem infoType:(Tryz.prog.info? 43).map (λa=>(a.zero,a.size,a.bytes))=M (M (J I 0),1,8):=by kernel_rfl
theorem sH(p z)(r:ez p z)(bM:z<=p.length)(b6:eM p<=4194304):∀(a:Nat) (A:Value) (b:World),eQ b A p->a<z->
  Calls Tryz.prog 92 #[.agg #[A],J I a] b λc e=>∃s,c=zR s/\
   e.ownsRow b.heap.size 43 1 s (OE p a).length ((OE p a).map (J .i64))/\Below b.heap.size b e:=by
 intro a
 induction a using Nat.strongRecOn with
 | ind a ih =>
  intro A b N o;have Z:=Ou ih;obtain⟨T,H,Q,R,S⟩:=info_parts infoType;obtain⟨bc,f,h,k,rfl,bn,ak,a5⟩:=eN N;have q:a<p.length:=by omega
  obtain rfl:=ak (eW q);have v:=ae q;have b5:=my (r a _ o v);have ao:=uE p r o;have j:=Ou (tz p r o v);have Y:=Ou v;obtain⟨b7,b8,u,aa,be,G,bI⟩:=a5 a q
  have bs:p[a].fields.length<=4194304:=by
   have:=rD p[a];have:=kE (av q);omega
  obtain⟨l,m,rfl,K,a6⟩:=mg G;have bz:=Oo u;generalize p[a]=x at *;have C:=Ou a6;have B:Hid (l=U->x.fields.length=0/\m=0):=λc=>⟨by rw[(K c).1];rfl,(K c).2⟩;have ad:x.fields.length<=maxLen:=by unfold maxLen;omega
  have ba:=Ou G
  rcases dc a with D | a3
  .have a4:¬(0:Int)<(a:Int):=(by omega);have g:x.sup<0:=(by omega);have i:=Ou D;clear D;go_in
   go_wp2_with (at_builtin;refine AM rfl (.tmp 16) (.tmp 22) 40 rfl b.heap.size 43 T (J I 0) 1 8 Tryz.underlying40 H Q R S rfl (by decide) (O U 0 0) 0 [] rfl (World.ownsRow_nil _ _ _ _) l x.fields.length m (x.fields.map (J .i64)) rfl (by rw[aZ,cE]) B (λd c a f e=>kK b _ _ _ (C d c a f e)) (oy _) (by rw[bJ];exact ad) (by omega) (ev b _).size ?_;intro s e y w an)
   go_ret;refine⟨_,rfl,?_,(ev b _).grown w (ev b _).size (λd c=>by cases c)⟩;rw[ea j,tx p g];simpa using y
  .have a4:(0:Int)<(a:Int):=(by omega);obtain⟨d,ar⟩:=ax (vG a3 (r a x o Y)).1;have a0:d<a:=(by omega);rw[ar]at u j;go_in
   go_wp2_with fail;generalize E:b.alloc _=W;have i:Below b.heap.size b W:=E▸ev _ _;have F:W.cell? ⟨b.heap.size,0,U⟩=M (O (M ⟨f,h,U⟩) p.length k):=E▸jM b #[O (M ⟨f,h,U⟩) p.length k] 24 0;have P:=i.size;have ab:=Oq i _ _ u;have ac:=Oq i _ _ aa;have a2:=eA (Oq i) N;have X:=Ou a2;have bo:(a:Int)<(p.length:Int):=(by omega);have bk:=fp a
   go_region_held3 (λe=>e.cell? ⟨b.heap.size,0,U⟩=M (O (M ⟨f,h,U⟩) p.length k)/\e.cell? ⟨f,h+a*3,U⟩=M (J I (d:Int)))
    (first | go_keep | (exact⟨Oq g _ _ (by simpa using F),Oq g _ _ (by simpa using ab)⟩))
    (first | ((go_at_call 92;refine(Z d a0 _ _ ?_ ?_).mono ?_);(exact eA (Oq ((ay _ _).drew)) X);omega;rintro c t ⟨V,rfl,a1,g⟩))
   have n:Below b.heap.size b t:=i.drew.trans (g.mono P);have bf:t.cell? ⟨b.heap.size,0,U⟩=M (O (M ⟨f,h,U⟩) p.length k):=Oq g _ _ F;have bh:t.cell? ⟨f,h+a*3+1,U⟩=M (O l x.fields.length m):=Oq g _ _ ac
   have br:(OE p d).length+x.fields.length<=4194304:=by
    have:=ea j;rw[this,aw]at ao;omega
   have L:t.ownsRow b.heap.size 43 1 V (OE p d).length ((OE p d).map (J .i64)):=Ov a1 (by simpa using P);have a8:=Ou g;go_wp2_with (at_builtin;refine AM rfl (.tmp 16) (.tmp 22) 40 rfl b.heap.size 43 T (J I 0) 1 8 Tryz.underlying40 H Q R S rfl (by decide) V _ _ rfl L l x.fields.length m (x.fields.map (J .i64)) rfl (by rw[aZ,cE]) B (λd c a f e=>Oq n _ _ (C d c a f e)) (oy _) (by unfold maxLen;omega) (by omega) n.size ?_;intro s e y w an)
   go_ret;refine⟨_,rfl,?_,n.grown w n.size (λa c=>(L.lt a c).1)⟩;rw[ea j,aM,aw];exact y
end
theorem Jx:(Tryz.prog.info? 40).map (λa=>(a.zero,a.size,a.bytes))=M (M (O U 0 0),1,24):=by kernel_rfl
def mD (w:World)(bh:Nat)(cs:Oj):Prop:=ed w bh 53 cs/\cs.length=19
structure um (w w':World)(bh:Nat)(cs:Oj)(vt:Value)(B:Nat)(ts:List (Nat×Nat))(l:Ok)(g:Nat)(vt':Value):Prop where
 new:w.heap.size<=g
 blk:ed w' g 43 (l.map (J .i64)++ [J I (-77000000)])
 hands:mD w' bh (cs.set 0 vt')
 row:w'.ownsRow B 40 1 vt' (ts.length+1) ((ts++ [(g,l.length+1)]).map λe=>O (M ⟨e.1,0,U⟩) e.2 e.2)
 mods:ee (λk=>k=bh\/vt.ownBlock=M k) w w'
 lies:vt'.ownBlock=vt.ownBlock\/∃k,w.heap.size<=k/\vt'.ownBlock=M k
def ls (e:Nat×Nat):Value:=O (M ⟨e.1,0,U⟩) e.2 e.2
theorem EB{α :Type}(a)(x c: α)(b)(d:a.length=b):(a++ [x]).set b c=a++ [c]:=by subst d;simp
theorem JV{b h i}(n:Tryz.prog.info? 43=M i)(r:i.size=1)(a:Ok)(f j)(p:f=U->a.length=0/\j=0)(q:∀d,f=M d->∀(e:Nat) (g:Value),(a.map (J .i64))[e]? =M g->b.cell? (d.add e)=M g)(k:ed h b.heap.size 43 (madeCells (J .i64 0).cells ((a.length+1)*1)).toList)(l:ee (λ_=>False) b h)(m:h.heap.size=b.heap.size+1):
  ∃c,(Builtin.copy_ #[40,40] 3 #[O (M ⟨b.heap.size,0,U⟩) (a.length+1) (a.length+1),O f a.length j]).run Tryz.prog h= .ok (goInt a.length) c/\
   ee (λ_=>False) b c/\ed c b.heap.size 43 (a.map (J .i64)++ [J I 0])/\c.heap.size=b.heap.size+1:=by
 have h:(madeCells (J .i64 0).cells ((a.length+1)*1)).toList=List.replicate (a.length+1) (J .i64 0):=by
  rw[cE];exact toList_madeCells_one _ _
 rw[h]at k;obtain⟨c,m,h,o,s⟩:=yZ (P:=Tryz.prog) 40 3 43 i 1 Tryz.underlying40 n r b.heap.size (a.length+1) (a.length+1) f a.length j (by omega) p (a.map (J .i64)) (by simp) (λd a e g c=>l.cell (q d a e g c) (λb=>b)) 43 _ k (by simp) (oy _);refine⟨c,m,l.trans o (λc b a=>by omega),?_,by omega⟩;simpa using h
theorem wT(a Y b d u y g c)(H:eG 1 (gF b) Y a)(F:mD b d u)(C:u[0]? =M y)(x:b.ownsRow g 40 1 y c.length (c.map ls))(be:g<=b.heap.size)(bf:d<g)(bh:a.length<=1048576)(bk:c.length+1<=16777216):
  Calls Tryz.prog 83 #[zP (M ⟨d,0,U⟩),Y] b λe bc=>∃o,e=zR (O (M ⟨o,0,U⟩) a.length (a.length+1))/\∃Z,um b bc d u y g c a o Z:=by
 obtain⟨a8,G,a5,T,a6⟩:=info_parts infoType;obtain⟨ba,a1,a2,a3,a4⟩:=info_parts Jx;obtain⟨V,X,rfl,v,Q⟩:=mg H;have ak:Hid (V=U->a.length=0/\X=0):=λe=>⟨by rw[(v e).1];rfl,(v e).2⟩;have an:=Ou Q;have a0:=fd x;obtain⟨k,m,rfl⟩:=a0;clear Q v H;go_in
 go_wp2_with (first
  | (at_make; refine sN rfl (.tmp 8) (.tmp 8) 40 rfl 43 a8 (J I 0) 1 8 Tryz.underlying40 G a5 T a6 _ _ _ (a.length + 1) rfl rfl (by omega) (by omega) (by omega) ?_; intro u E K N
     obtain⟨z,u,q,i,R⟩:=JV G T a V X ak an E K N;have u:z.cell? ⟨b.heap.size,a.length,U⟩=M (J I 0):=(by rw[i.cell];simp);have u:=i.frozen a.length;have j:=F.1.mods q (λa=>a);have u:z.cell? ⟨d,0,U⟩=M (O k c.length m):=(by rw[j.cell];exact C);have u:=j.frozen 0;have L:d≠b.heap.size:=(by omega);have u:=Ou i;have u:=Ou j;have ac:=Ou q;obtain⟨Z,A,ar,w,s,D⟩:=iN (P:=Tryz.prog) (W:=z.setCell ⟨b.heap.size,a.length,U⟩ (J I (-77000000))) 45 45 40 ba (O U 0 0) 1 24 Tryz.underlying45 a1 a2 a3 a4 rfl (by decide) g (O k c.length m) c.length (c.map ls) (eX x (q.setCell (λh=>df _ h) _) (λ_ _ a=>a)) #[O (M ⟨b.heap.size,0,U⟩) (a.length+1) (a.length+1)] rfl (by simp[Value.oneCell']) (b.heap.size+1) (by simp[R]) (by unfold maxLen;omega) (by omega) (by simp[R];omega);obtain⟨l,n,rfl⟩:=fd w;have t:∀f,(O k c.length m).ownBlock=M f->g<=f/\f<b.heap.size:=x.lt;have r:=(j.gP (p:=⟨b.heap.size,a.length,U⟩) L (J I (-77000000))).mods s (λe=>by have:=t _ e;omega);have g:A.cell? ⟨d,0,U⟩=M (O k c.length m):=(by rw[r.cell];exact C);have g:=r.frozen 0;have ao:=Ou ((i.setCell a.length (J I (-77000000))).mods s (λe=>by have:=t _ e;omega));have ad:=Ou s;have B:=Ou w;have aa:=Ou D;have ab:=Ou r;have g:=Ou t
     clear E K N i j q s w D r t)
  | (at_builtin; refine OA rfl (.tmp 21) (.tmp 23) 45 rfl _ _ rfl rfl ar ?_))
 go_ret;refine⟨b.heap.size,rfl,O l (c.length+1) n,?_⟩;have q:b.heap.size≠d:=λe=>L e.symm
 have j:ee (λf=>f=d\/(O k c.length m).ownBlock=M f) b (A.setCell ⟨d,0,U⟩ (O l (c.length+1) n)):=
  (((ac.setCell (p:=⟨b.heap.size,a.length,U⟩) (λh=>df _ h) _).mono (λ_ _ a=>a.elim)).trans ad (λb a e=>.inr e)).setCell (λ_=>.inl rfl) _
 have i:=ab.setCell 0 (O l (c.length+1) n);have r:=eX (S:=λf=>f=d) B ((Ow (λf=>f=d) A).setCell (p:=⟨d,0,U⟩) (λ_=>rfl) (O l (c.length+1) n)) (λo e=>by have:=B.lt o e;omega);refine⟨ai _,?_,⟨i,by rw[aO];exact F.2⟩,?_,j,?_⟩
 .have:=ao.gP (p:=⟨d,0,U⟩) q (O l (c.length+1) n)
  rwa[EB (a.map (J .i64)) _ _ _ (by simp)]at this
 .rw [aM];exact r
 .rcases ea aa with h | ⟨f,a,a⟩
  .exact .inl h
  .exact .inr ⟨f,by omega,a⟩
theorem wM{α β :Type}{f: α->List β}{s}(a:∀x,(f x).length=s):∀(b:List α),(b.flatMap f).length=b.length*s
 | [] => by simp
 | x :: r => by
  rw[cF,aw,a,wM a r,bA,cq,Nat.add_comm]
theorem OG{α β :Type}{f: α->List β}{s}(d:∀x,(f x).length=s):∀(c:List α) (b a:Nat),a<s->(c.flatMap f)[b*s+a]? =(c[b]?).bind λx=>(f x)[a]?
 | [], b, a, _ => by simp
 | x :: c, 0, a, hr => by
  rw[cF,cr,bJ,aL (by rw[d];exact hr)]
  rfl
 | x :: c, b + 1, a, hr => by
  rw[cF,aP (by rw[d,cq];omega),d,show (b+1)*s+a-s=b*s+a by rw[cq];omega,OG d c b a hr]
  rfl
def sr (i:fG):List Value:= [J I i.op,J I i.a,J I i.b]
def OH (l:List fG):List Value:=l.flatMap sr
theorem qe(a):(OH a).length=a.length*3:=wM (f:=sr) (s:=3) (λ_=>rfl) a
theorem Gz(c):∀a∈OH c,a.oneCell'=K:=by
 intro a b;obtain⟨a,_,hx⟩:=List.mem_flatMap.1 b;simp only[sr,aE,aF,or_false]at hx
 rcases hx with rfl | rfl | rfl <;> rfl
theorem addr_add(a c b):(⟨a,c,U⟩:Addr).add b=⟨a,c+b,U⟩:=by unfold Addr.add;split <;> simp_all
theorem G4{m o e}(p:eG 3 (pm m) o e):
  ∃(g:Om) (i:Nat),o=O g e.length i/\(g=U->e.length=0/\i=0)/\∀j,g=M j->∀(b:Nat) (l:Value),(OH e)[b]? =M l->m (j.add b)=M l:=by
 obtain⟨g,m,m,i,m,o,k,q⟩:=p;refine⟨g,i,m,λd=>?_,λj d b l c=>?_⟩
 .rcases k.2 with ⟨_,a⟩ | a | ⟨_,a⟩
  .exact⟨Nat.eq_zero_of_not_pos λb=>(by have:=k.1 (List.ne_nil_of_length_pos b);rw[d]at this;cases this),a⟩
  .rw [d]at a;cases a
  .exact absurd d a
 .rcases k.2 with ⟨a,_⟩ | a | ⟨a,_⟩
  .rw [d]at a;cases a
  .rw [d]at a;cases a;have n:b=b / 3*3+b % 3:=(by omega);rw[n]at c;unfold OH at c;rw[OG (f:=sr) (s:=3) (λ_=>rfl) e (b / 3) (b % 3) (by omega)]at c
   cases hx:e[b / 3]? with
   | none => rw[hx]at c; cases c
   | some v =>
    rw[hx]at c;obtain⟨r,t,u⟩:=q (b / 3) v hx;simp only[au]at c;rw[addr_add,n];have h:b % 3=0\/b % 3=1\/b % 3=2:=(by omega)
    rcases h with h | h | h <;> rw[h]at c ⊢ <;> simp only[sr,bY,bU,aX]at c <;> subst c
    .exact r
    .exact t
    .exact u
  .subst a;simp[OH]at c
theorem drop1{b:Oj}{a c}(e:b.length=a+1)(d:b[a]? =M c):b.drop a= [c]:=by
 rw[dg (by omega),dF (by omega)];have:=ag.1 d;rw[this.2]
theorem OI{b:Oj}{a c d}(e:b[a]? =M c)(f:b.drop (a+1)=d):b.drop a=c::d:=by
 obtain⟨a,b⟩:=ag.1 e;rw[dg a,b,f]
theorem zd{l:Oj}{k a b c}(g:l.length=k+3)(d:l[k]? =M a)(e:l[k+1]? =M b)(f:l[k+2]? =M c):l.drop k= [a,b,c]:=
 OI d (OI e (drop1 (by omega) f))
theorem Ic{b:Oj}{a c d e f g h i}(q:b.length=a+7)(j:b[a]? =M c)(k:b[a+1]? =M d)(l:b[a+2]? =M e)(m:b[a+3]? =M f)(n:b[a+4]? =M g)(o:b[a+5]? =M h)(p:b[a+6]? =M i):
  b.drop a= [c,d,e,f,g,h,i]:=
 OI j (OI k (OI l (OI m (OI n (OI o (drop1 (by omega) p))))))
def kP (l:Oj)(k:Nat)(a b c:Value):List Value:=((l.set k a).set (k+1) b).set (k+2) c
theorem pJ(a e b c d):(kP a e b c d).length=a.length:=by simp[kP]
theorem vu{c a b d e}(f:a+2<c.length):(kP c a b d e)[a]? =M b:=by
 unfold kP;rw[ah (by omega),ah (by omega),aA (by omega)]
theorem vw{c a d b e}(f:a+2<c.length):(kP c a d b e)[a+1]? =M b:=by
 unfold kP;rw[ah (by omega),aA (by simp;omega)]
theorem vz{c a d e b}(f:a+2<c.length):(kP c a d e b)[a+2]? =M b:=by
 unfold kP;rw[aA (by simp;omega)]
theorem ua{c b a d e f}(g:a<b\/b+2<a):(kP c b d e f)[a]? =c[a]? :=by
 unfold kP;rw[ah (by omega),ah (by omega),ah (by omega)]
theorem zK(a c b)(d:b<c)(e:0<a.size):(madeCells a c).toList[b]? =a[b % a.size]? :=by
 unfold madeCells;have:b % a.size<a.size:=Nat.mod_lt _ e;simp[d,this]
theorem tJ(b a):(madeCells b a).toList.length=a:=by simp[madeCells]
structure iV (w:World)(B:Nat)(eo ei:TypeId)(sz:Nat)(lastv:Oj)(v:Value)(es:List (Nat×Nat)):Prop where
 row:w.ownsRow B eo 1 v es.length (es.map ls)
 ent:∀e∈es,B<=e.1/\1<=e.2/\e.2<=1048577/\∃cs:List Value,ed w e.1 ei cs/\cs.length=e.2*sz/\cs.drop ((e.2-1)*sz)=lastv
 nodup:(es.map Prod.fst).Nodup
theorem iV.nil(c a b d f e):iV c a b d f e (O U 0 0) []:=
 ⟨World.ownsRow_nil c a b 1,λ_ a=>absurd a aF,List.nodup_nil⟩
theorem iV.mods{d n h g f l j m i e}(c:iV d h g f l j m i)(k:ee e d n)(t:∀b a,ed d b g a->¬e b)(q:∀b a,ed d b f a->¬e b):iV n h g f l j m i:=by
 refine⟨eX c.row k (λp r=>?_),λo s=>?_,c.nodup⟩
 .obtain⟨b,d⟩:=j8 c.row r;exact t p b d
 .obtain⟨d,e,f,a,b,g⟩:=c.ent o s;exact⟨d,e,f,a,b.mods k (q _ _ b),g⟩
theorem iV.wZ{g p h e i n l o f c}(b:iV g h e i n l o f)(m:ee c g p)(t:∀k d,ed g k e d->¬c k)(r:∀a∈f,¬c a.1):iV p h e i n l o f:=by
 refine⟨eX b.row m (λq s=>?_),λa j=>?_,b.nodup⟩
 .obtain⟨c,e⟩:=j8 b.row s;exact t q c e
 .obtain⟨c,e,f,d,g,h⟩:=b.ent a j;exact⟨c,e,f,d,g.mods m (r a j),h⟩
theorem iV.push{f l e n g j p D r h S}(o:iV f e n g j p D h)(C:ee S f l)(x:∀k b,ed f k g b->¬S k){c d}(E:e<=f.heap.size)(F:f.heap.size<=c)(z:1<=d)(A:d<=1048577){b}(u:ed l c g b)(y:b.length=d*j)(w:b.drop ((d-1)*j)=p)(B:l.ownsRow e n 1 r (h.length+1) ((h++ [(c,d)]).map ls)):iV l e n g j p r (h++ [(c,d)]):=by
 refine⟨by rw[aw];exact B,λm a=>?_,?_⟩
 .rcases aN.1 a with a | a
  .obtain⟨d,f,g,q,i,h⟩:=o.ent m a;exact⟨d,f,g,q,i.mods C (x _ _ i),h⟩
  .rw [aC]at a;subst a;exact⟨by show e<=c;omega,z,A,b,u,y,w⟩
 .rw [aM,List.nodup_append];refine⟨o.nodup,by simp,λb t s v=>?_⟩;obtain⟨m,a,rfl⟩:=bF.1 t;have:s=c:=by simpa using v
  subst this;obtain⟨_,_,_,q,i,_⟩:=o.ent m a;have:=i.lt;omega
abbrev lastT:List Value:= [J I (-77000000)]
abbrev rh:List Value:= [J I (-77000000),J I 0,J I 0]
abbrev JI:List Value:= [J I (-77000000),O U 0 0,O U 0 0]
abbrev JK:List Value:= [J I (-77000000),O U 0 0,J I 0,J I 0,J I 0,O U 0 0,O U 0 0]
abbrev JH:List Value:= [J I (-77000000),O U 0 0,O U 0 0]
abbrev InT (w:World)(B:Nat)(v:Value)(es:List (Nat×Nat)):Prop:=iV w B 40 43 1 lastT v es
abbrev FE (w:World)(B:Nat)(v:Value)(es:List (Nat×Nat)):Prop:=iV w B 61 60 3 rh v es
abbrev AU (w:World)(B:Nat)(v:Value)(es:List (Nat×Nat)):Prop:=iV w B 36 42 3 JI v es
abbrev rL (w:World)(B:Nat)(v:Value)(es:List (Nat×Nat)):Prop:=iV w B 64 63 7 JK v es
abbrev yo (w:World)(B:Nat)(v:Value)(es:List (Nat×Nat)):Prop:=iV w B 22 66 3 JH v es
def jb (b n:Nat)(w:World)(a:Addr):Option Value:=if a.block≠b/\a.block<n then w.cell? a else U
theorem jZ(b c a):fN (jb b c a) a.cell? :=λb c a=>by
 unfold jb at a
 split at a
 .exact a
 .cases a
theorem px{b n f g d}(i:ee d f g)(h:∀c,c≠b/\c<n->¬d c):fN (jb b n f) (jb b n g):=λj k a=>by
 unfold jb at a ⊢
 split at a
 .rename_i e;rw[am e];exact i.cell a (h _ e)
 .cases a
theorem uz{c d f a e}(b:jb c d f a=M e):a.block≠c/\a.block<d:=by
 unfold jb at b
 split at b
 .assumption
 .cases b
def v8 (T:List TypeId)(w:World)(k:Nat):Prop:=∃t cs,ed w k t cs/\t∈T
def vJ (T:List TypeId)(w:World)(k:Nat):Bool:=match w.heap[k]? with
 | some (zC _ t fr) => decide (t ∈ T) && decide (fr = (0, 0))
 | _ => F
theorem Nw{T c b}(d:v8 T c b):vJ T c b=K:=by
 obtain⟨b,b,a,e⟩:=d;unfold ed at a;simp[vJ,a,e]
theorem Nv{T c b}(a:vJ T c b=K):v8 T c b:=by
 unfold vJ at a
 split at a
 .rename_i d g h f;simp only[aD,decide_eq_true_eq]at a;obtain⟨e,rfl⟩:=a;exact⟨g,d.toList,by unfold ed;simpa using f,e⟩
 .cases a
def OJ (T:List TypeId)(w:World)(a:Addr):Option Value:=if vJ T w a.block=K then w.cell? a else U
theorem wn{T b a}(c:v8 T b a.block):OJ T b a=b.cell? a:=by
 unfold OJ;rw[am (Nw c)]
theorem wt{T c b d}(a:OJ T c b=M d):v8 T c b.block/\c.cell? b=M d:=by
 unfold OJ at a
 split at a
 .rename_i e;exact⟨Nv e,a⟩
 .cases a
theorem qT(T a):fN (OJ T a) a.cell? :=λ_ _ a=>(wt a).2
theorem wu{T c}(e:∀a∈T,a∈c)(d):fN (OJ T d) (OJ c d):=λg h b=>by
 obtain⟨⟨a,c,d,f⟩,b⟩:=wt b;rw[wn ⟨a,c,d,e a f⟩];exact b
theorem jO{T d h e}(g:ee e d h)(i:∀f a b,ed d f a b->a∈T->¬e f):fN (OJ T d) (OJ T h):=λh j c=>by
 obtain⟨⟨a,b,d,f⟩,c⟩:=wt c;have e:=i _ _ _ d f;rw[wn ⟨a,b,d.mods g e,f⟩];exact g.cell c e
theorem rY{T f c b a}(d:ed f c b a)(g:b∈T)(e):OJ T f ⟨c,e,U⟩=a[e]? :=by
 rw[wn ⟨b,a,d,g⟩,d.cell]
theorem q9{T d a c l rest cap}(e:ed d a c (l.map (J .i64)++rest))(g:c∈T)(f:l.length<=cap):eG 1 (gy (OJ T d)) (O (M ⟨a,0,U⟩) l.length cap) l:=by
 refine⟨_,a,0,cap,rfl,f,⟨λ_=>rfl,.inr (.inl rfl)⟩,λa a b=>?_⟩;unfold gy;have a:=(ag.1 b).1;rw[rY e g,bJ,cE,aL (by simpa using a),aU,b]
 rfl
theorem yX{T e d c b rest cap}(i:ed e d c (OH b++rest))(k:c∈T)(j:b.length<=cap):eG 3 (pm (OJ T e)) (O (M ⟨d,0,U⟩) b.length cap) b:=by
 refine⟨_,d,0,cap,rfl,j,⟨λ_=>rfl,.inr (.inl rfl)⟩,λh j g=>?_⟩;have:=(ag.1 g).1
 have a:∀c,c<3->OJ T e ⟨d,0+h*3+c,U⟩=(sr j)[c]? :=λc a=>by
  rw[rY i k,bJ,aL (by rw[qe];omega)];unfold OH;rw[OG (f:=sr) (s:=3) (λ_=>rfl) b h c a,g]
  rfl
 exact⟨a 0 (by omega),a 1 (by omega),a 2 (by omega)⟩
abbrev tT:List TypeId:= [43]
abbrev t3:List TypeId:= [43,60,42]
abbrev t4:List TypeId:= [43,60,42,63]
abbrev t5:List TypeId:= [43,60,42,63,66]
structure HS (w:World)(B bh:Nat)(cs:Oj)(vt vi vf:Value)(ts is fs:List (Nat×Nat)):Prop where
 hands:mD w bh cs
 c0:cs[0]? =M vt
 c1:cs[1]? =M vi
 c2:cs[2]? =M vf
 t:InT w B vt ts
 i:FE w B vi is
 f:AU w B vf fs
 lt:bh<B
 le:B<=w.heap.size
def nC (bh:Nat)(vt vi vf:Value)(k:Nat):Prop:=k=bh\/vt.ownBlock=M k\/vi.ownBlock=M k\/vf.ownBlock=M k
theorem HS.rows{n j h o m l k r q p}(c:HS n j h o m l k r q p){d}(a:nC h m l k d):
  (d=h\/j<=d)/\∃g b,ed n d g b/\(g=53\/g=40\/g=61\/g=36):=by
 rcases a with rfl | a | a | a
 .exact⟨.inl rfl,_,_,c.hands.1,.inl rfl⟩
 .obtain⟨b,e⟩:=j8 c.t.row a;exact⟨.inr (c.t.row.lt d a).1,_,b,e,.inr (.inl rfl)⟩
 .obtain⟨b,e⟩:=j8 c.i.row a;exact⟨.inr (c.i.row.lt d a).1,_,b,e,.inr (.inr (.inl rfl))⟩
 .obtain⟨b,e⟩:=j8 c.f.row a;exact⟨.inr (c.f.row.lt d a).1,_,b,e,.inr (.inr (.inr rfl))⟩
theorem HS.other{h i b k g f e r q l}(m:HS h i b k g f e r q l){d a j}(n:ed h d a j)(p:¬(a=53\/a=40\/a=61\/a=36)):¬nC b g f e d:=λo=>by
 obtain⟨_,a,a,a,c⟩:=m.rows o;rw[a.uniq n]at c;exact p c
theorem HS.stay{h r c j k q p o n m l S}(b:HS h c j k q p o n m l)(g:ee S h r)(s:∀d a e,ed h d a e->S d->¬(a=53\/a=40\/a=61\/a=36\/a=43\/a=60\/a=42)):HS r c j k q p o n m l:=by
 have c:∀(a:TypeId),(a=53\/a=40\/a=61\/a=36\/a=43\/a=60\/a=42)->∀d e,ed h d a e->¬S d:=λa g d e b c=>s d a e b c g;exact⟨⟨b.hands.1.mods g (c _ (by simp) _ _ b.hands.1),b.hands.2⟩,b.c0,b.c1,b.c2,b.t.mods g (c _ (by simp)) (c _ (by simp)),b.i.mods g (c _ (by simp)) (c _ (by simp)),b.f.mods g (c _ (by simp)) (c _ (by simp)),b.lt,ap b.le g.size⟩
theorem HS.ri{n u e d g l s r k q o}(a:HS n e d g l s r k q o){j p m}(v:j.length<=1048576)(b:um n u d g l e k j p m):
  HS u e d (g.set 0 m) m s r (k++ [(p,j.length+1)]) q o:=by
 have c:∀(c:TypeId),c≠53->c≠40->∀b e,ed n b c e->¬(b=d\/l.ownBlock=M b):=λc g j b e d h=>by
  rcases h with rfl | h
  .exact g (d.uniq a.hands.1)
  .obtain⟨k,k⟩:=j8 a.t.row h;exact j (d.uniq k)
 have:=a.hands.2;refine⟨b.hands,by rw[aA (by omega)],by rw[ah (by omega)];exact a.c1,by rw[ah (by omega)];exact a.c2,?_,?_,?_,a.lt,ap a.le b.mods.size⟩
 .exact a.t.push b.mods (c _ (by decide) (by decide)) a.le b.new (by omega) (by omega) b.blk (by simp) (by simp) b.row
 .exact a.i.mods b.mods (c _ (by decide) (by decide)) (c _ (by decide) (by decide))
 .exact a.f.mods b.mods (c _ (by decide) (by decide)) (c _ (by decide) (by decide))
theorem HS.DK{h i a k g f e p o l}(m:HS h i a k g f e p o l){c d j}(n:ed h c d j)(b:d∈t5):¬nC a g f e c:=by
 refine m.other n ?_;simp only[aE,aF,or_false]at b
 rcases b with rfl | rfl | rfl | rfl | rfl <;> decide
theorem HS.KO{l c a g f e d k j h}(i:HS l c a g f e d k j h){b}(m:b≠a/\b<c):¬nC a f e d b:=λa=>by
 have:=(i.rows a).1;omega
theorem HS.J4{d j e b f c i h g n l}(_h:HS d e b f c i h g n l){o m p}(k:um d j b f c e g o m p):
  ee (nC b c i h) d j:=k.mods.mono λb _ a=>by
 rcases a with a | a
 .exact .inl a
 .exact .inr (.inl a)
section
attribute [local go_sem ↓] Go.wp_at_zero Go.wp_at_succ
end
end Go.Proofs.YtiiokkllmchohaaGreat
