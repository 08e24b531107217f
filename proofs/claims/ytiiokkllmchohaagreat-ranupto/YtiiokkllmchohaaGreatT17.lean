/- A range over a function whose body may panic: one round, the statement, and the function that holds it. -/
import Derived.RangeFuncNested
import Derived.RangeFuncBound
import Derived.RangeFuncCalls
import Derived.Test.YtiiokkllmchohaaGreatT01
set_option maxHeartbeats 0
set_option maxRecDepth 99999
namespace Go.Proofs.YtiiokkllmchohaaGreat
open Go.Value renaming int->J,slice->O,pointer->zP,bool->zB
open Go.IntKind renaming i64->I
open Option renaming none->U,some->M
open Bool renaming true->K,false->F
open Go.Ending renaming returned->zR
open Go.Obj renaming cells->zC
open Go.RowKit
def Mb (P:Program)(l:Nat)(R:Ending->World->Prop):Exit->Act->World->Prop
 | .normal, _, w => ∃ v w', (Instr.endRound l U).run P w = .ok v w' /\ R (zR v) w'
 | .panic c, a, w => a.defers = [] /\ R (.panicked c) w
 | _, _, _ => False
theorem Mc{d p P c f A q o e w z}(B:d.fn f)(U:P.funcs[f]? =M A)(L:o.wpIn (d.inRound c) p P (Exit.then (λk x =>∃r,(Instr.beginRound c).run P x = .ok () r/\e.wpIn (d.inRound c) p P (Mb P c z) k r) (λ_ _ _=>False)) { tmps:=q,defers:= [] } w):
  RoundIn d p P c f q o e w z:=by
 refine⟨B,λg h V=>?_⟩;obtain⟨b,m⟩:∃b:Frame,b= { (default:Frame) with fn:=f,kind:=.normal,roundOf:=M c } :=⟨_,rfl⟩
 have N:Frame.round c f q o e .normal=b.atR { tmps:=q,defers:= [] } [.code o,.beginRound,.code e]:=by
  simp[Frame.round,Frame.atR,m]
 have G:b.roundOf=(d.inRound c).round:=by rw[m];rfl
 have E:b.roundOf=M c:=by rw[m]
 have O:b.kind= .normal:=by rw[m]
 have D:b.fn=f:=by rw[m]
 have l:(d.inRound c).fn b.fn:=by rw[D];exact B
 have n:(d.inRound c).room ((g::h).length+1+p):=V;obtain⟨J,k,x,i,v⟩:=L b [.beginRound,.code e] (g::h) G l n;rw[<-N]at v
 cases J with
 | normal =>
  obtain⟨r,S,R⟩:=i
  have H:StepsIn (Machine.fenced P (d.inRound c)) P (lone (b.atR k [.beginRound,.code e]) (g::h) x) (lone (b.atR k [.code e]) (g::h) r):=
   .one (fenced_calm (fr:=b.atR k [.beginRound,.code e]) l n rfl) (stepR_beginRound E S)
  obtain⟨K,s,y,j,C⟩:=R b [] (g::h) G l n
  cases K with
  | normal =>
   obtain⟨e,k,F,u⟩:=j;exact⟨zR e,k,u,(StepsIn.trans v H).trans (StepsIn.trans C (.one (fenced_calm (fr:=b.atR s []) l n rfl) (stepR_round_end E O F)))⟩
  | panic OC =>
   obtain⟨T,u⟩:=j;obtain⟨I,W⟩:=C;have F:Frame.leaving P { b.atR s I with mode:=.panicking OC } y (.panicked OC):=⟨rfl,T,A,by rw[<-U,<-D];rfl⟩;have e:(lone { b.atR s I with mode:=.panicking OC } (g::h) y).fenced P (d.inRound c):=fenced_leaving l n F;exact⟨.panicked OC,y,u,(StepsIn.trans v H).trans (StepsIn.trans W (.one e (step_leave_panicked F)))⟩
  | ret => exact j.elim
  | exit id => exact j.elim
  | goto t => exact j.elim
  | outgrown => exact j.elim
 | exit id => exact i.elim
 | goto t => exact i.elim
 | ret => exact i.elim
 | panic OC => exact i.elim
 | outgrown => exact i.elim
def jI (P:Program)(f:FuncId)(c:Code)(Q:Exit->Act->World->Prop)(a:Act)(w:World):Prop:=
 ∀(b:Frame) (k:List Item) (cs:List Frame),b.roundOf=U->b.fn=f->∃e a' w',Q e a' w'/\ArrivesIn (Machine.fenced P Fence.wide) P (lone (b.atR a (.code c::k)) cs w) b k cs e a' w'
section
variable {P : Program} {f : FuncId} {Q : Exit -> Act -> World -> Prop} {a : Act} {w : World}
theorem ph{b}(d:b.wp P Q a w):jI P f b Q a w:=λb g c e _=>(wpIn_wide (n:=0)).2 d b g c e trivial (room_wide _)
theorem Ob{d c}(e:jI P f d Q a w)(h:∀b a w,Q b a w->c b a w):jI P f d c a w:=λc j d i g=>let ⟨b,a',w',q,r⟩:=e c j d i g;⟨b,a',w',h _ _ _ q,r⟩
theorem pg{c b}(w):(lone c b w).fenced P Fence.wide:=fenced_wide P _
theorem AL{x b}(p:jI P f x (Exit.then (jI P f b Q) Q) a w):jI P f (Code.seq x b) Q a w:=by
 intro i k j n m;obtain⟨o,g,h,d,c⟩:=p i (.code b::k) j n m;have e:StepsIn (Machine.fenced P Fence.wide) P (lone (i.atR a (.code (.seq x b)::k)) j w) (lone (i.atR a (.code x:: .code b::k)) j w):=.one (pg _) stepR_seq
 cases o with
 | normal =>
  obtain⟨p,o,s,r,q⟩:=d i k j n m;exact⟨p,o,s,r,.of_steps (e.trans c) q⟩
 | exit id => exact ⟨_, g, h, d, .of_steps e (.pass (x := .code b) rfl (λ_ _ => .inl (by simp)) c)⟩
 | goto l => exact ⟨_, g, h, d, .of_steps e (.pass (x := .code b) rfl (λ_ _ => .inl (by simp)) c)⟩
 | ret => exact ⟨_, g, h, d, .of_steps e (.pass (x := .code b) rfl (λ_ _ => .inl (by simp)) c)⟩
 | panic ch => exact ⟨_, g, h, d, .of_steps e (.pass (x := .code b) rfl (λ_ _ => .inl (by simp)) c)⟩
 | outgrown => exact ⟨_, g, h, d, .of_steps e (.pass (x := .code b) rfl (λ_ _ => .inl (by simp)) c)⟩
theorem lO{x b}(c:x.wp P (Exit.then (jI P f b Q) Q) a w):jI P f (Code.seq x b) Q a w:=AL (ph c)
theorem yd{id j}(n:jI P f j (Exit.inBlock id Q) a w):jI P f (Code.block id j) Q a w:=by
 intro i c m p r;have o:¬i.roundOf.isSome=K:=by rw[p];simp
 have g:StepsIn (Machine.fenced P Fence.wide) P (lone (i.atR a (.code (.block id j)::c)) m w) (lone (i.atR a (.code j:: .inBlock id::c)) m w):=.one (pg _) stepR_block;obtain⟨q,d,h,b,e⟩:=n i (.inBlock id::c) m p r
 cases q with
 | normal => exact ⟨.normal, d, h, b, g.trans (StepsIn.trans e (.one (pg _) stepR_inBlock))⟩
 | exit id' =>
  by_cases k:id'=id
  .simp only [Exit.inBlock,k,if_true]at b;exact⟨.normal,d,h,b,g.trans (e.1 c (by simp[exitTo,k]))⟩
  .simp only [Exit.inBlock,k,if_false]at b;have i:(id == id')=F:=(by simp;exact λn=>k n.symm);have hx:exitTo id' (.inBlock id::c)=exitTo id' c:=(by simp[exitTo,i]);exact⟨.exit id',d,h,b,λd b=>g.trans (e.1 d (by rw[hx];exact b)),λc _=>absurd c o⟩
 | goto l =>
  have hx:gotoIn l (.inBlock id::c)=gotoIn l c:=by simp[gotoIn]
  exact⟨_,d,h,b,λd b=>g.trans (e.1 d (by rw[hx];exact b)),λc _=>absurd c o⟩
 | ret => exact ⟨_, d, h, b, .of_steps g e⟩
 | panic ch => exact ⟨_, d, h, b, .of_steps g e⟩
 | outgrown => exact ⟨_, d, h, b, .of_steps g e⟩
theorem N9{c}(m:Nat->Act->World->Prop)(b)(y :m b a w)(round:∀b a w,m b a w->jI P f c (Exit.then (λg j=>∃n,n<b/\m n g j) Q) a w):jI P f (Code.loop c) Q a w:=by
 intro o q p v t
 have z:∀b a w,m b a w->∃i g j,Q i g j/\ArrivesIn (Machine.fenced P Fence.wide) P (lone (o.atR a (.code c:: .inLoop c::q)) p w) o q p i g j:=by
  intro b
  induction b using Nat.strongRecOn with
  | _ b ih =>
   intro a w r;obtain⟨i,h,k,e,d⟩:=round b a w r o (.inLoop c::q) p v t
   cases i with
   | normal =>
    obtain⟨n,u,s⟩:=e;obtain⟨o,m,r,q,p⟩:=ih n u h k s;exact⟨o,m,r,q,.of_steps (StepsIn.trans d (.one (pg _) stepR_inLoop)) p⟩
   | exit id => exact ⟨_, h, k, e, .pass (x := .inLoop c) rfl (λ_ _ => .inl (by simp)) d⟩
   | goto l => exact ⟨_, h, k, e, .pass (x := .inLoop c) rfl (λ_ _ => .inl (by simp)) d⟩
   | ret => exact ⟨_, h, k, e, .pass (x := .inLoop c) rfl (λ_ _ => .inl (by simp)) d⟩
   | panic ch => exact ⟨_, h, k, e, .pass (x := .inLoop c) rfl (λ_ _ => .inl (by simp)) d⟩
   | outgrown => exact ⟨_, h, k, e, .pass (x := .inLoop c) rfl (λ_ _ => .inl (by simp)) d⟩
 obtain⟨i,g,j,e,d⟩:=z b a w y;exact⟨i,g,j,e,.of_steps (.one (pg _) stepR_loop) d⟩
end
def tL (P:Program)(fn:Func)(R:Ending->World->Prop):Exit->Act->World->Prop:=bodyPostM Fence.wide 0 P fn R
theorem Bv{P f e x d w D}(E:P.funcs[f]? =M e)(H:e.body=M x)(G:jI P f x (tL P e D) { tmps:=d++Array.replicate (e.ntmps-d.size) undef,defers:= [] } w):Calls P f d w D:=by
 refine(callsIn_wide (n:=0)).1 ⟨trivial,λs z=>?_⟩;obtain⟨b,t⟩:∃b:Frame,b= { (default:Frame) with fn:=f,kind:=.normal,roundOf:=U } :=⟨_,rfl⟩
 have I:Frame.enter P f d .normal=b.atR { tmps:=d++Array.replicate (e.ntmps-d.size) undef,defers:= [] } [.code x]:=by
  simp[Frame.enter,Frame.atR,E,H,t]
 have A:b.roundOf=U:=by rw[t]
 have u:b.kind= .normal:=by rw[t]
 have g:b.fn=f:=by rw[t]
 obtain⟨F,c,v,h,m⟩:=G b [] s A g;rw[<-I]at m;have y:P.funcs[b.fn]? =M e:=by rw[g];exact E
 cases F with
 | normal =>
  obtain⟨i,r,j,k,q,o,p⟩:=leaves_stepsInM c.defers .returning v { b.atR c [] with mode:=.returning } s rfl rfl rfl y u trivial z h;exact⟨i,r,j,k,ComesIn.of_steps (StepsIn.trans m (.one (pg _) (stepR_end A))) q,o.trans g,p⟩
 | ret =>
  obtain⟨C,B⟩:=m.1 A;obtain⟨i,r,j,k,q,o,p⟩:=leaves_stepsInM c.defers .returning v { b.atR c C with mode:=.returning } s rfl rfl rfl y u trivial z h;exact⟨i,r,j,k,ComesIn.of_steps B q,o.trans g,p⟩
 | panic OC =>
  obtain⟨C,B⟩:=m;obtain⟨i,r,j,k,q,o,p⟩:=leaves_stepsInM c.defers (.panicking OC) v { b.atR c C with mode:=.panicking OC } s rfl rfl rfl y u trivial z h;exact⟨i,r,j,k,ComesIn.of_steps B q,o.trans g,p⟩
 | exit id => exact h.elim
 | goto l => exact h.elim
 | outgrown => exact ⟨.outgrown, v, b, h, m.resolve_left (by rw[u]; simp), g, trivial⟩
def qV (x:Int×Bool):Array Value:= #[J I x.1,zB x.2]
def Bc (P:Program)(g:Nat)(lb:Array Value)(S:Nat->Prop)(outs:List (Int×Bool))(w:World):Prop:=
 ∀(l:Nat) (J:List (Int×Bool)->World->Prop) (Jp:List PanicEntry->World->Prop) (W:World),Below w.heap.size w W->w.heap.size<=l->l<W.heap.size->
  (∀xs W W',J xs W->Below W.heap.size W W'->J xs W')->
  (∀x xs W1,J (x::xs) W1->YieldAt Fence.wide 0 P l (qV x) W1 λe W'=>(e=zR (zB K)/\J xs W'/\ee (λk=>S k\/k=l) W1 W')\/(∃c,e= .panicked c/\Jp c W'))->
  J outs W->
  CallsIn Fence.wide 0 P g (#[.func (.yield l) #[] #[]]++lb) W λe W'=>(∃v,e=zR v/\J [] W')\/(∃c,e= .panicked c/\Jp c W')
def Lx (S:Nat->Prop)(I:List (Int×Bool)->World->Prop)(Ip:List PanicEntry->World->Prop)(xs:List (Int×Bool))(W:World):Exit->Act->World->Prop
 | .normal, _, W' => ee S W W' /\ I xs W'
 | .panic c, a, W' => a.defers = [] /\ ee S W W' /\ Ip c W'
 | _, _, _ => False
theorem ee.putObj{S b c}(e)(d:S c):ee S b (b.putObj c e):=
 ⟨rfl,rfl,rfl,by simp,λe _ c=>World.putObj_heap_other (λb=>c (b▸d))⟩
theorem Fw {P:Program}{f:FuncId}{ad:Func}{C:Operand}{y:Array Tmp}{assign body:Code}{Q:Exit->Act->World->Prop}{a:Act}{w:World}(a6:P.funcs[f]? =M ad)
  {gf:Nat} {lb:Array Value} (a8:a.eval C= .func (.func gf) #[] lb) (ac:∀N w,(callFunc gf N).run P w= .ok (.enter gf N) w)
  {r:Nat->Prop} {J:List (Int×Bool)} (bz:Bc P gf lb r J w) (bk:y.size=2) (D:∀e,r e->e<w.heap.size)
  (j:List (Int×Bool)->World->Prop) (A:List PanicEntry->World->Prop) (s:∀h c B,j h c->ee (λe=>w.heap.size<=e) c B->j h B)
  (ak:j J w) (O :Int×Bool->Act)
  (a0:∀(I:Nat) (x:Int×Bool) (c:World) (K:Act->World->Prop),K (O x) c->
    assign.wpIn (Fence.wide.inRound I) 0 P (Exit.then K (λ_ _ _=>False)) { tmps:=(y.zip (qV x)).foldl (λab (p,L)=>ab.setIfInBounds p L) a.tmps,defers:= [] } c)
  (a2:∀(I:Nat) (x:Int×Bool) (h:List (Int×Bool)) (c:World),j (x::h) c->body.wpIn (Fence.wide.inRound I) 0 P (Lx r j A h c) (O x) c)
  (a4:∀(m:Nat) (c:World),w.heap.size<=m->j [] c->c.heap[m]? =M (.deferred (M []))->Q .normal { a with defers:= { target:=.collected m,args:= #[] } ::a.defers } c)
  (bh:∀(m:Nat) (i:List PanicEntry) (c:World),w.heap.size<=m->A i c->c.heap[m]? =M (.deferred (M []))->Q (.panic i) { a with defers:= { target:=.collected m,args:= #[] } ::a.defers } c) :
  jI P f (Code.rangeFunc C y assign body) Q a w:=by
 intro z e R bo a1;obtain⟨d,l⟩:∃d:LoopState->Loop,d=λc=> { state:=c,pending:=U,fn:=f,tmps:=a.tmps,params:=y,assign,body,defers:=w.heap.size } :=⟨_,rfl⟩;obtain⟨g,t⟩:∃g,(w.alloc (.deferred (M []))).alloc (.loop (d .ready))=g:=⟨_,rfl⟩
 have ar:g.heap[w.heap.size+1]? =M (.loop (d .ready)):=by
  rw[<-t];have:=World.alloc_heap_new (w.alloc (.deferred (M []))) (.loop (d .ready));rwa[World.size_alloc]at this
 have ao:g.heap[w.heap.size]? =M (.deferred (M [])):=by
  rw[<-t];exact(cO _ _ _ (by simp)).trans (World.alloc_heap_new w _)
 have V:Below w.heap.size w g:=by rw[<-t];exact gS _ _ _
 have an:j J g:=s _ _ _ ak ((Ox V).mono (λ_ _ c=>c));have Z:∀c,(d c).state=c:=λc=>by rw[l]
 have m:∀c,(d c).pending=U:=λc=>by rw[l]
 have br:∀c e,{ d c with state:=e } =d e:=λc e=>by rw[l]
 have bs:∀c e,{ d c with state:=e,pending:=U } =d e:=λc e=>by rw[l]
 have a5:(Instr.enterLoop z.fn a.tmps y assign body z.roundOf).run P w= .ok (w.heap.size+1,[{ target:=.collected w.heap.size,args:= #[] }]) g:=by
  rw[bo,a1,<-t,l];exact run_enterLoop_outer _ _ _ _ _
 have bn:(resolve a.eval (rangeCall C (w.heap.size+1)) 0).run P g= .ok { target:=.fn (.func gf) lb,args:= #[.func (.yield (w.heap.size+1)) #[] #[]] } g:=by
  simp only[resolve,a8];simp[go_sem]
 have ba:(invoke (.fn (.func gf) lb) #[.func (.yield (w.heap.size+1)) #[] #[]]).run P g= .ok (.enter gf (#[.func (.yield (w.heap.size+1)) #[] #[]]++lb)) g:=by
  simp[invoke,go_sem,ac]
 have W:=stepR_rangeFunc (P:=P) (b:=z) (a:=a) (k:=e) (cs:=R) (w:=w) a5 bn ba
 have a3:=bz (w.heap.size+1)
  (λh c=>j h c/\c.heap[w.heap.size+1]? =M (.loop (d .ready))/\c.heap[w.heap.size]? =M (.deferred (M [])))
  (λi c=>A i c/\c.heap[w.heap.size]? =M (.deferred (M []))) g V (by omega) (by rw[<-t];simp)
  (λh c B d c=>⟨s _ _ _ d.1 ⟨c.os,c.tape,c.output,c.size,λe n _=>c.block e n⟩,(c.block _ (aY.1 d.2.1).1).trans d.2.1,(c.block _ (aY.1 d.2.2).1).trans d.2.2⟩)
  (by
    rintro x h c ⟨n,o,u⟩;have G:w.heap.size+1<c.heap.size:=(aY.1 o).1;have aa:=run_yield (P:=P) (args:=qV x) o (by rw[l];exact bk.symm);rw[l]at aa;refine⟨f,_,assign,body,aa,Mc trivial a6 (a0 _ x c _ ⟨_,run_beginRound o (Z _),?_⟩)⟩;rw[br];have bc:(c.putObj (w.heap.size+1) (.loop (d .busy))).heap[w.heap.size+1]? =M (.loop (d .busy)):=World.putObj_heap_same G;have X:(c.putObj (w.heap.size+1) (.loop (d .busy))).heap[w.heap.size]? =M (.deferred (M [])):=(World.putObj_heap_other (by omega)).trans u;have be:ee (λe=>w.heap.size<=e) c (c.putObj (w.heap.size+1) (.loop (d .busy))):=ee.putObj _ (by omega);have bf:ee (λe=>r e\/e=w.heap.size+1) c (c.putObj (w.heap.size+1) (.loop (d .busy))):=ee.putObj _ (.inr rfl);refine wpIn_mono (a2 _ x h _ (s _ _ _ n be)) ?_;rintro T c c q
    cases T with
    | normal =>
     obtain⟨v,E⟩:=q;have Y:=(v.block _ (by simpa using G) (λc=>by have:=D _ c;omega)).trans bc;have F:=(v.block w.heap.size (by simp;omega) (λc=>by have:=D _ c;omega)).trans X;have H:=run_endRound (P:=P) U Y;simp only[Option.isNone_none,if_true]at H;rw[bs]at H;refine⟨_,_,H,.inl ⟨rfl,⟨s _ _ _ E (ee.putObj _ (by omega)),World.putObj_heap_same (aY.1 Y).1,(World.putObj_heap_other (by omega)).trans F⟩,?_⟩⟩;exact(bf.trans (v.mono (λ_ _ c=>dd c)) (λ_ _ c=>c)).trans (ee.putObj (S:=λe=>r e\/e=w.heap.size+1) _ (.inr rfl)) (λ_ _ c=>c)
    | panic i =>
     obtain⟨c,v,E⟩:=q;have F:=(v.block w.heap.size (by simp;omega) (λc=>by have:=D _ c;omega)).trans X;exact⟨c,.inr ⟨i,rfl,E,F⟩⟩
    | ret => exact q.elim
    | exit id => exact q.elim
    | goto ab => exact q.elim
    | outgrown => exact q.elim)
  ⟨an,ar,ao⟩
 obtain⟨T,q,c,F,E,c,v⟩:=a3.2 (z.atR { a with defers:= [{ target:=.collected w.heap.size,args:= #[] }]++a.defers } (.inRangeFunc (w.heap.size+1)::e)::R) (room_wide _)
 rcases F with ⟨L,rfl,n,o,u⟩ | ⟨i,rfl,n,u⟩
 .have H:(Instr.endLoop (w.heap.size+1)).run P q = .ok U (q.putObj (w.heap.size+1) (.loop (d .exhausted))):=by
   have:=run_endLoop (P:=P) o (by rw[Z];simp);rw[l]at this ⊢;exact this
  have G:=(aY.1 o).1;refine⟨.normal,_,q.putObj (w.heap.size+1) (.loop (d .exhausted)),a4 w.heap.size _ (ai _) (s _ _ _ n (ee.putObj _ (by omega))) ((World.putObj_heap_other (by omega)).trans u),?_⟩;refine .head (pg _) W (StepsIn.trans E (.head (pg _) ?_ (.one (pg _) (stepR_endRangeFunc H))));rw[<-finish_atR_inRangeFunc (w.heap.size+1) L];exact step_leave_returned v
 .refine⟨.panic i,_,q,bh w.heap.size i _ (ai _) n u,.inRangeFunc (w.heap.size+1)::e,.head (pg _) W (StepsIn.trans E (.one (pg _) ?_))⟩;rw[<-Frame.raise_atR];exact step_leave_panicked v
end Go.Proofs.YtiiokkllmchohaaGreat
