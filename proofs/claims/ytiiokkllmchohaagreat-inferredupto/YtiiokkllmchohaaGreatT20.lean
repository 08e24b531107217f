/- A range over a function whose body may panic: one round, the statement, and the function that holds it. -/
import Derived.RangeFuncNested
import Derived.RangeFuncBound
import Derived.RangeFuncCalls
import Derived.Test.YtiiokkllmchohaaGreatT01
set_option maxHeartbeats 4000000
set_option maxRecDepth 100000
namespace Go.Proofs.YtiiokkllmchohaaGreat
open Go.RowKit
def ai8 (P:Program)(l:Nat)(R:Ending→World→Prop):Exit→Act→World→Prop
 | .normal, _, w => ∃ v w', (Instr.endRound l none).run P w = .ok v w' ∧ R (.returned v) w'
 | .panic c, a, w => a.defers = [] ∧ R (.panicked c) w
 | _, _, _ => False

theorem ai9 {F:Fence}{n:Nat}{P:Program}{l:Nat}{f:FuncId}{fn:Func}{tmps:Array Value}{assign body:Code}{w:World}{R:Ending→World→Prop}(hF:F.fn f)(hf:P.funcs[f]? =some fn)
  (h:assign.wpIn (F.inRound l) n P (Exit.then (fun a₁ w₁ =>∃w₂,(Instr.beginRound l).run P w₁ = .ok () w₂∧body.wpIn (F.inRound l) n P (ai8 P l R) a₁ w₂) (fun _ _ _=>False)) { tmps:=tmps,defers:= [] } w) :
  RoundIn F n P l f tmps assign body w R:=by
 refine⟨hF,fun c cs hr=>?_⟩;obtain⟨b,hb⟩:∃b:Frame,b= { (default:Frame) with fn:=f,kind:=.normal,roundOf:=some l } :=⟨_,rfl⟩
 have hb0:Frame.round l f tmps assign body .normal=b.atR { tmps:=tmps,defers:= [] } [.code assign,.beginRound,.code body]:=by
  simp [Frame.round,Frame.atR,hb]
 have hro:b.roundOf=(F.inRound l).round:=by rw [hb];rfl
 have hbl:b.roundOf=some l:=by rw [hb]
 have hbk:b.kind= .normal:=by rw [hb]
 have hbf:b.fn=f:=by rw [hb]
 have hF':(F.inRound l).fn b.fn:=by rw [hbf];exact hF
 have hr':(F.inRound l).room ((c::cs).length+1+n):=hr;obtain⟨e,a₁,w₁,hq,harr⟩:=h b [.beginRound,.code body] (c::cs) hro hF' hr';rw [←hb0] at harr
 cases e with
 | normal =>
  obtain⟨w₂,hbr,hbody⟩:=hq
  have s1:StepsIn (Machine.fenced P (F.inRound l)) P (lone (b.atR a₁ [.beginRound,.code body]) (c::cs) w₁) (lone (b.atR a₁ [.code body]) (c::cs) w₂):=
   .one (fenced_calm (fr:=b.atR a₁ [.beginRound,.code body]) hF' hr' rfl) (stepR_beginRound hbl hbr)
  obtain⟨e₂,a₂,w₃,hq₂,harr₂⟩:=hbody b [] (c::cs) hro hF' hr'
  cases e₂ with
  | normal =>
   obtain⟨v,w₄,hend,hR⟩:=hq₂;exact⟨.returned v,w₄,hR,(StepsIn.trans harr s1).trans (StepsIn.trans harr₂ (.one (fenced_calm (fr:=b.atR a₂ []) hF' hr' rfl) (stepR_round_end hbl hbk hend)))⟩
  | panic chain =>
   obtain⟨hd,hR⟩:=hq₂;obtain⟨todo,hs⟩:=harr₂;have hlv:Frame.leaving P { b.atR a₂ todo with mode:=.panicking chain } w₃ (.panicked chain):=⟨rfl,hd,fn,by rw [←hf,←hbf];rfl⟩;have hfe:(lone { b.atR a₂ todo with mode:=.panicking chain } (c::cs) w₃).fenced P (F.inRound l):=fenced_leaving hF' hr' hlv;exact⟨.panicked chain,w₃,hR,(StepsIn.trans harr s1).trans (StepsIn.trans hs (.one hfe (step_leave_panicked hlv)))⟩
  | ret => exact hq₂.elim
  | exit id => exact hq₂.elim
  | goto t => exact hq₂.elim
  | outgrown => exact hq₂.elim
 | exit id => exact hq.elim
 | goto t => exact hq.elim
 | ret => exact hq.elim
 | panic chain => exact hq.elim
 | outgrown => exact hq.elim

def ng (P:Program)(f:FuncId)(c:Code)(Q:Exit→Act→World→Prop)(a:Act)(w:World):Prop:=
 ∀(b:Frame) (k:List Item) (cs:List Frame),b.roundOf=none→b.fn=f→∃e a' w',Q e a' w'∧ArrivesIn (Machine.fenced P Fence.wide) P (lone (b.atR a (.code c::k)) cs w) b k cs e a' w'
section
variable {P : Program} {f : FuncId} {Q : Exit → Act → World → Prop} {a : Act} {w : World}
theorem Ea {c:Code}(h:c.wp P Q a w):ng P f c Q a w:=fun b k cs hro _=>(wpIn_wide (n:=0)).2 h b k cs hro trivial (room_wide _)
theorem aks {c:Code}{Q':Exit→Act→World→Prop}(h:ng P f c Q a w)(hq:∀e a w,Q e a w→Q' e a w):ng P f c Q' a w:=fun b k cs hro hb=>let ⟨e,a',w',q,r⟩:=h b k cs hro hb;⟨e,a',w',hq _ _ _ q,r⟩
theorem yg {fr:Frame}{cs:List Frame}(w:World):(lone fr cs w).fenced P Fence.wide:=fenced_wide P _
theorem P5 {x y:Code}(h:ng P f x (Exit.then (ng P f y Q) Q) a w):ng P f (Code.seq x y) Q a w:=by
 intro b k cs hro hb;obtain⟨e,a₁,w₁,hq,harr⟩:=h b (.code y::k) cs hro hb;have s0:StepsIn (Machine.fenced P Fence.wide) P (lone (b.atR a (.code (.seq x y)::k)) cs w) (lone (b.atR a (.code x:: .code y::k)) cs w):=.one (yg _) stepR_seq
 cases e with
 | normal =>
  obtain⟨e₂,a₂,w₂,hq₂,harr₂⟩:=hq b k cs hro hb;exact⟨e₂,a₂,w₂,hq₂,.of_steps (s0.trans harr) harr₂⟩
 | exit id => exact ⟨_, a₁, w₁, hq, .of_steps s0 (.pass (x := .code y) rfl (fun _ _ => .inl (by simp)) harr)⟩
 | goto l => exact ⟨_, a₁, w₁, hq, .of_steps s0 (.pass (x := .code y) rfl (fun _ _ => .inl (by simp)) harr)⟩
 | ret => exact ⟨_, a₁, w₁, hq, .of_steps s0 (.pass (x := .code y) rfl (fun _ _ => .inl (by simp)) harr)⟩
 | panic ch => exact ⟨_, a₁, w₁, hq, .of_steps s0 (.pass (x := .code y) rfl (fun _ _ => .inl (by simp)) harr)⟩
 | outgrown => exact ⟨_, a₁, w₁, hq, .of_steps s0 (.pass (x := .code y) rfl (fun _ _ => .inl (by simp)) harr)⟩
theorem jY {x y:Code}(h:x.wp P (Exit.then (ng P f y Q) Q) a w):ng P f (Code.seq x y) Q a w:=P5 (Ea h)
theorem D9 {id:Nat}{c:Code}(h:ng P f c (Exit.inBlock id Q) a w):ng P f (Code.block id c) Q a w:=by
 intro b k cs hro hb;have hrn:¬b.roundOf.isSome=true:=by rw [hro];simp
 have s0:StepsIn (Machine.fenced P Fence.wide) P (lone (b.atR a (.code (.block id c)::k)) cs w) (lone (b.atR a (.code c:: .inBlock id::k)) cs w):=.one (yg _) stepR_block;obtain⟨e,a₁,w₁,hq,harr⟩:=h b (.inBlock id::k) cs hro hb
 cases e with
 | normal => exact ⟨.normal, a₁, w₁, hq, s0.trans (StepsIn.trans harr (.one (yg _) stepR_inBlock))⟩
 | exit id' =>
  by_cases hid:id'=id
  ·simp only [Exit.inBlock,hid,if_true] at hq;exact⟨.normal,a₁,w₁,hq,s0.trans (harr.1 k (by simp [exitTo,hid]))⟩
  ·simp only [Exit.inBlock,hid,if_false] at hq;have hne:(id == id')=false:=by simp;exact fun h=>hid h.symm
   have hx:exitTo id' (.inBlock id::k)=exitTo id' k:=by simp [exitTo,hne]
   exact⟨.exit id',a₁,w₁,hq,fun k' hk=>s0.trans (harr.1 k' (by rw [hx];exact hk)),fun hr' _=>absurd hr' hrn⟩
 | goto l =>
  have hx:gotoIn l (.inBlock id::k)=gotoIn l k:=by simp [gotoIn]
  exact⟨_,a₁,w₁,hq,fun k' hk=>s0.trans (harr.1 k' (by rw [hx];exact hk)),fun hr' _=>absurd hr' hrn⟩
 | ret => exact ⟨_, a₁, w₁, hq, .of_steps s0 harr⟩
 | panic ch => exact ⟨_, a₁, w₁, hq, .of_steps s0 harr⟩
 | outgrown => exact ⟨_, a₁, w₁, hq, .of_steps s0 harr⟩
theorem VJ {c:Code}(I:Nat→Act→World→Prop)(m:Nat)(h₀ :I m a w)
  (round:∀m a w,I m a w→ng P f c (Exit.then (fun a' w'=>∃m',m'<m∧I m' a' w') Q) a w):ng P f (Code.loop c) Q a w:=by
 intro b k cs hro hb
 have key:∀m a w,I m a w→∃e a' w',Q e a' w'∧ArrivesIn (Machine.fenced P Fence.wide) P (lone (b.atR a (.code c:: .inLoop c::k)) cs w) b k cs e a' w':=by
  intro m
  induction m using Nat.strongRecOn with
  | _ m ih =>
   intro a w hI;obtain⟨e,a₁,w₁,hq,harr⟩:=round m a w hI b (.inLoop c::k) cs hro hb
   cases e with
   | normal =>
    obtain⟨m',hlt,hI'⟩:=hq;obtain⟨e₂,a₂,w₂,hq₂,harr₂⟩:=ih m' hlt a₁ w₁ hI';exact⟨e₂,a₂,w₂,hq₂,.of_steps (StepsIn.trans harr (.one (yg _) stepR_inLoop)) harr₂⟩
   | exit id => exact ⟨_, a₁, w₁, hq, .pass (x := .inLoop c) rfl (fun _ _ => .inl (by simp)) harr⟩
   | goto l => exact ⟨_, a₁, w₁, hq, .pass (x := .inLoop c) rfl (fun _ _ => .inl (by simp)) harr⟩
   | ret => exact ⟨_, a₁, w₁, hq, .pass (x := .inLoop c) rfl (fun _ _ => .inl (by simp)) harr⟩
   | panic ch => exact ⟨_, a₁, w₁, hq, .pass (x := .inLoop c) rfl (fun _ _ => .inl (by simp)) harr⟩
   | outgrown => exact ⟨_, a₁, w₁, hq, .pass (x := .inLoop c) rfl (fun _ _ => .inl (by simp)) harr⟩
 obtain⟨e,a',w',hq,harr⟩:=key m a w h₀;exact⟨e,a',w',hq,.of_steps (.one (yg _) stepR_loop) harr⟩
end

def DJ (P:Program)(fn:Func)(R:Ending→World→Prop):Exit→Act→World→Prop:=bodyPostM Fence.wide 0 P fn R
theorem Nz {P:Program}{f:FuncId}{fn:Func}{c:Code}{args:Array Value}{w:World}{R:Ending→World→Prop}(hf:P.funcs[f]? =some fn)(hb:fn.body=some c)
  (h:ng P f c (DJ P fn R) { tmps:=args++Array.replicate (fn.ntmps-args.size) undef,defers:= [] } w):Calls P f args w R:=by
 refine (callsIn_wide (n:=0)).1 ⟨trivial,fun cs hr=>?_⟩;obtain⟨b,hbd⟩:∃b:Frame,b= { (default:Frame) with fn:=f,kind:=.normal,roundOf:=none } :=⟨_,rfl⟩
 have henter:Frame.enter P f args .normal=b.atR { tmps:=args++Array.replicate (fn.ntmps-args.size) undef,defers:= [] } [.code c]:=by
  simp [Frame.enter,Frame.atR,hf,hb,hbd]
 have hro:b.roundOf=none:=by rw [hbd]
 have hbk:b.kind= .normal:=by rw [hbd]
 have hbf:b.fn=f:=by rw [hbd]
 obtain⟨e,a',w',hq,harr⟩:=h b [] cs hro hbf;rw [←henter] at harr;have hf':P.funcs[b.fn]? =some fn:=by rw [hbf];exact hf
 cases e with
 | normal =>
  obtain⟨e',w'',fr',hR,hs,hfn,hl⟩:=leaves_stepsInM a'.defers .returning w' { b.atR a' [] with mode:=.returning } cs rfl rfl rfl hf' hbk trivial hr hq;exact⟨e',w'',fr',hR,ComesIn.of_steps (StepsIn.trans harr (.one (yg _) (stepR_end hro))) hs,hfn.trans hbf,hl⟩
 | ret =>
  obtain⟨todo,hs₀⟩:=harr.1 hro;obtain⟨e',w'',fr',hR,hs,hfn,hl⟩:=leaves_stepsInM a'.defers .returning w' { b.atR a' todo with mode:=.returning } cs rfl rfl rfl hf' hbk trivial hr hq;exact⟨e',w'',fr',hR,ComesIn.of_steps hs₀ hs,hfn.trans hbf,hl⟩
 | panic chain =>
  obtain⟨todo,hs₀⟩:=harr;obtain⟨e',w'',fr',hR,hs,hfn,hl⟩:=leaves_stepsInM a'.defers (.panicking chain) w' { b.atR a' todo with mode:=.panicking chain } cs rfl rfl rfl hf' hbk trivial hr hq;exact⟨e',w'',fr',hR,ComesIn.of_steps hs₀ hs,hfn.trans hbf,hl⟩
 | exit id => exact hq.elim
 | goto l => exact hq.elim
 | outgrown => exact ⟨.outgrown, w', b, hq, harr.resolve_left (by rw [hbk]; simp), hbf, trivial⟩

def CQ (x:Int×Bool):Array Value:= #[.int .i64 x.1,.bool x.2]
def Xx (P:Program)(g:Nat)(lb:Array Value)(S:Nat→Prop)(outs:List (Int×Bool))(w:World):Prop:=
 ∀(l:Nat) (J:List (Int×Bool)→World→Prop) (Jp:List PanicEntry→World→Prop) (W:World),Below w.heap.size w W→w.heap.size≤l→l<W.heap.size→
  (∀xs W W',J xs W→Below W.heap.size W W'→J xs W')→
  (∀x xs W1,J (x::xs) W1→YieldAt Fence.wide 0 P l (CQ x) W1 fun e W'=>(e= .returned (.bool true)∧J xs W'∧ay (fun k=>S k∨k=l) W1 W')∨(∃c,e= .panicked c∧Jp c W'))→
  J outs W→
  CallsIn Fence.wide 0 P g (#[.func (.yield l) #[] #[]]++lb) W fun e W'=>(∃v,e= .returned v∧J [] W')∨(∃c,e= .panicked c∧Jp c W')

def aiD (S:Nat→Prop)(I:List (Int×Bool)→World→Prop)(Ip:List PanicEntry→World→Prop)(xs:List (Int×Bool))(W:World):Exit→Act→World→Prop
 | .normal, _, W' => ay S W W' ∧ I xs W'
 | .panic c, a, W' => a.defers = [] ∧ ay S W W' ∧ Ip c W'
 | _, _, _ => False

theorem ay.putObj {S:Nat→Prop}{W:World}{l:Nat}(o:Obj)(hl:S l):ay S W (W.putObj l o):=
 ⟨rfl,rfl,rfl,by simp,fun k _ hk=>World.putObj_heap_other (fun e=>hk (e▸hl))⟩

theorem PZ {P:Program}{f:FuncId}{fn:Func}{g:Operand}{ps:Array Tmp}{assign body:Code}{Q:Exit→Act→World→Prop}{a:Act}{w:World}(hf:P.funcs[f]? =some fn)
  {gf:Nat} {lb:Array Value} (hg:a.eval g= .func (.func gf) #[] lb) (eg:∀args w,(callFunc gf args).run P w= .ok (.enter gf args) w)
  {S:Nat→Prop} {outs:List (Int×Bool)} (hseq:Xx P gf lb S outs w) (hps:ps.size=2) (hS:∀k,S k→k<w.heap.size)
  (I:List (Int×Bool)→World→Prop) (Ip:List PanicEntry→World→Prop) (hI:∀xs W W',I xs W→ay (fun k=>w.heap.size≤k) W W'→I xs W')
  (h0:I outs w) (a₁ :Int×Bool→Act)
  (hassign:∀(l:Nat) (x:Int×Bool) (W:World) (K:Act→World→Prop),K (a₁ x) W→
    assign.wpIn (Fence.wide.inRound l) 0 P (Exit.then K (fun _ _ _=>False)) { tmps:=(ps.zip (CQ x)).foldl (fun t (p,v)=>t.setIfInBounds p v) a.tmps,defers:= [] } W)
  (hbody:∀(l:Nat) (x:Int×Bool) (xs:List (Int×Bool)) (W:World),I (x::xs) W→body.wpIn (Fence.wide.inRound l) 0 P (aiD S I Ip xs W) (a₁ x) W)
  (hdone:∀(D:Nat) (W:World),w.heap.size≤D→I [] W→W.heap[D]? =some (.deferred (some []))→Q .normal { a with defers:= { target:=.collected D,args:= #[] } ::a.defers } W)
  (agZ:∀(D:Nat) (c:List PanicEntry) (W:World),w.heap.size≤D→Ip c W→W.heap[D]? =some (.deferred (some []))→Q (.panic c) { a with defers:= { target:=.collected D,args:= #[] } ::a.defers } W) :
  ng P f (Code.rangeFunc g ps assign body) Q a w:=by
 intro b k cs hro hbf;obtain⟨rec,hrec⟩:∃rec:LoopState→Loop,rec=fun st=> { state:=st,pending:=none,fn:=f,tmps:=a.tmps,params:=ps,assign,body,defers:=w.heap.size } :=⟨_,rfl⟩;obtain⟨W1,hW1⟩:∃W1,(w.alloc (.deferred (some []))).alloc (.loop (rec .ready))=W1:=⟨_,rfl⟩
 have hL1:W1.heap[w.heap.size+1]? =some (.loop (rec .ready)):=by
  rw [←hW1];have:=World.alloc_heap_new (w.alloc (.deferred (some []))) (.loop (rec .ready));rwa [World.size_alloc] at this
 have hK1:W1.heap[w.heap.size]? =some (.deferred (some [])):=by
  rw [←hW1];exact (Below.heap_alloc _ _ _ (by simp)).trans (World.alloc_heap_new w _)
 have hb1:Below w.heap.size w W1:=by rw [←hW1];exact dS _ _ _
 have hI1:I outs W1:=hI _ _ _ h0 ((ay.of_below hb1).mono (fun _ _ h=>h));have hrs:∀st,(rec st).state=st:=fun st=>by rw [hrec]
 have hrp:∀st,(rec st).pending=none:=fun st=>by rw [hrec]
 have hrw:∀st st',{ rec st with state:=st' } =rec st':=fun st st'=>by rw [hrec]
 have ag5:∀st st',{ rec st with state:=st',pending:=none } =rec st':=fun st st'=>by rw [hrec]
 have he:(Instr.enterLoop b.fn a.tmps ps assign body b.roundOf).run P w= .ok (w.heap.size+1,[{ target:=.collected w.heap.size,args:= #[] }]) W1:=by
  rw [hro,hbf,←hW1,hrec];exact run_enterLoop_outer _ _ _ _ _
 have hres:(resolve a.eval (rangeCall g (w.heap.size+1)) 0).run P W1= .ok { target:=.fn (.func gf) lb,args:= #[.func (.yield (w.heap.size+1)) #[] #[]] } W1:=by
  simp only [resolve,hg];simp [go_sem]
 have hinv:(invoke (.fn (.func gf) lb) #[.func (.yield (w.heap.size+1)) #[] #[]]).run P W1= .ok (.enter gf (#[.func (.yield (w.heap.size+1)) #[] #[]]++lb)) W1:=by
  simp [invoke,go_sem,eg]
 have henter:=stepR_rangeFunc (P:=P) (b:=b) (a:=a) (k:=k) (cs:=cs) (w:=w) he hres hinv
 have hcall:=hseq (w.heap.size+1)
  (fun xs W=>I xs W∧W.heap[w.heap.size+1]? =some (.loop (rec .ready))∧W.heap[w.heap.size]? =some (.deferred (some [])))
  (fun c W=>Ip c W∧W.heap[w.heap.size]? =some (.deferred (some []))) W1 hb1 (by omega) (by rw [←hW1];simp)
  (fun xs W W' hs hbe=>⟨hI _ _ _ hs.1 ⟨hbe.os,hbe.tape,hbe.output,hbe.size,fun i hi _=>hbe.block i hi⟩,(hbe.block _ (Array.getElem?_eq_some_iff.1 hs.2.1).1).trans hs.2.1,(hbe.block _ (Array.getElem?_eq_some_iff.1 hs.2.2).1).trans hs.2.2⟩)
  (by
    rintro x xs W ⟨hi,hl,hk⟩;have hlt:w.heap.size+1<W.heap.size:=(Array.getElem?_eq_some_iff.1 hl).1;have hy:=run_yield (P:=P) (args:=CQ x) hl (by rw [hrec];exact hps.symm);rw [hrec] at hy;refine⟨f,_,assign,body,hy,ai9 trivial hf (hassign _ x W _ ⟨_,run_beginRound hl (hrs _),?_⟩)⟩;rw [hrw];have hl2:(W.putObj (w.heap.size+1) (.loop (rec .busy))).heap[w.heap.size+1]? =some (.loop (rec .busy)):=World.putObj_heap_same hlt;have hk2:(W.putObj (w.heap.size+1) (.loop (rec .busy))).heap[w.heap.size]? =some (.deferred (some [])):=(World.putObj_heap_other (by omega)).trans hk;have hm2:ay (fun k=>w.heap.size≤k) W (W.putObj (w.heap.size+1) (.loop (rec .busy))):=ay.putObj _ (by omega)
    have hml:ay (fun k=>S k∨k=w.heap.size+1) W (W.putObj (w.heap.size+1) (.loop (rec .busy))):=ay.putObj _ (.inr rfl);refine wpIn_mono (hbody _ x xs _ (hI _ _ _ hi hm2)) ?_;rintro e a3 W3 hp
    cases e with
    | normal =>
     obtain⟨oO,hi3⟩:=hp;have hl3:=(oO.block _ (by simpa using hlt) (fun h=>by have:=hS _ h;omega)).trans hl2;have hk3:=(oO.block w.heap.size (by simp;omega) (fun h=>by have:=hS _ h;omega)).trans hk2;have hr:=run_endRound (P:=P) none hl3;simp only [Option.isNone_none,if_true] at hr;rw [ag5] at hr;refine⟨_,_,hr,.inl ⟨rfl,⟨hI _ _ _ hi3 (ay.putObj _ (by omega)),World.putObj_heap_same (Array.getElem?_eq_some_iff.1 hl3).1,(World.putObj_heap_other (by omega)).trans hk3⟩,?_⟩⟩;exact (hml.trans (oO.mono (fun _ _ h=>Or.inl h)) (fun _ _ h=>h)).trans (ay.putObj (S:=fun k=>S k∨k=w.heap.size+1) _ (.inr rfl)) (fun _ _ h=>h)
    | panic c =>
     obtain⟨hd,oO,hi3⟩:=hp;have hk3:=(oO.block w.heap.size (by simp;omega) (fun h=>by have:=hS _ h;omega)).trans hk2;exact⟨hd,.inr ⟨c,rfl,hi3,hk3⟩⟩
    | ret => exact hp.elim
    | exit id => exact hp.elim
    | goto t => exact hp.elim
    | outgrown => exact hp.elim)
  ⟨hI1,hL1,hK1⟩
 obtain⟨e,w₃,fr,hR,hsteps,hfn,hleave⟩:=hcall.2 (b.atR { a with defers:= [{ target:=.collected w.heap.size,args:= #[] }]++a.defers } (.inRangeFunc (w.heap.size+1)::k)::cs) (room_wide _)
 rcases hR with ⟨v,rfl,hi,hl,hk⟩ | ⟨c,rfl,hi,hk⟩
 ·have hend:(Instr.endLoop (w.heap.size+1)).run P w₃ = .ok none (w₃.putObj (w.heap.size+1) (.loop (rec .exhausted))):=by
   have:=run_endLoop (P:=P) hl (by rw [hrs];simp);rw [hrec] at this ⊢;exact this
  have hlt:=(Array.getElem?_eq_some_iff.1 hl).1;refine⟨.normal,_,w₃.putObj (w.heap.size+1) (.loop (rec .exhausted)),hdone w.heap.size _ (Nat.le_refl _) (hI _ _ _ hi (ay.putObj _ (by omega))) ((World.putObj_heap_other (by omega)).trans hk),?_⟩;refine .head (yg _) henter (StepsIn.trans hsteps (.head (yg _) ?_ (.one (yg _) (stepR_endRangeFunc hend))));rw [←finish_atR_inRangeFunc (w.heap.size+1) v];exact step_leave_returned hleave
 ·refine⟨.panic c,_,w₃,agZ w.heap.size c _ (Nat.le_refl _) hi hk,.inRangeFunc (w.heap.size+1)::k,.head (yg _) henter (StepsIn.trans hsteps (.one (yg _) ?_))⟩;rw [←Frame.raise_atR];exact step_leave_panicked hleave
end Go.Proofs.YtiiokkllmchohaaGreat
