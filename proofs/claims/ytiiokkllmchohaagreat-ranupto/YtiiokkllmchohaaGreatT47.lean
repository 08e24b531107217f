/- The reference's step, pure: it is the code's. -/
import Derived.Test.YtiiokkllmchohaaGreatT46
set_option maxHeartbeats 0
set_option maxRecDepth 99999
namespace Go.Proofs.YtiiokkllmchohaaGreat
open Go.Value renaming int->J,slice->O,pointer->zP,bool->zB
open Go.IntKind renaming i64->I
open Option renaming none->U,some->M
open Bool renaming true->K,false->F
open Go.Ending renaming returned->zR
open Go.Obj renaming cells->zC
open Go.RowKit Go.Shelf
theorem pO{l}(d:1<=l.length):l.take (l.length-1)=l.dropLast/\l.drop (l.length-1)= [em l]:=by
 have c:=lM d;have d:l.dropLast.length=l.length-1:=aI;refine⟨by rw[dN],?_⟩
 conv=>lhs;rw[c]
 rw[cY,aw,d];simp
theorem xW{l}(d:2<=l.length):l.take (l.length-2)=l.dropLast.dropLast/\l.drop (l.length-2)= [em l.dropLast,em l]:=by
 have g:1<=l.dropLast.length:=by rw[aI];omega
 have d:=lM (l:=l) (by omega);have e:=lM g;have:l.dropLast.dropLast.length=l.length-2:=by rw[aI,aI];omega
 have c:l=l.dropLast.dropLast++ [em l.dropLast,em l]:=by
  conv=>lhs;rw[d,e]
  rw[a9];rfl
 refine⟨?_,?_⟩
 .rw [dN,dN,dv,aR]
  congr 1
  omega
 .conv=>lhs;rw[c]
  rw[aw,cY];simp
theorem uU{p g c}(h:jX p g)(e:fv g c)(j:eF p c.kind 0=K):eI c=c.num/\c.obj=U:=by
 have k:c.kind=0:=by rcases kJ.1 j with d | d | ⟨d,_⟩ <;> omega
 unfold fv at e
 split at e
 .rename_i d;exact⟨by unfold eI;rw[d];dsimp only;rw[am k],d⟩
 .obtain⟨l,i,m⟩:=e;have:=h.cls l (aB i);omega
section
variable {p : List eb} {fuel : Int} {st : eJ} {fs : List eD} {f : eD} {op a b : Int}
structure jW (p:On)(fuel:Int)(st:eJ)(fs:List eD)(f:eD)(op a b:Int):Prop where
 he:st.frames=fs++ [f]
 lk:gg p fuel st.steps f=0
 ins:ey f.m f.pc=⟨op,a,b⟩
 R:ie p f.m f.loc f.stk op a b=K
 W:qN p f.m op a b
 O:jX p st.objs
 vs:∀v∈f.stk,fv st.objs v
 J:lP p f.m op a b
theorem jW.eq (c:jW p fuel st fs f op a b):OQ p fuel st=lu p st fs.length f op a b:=
 ud (by rw[c.he,bu]) c.lk (by rw[c.he];simp) c.ins
abbrev fA (p:On)(f:eD)(op a b:Int):List LVal:=f.stk.drop (f.stk.length-(eB p f.m ⟨op,a,b⟩).1.length)
abbrev jy (p:On)(f:eD)(op a b:Int):List LVal:=f.stk.take (f.stk.length-(eB p f.m ⟨op,a,b⟩).1.length)
theorem jW.len (c:jW p fuel st fs f op a b):(eB p f.m ⟨op,a,b⟩).1.length<=f.stk.length:=by rw[c.W.ty.len];exact(tW c.R).1
theorem jW.kind(c:jW p fuel st fs f op a b){j t}(d:(gN p f.m.ret op a b)[j]? =M t):fv st.objs ((fA p f op a b).getD j eO)/\eF p ((fA p f op a b).getD j eO).kind t=K:=by
 refine⟨?_,?_⟩
 .rw [getD_drop];exact vM c.vs _
 .have:=(tW c.R).2.1 j t d;rw[<-c.W.ty.len]at this;rw[getD_drop];exact this
theorem wH(e:jW p fuel st fs f op a b)(c d):OP (j6 (fP st fs.length f c d) fs.length)=⟨fs++ [{ f with pc:=f.pc+1,loc:=c,stk:=d }],st.objs,st.told,st.out,st.steps+1⟩:=by
 rw[mL e.he];unfold j6 OP;simp
theorem EY (h:jW p fuel st fs f op a b)(s:op=0\/op=1\/op=2\/op=14\/op=15\/op=16\/op=19\/op=20) :
  OQ p fuel st= .inl ⟨fs++ [{ jr op a (fA p f op a b) { f with stk:=jy p f op a b } with pc:=f.pc+1 }],st.objs,st.told,OV op (fA p f op a b) st.out,st.steps+1⟩:=by
 have i:=h.len
 have q:op≠19->gr p st fs.length f op a b=(fP st fs.length f (gG op a f.loc f.stk).1 (gG op a f.loc f.stk).2,0):=λc=>by
  unfold gr;rw[af (by omega),af (by omega),af (by omega),af (by omega),af (by omega),af c]
 rw[h.eq,mw _ _ _ _ _ _ _ (by omega)]
 by_cases k:op=19
 .subst k;have o:gr p st fs.length f 19 a b=(pE st fs.length f,0):=rfl;have n:1<=f.stk.length:=i;obtain⟨d,g⟩:=pO n;have c:jy p f 19 a b=f.stk.dropLast:=d;have e:fA p f 19 a b= [em f.stk]:=g;have m:=h.kind (j:=0) (t:=0) rfl;rw[e]at m;have r:eI (em f.stk)=(em f.stk).num:=(uU h.O m.1 m.2).1;rw[o,am rfl,c,e];unfold pE j6 OP jr OV;rw[mL h.he];simp[r]
 .rw [q k,am rfl,wH h];have h:OV op (fA p f op a b) st.out=st.out:=af k;rw[h]
  rcases s with rfl | rfl | rfl | rfl | rfl | rfl | rfl | rfl
  .have c:jy p f 0 a b=f.stk:=aH (by simp[eB]);rw[c];rfl
  .have c:jy p f 1 a b=f.stk:=aH (by simp[eB]);rw[c];rfl
  .obtain⟨d,g⟩:=pO (l:=f.stk) i;have c:jy p f 2 a b=f.stk.dropLast:=d;have e:fA p f 2 a b= [em f.stk]:=g;rw[c,e];rfl
  .obtain⟨d,g⟩:=pO (l:=f.stk) i;have c:jy p f 14 a b=f.stk.dropLast:=d;rw[c];rfl
  .obtain⟨d,g⟩:=pO (l:=f.stk) i;have c:jy p f 15 a b=f.stk.dropLast:=d;have e:fA p f 15 a b= [em f.stk]:=g;rw[c,e]
   show Sum.inl (eJ.mk (fs++ [{ f with pc:=f.pc+1,loc:=f.loc,stk:=f.stk.dropLast++ [em f.stk]++ [em f.stk] }]) _ _ _ _)=_
   rw[a9];rfl
  .have c:jy p f 16 a b=f.stk:=aH (by simp[eB]);rw[c];rfl
  .exact absurd rfl k
  .obtain⟨d,g⟩:=xW (l:=f.stk) i;have c:jy p f 20 a b=f.stk.dropLast.dropLast:=d;have e:fA p f 20 a b= [em f.stk.dropLast,em f.stk]:=g;rw[c,e]
   show Sum.inl (eJ.mk (fs++ [{ f with pc:=f.pc+1,loc:=f.loc,stk:=f.stk.dropLast.dropLast++ [em f.stk]++ [em f.stk.dropLast] }]) _ _ _ _)=_
   rw[a9];rfl
theorem EV (c:jW p fuel st fs f op a b)(g:op=3\/op=4\/op=5\/op=6) :
  OQ p fuel st=match rC op (eI ((fA p f op a b).getD 0 eO)) (eI ((fA p f op a b).getD 1 eO)) with
   | none => .inr (st, 3)
   | some q => .inl ⟨fs ++ [{ f with pc := f.pc + 1, stk := jy p f op a b ++ [gt q] }], st.objs, st.told, st.out, st.steps + 1⟩ := by
 have n:=c.len;have d:(eB p f.m ⟨op,a,b⟩).1= [0,0]:=by rcases g with rfl | rfl | rfl | rfl <;> rfl
 have o:gN p f.m.ret op a b= [0,0]:=by rcases g with rfl | rfl | rfl | rfl <;> rfl
 rw[d]at n;obtain⟨w,x⟩:=xW (l:=f.stk) n;have r:jy p f op a b=f.stk.dropLast.dropLast:=by unfold jy;rw[d];exact w
 have k:fA p f op a b= [em f.stk.dropLast,em f.stk]:=by unfold fA;rw[d];exact x
 have h:=c.kind (j:=0) (t:=0) (by rw[o];rfl);have i:=c.kind (j:=1) (t:=0) (by rw[o];rfl);rw[k]at h i;have u:eI (em f.stk.dropLast)=(em f.stk.dropLast).num:=(uU c.O h.1 h.2).1;have v:eI (em f.stk)=(em f.stk).num:=(uU c.O i.1 i.2).1;rw[c.eq,mw _ _ _ _ _ _ _ (by omega),r,k]
 show _=match rC op (eI (em f.stk.dropLast)) (eI (em f.stk)) with | none=>_ | some q=>_
 rw[u,v]
 by_cases e:op=6
 .subst e;unfold gr;rw[am rfl];dsimp only;have s:rC 6 (em f.stk.dropLast).num (em f.stk).num=if (em f.stk).num=0 then U else M (wrap64 ((em f.stk.dropLast).num.tdiv (em f.stk).num)):=rfl
  rw[s]
  by_cases d:(em f.stk).num=0
  .rw [am d,am d,am d,af (by decide)]
  .rw [af d,af d,af d,am rfl,wH c];rfl
 .have s:gr p st fs.length f op a b=(fP st fs.length f (gG op a f.loc f.stk).1 (gG op a f.loc f.stk).2,0):=by
   unfold gr;rw[af e,af (by omega),af (by omega),af (by omega),af (by omega),af (by omega)]
  rw[s,am rfl,wH c]
  rcases g with rfl | rfl | rfl | rfl
  .rfl
  .rfl
  .rfl
  .exact absurd rfl e
theorem ES (c:jW p fuel st fs f 7 a b):OQ p fuel st= .inl ⟨fs++ [{ f with pc:=a.toNat }],st.objs,st.told,st.out,st.steps+1⟩:=by
 rw[c.eq]
 show Sum.inl (OP (fM st fs.length f a.toNat f.stk))=_
 rw[jQ c.he];rfl
theorem ER (c:jW p fuel st fs f op a b)(n:op=8\/op=18) :
  OQ p fuel st= .inl ⟨fs++ [{ f with pc:=if eI ((fA p f op a b).getD 0 eO)=0 then a.toNat else f.pc+1,stk:=jy p f op a b }],st.objs,st.told,st.out,st.steps+1⟩:=by
 have k:=c.len;have g:(eB p f.m ⟨op,a,b⟩).1.length=1:=by rcases n with rfl | rfl <;> rfl
 rw[g]at k;obtain⟨s,u⟩:=pO (l:=f.stk) k;have o:jy p f op a b=f.stk.dropLast:=by unfold jy;rw[g];exact s
 have h:fA p f op a b= [em f.stk]:=by unfold fA;rw[g];exact u
 rw[c.eq,o]
 rcases n with rfl | rfl
 .have e:=c.kind (j:=0) (t:=0) rfl;rw[h]at e ⊢;have g:eI (em f.stk)=(em f.stk).num:=(uU c.O e.1 e.2).1
  show Sum.inl (OP (if (em f.stk).num=0 then _ else _))=Sum.inl (eJ.mk (fs++ [{ f with pc:=if eI (em f.stk)=0 then _ else _,stk:=_ }]) _ _ _ _)
  rw[g]
  by_cases d:(em f.stk).num=0
  .rw [am d,am d,jQ c.he];rfl
  .rw [af d,af d,jQ c.he];rfl
 .have e:=c.kind (j:=0) (t:=3) rfl;rw[h]at e ⊢
  have r:iy (em f.stk).kind=K:=by
   have:=e.2;unfold iy
   rcases kJ.1 this with d | d | ⟨_,d | ⟨d,_⟩⟩
   .rw [show (em f.stk).kind=3 from d];rfl
   .cases d
   .rw [show (em f.stk).kind=1 from d];rfl
   .simp only [bB,beq_iff_eq,decide_eq_true_eq];exact .inr d
  show Sum.inl (OP (if (em f.stk).obj=U then _ else _))=Sum.inl (eJ.mk (fs++ [{ f with pc:=if eI (em f.stk)=0 then _ else _,stk:=_ }]) _ _ _ _)
  rcases pf (show fv st.objs (em f.stk) from e.1) r with ⟨d,i,_⟩ | ⟨g,g,d,i,q,_⟩
  .rw [am i,am d,jQ c.he];rfl
  .rw [af (by rw[d];simp),af (by rw[q];omega),jQ c.he];rfl
theorem EZ (c:jW p fuel st fs f 13 a b):OQ p fuel st= .inl (OP (jE (fM st fs.length f f.pc f.stk.dropLast) (em f.stk)))/\fA p f 13 a b= [em f.stk]/\jy p f 13 a b=f.stk.dropLast:=by
 have d:=c.len;obtain⟨e,g⟩:=pO (l:=f.stk) d;exact⟨c.eq,g,e⟩
theorem Ct(e:jW p fuel st [] f op a b)(c):OP (jE (fM st 0 f f.pc f.stk.dropLast) c)=⟨[],st.objs,c,st.out,st.steps+1⟩:=by
 have d:=jQ e.he f.pc f.stk.dropLast;rw[cT]at d;rw[d,Cr (f:= { f with pc:=f.pc,stk:=f.stk.dropLast }) c rfl];rfl
theorem Cs{gs g}(d:jW p fuel st (gs++ [g]) f op a b)(c):OP (jE (fM st (gs++ [g]).length f f.pc f.stk.dropLast) c)=⟨gs++ [{ g with stk:=g.stk++ [c] }],st.objs,c,st.out,st.steps+1⟩:=by
 rw[jQ d.he,Cq (fs:=gs) (g:=g) (f:= { f with pc:=f.pc,stk:=f.stk.dropLast }) c rfl];rfl
theorem DM(c):gu st c=st.objs.getD c ⟨0,[]⟩:=by unfold gu;rw[aj]
theorem Cm{l:List LVal}{c}(j:c+1<=l.length):l.drop (l.length-(c+1))=em (l.take (l.length-c))::l.drop (l.length-c)/\l.take (l.length-(c+1))=(l.take (l.length-c)).dropLast:=by
 have i:(l.take (l.length-c)).length=l.length-c:=by rw[aR];omega
 obtain⟨e,g⟩:=pO (l:=l.take (l.length-c)) (by omega);have h:l=l.take (l.length-c)++l.drop (l.length-c):=(bH _ _).symm;rw[i]at e g;have d:l.length-(c+1)=l.length-c-1:=by omega
 refine⟨?_,?_⟩
 .rw [d]
  conv=>lhs;rw[show l.drop (l.length-c-1)=(l.take (l.length-c)++l.drop (l.length-c)).drop (l.length-c-1) by rw[<-h]]
  rw[bW (by omega),g];rfl
 .rw [d,<-e,dv]
  congr 1
  omega
theorem xf{e v}(j:jX p e)(m:ez p p.length)(h:fv e v)(k:0<=a)(i:eF p v.kind (a+3)=K)(l:eI v≠0):∃c d,v.obj=M c/\e[c]? =M d/\jD e v=d.cls:=by
 rw[pe h j m a k,aD]at i
 rcases pf h i.1 with ⟨g,_⟩ | ⟨c,d,g,e,_,_,h⟩
 .exact absurd g l
 .exact⟨c,d,g,e,h⟩
theorem EW (c:jW p fuel st fs f op a b)(z:ez p p.length)(D:op=9\/op=10\/op=11\/op=17\/op=12)(H:st.frames.length<=30)(A:(10<=op/\op<=12)->eI ((fA p f op a b).getD 0 eO)≠0) :
  (jo p st.objs (fs.length+1) (fA p f op a b) op a≠0->∃G,OQ p fuel st= .inr (G,jo p st.objs (fs.length+1) (fA p f op a b) op a))/\
  (jo p st.objs (fs.length+1) (fA p f op a b) op a=0->OQ p fuel st= .inl ⟨fs++ [mz st.objs (fA p f op a b) op a b { f with pc:=f.pc+1,stk:=jy p f op a b }]++nS p st.objs (fA p f op a b) op b,pP p st.objs (fA p f op a b) op a b,st.told,st.out,st.steps+1⟩):=by
 have u:=c.len
 rcases D with rfl | rfl | rfl | rfl | rfl
 .have k:jy p f 9 a b=f.stk:=aH (by simp[eB]);have w:jo p st.objs (fs.length+1) (fA p f 9 a b) 9 a=if st.objs.length=100 then 8 else 0:=rfl
  have q:gr p st fs.length f 9 a b=(if st.objs.length=100 then st else rj p st fs.length f a,if st.objs.length=100 then 8 else 0):=rfl;rw[c.eq,mw _ _ _ _ _ _ _ (by omega),q,w];dsimp only
  by_cases i:st.objs.length=100
  .rw [am i,am i];exact⟨λ_=>⟨st,by rw[af (by decide)]⟩,λe=>by cases e⟩
  .rw [af i,af i];refine⟨λe=>absurd rfl e,λ_=>?_⟩;rw[am rfl,k];unfold rj j6 OP mz pP nS;rw[mL c.he];simp
 .obtain⟨r,s⟩:=pO (l:=f.stk) u;have k:jy p f 10 a b=f.stk.dropLast:=r;have h:fA p f 10 a b= [em f.stk]:=s;have o:=A (by omega);have d:=c.kind (j:=0) (t:=a+3) rfl;rw[h]at o d;obtain⟨g,y,n,_⟩:=xf (v:=em f.stk) c.O z d.1 (c.J.cls (by omega)).1 d.2 o;refine⟨λe=>absurd rfl e,λ_=>?_⟩;rw[c.eq,mw _ _ _ _ _ _ _ (by omega),k,h]
  have q:gr p st fs.length f 10 a b=(fP st fs.length f f.loc (f.stk.dropLast++ [(gu st g).fO.getD b.toNat eO]),0):=by
   show ku st fs.length f b=_
   unfold ku;rw[n]
  rw[q,am rfl,wH c,DM];have x:nh (([em f.stk]:List LVal).getD 0 eO)=g:=by show (em f.stk).obj.getD 0=g;rw[n];rfl
  unfold mz nS pP;rw[x];simp
 .obtain⟨r,s⟩:=xW (l:=f.stk) u;have k:jy p f 11 a b=f.stk.dropLast.dropLast:=r;have h:fA p f 11 a b= [em f.stk.dropLast,em f.stk]:=s;have o:=A (by omega);have d:=c.kind (j:=0) (t:=a+3) rfl;rw[h]at o d;obtain⟨g,y,n,_⟩:=xf (v:=em f.stk.dropLast) c.O z d.1 (c.J.cls (by omega)).1 d.2 o;refine⟨λe=>absurd rfl e,λ_=>?_⟩;rw[c.eq,mw _ _ _ _ _ _ _ (by omega),k,h]
  have q:gr p st fs.length f 11 a b=({ fP st fs.length f f.loc f.stk.dropLast.dropLast with objs:=st.objs.set g { gu st g with fO:=(gu st g).fO.set b.toNat (em f.stk) } },0):=by
   show kz st fs.length f b=_
   unfold kz;rw[n]
  have x:nh (([em f.stk.dropLast,em f.stk]:List LVal).getD 0 eO)=g:=by show (em f.stk.dropLast).obj.getD 0=g;rw[n];rfl
  rw[q,am rfl,DM];unfold mz nS pP j6 OP;rw[x,mL c.he];simp
 .obtain⟨r,s⟩:=pO (l:=f.stk) u;have k:jy p f 17 a b=f.stk.dropLast:=r;have h:fA p f 17 a b= [em f.stk]:=s;have d:=c.kind (j:=0) (t:=0+3) rfl;rw[h]at d;have o:=d.2;rw[pe d.1 c.O z 0 (by omega),aD]at o
  have w:jo p st.objs (fs.length+1) (fA p f 17 a b) 17 a=mI p st f a:=by
   rw[h]
   show (if eI (em f.stk)≠0/\fD p (jD st.objs (em f.stk)) a=F then (4:Int) else 0)=_
   unfold mI
   rcases pf (show fv st.objs (em f.stk) from d.1) o.1 with ⟨e,n,_⟩ | ⟨g,y,e,n,q,_,o⟩
   .rw [n,af (λi=>i.1 e)]
   .rw [e];dsimp only;rw[mi n,o]
    cases fD p y.cls a with
    | true => rw[af (λi => by cases i.2), am rfl]
    | false => rw[am ⟨by rw[q]; omega, rfl⟩, af (by simp)]
  have q:gr p st fs.length f 17 a b=(st,mI p st f a):=rfl;rw[c.eq,mw _ _ _ _ _ _ _ (by omega),q,w,k,h];dsimp only;refine⟨λe=>⟨st,by rw[af e]⟩,λe=>?_⟩;rw[am e];unfold mz nS pP j6 OP;have g:st.frames[fs.length]? =M f:=by rw[c.he];simp
  rw[g];have g:=lM (l:=f.stk) u;simp[c.he];exact g
 .have E:(eB p f.m ⟨12,a,b⟩).1.length=(ew p a b).args.length+1:=rfl;rw[E]at u;obtain⟨s,r⟩:=Cm (l:=f.stk) u;have k:jy p f 12 a b=(f.stk.take (f.stk.length-(ew p a b).args.length)).dropLast:=r;have h:fA p f 12 a b=em (f.stk.take (f.stk.length-(ew p a b).args.length))::f.stk.drop (f.stk.length-(ew p a b).args.length):=s;have o:=A (by omega);have d:=c.kind (j:=0) (t:=a+3) rfl;rw[h]at o d;obtain⟨g,y,n,C,B⟩:=xf (v:=em (f.stk.take (f.stk.length-(ew p a b).args.length))) c.O z d.1 (c.J.cls (by omega)).1 d.2 o;have:st.frames.length=fs.length+1:=by rw[c.he];simp
  have w:jo p st.objs (fs.length+1) (fA p f 12 a b) 12 a=if 30<=fs.length+1 then 7 else 0:=rfl
  rw[c.eq,w,vD,k,h];unfold oL;dsimp only;rw[n];dsimp only
  by_cases i:st.frames.length=30
  .rw [am i,am (by omega)];exact⟨λ_=>⟨_,rfl⟩,λe=>by cases e⟩
  .rw [af i,af (by omega)];refine⟨λe=>absurd rfl e,λ_=>?_⟩;rw[jQ c.he,mi C]
   have x:nh ((em (f.stk.take (f.stk.length-(ew p a b).args.length))::f.stk.drop (f.stk.length-(ew p a b).args.length)).getD 0 eO)=g:=by
    show (em (f.stk.take _)).obj.getD 0=g
    rw[n];rfl
   have q:jD st.objs ((em (f.stk.take (f.stk.length-(ew p a b).args.length))::f.stk.drop (f.stk.length-(ew p a b).args.length)).getD 0 eO)=y.cls:=B;unfold mz nS pP qO OP qW;rw[x,q];simp
theorem zS{g v}(h:jX p g)(j:ez p p.length)(c:fv g v)(i:0<=a)(e:eF p v.kind (a+3)=K)(k:eI v=0):v.obj=U:=by
 rw[pe c h j a i,aD]at e
 rcases pf c e.1 with ⟨_,d,_⟩ | ⟨c,c,d,c,c,_,c⟩
 .exact d
 .omega
theorem ET (c:jW p fuel st fs f op a b)(o:ez p p.length)(s:10<=op/\op<=12)(e:eI ((fA p f op a b).getD 0 eO)=0):∃r,OQ p fuel st= .inr (r,2):=by
 have k:=c.len;have:op=10\/op=11\/op=12:=by omega
 rcases this with rfl | rfl | rfl
 .obtain⟨q,i⟩:=pO (l:=f.stk) k;have g:fA p f 10 a b= [em f.stk]:=i;have d:=c.kind (j:=0) (t:=a+3) rfl;rw[g]at e d;have h:=zS (v:=em f.stk) c.O o d.1 (c.J.cls (by omega)).1 d.2 e;rw[c.eq,mw _ _ _ _ _ _ _ (by omega)]
  have n:gr p st fs.length f 10 a b=(fP st fs.length f f.loc f.stk.dropLast,2):=by
   show ku st fs.length f b=_
   unfold ku;rw[h]
  exact⟨_,by rw[n,af (show ¬(2:Int)=0 by decide)]⟩
 .obtain⟨q,i⟩:=xW (l:=f.stk) k;have g:fA p f 11 a b= [em f.stk.dropLast,em f.stk]:=i;have d:=c.kind (j:=0) (t:=a+3) rfl;rw[g]at e d;have h:=zS (v:=em f.stk.dropLast) c.O o d.1 (c.J.cls (by omega)).1 d.2 e;rw[c.eq,mw _ _ _ _ _ _ _ (by omega)]
  have n:gr p st fs.length f 11 a b=(fP st fs.length f f.loc f.stk.dropLast.dropLast,2):=by
   show kz st fs.length f b=_
   unfold kz;rw[h]
  exact⟨_,by rw[n,af (show ¬(2:Int)=0 by decide)]⟩
 .have n:(eB p f.m ⟨12,a,b⟩).1.length=(ew p a b).args.length+1:=rfl;rw[n]at k;obtain⟨i,q⟩:=Cm (l:=f.stk) k;have g:fA p f 12 a b=em (f.stk.take (f.stk.length-(ew p a b).args.length))::f.stk.drop (f.stk.length-(ew p a b).args.length):=i;have d:=c.kind (j:=0) (t:=a+3) rfl;rw[g]at e d;have h:=zS (v:=em (f.stk.take (f.stk.length-(ew p a b).args.length))) c.O o d.1 (c.J.cls (by omega)).1 d.2 e;rw[c.eq,vD];unfold oL;dsimp only;rw[h];exact⟨_,rfl⟩
theorem Lv(op a c f):(jr op a c f).m=f.m/\(jr op a c f).pc=f.pc:=by
 unfold jr
 repeat' split
 all_goals exact⟨rfl,rfl⟩
theorem No(d c op a b f):(mz d c op a b f).m=f.m:=by
 unfold mz
 repeat' split
 all_goals rfl
end
end Go.Proofs.YtiiokkllmchohaaGreat
