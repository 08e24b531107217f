/- The reference's machine: a step. -/
import Derived.Test.YtiiokkllmchohaaGreatT32
import Derived.Test.YtiiokkllmchohaaGreatT47
import Derived.Test.YtiiokkllmchohaaGreatT48
set_option maxHeartbeats 0
set_option maxRecDepth 99999
namespace Go.Proofs.YtiiokkllmchohaaGreat
open Go.Value renaming int->J,slice->O,pointer->zP,bool->zB
open Go.IntKind renaming i64->I
open Option renaming none->U,some->M
open Bool renaming true->K,false->F
open Go.Ending renaming returned->zR
open Go.Obj renaming cells->zC
open Go.RowKit Go.Shelf
section
attribute [local go_sem ↓] Go.wp_at_zero Go.wp_at_succ
attribute [local go_sem] eZ
theorem Od{j rest c b f w}(x i)(m:c.guard=U)(r:c.op= .slice 181 x (M i) U U){g}{d e a:Nat}(hx:b.eval x=O g d e){h}(o:b.eval i=J I h)(n:h=(a:Int))(q:a<=d)(k:wpList Tryz.prog j f rest (b.put c.dst (O (qU g e a) (d-a) (e-a))) w):wpList Tryz.prog j f (c::rest) b w:=by
 refine wpList_plain m λa l=>?_;unfold Oper.wp;rw[zg r hx o n q w];exact l _ _ k
theorem Lm{w d n k c}(g:w.ownsRow d n 2 k c.length (fY c)):eG 2 (mC (sel (λr=>d<=r) w)) k c:=by
 obtain⟨l,b,f,m,rfl,o,h,q⟩:=uX g;refine⟨l,b,f,m,rfl,o,h,λe t j=>?_⟩;have k:c≠[]:=eW (ag.1 j).1;have i:d<=b:=(g.lt b (by rw[h.1 k];rfl)).1;obtain⟨c,d⟩:=q e t j;exact⟨by rw[pI (a:=⟨b,f+e*2,U⟩) i];exact c,by rw[pI (a:=⟨b,f+e*2+1,U⟩) i];exact d⟩
theorem Fk{w f b e d}(g:eG 2 (mC (sel (λa=>b<=a) w)) e d){c}(i:ee c w f)(h:∀a,b<=a->¬c a):eG 2 (mC (sel (λa=>b<=a) f)) e d:=xZ (fW i λa _ b=>⟨h a b,b⟩) g
theorem Lf{w:World}{d f i a b e j}(g:w.ownsRow d f i (O e a b) a j):a<=b:=by
 rcases g.2 with ⟨c,a⟩ | ⟨a,a,a,c,_,_,h,_⟩
 .omega
 .cases c;exact h
section
variable {p : List eb} {w0 w : World} {ρ : Nat -> Nat × Nat} {mb : Nat} {vp : Value} {ask : Bool} {s : RS} {fx : List (eD × gD)} {y : eD × gD}
theorem fh.cut(f:fh p w0 w ρ mb vp ask s)(k:s.fx=fx++ [y]){a}(o:s.vc.ownBlock=M a){sa d scap n}(b:y.2.vs=O sa d scap)(j:n<=y.1.stk.length):
  (∃ c,fh p w0 (w.setCell ⟨a,fx.length*5+4,U⟩ (O sa n scap)) c mb vp ask { s with fx:=fx++ [({ y.1 with stk:=y.1.stk.take n },{ y.2 with vs:=O sa n scap })] })/\w.cell? ⟨a,fx.length*5+4,U⟩=M (O sa d scap)/\w.frozen? ⟨a,fx.length*5+4,U⟩=F:=by
 have h:s.fx[fx.length]? =M y:=by rw[k];simp
 have a:=f.fr _ _ h;have st:=a.st;obtain⟨_,_,e⟩:=fd st;rw[b]at e
 cases e
 rw[b]at st;have i:=uW st j;rw[show (fY y.1.stk).take (n*2)=fY (y.1.stk.take n) from uF pH _ _]at i;have q:(O sa n scap).ownBlock=y.2.vs.ownBlock:=by rw[b];cases sa <;> rfl
 obtain⟨⟨c,g⟩,l,m⟩:=f.stk h o (W:=w) (Ow _ _) (vs':=O sa n scap) (stk':=y.1.stk.take n) (by rw[aR,cN j];exact i) (.inl q);rw[k,rA]at g;exact⟨⟨c,g⟩,by rw[<-b];exact l,m⟩
theorem fh.Bm(d:fh p w0 w ρ mb vp ask s)(i:s.fx=fx++ [y]){a}(f:s.vc.ownBlock=M a)(b:Nat):
  (∃ c,fh p w0 (w.setCell ⟨a,fx.length*5+2,U⟩ (J I (b:Int))) c mb vp ask { s with fx:=fx++ [({ y.1 with pc:=b },y.2)] })/\w.cell? ⟨a,fx.length*5+2,U⟩=M (J I (y.1.pc:Int))/\w.frozen? ⟨a,fx.length*5+2,U⟩=F:=by
 have h:s.fx[fx.length]? =M y:=by rw[i];simp
 obtain⟨⟨c,e⟩,j⟩:=d.at h f b;obtain⟨a,_,_,g,_,k⟩:=d.call h;rw[f]at g
 cases g
 rw[i,rA]at e;exact⟨⟨c,e⟩,k 2 (by omega),j⟩
theorem fh.Hb(h:fh p w0 w ρ mb vp ask s)(z:s.fx=fx++ [y]){f}(D:s.vc.ownBlock=M f){e g a}(i:y.2.vs=O e y.1.stk.length g)(r:a<=y.1.stk.length)(G:y.1.stk.length<=4194304)(x){news}(E:news.toList=fY [x]):
  ∃c d b,(Builtin.append_ #[181,181] 181 #[O e a g,O (M ⟨w.heap.size,0,U⟩) 1 1]).run Tryz.prog (w.alloc (zC news 183))= .ok (O c (a+1) d) b/\
   (∃ j,fh p w0 (b.setCell ⟨f,fx.length*5+4,U⟩ (O c (a+1) d)) j mb vp ask { s with fx:=fx++ [({ y.1 with stk:=y.1.stk.take a++ [x] },{ y.2 with vs:=O c (a+1) d })] })/\
   b.cell? ⟨f,fx.length*5+4,U⟩=M (O e y.1.stk.length g)/\b.frozen? ⟨f,fx.length*5+4,U⟩=F:=by
 have n:s.fx[fx.length]? =M y:=by rw[z];simp
 have st:=(h.fr _ _ n).st;rw[i]at st;have o:=uW st r;rw[show (fY y.1.stk).take (a*2)=fY (y.1.stk.take a) from uF pH _ _]at o;have t:(O e a g).ownBlock=y.2.vs.ownBlock:=by rw[i];cases e <;> rfl
 have q:(y.1.stk.take a).length=a:=by rw[aR,cN r]
 obtain⟨c,d,b,u,k,C,v⟩:=Bj (l:=y.1.stk.take a) (xs:= [x]) (by rw[q];exact o) h.bel.size (by omega) (by simp) E 1 w.heap.size rfl rfl;rw[q]at u k v;obtain⟨⟨j,m⟩,A,B⟩:=h.stk n D (by rw[<-t];exact C) k (by rw[<-t];exact v);rw[z,rA]at m;exact⟨c,d,b,u,⟨j,m⟩,by rw[<-i];exact A,B⟩
theorem fh.fin(b:fh p w0 w ρ mb vp ask s)(h:s.fx=fx++ [y]){a}(g:s.vc.ownBlock=M a)(c:Nat):
  (w.cell? ⟨mb,7,U⟩=M (J I (s.steps:Int))/\w.frozen? ⟨mb,7,U⟩=F/\(w.setCell ⟨mb,7,U⟩ (J I ((s.steps:Int)+1))).cell? ⟨a,fx.length*5+2,U⟩=M (J I (y.1.pc:Int))/\(w.setCell ⟨mb,7,U⟩ (J I ((s.steps:Int)+1))).frozen? ⟨a,fx.length*5+2,U⟩=F)/\
   nX p w0 mb vp ask ((w.setCell ⟨mb,7,U⟩ (J I ((s.steps:Int)+1))).setCell ⟨a,fx.length*5+2,U⟩ (J I (c:Int))) (fx.map Prod.fst++ [{ y.1 with pc:=c }]) (s.ox.map Prod.fst) s.out (s.steps+1) s.k s.v:=by
 have e:=b.set (s':= { s with steps:=s.steps+1 }) 7 (J I ((s.steps:Int)+1));obtain⟨⟨i,f⟩,a,d⟩:=e.Bm h g c;exact⟨⟨b.eH.cell 7,b.eH.frozen 7,a,d⟩,i,_,f,by show (fx++ [_]).map Prod.fst=_;rw[aM];rfl,rfl,rfl,rfl,rfl,rfl⟩
theorem nX.as {a b:List eD}{f g:List fL}{h i:Ok}{c j:Nat}{d e k l:Int}(u:nX p w0 mb vp ask w a f h c d k)(m:a=b)(n:f=g)(o:h=i)(q:c=j)(r:d=e)(t:k=l:=by rfl):nX p w0 mb vp ask w b g i j e l:=by
 subst m n o q r t;exact u
theorem pX.same{f s b}(a:pX f mb s)(g:∀c,b.vc.ownBlock=M c->s.vc.ownBlock=M c)(h:b.vo=s.vo)(i:b.eE=s.eE)(j:b.ox=s.ox)(k:∀d∈b.fx,∃e∈s.fx,d.2.vl=e.2.vl/\d.2.vs.ownBlock=e.2.vs.ownBlock):pX f mb b:=
 ⟨a.mb,λc f=>a.vc c (g c f),by rw[h];exact a.vo,by rw[i];exact a.eE,λd g=>by
  obtain⟨e,h,b,c⟩:=k d g;rw[b,c];exact a.fr e h,by rw[j];exact a.ob⟩
end
def mG (p:On)(fuel:Int)(w0:World)(mb:Nat)(vp:Value)(ask:Bool)(s:RS)(st:eJ)(f:eD)(w':World)(e:Ending):Prop:=
 (∃st',OQ p fuel st= .inl st'/\st'.frames≠[]/\e=zR (zB K)/\nX p w0 mb vp ask w' st'.frames st'.objs st'.out st'.steps 0 s.v)\/
 (∃st',OQ p fuel st= .inl st'/\st'.frames= []/\e=zR (zB F)/\nX p w0 mb vp ask w' [] st'.objs st'.out st'.steps 1 (kh st' st'.told f.m.ret))\/
 (∃r,OQ p fuel st= .inr r/\e=zR (zB F)/\∃frames objs,nX p w0 mb vp ask w' frames objs r.1.out r.1.steps r.2 s.v)
structure sW (p:On)(fuel:Int)(s:RS)(st:eJ)(ask:Bool):Prop where
 F:fi p=0
 z:eM p<=4194304
 f5:fuel<=5000
 I:Inv p fuel st
 k:s.k=0
 fr:s.fx.map Prod.fst=st.frames
 ob:s.ox.map Prod.fst=st.objs
 out:s.out=st.out
 jt:s.steps=st.steps
 ask:ask=K\/∀r,OQ p fuel st= .inr r->r.2≠5
theorem Nn{p st b a}(f:jX p st.objs)(i:ez p p.length)(c:fv st.objs b)(e:eF p b.kind a=K)(h:a=0\/3<=a):oB st.objs b a=kh st b a:=by
 unfold oB kh
 rcases h with rfl | h
 .rw [am rfl,am rfl,(uU f c e).1]
 .rw [af (show ¬a=0 by omega),af (show ¬a=0 by omega)];rw[show a=(a-3)+3 by omega,pe c f i _ (by omega),aD]at e
  rcases pf c e.1 with ⟨g,d,_⟩ | ⟨a,a,g,d,a,_,a⟩
  .rw [af (by omega),d]
  .rw [am (by omega),g,a];exact(cP fL.cls (mi d)).symm
theorem vE{p fuel st a}(c:st.frames.getLast? =M a)(b:gg p fuel st.steps a≠0):OQ p fuel st= .inr (st,gg p fuel st.steps a):=by
 unfold OQ;rw[c];dsimp only;rw[am b]
theorem Le{p}(d:fi p=0){b e c}(a:gh p b e=M c):lX p.length c=K:=by
 unfold gh at a
 split at a
 .cases hx:p[b.toNat]? with
  | none => rw[hx]at a; cases a
  | some b =>
   rw[hx,au]at a;exact tD d hx a
 .cases a
section
variable {p : List eb} {fuel : Int} {s : RS} {st : eJ} {ask : Bool} {fx : List (eD × gD)} {y : eD × gD}
structure vY (p:On)(fuel:Int)(s:RS)(st:eJ)(fx:List (eD×gD))(y:eD×gD):Prop where
 he:st.frames=fx.map Prod.fst++ [y.1]
 K:rI p st.objs y.1
 ins:∀i∈y.1.m.code,eU p y.1.m i=true
 c40:y.1.m.code.length<=40
 top:(y.1.stk.length:Int)<=y.1.m.stack
 stk:y.1.m.stack<=8
 loc:y.1.m.locals<=8
 ret:y.1.m.ret=0\/3<=y.1.m.ret
 want:∀i∈y.1.m.code,∀t∈gN p y.1.m.ret i.op i.a i.b,fz p.length t
 n30:fx.length+1<=30
 rest:∀z∈fx,z.1.stk.length<=8
theorem sW.run (a:sW p fuel s st ask)(k:s.fx=fx++ [y]):vY p fuel s st fx y:=by
 have b:st.frames=fx.map Prod.fst++ [y.1]:=by rw[<-a.fr,k,aM];rfl
 have e:st.frames.getLast? =M y.1:=by rw[b,bu]
 have k:y.1∈st.frames:=cU e;have f:=a.I.fr y.1 k;obtain⟨k,k,h⟩:=f.own;obtain⟨_,_,c⟩:=kZ a.F h;have i:=(jw.1 (Le a.F h)).2.2.2.2.1;have g:=a.I.len;rw[b]at g;simp at g;refine⟨b,f,c.ins,c.c40,a.I.top y.1 e,c.ok.stk,c.ok.loc,?_,((a.I.xQ a.F a.z a.f5).fr y.1 e).want,by omega,λd j=>?_⟩
 .unfold gd at i;simp only[bB,beq_iff_eq,aD,decide_eq_true_eq]at i;omega
 .have:=a.I.rest d.1 (by rw[b,aQ];exact bF.2 ⟨d,j,rfl⟩);obtain⟨c,c,l⟩:=(a.I.fr d.1 (by rw[b];exact aN.2 (.inl (bF.2 ⟨d,j,rfl⟩)))).own;have:=(kZ a.F l).2.2.ok.stk;omega
theorem vY.C8(g:vY p fuel s st fx y)(i:fi p=0)(k:eM p<=4194304){x}(hx:x∈y.1.m.code):yp p y.1.m x:=by
 obtain⟨e,a,b⟩:=x;have f:lP p y.1.m e a b:=kM (g.ins _ hx);have h:=Og i f g.ret;have:=ap (fQ p) k;refine⟨i,k,f,h,λd=>?_,λc=>?_⟩
 .by_cases j:d<(eB p y.1.m ⟨e,a,b⟩).1.length
  .rcases h.ty.get d j with ⟨c,_⟩ | ⟨c,_⟩ | ⟨_,c⟩
   .omega
   .omega
   .have k:d<(gN p y.1.m.ret e a b).length:=(by rw[<-h.ty.len];exact j);have h:=g.want _ hx ((gN p y.1.m.ret e a b).getD d 0) (by rw[aj,ae k];exact av k);have:=h.2;omega
  .rw [aj,cH (by omega)];simp
 .have:=(jw.1 (nL i (f.call c))).2.2.1
  show (ew p a b).args.length<=_
  omega
theorem jW.xX{f c d a b}(e:jW p fuel st f c d a b):(fA p c d a b).length=(eB p c.m ⟨d,a,b⟩).1.length:=by
 have:=e.len;unfold fA;rw[cv];omega
theorem Np(h:sW p fuel s st ask)(H:vY p fuel s st fx y){a e i}(d:jW p fuel st (fx.map Prod.fst) y.1 a e i)(D:(10<=a/\a<=12)->eI ((fA p y.1 a e i).getD 0 eO)≠0)(E:a=9\/a=10\/a=11\/a=17\/a=12){s2 y2}(u:s2.ox=s.ox)(N:s2.fx.length=fx.length+1)(Q:y2.1.stk.length<=8):Be p a e i (fA p y.1 a e i) y2 s2:=by
 have x:=iA h.F;have v:=h.ob;have A:=d.xX
 have G:∀ {c:Nat} {g:fL},st.objs[c]? =M g->∃l,s2.ox[c]? =M l/\l.1=g:=λ{c g} n=>by
  rw[<-v,aU]at n;obtain⟨l,k,b⟩:=aW.1 n;exact⟨l,by rw[u];exact k,b⟩
 have P:(10<=a/\a<=12)->(gN p y.1.m.ret a e i)[0]? =M (e+3):=λn=>by
  have:a=10\/a=11\/a=12:=by omega
  rcases this with rfl | rfl | rfl <;> rfl
 have C:(10<=a/\a<=12)->∃c g,((fA p y.1 a e i).getD 0 eO).obj=M c/\st.objs[c]? =M g/\fD p g.cls e=K:=λn=>by
  have k:=d.kind (j:=0) (P n);have B:=(d.J.cls (by omega)).1;obtain⟨c,g,q,o,r⟩:=xf d.O x k.1 B k.2 (D n);refine⟨c,g,q,o,?_⟩;have f:=k.2;rw[pe k.1 d.O x e B,aD,bB,r]at f
  rcases f.2 with b | b
  .exact absurd (by simpa using b) (D n)
  .exact b
 refine⟨h.F,h.z,by rw[u,v];exact h.I.ob,?_,by rw[N];exact H.n30,by omega,E,λb=>?_,λb=>?_,λb=>?_,λb=>?_,λb=>?_,λb=>?_⟩
 .have:=h.I.ol;rw[<-v,aZ]at this;rw[u];exact this
 .have:=d.J.cls (.inl b);obtain⟨c,rfl⟩:=ax this.1;exact⟨c,rfl,by omega⟩
 .obtain⟨c,g,q,o,r⟩:=C (by omega);obtain⟨l,k,rfl⟩:=G o;have f:=d.J.im b;obtain⟨B,rfl⟩:=ax f.1;refine⟨c,l,B,q,k,rfl,?_⟩;rw[d.O.fl _ (aB o)];have:=(uD x r).length_le;omega
 .rw [A]
  rcases E with rfl | rfl | rfl | rfl | rfl
  .exact absurd rfl b
  all_goals simp[eB]
 .subst b;rw[A];simp[eB]
 .subst b;have k:=d.kind (j:=0) (t:=0+3) rfl;have f:=k.2;rw[pe k.1 d.O x 0 (by omega),aD]at f;rw[u,v];exact⟨k.1,f.1⟩
 .subst b;obtain⟨c,g,q,o,r⟩:=C (by omega);obtain⟨l,k,rfl⟩:=G o;obtain⟨B,L,_⟩:=y8 h.F r (d.J.call rfl);have f:=jw.1 (nL h.F B);refine⟨c,l,q,k,B,?_,f.2.2.2.2.2.2.1⟩;have a:=f.2.2.2.2.2.1;rw[A,show (eB p y.1.m ⟨12,e,i⟩).1.length=(ew p e i).args.length+1 from rfl,<-L];omega
end
section
variable {p : List eb} {w0 w : World} {ρ : Nat -> Nat × Nat} {mb : Nat} {vp : Value} {ask : Bool} {s : RS}
theorem Mu(L:fh p w0 w ρ mb vp ask s)(hS:eQ w0 vp p){r n h a}(en:s.fx=h++ [a])(d3:sW p r s n ask):
  Calls Tryz.prog 120 #[zP (M ⟨mb,0,U⟩), .int .i64 r] w λf be=>mG p r w0 mb vp ask s n a.1 be f:=by
 have Q:=d3.run en;have cs:s.fx[h.length]? =M a:=by rw[en];simp
 have hQ:s.fx.length=h.length+1:=by rw[en];simp
 have f0:h.length<=30:=by have:=Q.n30;omega
 have cn:n.frames.getLast? =M a.1:=by rw[Q.he,bu]
 obtain⟨i,hC,hW,P,kA,bc⟩:=L.call cs;have kc:w.cell? ⟨mb,3,U⟩=M (O (M ⟨i,0,U⟩) (h.length+1) hC):=by rw[<-hQ,<-hW];exact L.eH.cell 3
 have hk:=d3.I.jt;have kA:=d3.f5;have kA:=Q.K.pc;have kA:=Q.c40;have a4:=Ou L;have d2:=Ou hS;have Z:=Ou en;have HS:=Ou d3;have ar:=Ou Q;have eR:=Ou cn;have bn:w.cell? ⟨i,h.length*5+2,U⟩=M ( .int .i64 (a.1.pc:Int)):=bc 2 (by omega);have kA:=Ou bc;clear L hS en d3 Q cs hQ hW cn bc;go_in
 go_wp2_with fail;refine(rz w mb i h.length hC f0 kc).mono ?_;rintro f d3 ⟨rfl,g9⟩;have hz:=Ou (a4.out.below g9 (ai _));go_wp2_with fail;refine(xF hz.out d2.out Z.out f0).mono ?_;rintro f gb ⟨d3,d3,d3,rfl,cp,hJ⟩;have hc:=eu g9 hJ;have d3:=DD cp;obtain⟨g1,ia,ib,e2,rfl,d3,iG,hO⟩:=eN cp.2.1;obtain⟨gx,_,_,g0,rfl,_⟩:=cp.1;obtain⟨g3,_,_,g4,rfl,_⟩:=cp.2.2;unfold fB;have hL:=ev gb (zC #[ .int .i64 a.1.m.slot,O gx a.1.m.args.length g0, .int .i64 a.1.m.ret, .int .i64 a.1.m.locals, .int .i64 a.1.m.stack,O g1 a.1.m.code.length e2,O g3 a.1.m.frames.length g4] 63);have dp:=Oz gb #[ .int .i64 a.1.m.slot,O gx a.1.m.args.length g0, .int .i64 a.1.m.ret, .int .i64 a.1.m.locals, .int .i64 a.1.m.stack,O g1 a.1.m.code.length e2,O g3 a.1.m.frames.length g4] 63;have fs:=eu hc hL;have h3:=Ou cp;have hy:=Ou hO;clear cp hO g9 hJ hz;go_wp2_with fail;obtain⟨R,ha⟩:∃R,R=gb.heap.size:=⟨_,rfl⟩;rw[<-ha]at dp ⊢;generalize gb.alloc _=w3 at *;have kb:w3.cell? ⟨R,5,U⟩=M (O g1 a.1.m.code.length e2):=dp.cell 5;have hX:=Oq fs _ _ bn;have j2:=dp.lt;have j3:=Oo hX;dsimp only at j3;have cb:=Ou (a4.out.below fs (ai _));have hw:=Ou dp;have kd:w3.cell? ⟨mb,4,U⟩=M ( .int .i64 s.k):=cb.out.eH.cell 4;have ke:w3.cell? ⟨mb,7,U⟩=M ( .int .i64 (s.steps:Int)):=cb.out.eH.cell 7;have iC:=cb.out.eH.frozen 4;have gm:=Ou (λA=>cb.out.drew.set (s':= { s with k:=A }) 4 ( .int .i64 A));have i2:w.heap.size<=R:=by rw[ha];exact hc.size
 clear dp hL hc bn ha
 by_cases cm:a.1.pc=a.1.m.code.length
 .have N:gg p r n.steps a.1=5:=am cm
  have q:Hid (mG p r w0 mb vp ask s n a.1 (w3.drew.setCell ⟨mb,4,U⟩ ( .int .i64 5)) (zR (zB false))):=
   .inr (.inr ⟨_,vE eR.out (by rw[N];decide),rfl,_,_,ρ,_,ea gm 5,rfl,rfl,HS.out.out,HS.out.jt,by rw[N],rfl⟩)
  have ki:(a.1.m.code.length:Int)<=(a.1.pc:Int):=by omega
  clear N cm;refine fk (jC w3.heap.size w3) (λ_ _ _=>rfl) λhHeld=>?_;refine dZ 19 0 ?_;refine dZ 20 1 ?_;refine dZ 21 2 ?_;refine dZ 22 3 ?_;refine dZ 23 4 ?_;refine dZ 24 5 ?_;refine dZ 25 6 ?_;refine dZ 26 7 ?_;refine eV ?_;clear hHeld;go_wp2;go_ret;exact ea q
 have ec:a.1.pc<a.1.m.code.length:=by omega
 have ki:¬(a.1.m.code.length:Int)<=(a.1.pc:Int):=by omega
 have hU:(s.steps:Int)=(n.steps:Int):=by rw[HS.out.jt]
 by_cases ft:(n.steps:Int)=r
 .have N:gg p r n.steps a.1=6:=by unfold gg;rw[af cm,am ft]
  have q:Hid (mG p r w0 mb vp ask s n a.1 (w3.drew.setCell ⟨mb,4,U⟩ ( .int .i64 6)) (zR (zB false))):=
   .inr (.inr ⟨_,vE eR.out (by rw[N];decide),rfl,_,_,ρ,_,ea gm 6,rfl,rfl,HS.out.out,HS.out.jt,by rw[N],rfl⟩)
  have kl:r<=(s.steps:Int):=by omega
  clear N cm ft hU;refine fk (jC w3.heap.size w3) (λ_ _ _=>rfl) λhHeld=>?_;refine dZ 19 0 ?_;refine dZ 20 1 ?_;refine dZ 21 2 ?_;refine dZ 22 3 ?_;refine dZ 23 4 ?_;refine dZ 24 5 ?_;refine dZ 25 6 ?_;refine dZ 26 7 ?_;refine eV ?_;clear hHeld;go_wp2;go_ret;exact ea q
 have kl:¬r<=(s.steps:Int):=by omega
 have ca:=Ou (aq cm ft);obtain rfl:=iG (eW ec);obtain⟨er,gc,es⟩:=ea hy a.1.pc ec;have hG:ey a.1.m a.1.pc=a.1.m.code[a.1.pc]:=by unfold ey;rw[ae ec];rfl
 have hR:a.1.m.code[a.1.pc]∈a.1.m.code:=av ec;have X:=ar.out.C8 HS.out.F HS.out.z hR;generalize a.1.m.code[a.1.pc]=x at *;obtain⟨b,d,e⟩:=x;dsimp only at er gc es;have f6:=Oq cb.out.bel;replace er:=f6 _ _ er;replace gc:=f6 _ _ gc;replace es:=f6 _ _ es;have j4:=Oo er;dsimp only at j4;have cp:(0:Int)<=(a.1.pc:Int):=by omega
 have cp:(a.1.pc:Int)<(a.1.m.code.length:Int):=by omega
 have e0:=Ou hG;clear cm ft hU ec f6 hG hR hy;refine fk (jC w3.heap.size w3) (λ_ _ _=>rfl) λhHeld=>?_;refine dZ 19 0 ?_;refine dZ 20 1 ?_;refine dZ 21 2 ?_;refine dZ 22 3 ?_;refine dZ 23 4 ?_;refine dZ 24 5 ?_;refine dZ 25 6 ?_;refine dZ 26 7 ?_;refine eV ?_;clear hHeld;go_wp2;refine fk (jC w3.heap.size w3) (λ_ _ _=>rfl) λhHeld=>?_;refine dZ 42 0 ?_;refine dZ 43 1 ?_;refine dZ 44 2 ?_;refine dZ 45 3 ?_;refine dZ 46 4 ?_;refine dZ 47 5 ?_;refine dZ 48 6 ?_;refine dZ 49 7 ?_;refine el 8 (λcf ab=>?_);go_simp;refine ab.out _ _ (λbk bI S=>World.cell?_alloc_lt _ _ _ S) λhHeld=>?_;clear ab cf hHeld;refine el 9 (λcf ab=>?_);refine kS Bg (Oz w3.drew.drew #[ .int .i64 0, .int .i64 0, .int .i64 0] 60) 0 [ .int .i64 b, .int .i64 d, .int .i64 e] rfl (by simp) (λA f4=>by simp only[aE,aF,or_false]at f4;rcases f4 with rfl | rfl | rfl <;> rfl) (.tmp 7) (.tmp 49) rfl rfl rfl ?_;intro ep gf g7 iT;rw[fw (by rfl)]at gf;have fc:Below w3.heap.size w3 ep:=((ay w3.heap.size w3).drew.drew.alloc (ai _) _).trans (g7.below (by simp) (λa1 bs f=>by have cm:a1=w3.heap.size:=f;omega));refine ab.out _ _ (λbk bI S=>fc.cell (p:=⟨bk,bI,U⟩) S) λhHeld=>?_;refine eV ?_;clear hHeld g7 iT;obtain⟨C,fo⟩:∃C,C=w3.heap.size:=⟨_,rfl⟩;have cA:ed ep C 60 [ .int .i64 b, .int .i64 d, .int .i64 e]:=by rw[fo];exact gf
 rw[<-fo];have hf:=eu fs fc;have hA:=Ou (a4.out.below hf (ai _));have cm:w.heap.size<=C:=by rw[fo];exact fs.size
 have g7:R≠C:=by omega
 have hu:=hw.out.below fc j2;have i3:ep.cell? ⟨C,0,U⟩=M ( .int .i64 b):=cA.cell 0;have i4:ep.cell? ⟨C,1,U⟩=M ( .int .i64 d):=cA.cell 1;have i5:ep.cell? ⟨C,2,U⟩=M ( .int .i64 e):=cA.cell 2;have gl:=Ou cA;have gk:=Ou hu;have eg:=HS.out.ob;have Q:=ea ar
 have f1:ask=true\/ie p a.1.m a.1.loc a.1.stk b d e=true:=by
  rcases HS.out.ask with f | f
  .exact .inl f
  .right
   cases ak:ie p a.1.m a.1.loc a.1.stk b d e with
   | true => rfl
   | false =>
    have N:gg p r n.steps a.1=5:=(by unfold gg;rw[af ca.out.1,af ca.out.2,ea e0];dsimp only;rw[ak];rfl);exact absurd N (f _ (vE eR.out (by rw[N];decide)))
 have h8:A6 p s a ⟨b,d,e⟩ ask:=by
  refine⟨X,by rw[eg];exact HS.out.I.ob,?_,?_,by rw[eg];exact Q.K.vs,λf=>?_,?_,?_⟩
  .rw [ea Z];simp;have:=Q.n30;omega
  .have:=HS.out.I.ol;rw[<-eg,aZ]at this;exact this
  .have:=X.J.loc (.inl f);have:=Q.K.loc;dsimp only at *;omega
  .have:=Q.top;have:=Q.stk;omega
  .rcases f1 with f | f
   .exact .inl f
   .right
    obtain⟨ho,hZ,_⟩:=tW f;rw[<-X.W.ty.len]at ho;refine⟨ho,λH=>?_⟩;obtain⟨c,d4,d5⟩:=X.W.cls H;have S:=hZ 0 (d+3) (by rw[<-d4,aj,ae d5];rfl);rw[<-X.W.ty.len,bK]at S;have f4:=vM Q.K.vs (a.1.stk.length-(eB p a.1.m ⟨b,d,e⟩).1.length);rw[pe f4 HS.out.I.ob (iA HS.out.F) d c,aD]at S;exact S.1
 have g5:=J9 (ask:=ask) X.W HS.out.I.ob (iA HS.out.F) Q.K.vs Q.K.vl Q.top f1;rw[<-eg]at g5;have h4:=Ou g5;have cm:=Ou f1;clear g5 f1 Q eg gf cA hu fo;go_wp2_with fail;refine(Ml hA.out d2.out Z.out ⟨b,d,e⟩ h8).mono ?_;rintro f bM ⟨rfl,fn⟩;have hK:=eu hf fn;have Q:=Ou (a4.out.below hK (ai _));have kw:bM.cell? ⟨mb,4,U⟩=M ( .int .i64 s.k):=Q.out.eH.cell 4;have e6:=Q.out.eH.frozen 4;have d1:=Ou (λA=>Q.out.set (s':= { s with k:=A }) 4 ( .int .i64 A));rw[ea h4];clear gm kd iC kb hX er gc es ke;have t4:∀A,(bM.setCell ⟨mb,4,U⟩ ( .int .i64 A)).cell? ⟨mb,4,U⟩=M ( .int .i64 A):=λA=>(ea d1 A).eH.cell 4
 cases ak:ie p a.1.m a.1.loc a.1.stk b d e with
 | false =>
  have N:gg p r n.steps a.1=5:=by unfold gg;rw[af ca.out.1,af ca.out.2,ea e0];dsimp only;rw[ak];rfl
  have q:Hid (mG p r w0 mb vp ask s n a.1 (bM.setCell ⟨mb,4,U⟩ ( .int .i64 5)) (zR (zB false))):=
   .inr (.inr ⟨_,vE eR.out (by rw[N];decide),rfl,_,_,ρ,_,ea d1 5,rfl,rfl,HS.out.out,HS.out.jt,by rw[N],rfl⟩)
  rw[af (by simp)];clear N ak;go_wp2;go_ret;exact ea q
 | true =>
  rw[am rfl];have N:gg p r n.steps a.1=0:=by unfold gg;rw[af ca.out.1,af ca.out.2,ea e0];dsimp only;rw[ak];rfl
  have et:jW p r n (h.map Prod.fst) a.1 b d e:=⟨ar.out.he,N,ea e0,ak,X.W,HS.out.I.ob,ar.out.K.vs,X.J⟩;have hi:lH p a.1.m a.1.stk ⟨b,d,e⟩=(fA p a.1 b d e).getD 0 eO:=by rw[getD_drop];rfl
  rw[hi];have V:=Ou et
  by_cases b8:(10<=b/\b<=12)/\eI ((fA p a.1 b d e).getD 0 eO)=0
  .obtain⟨ds,E⟩:=ET et (iA HS.out.F) b8.1 b8.2;have a8:=xR E
   have q:Hid (mG p r w0 mb vp ask s n a.1 (bM.setCell ⟨mb,4,U⟩ ( .int .i64 2)) (zR (zB false))):=
    .inr (.inr ⟨_,E,rfl,_,_,ρ,_,ea d1 2,rfl,rfl,HS.out.out.trans a8.2.2.1.symm,HS.out.jt.trans a8.2.1.symm,rfl,rfl⟩)
   rw[am b8];clear N ak E a8 et hi b8;go_wp2;go_ret;exact ea q
  .rw [af b8];have h5:=Ou b8
   have d0:Hid (fh p w0 (bM.setCell ⟨mb,4,U⟩ ( .int .i64 0)) ρ mb vp ask s):=by
    have:=ea d1 0;rw[show { s with k:=0 } =s by rw[<-HS.out.k]]at this;exact this
   have g6:ee (λa1=>a1=mb) bM (bM.setCell ⟨mb,4,U⟩ ( .int .i64 0)):=jG _ _ _ _;have Q:=a4.out.eH.lt;have b9:=(gl.out.below fn gl.out.lt).mods g6 (by omega);have a2:=(gk.out.below fn gk.out.lt).mods g6 (by omega);clear N ak et hi b8;go_upto_region 13 with fail
   generalize bM.setCell _ _=w6 at *;obtain⟨Q,_,_,bM,hj,_⟩:=ea d2;have ka:w6.cell? ⟨mb,0,U⟩=M (O Q p.length bM):=(by rw[<-hj];exact d0.out.eH.cell 0);have kf:w6.cell? ⟨R,0,U⟩=M ( .int .i64 a.1.m.slot):=a2.cell 0;have kk:w6.cell? ⟨R,1,U⟩=M (O gx a.1.m.args.length g0):=a2.cell 1;have kn:w6.cell? ⟨R,2,U⟩=M ( .int .i64 a.1.m.ret):=a2.cell 2;have ko:w6.cell? ⟨R,3,U⟩=M ( .int .i64 a.1.m.locals):=a2.cell 3;have kp:w6.cell? ⟨R,4,U⟩=M ( .int .i64 a.1.m.stack):=a2.cell 4;have kr:w6.cell? ⟨R,5,U⟩=M (O (M ⟨ia,ib,U⟩) a.1.m.code.length e2):=a2.cell 5;have ks:w6.cell? ⟨R,6,U⟩=M (O g3 a.1.m.frames.length g4):=a2.cell 6;have i6:w6.cell? ⟨C,0,U⟩=M ( .int .i64 b):=b9.cell 0;have i7:w6.cell? ⟨C,1,U⟩=M ( .int .i64 d):=b9.cell 1;have i8:w6.cell? ⟨C,2,U⟩=M ( .int .i64 e):=b9.cell 2;have Q:=d0.out.eH.lt;have ho:=a2.lt;have hZ:=b9.lt;have fa:=xH p vp a.1.m _ _ _ ⟨b,d,e⟩ w6.drew (eA (Oq d0.out.bel) d2.out) (h3.out.keep (Oq d0.out.bel)) (iA HS.out.F) HS.out.z X.J X.al;rw[hj]at fa;unfold fB at fa;have h7:=Ou fa;have hv:=Ou b9;have hx:=Ou a2;clear fa hj i3 i4 i5 gl gk hw b9 a2 g6 d1 kw e6 t4 fn hf hA fc cb;refine fk (jC w6.heap.size w6) (λ_ _ _=>rfl) λhHeld=>?_;refine dZ 64 0 ?_;refine dZ 65 1 ?_;refine dZ 66 2 ?_;refine dZ 67 3 ?_;refine dZ 68 4 ?_;refine dZ 69 5 ?_;refine el 6 (λcf ab=>?_);go_simp;refine h7.out.mono ?_;rintro f ao ⟨Q,Q,rfl,i0,iJ,Q⟩;have b6:Below w6.heap.size w6 ao:=⟨Q.os,Q.tape,Q.output,Q.size,Q.block⟩;go_wp2_with fail;refine ab.out _ _ (λbk bI S=>b6.cell (p:=⟨bk,bI,U⟩) S) λhHeld=>?_;refine dZ 63 7 ?_;refine dZ 71 8 ?_;refine dZ 72 9 ?_;refine dZ 8 10 ?_;refine dZ 9 11 ?_;refine eV ?_;clear hHeld;obtain⟨Q,_,_,Q,rfl,_⟩:=i0;obtain⟨Q,_,_,Q,rfl,_⟩:=iJ;have eS:=Ou (d0.out.below b6 (ai _));have cs:s.fx[h.length]? =M a:=(by rw[ea Z];simp);have eK:=eS.out.fr _ _ cs;obtain⟨u,o,ei⟩:=fd eK.st;obtain⟨Q,_,_,hN,_,hg⟩:=eS.out.call cs;have is:M i=M Q:=P.symm.trans hN
   cases is
   have hB:ao.cell? ⟨i,h.length*5+4,U⟩=M (O u a.1.stk.length o):=(by rw[<-ei];exact hg 4 (by omega));have Q:a.1.stk.length<=o:=Lf (by rw[<-ei];exact eK.st);have bn:ao.cell? ⟨i,h.length*5+2,U⟩=M ( .int .i64 (a.1.pc:Int)):=hg 2 (by omega);have iM:=V.out.len;obtain⟨c,bz⟩:∃c:Nat,c=a.1.stk.length-(eB p a.1.m ⟨b,d,e⟩).1.length:=⟨_,rfl⟩;generalize e9:(eB p a.1.m ⟨b,d,e⟩).1.length=tl at *;have cz:c<=a.1.stk.length:=(by omega);have Q:(a.1.stk.length:Int)-(tl:Int)=(c:Int):=(by omega);have Q:=ar.out.top;have Q:=ar.out.stk;have hl:=uX eK.st;rw[ei]at hl;obtain⟨hm,hY,B,g8,e7,hH,i1⟩:=Bk (l:= []) (World.ownsRow_nil ao ao.heap.size 183 2) (ai _) (by simp) (y7 hl c cz) (by omega);have f3:a.1.stk.drop c=fA p a.1 b d e:=(by unfold fA;rw[e9,<-bz]);have hP:a.1.stk.take c=jy p a.1 b d e:=(by unfold jy;rw[e9,<-bz]);rw[bN,f3]at e7;rw[show ([]:List LVal).length+(a.1.stk.length-c)=a.1.stk.length-c by simp]at g8 e7;have ba:Below ao.heap.size ao B:=hH.below (ai _) (λa1 _ f=>by cases f);have b5:=Ou (eS.out.below ba (ai _));have eP:=Ou ((hv.out.below b6 hv.out.lt).below ba (by have:=b6.size;omega));have h2:=Ou ((hx.out.below b6 hx.out.lt).below ba (by have:=b6.size;omega));have e1:=Ou (Lm e7);have d9:=eS.out.ry;have Q:=ba.size;have ej:(fA p a.1 b d e).length=a.1.stk.length-c:=(by rw[<-f3,cv]);have bh:=Ou (aq f3 (aq hP ej));have ce:=Ou ei;have cc:=Ou (aq e9 bz);have Q:=Oq ba _ _ bn;clear ei hg hN cs eK hl e7 hH i1 f3 hP ej e9 bz iM
   go_upto_region 20 with (first
    | (refine Od (.tmp 85) (.tmp 86) rfl rfl rfl rfl rfl cz ?_)
    | (at_builtin; refine OA rfl (.tmp 81) (.tmp 87) 181 rfl _ _ rfl rfl g8 ?_))
   obtain⟨T,hh⟩:∃T:Nat,T=a.1.stk.length-c:=⟨_,rfl⟩;have gn:Hid ((fA p a.1 b d e).length=T):=(by rw[hh];exact bh.out.2.2);rw[<-hh]at e1 ⊢;clear hh g8;have e3:B.cell? ⟨C,0,U⟩=M ( .int .i64 b):=eP.out.cell 0;have g2:B.cell? ⟨C,1,U⟩=M ( .int .i64 d):=eP.out.cell 1;have hD:B.cell? ⟨C,2,U⟩=M ( .int .i64 e):=eP.out.cell 2;have Q:=eP.out.lt;have h9:B.cell? ⟨i,h.length*5+4,U⟩=M (O u a.1.stk.length o):=Oq ba _ _ hB;have hV:=HS.out.jt;have iS:s.steps<=5000:=(by omega);have bf:=Ou hV
   obtain⟨Y,an,cu⟩:∃Y an,(∀(c:0<(fA p a.1 b d e).length),hm=M ⟨Y,an,U⟩)/\∀aa (b7:aa<(fA p a.1 b d e).length),ao.heap.size<=Y/\B.cell? ⟨Y,an+aa*2,U⟩=M ( .int .i64 (fq (fA p a.1 b d e)[aa]))/\B.cell? ⟨Y,an+aa*2+1,U⟩=M ( .int .i64 (eI (fA p a.1 b d e)[aa])):=by
    obtain⟨E,Y,an,E,q,_,D,cu⟩:=eN e1.out;simp only[Value.slice.injEq]at q;obtain⟨rfl,_,rfl⟩:=q;exact⟨Y,an,λc=>D (eW c),λaa b7=>⟨(iw (cu aa b7).1).1,(iw (cu aa b7).1).2,(iw (cu aa b7).2).2⟩⟩
   have gp:=Ou cu
   have h6:b=7\/(b=3\/b=4\/b=5\/b=6)\/(b=8\/b=18)\/b=13\/(b=9\/b=10\/b=11\/b=17\/b=12)\/(b=0\/b=1\/b=2\/b=14\/b=15\/b=16\/b=19\/b=20):=by
    have:=X.J.rq;have:=X.J.op1;dsimp only at *;omega
   clear hV cu hB bn kf kk kn ko kp kr ks i6 i7 i8 ka
   rcases h6 with rfl | H | H | rfl | H | H
   .obtain⟨aa,rfl⟩:=ax (X.J.jmp (.inl rfl)).1;obtain⟨⟨ga,e5,f9,e4⟩,D⟩:=b5.out.fin Z.out P aa
    have q:Hid (mG p r w0 mb vp ask s n a.1 ((B.setCell ⟨mb,7,U⟩ ( .int .i64 ((s.steps:Int)+1))).setCell ⟨i,h.length*5+2,U⟩ ( .int .i64 (aa:Int))) (zR (zB true))):=by
     exact .inl ⟨_,ES V.out,by simp,rfl,D.as rfl HS.out.ob HS.out.out (by rw[ea bf]) HS.out.k⟩
    clear D;go_wp2;go_ret;exact ea q
   .have hM:(eB p a.1.m ⟨b,d,e⟩).1= [0,0]:=by rcases H with rfl | rfl | rfl | rfl <;> rfl
    have bo:(fA p a.1 b d e).length=2:=(by have hE:=bh.out.2.2;have cg:=cc.out.1;have hF:=cc.out.2;have ci:=V.out.len;rw[hM]at cg ci;simp at cg ci;omega);have E:=EV V.out H;rw[OW (by omega),OW (by omega),<-bh.out.2.1]at E;obtain⟨br,a8⟩:=ea gp;obtain rfl:=br (by omega);obtain⟨hI,a5,ac⟩:=a8 0 (by omega);obtain⟨_,e6,h1⟩:=a8 1 (by omega);rw[cr,bK]at a5 ac;rw[Nat.one_mul]at e6 h1;have d6:T=2:=(by rw[<-ea gn];exact bo);have hT:(0:Int)<(T:Int):=(by omega);have Q:(1:Int)<(T:Int):=(by omega);have h0:0<T:=(by omega);have Q:1<T:=(by omega);have eo:=Oo ac;dsimp only at eo;have d4:3<=b:=(by omega);have d5:b<=6:=(by omega);have ck:=Mx b (eI (fA p a.1 b d e)[0]) (eI (fA p a.1 b d e)[1]) B.drew H;generalize (fA p a.1 b d e)[0]=v0 at *;generalize (fA p a.1 b d e)[1]=v1 at *;have hp:(c:Int)<=(o:Int):=(by omega);have hn:(0:Int)<=(c:Int):=(by omega);clear bo d6 br a8 hM a5 e6
    cases f2:rC b (eI v0) (eI v1) with
    | none =>
     rw[f2]at ck E;have a3:=Ou ck;have a0:=Ou E;clear ck E f2;go_wp2;refine fk (jC B.heap.size B) (λ_ _ _=>rfl) λhHeld=>?_;refine dZ 117 0 ?_;refine dZ 118 1 ?_;refine dZ 119 2 ?_;refine dZ 120 3 ?_;refine dZ 121 4 ?_;refine dZ 122 5 ?_;refine dZ 123 6 ?_;refine dZ 124 7 ?_;refine dZ 125 8 ?_;refine dZ 126 9 ?_;refine el 10 (λcf ab=>?_);go_simp;refine a3.out.mono ?_;rintro f G ⟨rfl,ad⟩;have a6:Below B.heap.size B G:=⟨ad.os,ad.tape,ad.output,ad.size,ad.block⟩;go_wp2_with fail;refine ab.out _ _ (λbk bI S=>a6.cell (p:=⟨bk,bI,U⟩) S) λhHeld=>?_;refine dZ 116 11 ?_;refine dZ 128 12 ?_;refine dZ 129 13 ?_;refine dZ 13 14 ?_;refine dZ 14 15 ?_;refine eV ?_;clear hHeld;have ds:=Ou (b5.out.below a6 (ai _));have hq:G.cell? ⟨mb,4,U⟩=M ( .int .i64 s.k):=ds.out.eH.cell 4;have hr:=ds.out.eH.frozen 4
     have q:Hid (mG p r w0 mb vp ask s n a.1 (G.setCell ⟨mb,4,U⟩ ( .int .i64 3)) (zR (zB false))):=
      .inr (.inr ⟨_,ea a0,rfl,_,_,ρ,_,ds.out.set (s':= { s with k:=3 }) 4 ( .int .i64 3),rfl,rfl,HS.out.out,HS.out.jt,rfl,rfl⟩)
     go_wp2;go_ret;exact ea q
    | some A =>
     rw[f2]at ck E;have a3:=Ou ck;have a0:=Ou E;clear ck E f2;go_wp2;refine fk (jC B.heap.size B) (λ_ _ _=>rfl) λhHeld=>?_;refine dZ 117 0 ?_;refine dZ 118 1 ?_;refine dZ 119 2 ?_;refine dZ 120 3 ?_;refine dZ 121 4 ?_;refine dZ 122 5 ?_;refine dZ 123 6 ?_;refine dZ 124 7 ?_;refine dZ 125 8 ?_;refine dZ 126 9 ?_;refine el 10 (λcf ab=>?_);go_simp;refine a3.out.mono ?_;rintro f G ⟨rfl,ad⟩;have a6:Below B.heap.size B G:=⟨ad.os,ad.tape,ad.output,ad.size,ad.block⟩;go_wp2_with fail;refine ab.out _ _ (λbk bI S=>a6.cell (p:=⟨bk,bI,U⟩) S) λhHeld=>?_;refine dZ 116 11 ?_;refine dZ 128 12 ?_;refine dZ 129 13 ?_;refine dZ 13 14 ?_;refine dZ 14 15 ?_;refine eV ?_;clear hHeld;have ds:=Ou (b5.out.below a6 (ai _));obtain⟨gq,hr,Q,ih,⟨Q,hq⟩,Q,Q⟩:=ds.out.Hb Z.out P ce.out cz (by omega) (gt A) (news:= #[ .int .i64 1, .int .i64 A]) rfl;have Q:=Oq a6 _ _ h9;obtain⟨⟨ga,e5,f9,e4⟩,D⟩:=hq.fin (fx:=h) (y:=({ a.1 with stk:=a.1.stk.take c++ [gt A] },{ a.2 with vs:=O gq (c+1) hr })) rfl P (a.1.pc+1);have q:Hid (mG p r w0 mb vp ask s n a.1 _ (zR (zB true))):=.inl ⟨_,ea a0,by simp,rfl,D.as rfl HS.out.ob HS.out.out (by show s.steps+1=_;rw[ea bf]) HS.out.k⟩;clear D hq;go_wp2_with (at_builtin;refine OA rfl (.tmp 142) (.tmp 145) 181 rfl _ _ rfl rfl ih ?_)
     go_ret;exact ea q
   .have a3:(eB p a.1.m ⟨b,d,e⟩).1.length=1:=by rcases H with rfl | rfl <;> rfl
    have bo:(fA p a.1 b d e).length=1:=(by have hE:=bh.out.2.2;have cg:=cc.out.1;have hF:=cc.out.2;have ci:=V.out.len;rw[a3]at cg ci;omega);have E:=ER V.out H;rw[OW (by omega),<-bh.out.2.1]at E;obtain⟨aa,b7⟩:=ax (X.J.jmp (by dsimp only;omega)).1;obtain⟨br,a8⟩:=ea gp;obtain rfl:=br (by omega);obtain⟨hI,a5,ac⟩:=a8 0 (by omega);rw[cr,bK]at a5 ac;have d6:T=1:=(by rw[<-ea gn];exact bo);have hT:(0:Int)<(T:Int):=(by omega);have h0:0<T:=(by omega);generalize (fA p a.1 b d e)[0]=A at *;dsimp only at b7;subst b7;rw[aK]at E;have a0:=Ou E;obtain⟨⟨h1,a6⟩,hq,hr⟩:=b5.out.cut Z.out P ce.out cz;have hM:=d9.vc i P;have ad:=jG B i (h.length*5+4) (O u c o);have Q:=ad.cell ac (show ¬Y=i by omega);have Q:=ad.cell e3 (show ¬C=i by have:=a4.out.ry.vc i P;omega);have Q:=ad.cell g2 (show ¬C=i by have:=a4.out.ry.vc i P;omega);have hp:(c:Int)<=(o:Int):=(by omega);have hn:(0:Int)<=(c:Int):=(by omega);have d4:(3<=b/\¬b<=6):=(by omega);have Q:(b == 7)=false:=by rcases H with rfl | rfl <;> rfl
    have ds:(b == 8)=true\/((b == 8)=false/\(b == 18)=true):=by rcases H with rfl | rfl <;> simp
    obtain⟨Q,Q⟩:=d4;clear bo d6 br a8 a3 a5 ac E H
    by_cases G:eI A=0
    .obtain⟨⟨ga,e5,f9,e4⟩,D⟩:=a6.fin (fx:=h) (y:=({ a.1 with stk:=a.1.stk.take c },{ a.2 with vs:=O u c o })) rfl P aa;have q:Hid (mG p r w0 mb vp ask s n a.1 _ (zR (zB true))):=.inl ⟨_,ea a0,by simp,rfl,D.as (by rw[am G]) HS.out.ob HS.out.out (by show s.steps+1=_;rw[ea bf]) HS.out.k⟩;have d5:(eI A == 0)=true:=(by simpa using G);clear D a6 ad G
     rcases ds with ck | ⟨ck,bn⟩
     all_goals
      go_wp2;go_ret;exact ea q
    .obtain⟨⟨ga,e5,f9,e4⟩,D⟩:=a6.fin (fx:=h) (y:=({ a.1 with stk:=a.1.stk.take c },{ a.2 with vs:=O u c o })) rfl P (a.1.pc+1);have q:Hid (mG p r w0 mb vp ask s n a.1 _ (zR (zB true))):=.inl ⟨_,ea a0,by simp,rfl,D.as (by rw[af G]) HS.out.ob HS.out.out (by show s.steps+1=_;rw[ea bf]) HS.out.k⟩;have d5:(eI A == 0)=false:=(by simpa using G);clear D a6 ad G
     rcases ds with ck | ⟨ck,bn⟩
     all_goals
      go_wp2;go_ret;exact ea q
   .have bo:(fA p a.1 13 d e).length=1:=(by have hE:=bh.out.2.2;have cg:=cc.out.1;have hF:=cc.out.2;have ci:=V.out.len;rw[show (eB p a.1.m ⟨13,d,e⟩).1.length=1 from rfl]at cg ci;omega);obtain⟨gq,d5,_⟩:=EZ V.out;have bs:=V.out.kind (j:=0) (t:=a.1.m.ret) rfl;obtain⟨br,a8⟩:=ea gp;obtain rfl:=br (by omega);obtain⟨hI,a5,ac⟩:=a8 0 (by omega);rw[cr,bK]at a5 ac;have f2:(fA p a.1 13 d e)[0]=em a.1.stk:=(by simp only[d5];rfl);rw[f2]at a5 ac;rw[d5]at bs;have ad:fv n.objs (em a.1.stk)/\eF p (em a.1.stk).kind a.1.m.ret=true:=bs;have d6:T=1:=(by rw[<-ea gn];exact bo);have hT:(0:Int)<(T:Int):=(by omega);have h0:0<T:=(by omega);have e4:B.cell? ⟨R,2,U⟩=M ( .int .i64 a.1.m.ret):=h2.out.cell 2
    have hn:a.1.m.ret≠0->fv (s.ox.map Prod.fst) (em a.1.stk)/\iy (em a.1.stk).kind=true:=λE=>by
     rw[HS.out.ob];refine⟨ad.1,?_⟩;have q:3<=a.1.m.ret:=ar.out.ret.resolve_left E;have S:=ad.2;rw[show a.1.m.ret=(a.1.m.ret-3)+3 by omega,pe ad.1 HS.out.I.ob (iA HS.out.F) _ (by omega),aD]at S;exact S.1
    have hM:s.ox.length<=100:=(by have:=HS.out.I.ol;rw[<-HS.out.ob,aZ]at this;exact this);have a3:=Ou (Md b5.out.drew Z.out f0 hM iS (λc b=>by have:=ar.out.rest c b;omega) (em a.1.stk) a.1.m.ret hn);have a0:=Ou gq;have e5:=Ou ad;have ck:=Ou a4.out.ry;have Q:=ba.size;have hp:w.heap.size<=Y:=(by have:=hK.size;have:=b6.size;omega);have eo:=Oo ac;have hq:=Oo e4;dsimp only at eo hq;generalize em a.1.stk=A at *;clear gq d5 bs ad hn bo d6 br a8 f2;go_wp2;refine fk (λbe=>be.cell? ⟨Y,an,U⟩=M ( .int .i64 (fq A))/\be.cell? ⟨Y,an+1,U⟩=M ( .int .i64 (eI A))/\be.cell? ⟨R,2,U⟩=M ( .int .i64 a.1.m.ret)) ⟨a5,ac,e4⟩ λhHeld=>?_;refine dZ 184 0 ?_;refine dZ 185 1 ?_;refine dZ 186 2 ?_;refine dZ 187 3 ?_;refine dZ 188 4 ?_;refine dZ 189 5 ?_;refine el 6 (λcf ab=>?_);go_simp;refine a3.out.mono ?_;rintro f G ⟨bc,ds,d4⟩
    have ga:G.cell? ⟨Y,an,U⟩=M ( .int .i64 (fq A))/\G.cell? ⟨Y,an+1,U⟩=M ( .int .i64 (eI A))/\G.cell? ⟨R,2,U⟩=M ( .int .i64 a.1.m.ret):=
     ⟨(bc _ Y an ck.out hp eo).trans a5,(bc _ Y (an+1) ck.out hp eo).trans ac,(bc _ R 2 ck.out i2 hq).trans e4⟩
    rcases bX h with E | ⟨f9,hr,E⟩
    .obtain⟨rfl,D⟩:=ds E
     have q:Hid (mG p r w0 mb vp ask s n a.1 G (zR (zB false))):=by
      subst E;have a6:=ea V;refine .inr (.inl ⟨_,a0.out.trans (cP Sum.inl (Ct a6 A)),rfl,rfl,D.as rfl HS.out.ob HS.out.out (by rw[ea bf]) rfl (by rw[HS.out.ob];exact Nn HS.out.I.ob (iA HS.out.F) e5.out.1 e5.out.2 ar.out.ret)⟩)
     clear D ds d4 bc;go_wp2_with fail;refine ab.out _ _ ga λhHeld=>?_;refine dZ 4 7 ?_;refine eV ?_;clear hHeld;go_wp2;go_ret;exact ea q
    .rw [cR]at E;obtain⟨rfl,D⟩:=d4 f9 hr E
     have q:Hid (mG p r w0 mb vp ask s n a.1 G (zR (zB true))):=by
      subst E;have a6:=ea V;have hk:=ea a0;rw[aM]at a6 hk;exact .inl ⟨_,hk.trans (cP Sum.inl (Cs (gs:=f9.map Prod.fst) (g:=hr.1) a6 A)),by simp,rfl,D.as rfl HS.out.ob HS.out.out (by rw[ea bf]) HS.out.k⟩
     clear D ds d4 bc;go_wp2_with fail;refine ab.out _ _ ga λhHeld=>?_;refine dZ 4 7 ?_;refine eV ?_;clear hHeld;go_wp2;go_ret;exact ea q
   .have bz:(10<=b/\b<=12)->eI ((fA p a.1 b d e).getD 0 eO)≠0:=λL f=>ea h5 ⟨L,f⟩;have ck:=EW V.out (iA HS.out.F) H HS.out.I.len bz;rw[aZ,<-bh.out.2.1]at ck;obtain⟨⟨h1,a6⟩,hq,hr⟩:=b5.out.cut Z.out P ce.out cz;obtain⟨⟨kx,br⟩,es,A⟩:=a6.Bm (fx:=h) (y:=({ a.1 with stk:=a.1.stk.take c },{ a.2 with vs:=O u c o })) rfl P (a.1.pc+1);have hM:=d9.vc i P;have iF:=a4.out.ry.vc i P;have ad:ee (λa1=>a1=i) B ((B.setCell ⟨i,h.length*5+4,U⟩ (O u c o)).setCell ⟨i,h.length*5+2,U⟩ ( .int .i64 ((a.1.pc+1:Nat):Int))):=(jG B i (h.length*5+4) (O u c o)).trans (jG _ _ _ _) (λ_ _ f=>f);have ac:=jG B i (h.length*5+4) (O u c o);have h0:=ac.cell e3 (show ¬C=i by omega);have ih:=ad.cell e3 (show ¬C=i by omega);have ii:=ad.cell g2 (show ¬C=i by omega);have ij:=ad.cell hD (show ¬C=i by omega);have hI:=Np (s2:= { s with fx:=h++ [({ a.1 with stk:=a.1.stk.take c,pc:=a.1.pc+1 },{ a.2 with vs:=O u c o })] }) (y2:=({ a.1 with stk:=a.1.stk.take c,pc:=a.1.pc+1 },{ a.2 with vs:=O u c o })) HS.out ar.out V.out bz H rfl (by simp) (by show (a.1.stk.take c).length<=8;rw[aR];omega);have ci:(O u c o).ownBlock=a.2.vs.ownBlock:=by rw[ea ce];cases u <;> rfl
    have cg:pX ao.heap.size mb { s with fx:=h++ [({ a.1 with stk:=a.1.stk.take c,pc:=a.1.pc+1 },{ a.2 with vs:=O u c o })] } :=d9.same (λa cn=>cn) rfl rfl rfl (λc b=>by
     rcases aN.1 b with L | L
     .exact⟨c,by rw[ea Z];simp[L],rfl,rfl⟩
     .obtain rfl:=aC.1 L
      exact⟨a,by rw[ea Z];simp,rfl,ci⟩)
    have bo:=My br d2.out (fx:=h) (y:=({ a.1 with stk:=a.1.stk.take c,pc:=a.1.pc+1 },{ a.2 with vs:=O u c o })) rfl b d e (fA p a.1 b d e) hm T hY ao.heap.size cg (ap ba.size ad.size) (Fk e1.out ad (λa1 bs f=>by omega)) hI;obtain⟨D,e4⟩:∃D,D=jo p n.objs (h.length+1) (fA p a.1 b d e) b d:=⟨_,rfl⟩;have hF:jo p (s.ox.map Prod.fst) (h++ [(({ a.1 with stk:=a.1.stk.take c,pc:=a.1.pc+1 } :eD),({ a.2 with vs:=O u c o } :gD))]).length (fA p a.1 b d e) b d=D:=(by rw[HS.out.ob,aw];exact e4.symm);rw[<-e4]at ck
    have hE:=bo.mono (R':=λf be=>f=zR ( .int .i64 D)/\(D≠0->∃ b,fh p w0 be b mb vp ask { s with fx:=h++ [({ a.1 with stk:=a.1.stk.take c,pc:=a.1.pc+1 },{ a.2 with vs:=O u c o })] })/\(D=0->nX p w0 mb vp ask be (h.map Prod.fst++ [mz n.objs (fA p a.1 b d e) b d e { a.1 with stk:=a.1.stk.take c,pc:=a.1.pc+1 }]++nS p n.objs (fA p a.1 b d e) b e) (pP p n.objs (fA p a.1 b d e) b d e) s.out s.steps s.k s.v)) (λf be L=>by
     unfold pt at L;rw[hF,show ({ s with fx:=h++ [({ a.1 with stk:=a.1.stk.take c,pc:=a.1.pc+1 },{ a.2 with vs:=O u c o })] } :RS).ox=s.ox from rfl,HS.out.ob]at L
     exact L)
    have a3:=Ou hE;have f2:=Ou ck;have hp:(c:Int)<=(o:Int):=(by omega);have hn:(0:Int)<=(c:Int):=(by omega);have hT:((a.1.pc+1:Nat):Int)=(a.1.pc:Int)+1:=(by omega);rw[hT]at ih ii ij a3;clear a6 br ad ac hI ci cg bo hE hF e4 ck bz hT
    rcases H with rfl | rfl | rfl | rfl | rfl
    all_goals
     go_wp2_with fail;refine a3.out.mono ?_;rintro f G ⟨rfl,eo,d6⟩
     by_cases a5:D=0
     .obtain⟨e5,A,E,d4,d5,f9,a8,gq,ga⟩:=d6 a5;have i9:G.cell? ⟨mb,4,U⟩=M ( .int .i64 A.k):=E.eH.cell 4;have j1:=E.eH.frozen 4;have a0:=E.set (s':= { A with k:=0 }) 4 ( .int .i64 0);have j0:(G.setCell ⟨mb,4,U⟩ ( .int .i64 0)).cell? ⟨mb,4,U⟩=M ( .int .i64 0):=a0.eH.cell 4;have Q:(G.setCell ⟨mb,4,U⟩ ( .int .i64 0)).cell? ⟨mb,7,U⟩=M ( .int .i64 (s.steps:Int)):=(by rw[<-show A.steps=s.steps from a8];exact a0.eH.cell 7);have Q:=a0.eH.frozen 7;have ds:=a0.set (s':= { A with k:=0,steps:=A.steps+1 }) 7 ( .int .i64 ((A.steps:Int)+1));rw[show A.steps=s.steps from a8]at ds
      have q:Hid (mG p r w0 mb vp ask s n a.1 ((G.setCell ⟨mb,4,U⟩ ( .int .i64 0)).setCell ⟨mb,7,U⟩ ( .int .i64 ((s.steps:Int)+1))) (zR (zB true))):=
       .inl ⟨_,f2.out.2 a5,by simp,rfl,e5,_,ds,d4,d5,f9.trans HS.out.out,by show s.steps+1=_;rw[ea bf],rfl,ga⟩
      subst a5;clear eo d6 E a0 ds d4 d5 f9 a8 gq ga;go_wp2;go_ret;exact ea q
     .obtain⟨e5,E⟩:=eo a5;have i9:G.cell? ⟨mb,4,U⟩=M ( .int .i64 s.k):=E.eH.cell 4;have j1:=E.eH.frozen 4;have a0:=E.set (s':= { s with fx:=h++ [({ a.1 with stk:=a.1.stk.take c,pc:=a.1.pc+1 },{ a.2 with vs:=O u c o })],k:=D }) 4 ( .int .i64 D);have j0:(G.setCell ⟨mb,4,U⟩ ( .int .i64 D)).cell? ⟨mb,4,U⟩=M ( .int .i64 D):=a0.eH.cell 4;obtain⟨ds,ak⟩:=f2.out.1 a5;have a8:=xR ak
      have q:Hid (mG p r w0 mb vp ask s n a.1 (G.setCell ⟨mb,4,U⟩ ( .int .i64 D)) (zR (zB false))):=
       .inr (.inr ⟨_,ak,rfl,_,_,e5,_,a0,rfl,rfl,HS.out.out.trans a8.2.2.1.symm,HS.out.jt.trans a8.2.1.symm,rfl,rfl⟩)
      have A:(D != 0)=true:=(by simpa using a5);clear eo d6 E a0 ak a8 a5;go_wp2;go_ret;exact ea q
   .have E:=EY V.out H;rw[<-bh.out.2.1]at E;have a0:=Ou E;obtain⟨⟨h1,a6⟩,hq,hr⟩:=b5.out.cut Z.out P ce.out cz;have hM:=d9.vc i P;have iF:=a4.out.ry.vc i P;have ac:=jG B i (h.length*5+4) (O u c o);have h0:=ac.cell e3 (show ¬C=i by omega);have A:=ac.cell g2 (show ¬C=i by omega);have A:=ac.cell hD (show ¬C=i by omega);have ci:(O u c o).ownBlock=a.2.vs.ownBlock:=by rw[ea ce];cases u <;> rfl
    have cg:pX ao.heap.size mb { s with fx:=h++ [({ a.1 with stk:=a.1.stk.take c },{ a.2 with vs:=O u c o })] } :=d9.same (λa cn=>cn) rfl rfl rfl (λc b=>by
     rcases aN.1 b with L | L
     .exact⟨c,by rw[ea Z];simp[L],rfl,rfl⟩
     .obtain rfl:=aC.1 L
      exact⟨a,by rw[ea Z];simp,rfl,ci⟩)
    have ad:Ba b d (fA p a.1 b d e) ({ a.1 with stk:=a.1.stk.take c },{ a.2 with vs:=O u c o }) { s with fx:=h++ [({ a.1 with stk:=a.1.stk.take c },{ a.2 with vs:=O u c o })] } :=by
     have ej:=V.out.xX;refine⟨H,λf=>?_,λf=>?_,λf=>?_,?_,?_⟩
     .have q:=X.J.loc f;dsimp only at q;obtain⟨a1,bs⟩:=ax q.1;exact⟨a1,bs,by have:=ar.out.K.loc;show a1<a.1.loc.length;omega⟩
     .rw [ej]
      rcases f with rfl | rfl | rfl <;> simp[eB]
     .subst f;rw[ej];simp[eB]
     .show (a.1.stk.take c).length<=_
      rw[aR];omega
     .have:=HS.out.I.out
      show s.out.length<=_
      rw[HS.out.out];omega
    have bo:=Mp a6 (fx:=h) (y:=({ a.1 with stk:=a.1.stk.take c },{ a.2 with vs:=O u c o })) rfl f0 b d e (fA p a.1 b d e) hm T hY ao.heap.size cg (ap ba.size ac.size) (Fk e1.out ac (λa1 bs f=>by omega)) ad;have a3:=Ou bo;have hp:(c:Int)<=(o:Int):=(by omega);have hn:(0:Int)<=(c:Int):=(by omega);have i:(b == 7)=false:=(by simp;omega);have i:(b == 8)=false:=(by simp;omega);have i:(b == 18)=false:=(by simp;omega);have i:(b == 13)=false:=(by simp;omega);have i:(b == 9)=false:=(by simp;omega);have i:(b == 10)=false:=(by simp;omega);have i:(b == 11)=false:=(by simp;omega);have i:(b == 12)=false:=(by simp;omega);have i:(b == 17)=false:=(by simp;omega);have ds:(¬3<=b)\/(3<=b/\¬b<=6):=(by omega);clear a6 ac ci cg ad bo E H
    rcases ds with ck | ⟨ck,bn⟩
    all_goals
     go_wp2_with fail;refine a3.out.mono ?_;rintro f G ⟨rfl,kx,a5,f,br⟩;obtain⟨⟨ga,e5,f9,e4⟩,D⟩:=br.fin (fx:=h) (y:=(jr b d (fA p a.1 b d e) { a.1 with stk:=a.1.stk.take c },a5)) rfl P (a.1.pc+1);have q:Hid (mG p r w0 mb vp ask s n a.1 _ (zR (zB true))):=.inl ⟨_,ea a0,by simp,rfl,D.as rfl HS.out.ob (by rw[HS.out.out]) (by show s.steps+1=_;rw[ea bf]) HS.out.k⟩;clear D br;go_wp2;go_ret;exact ea q
end
end
def pZ (st:eJ):Option eh:=st.frames.head?.map eD.m
theorem Ge{a d b c}(e:b.m=c.m):(a++ [b]++d).head?.map eD.m=(a++ [c]).head?.map eD.m:=by
 cases a with
 | nil => simp[e]
 | cons a a => rfl
theorem EQ{p r S e H T j b}(l:sW p r S e T)(ac:S.fx=j++ [b])(c:OQ p r e= .inl H)(aa:j≠[]\/H.frames≠[]):pZ H=pZ e:=by
 have k:=l.run ac;have Z:e.frames.getLast? =M b.1:=by rw[k.he,bu]
 have d:gg p r e.steps b.1=0:=by
  by_cases i:gg p r e.steps b.1=0
  .exact i
  .rw [vE Z i]at c;cases c
 have Q:b.1.pc<b.1.m.code.length:=by
  have:=k.K.pc;unfold gg at d
  split at d
  .cases d
  .omega
 have O:ey b.1.m b.1.pc=b.1.m.code[b.1.pc]:=by unfold ey;rw[ae Q];rfl
 have y:=k.C8 l.F l.z (av Q);generalize b.1.m.code[b.1.pc]=x at *;obtain⟨a,q,A⟩:=x
 have s:ie p b.1.m b.1.loc b.1.stk a q A=true:=by
  unfold gg at d;rw[O]at d
  split at d
  .cases d
  split at d
  .cases d
  split at d
  .rename_i i;exact i
  .cases d
 have h:jW p r e (j.map Prod.fst) b.1 a q A:=⟨k.he,d,O,s,y.W,l.I.ob,k.K.vs,y.J⟩;have ad:=y.J.rq;have ak:=y.J.op1;dsimp only at ad ak;have ab:a=7\/(a=3\/a=4\/a=5\/a=6)\/(a=8\/a=18)\/a=13\/(a=9\/a=10\/a=11\/a=17\/a=12)\/(a=0\/a=1\/a=2\/a=14\/a=15\/a=16\/a=19\/a=20):=by omega
 have N:∀ {n:eD} {V:List eD} {t:List fL} {w:LVal} {u:List Int} {v:Nat},n.m=b.1.m->pZ ⟨j.map Prod.fst++ [n]++V,t,w,u,v⟩=pZ e:=λE=>by
  show ((j.map Prod.fst++ [_]++_).head?.map eD.m)=e.frames.head?.map eD.m
  rw[k.he];exact Ge E
 have B:∀ {n:eD} {t:List fL} {w:LVal} {u:List Int} {v:Nat},n.m=b.1.m->pZ ⟨j.map Prod.fst++ [n],t,w,u,v⟩=pZ e:=λ{n t w u v} E=>by
  have:=N (n:=n) (V:= []) (t:=t) (w:=w) (u:=u) (v:=v) E
  rwa[bL]at this
 rcases ab with rfl | o | o | rfl | o | o
 .rw [ES h]at c;obtain rfl:=dG c;exact B rfl
 .rw [EV h o]at c
  split at c
  .cases c
  .obtain rfl:=dG c;exact B rfl
 .rw [ER h o]at c;obtain rfl:=dG c;exact B rfl
 .rw [(EZ h).1]at c;obtain rfl:=dG c
  rcases bX j with C | ⟨D,L,C⟩
  .subst C;exact absurd (cP eJ.frames (Ct h (em b.1.stk))) (aa.resolve_left λi=>i rfl)
  .rw [cR]at C;subst C;rw[aM]at h ⊢;have:=Cs (gs:=D.map Prod.fst) (g:=L.1) h (em b.1.stk);rw[show (List.map Prod.fst [L])= [L.1] from rfl,this]
   show ((D.map Prod.fst++ [_]).head?.map eD.m)=e.frames.head?.map eD.m
   rw[k.he,aM]
   cases D with
   | nil => rfl
   | cons q R => rfl
 .by_cases G:(10<=a/\a<=12)/\eI ((fA p b.1 a q A).getD 0 eO)=0
  .obtain⟨R,s⟩:=ET h (iA l.F) G.1 G.2;rw[s]at c;cases c
  .obtain⟨X,Y⟩:=EW h (iA l.F) o l.I.len (λi U=>G ⟨i,U⟩)
   by_cases P:jo p e.objs ((j.map Prod.fst).length+1) (fA p b.1 a q A) a q=0
   .rw [Y P]at c;obtain rfl:=dG c;exact N (No _ _ _ _ _ _)
   .obtain⟨R,s⟩:=X P;rw[s]at c;cases c
 .rw [EY h o]at c;obtain rfl:=dG c;exact B (Lv _ _ _ _).1
theorem Nk{p fuel c d b}(e:c.frames.getLast? =M d)(a:OQ p fuel c= .inr b):b.2≠1:=by
 unfold OQ at a;rw[e]at a;dsimp only at a
 split at a
 .cases a
  unfold gg
  repeat' split
  all_goals simp
 split at a
 .cases a
 split at a
 .cases a
 split at a
 .cases a
 split at a
 .unfold oL at a;dsimp only at a
  split at a
  .cases a;simp
  split at a
  .cases a;simp
  .cases a
 split at a
 .cases a
 split at a
 .cases a
 .cases a
  unfold gr ku kz mI
  repeat' split
  all_goals simp
theorem IQ(c d e f:Value)(a b):(c::d::e::f::a)[4+b]? =a[b]? :=by
 rw[Nat.add_comm];simp only[bU]
def Em:RS:=⟨[],[],[],0,0,0,O U 0 0,O U 0 0,O U 0 0⟩
theorem fh.start(p){w b vp ask mb}(g:Below w.heap.size w b)(h:w.heap.size<=mb)(f:ed b mb 188 [vp,zB ask,O U 0 0,O U 0 0,J I 0,J I 0,O U 0 0,J I 0]):∃ j,fh p w b j mb vp ask Em:=by
 refine⟨λd=>if d<w.heap.size then (9,0) else (5,0),f,h,?_,World.ownsRow_nil _ _ _ _,λe a=>(by cases a),World.ownsRow_nil _ _ _ _,λe a=>(by cases a),World.ownsRow_nil _ _ _ _,λe a=>(by cases a),λa i c=>(by cases c),λd i c=>(by cases c),g,λd a=>?_⟩
 .show (if _ then _ else _)=_
  rw[af (by omega)]
 .show (if _ then _ else _)=_
  rw[am a]
section
variable {p : List eb} {fuel : Int} {w0 w : World} {mb : Nat} {vp : Value} {ask : Bool} {m0 : eh} {R : eJ × Int}
def rR (p:On)(fuel:Int)(w0:World)(mb:Nat)(vp:Value)(ask:Bool)(m0:eh)(R:eJ×Int)(w:World):Prop:=
 ∃n ρ s st,fh p w0 w ρ mb vp ask s/\sW p fuel s st ask/\s.fx≠[]/\s.v=0/\runM p fuel (n+1) st=M R/\pZ st=M m0
def yz (p:On)(w0:World)(mb:Nat)(vp:Value)(ask:Bool)(m0:eh)(R:eJ×Int)(w:World):Prop:=
 ∃frames objs,nX p w0 mb vp ask w frames objs R.1.out R.1.steps R.2 (if R.2=1 then kh R.1 R.1.told m0.ret else 0)
theorem MA (D:rR p fuel w0 mb vp ask m0 R w)(V:eQ w0 vp p)(P:ask=K\/R.2≠5) :
  Calls Tryz.prog 120 #[zP (M ⟨mb,0,U⟩),J .i64 fuel] w λn g=>
   (n=zR (zB K)/\rR p fuel w0 mb vp ask m0 R g/\fuel.toNat-tF (g.cell? ⟨mb,7,U⟩)<fuel.toNat-tF (w.cell? ⟨mb,7,U⟩))\/(n=zR (zB false)/\yz p w0 mb vp ask m0 R g):=by
 obtain⟨f,Z,q,X,v,b,T,B,a,i⟩:=D;obtain⟨h,k,j⟩:∃h k,q.fx=h++ [k]:=⟨_,_,(List.dropLast_concat_getLast T).symm⟩;have l:=b.run j;have S:X.frames.getLast? =M k.1:=by rw[l.he,bu]
 have E:w.cell? ⟨mb,7,U⟩=M (J .i64 (q.steps:Int)):=v.eH.cell 7;refine(Mu v V j b).mono ?_;rintro n g (⟨s,c,d,e,Y,r,x,t,G,H,u,L,N⟩ | ⟨s,c,d,e,o⟩ | ⟨C,c,e,O,W,o⟩)
 .left
  unfold runM at a;rw[c]at a;dsimp only at a
  cases f with
  | zero => cases a
  | succ f =>
   have n:=b.I.step b.F b.z b.f5 c;have v:=EU c;have v:=n.jt;refine⟨e,⟨f,Y,r,s,x,⟨b.F,b.z,b.f5,n,L,t,G,H,u,P.imp id λy C A=>?_⟩,λn=>d (by rw[<-t,n];rfl),N.trans B,a,by rw[EQ b j c (.inr d)];exact i⟩,?_⟩
   .unfold runM at a;rw[A]at a
    cases a
    exact y
   .have n:g.cell? ⟨mb,7,U⟩=M (J .i64 (r.steps:Int)):=x.eH.cell 7;rw[E,n]
    show fuel.toNat-(r.steps:Int).toNat<fuel.toNat-(q.steps:Int).toNat
    rw[u,b.jt];omega
 .right
  have Q:h= []:=by
   apply dA
   intro A;have:=EQ b j c (.inl A);unfold pZ at this;rw[d,l.he]at this
   cases y:h.map Prod.fst with
   | nil => exact A (List.map_eq_nil_iff.1 y)
   | cons b C => rw[y]at this; cases this
  subst Q;unfold runM at a;rw[c]at a;dsimp only at a
  cases f with
  | zero => cases a
  | succ f =>
   unfold runM OQ at a;rw[d]at a
   cases a
   have y:k.1.m=m0:=by
    unfold pZ at i;rw[l.he]at i;exact aT i
   subst y;exact⟨e,[],s.objs,o⟩
 .right
  unfold runM at a;rw[c]at a
  cases a
  refine⟨e,O,W,?_⟩;rw[af (Nk S c),<-B];exact o
end
theorem rR.start{p b c d fuel w0 w ρ mb vp ask a}(h:fi p=0)(j:eM p<=4194304)(x:mP p b c d.length=K)(u:0<=fuel)(g:fuel<=5000)(y:ask=K\/(nQ p b c d fuel).2≠5)(t:fh p w0 w ρ mb vp ask a)(f:a.fx.map Prod.fst=(ny p b c d).frames)(n:a.ox.map Prod.fst=(ny p b c d).objs)(o:a.out= [])(q:a.steps=0)(r:a.k=0)(s:a.v=0):rR p fuel w0 mb vp ask (ew p b c) (nQ p b c d fuel) w:=by
 obtain⟨l,e⟩:=vq h j x u g;refine⟨fuel.toNat,ρ,a,ny p b c d,t,⟨h,j,g,l,r,f,n,o,q,y.imp id λi a z=>?_⟩,λm=>?_,s,e,rfl⟩
 .unfold runM at e;rw[z]at e;rw[<-aT e]at i;exact i
 .rw [m]at f;cases f
theorem yz.out{p w0 w mb vp ask m0 R}(e:yz p w0 mb vp ask m0 R w):
  ∃k j b,ed w mb 188 [vp,zB ask,k,j,J I R.2,J I (if R.2=1 then kh R.1 R.1.told m0.ret else 0),b,J I (R.1.steps:Int)]/\w.ownsRow w0.heap.size 3 1 b R.1.out.length (R.1.out.map (J .i64))/\Below w0.heap.size w0 w/\¬b.ownBlock=M mb:=by
 obtain⟨b,b,b,b,c,b,b,f,g,h,i⟩:=e;have a:=c.eH;have d:=c.io;unfold uR at a;rw[f]at d;rw[g,h,i]at a;exact⟨_,_,_,a,d,c.bel,zW d a⟩
section
attribute [local go_sem ↓] Go.wp_at_zero Go.wp_at_succ
attribute [local go_sem] eZ
theorem Mr(p es h f d cc l s m)(d9:eQ m es p)(f4:je p)(D:eM p<=4194304)(en:eG 1 (gF m) cc d)(_hal4:d.length<=4194304):
  Calls Tryz.prog 64 #[.agg #[es],J I h,J I f,cc,J I l,zB s] m λa ga=>ut p h f (nQ p h f d l) (kB p h f d.length l s) m ga a:=by
 obtain⟨k,b6⟩:∃k,k=nQ p h f d l:=⟨_,rfl⟩;obtain⟨r,b5⟩:∃r,r=kB p h f d.length l s:=⟨_,rfl⟩;rw[<-b6,<-b5];have bo:=Ou b6;have bn:=Ou b5;have es:p.length<=4194304:=ap (fQ p) D;clear b6 b5;have V:=Ou d9;obtain⟨b5,b5,b5,b5,rfl,_,fo,ds⟩:=it en;obtain⟨aa,_,_,u,rfl,_⟩:=d9;have eR:=Ou ds;have b7:Below m.heap.size m ((m.alloc (zC #[O aa p.length u] 24)).alloc (zC #[J I 0,J I 0,O U 0 0,J I 0] 69)):=gS _ _ _;have be:=(Oz m #[O aa p.length u] 24).alloc (zC #[J I 0,J I 0,O U 0 0,J I 0] 69);have ab:=Oz (m.alloc (zC #[O aa p.length u] 24)) #[J I 0,J I 0,O U 0 0,J I 0] 69;rw[World.size_alloc]at ab;clear en ds;go_in
 go_wp2_with fail;generalize (m.alloc _).alloc _=W at *;refine(Ed p _ W (eA (Oq b7) V.out) f4 D).mono ?_;rintro a bc ⟨rfl,a1⟩;have G:=eu b7 a1;have bf:=be.below a1 (by have:=be.lt;omega);have ac:=ab.below a1 (by have:=ab.lt;omega);clear be ab a1 b7
 by_cases P:fi p=0
 rotate_left
 .have n:r=fi p:=by rw[ea bn];unfold kB;rw[af P]
  subst n;have v:=Ou P;have e:(fi p != 0)=K:=by simpa using P
  clear P;go_wp2_with (refine fJ gX ac 0 [J I 0,J I 0,O U 0 0,J I 0] rfl (by simp) pi (.tmp 12) (.tmp 27) rfl rfl rfl rfl ?_;intro A j o Z;rw[fw (by rfl)]at j)
  refine bodyPost_ret (jk rfl gX j rfl rfl) rfl ?_;exact⟨λa=>absurd a v.out,λ_=>rfl,G.trans (o.below G.size (λb N a=>by omega))⟩
 have v:=Ou P;rw[P];have f9:bc.cell? ⟨m.heap.size,0,U⟩=M (O aa p.length u):=bf.cell 0;have a6:Hid (¬(mP p h f d.length=K/\0<=l/\l<=5000)->r=4):=λe=>by rw[ea bn];unfold kB;rw[am v.out,af e]
 go_upto_region 4 with fail
 go_cut [45] (λb a=>∃ao,b=zB ao/\(ao=F↔(0<=h/\h<(p.length:Int))/\0<=l/\l<=5000)/\a=bc)
 case first=>
  by_cases b:h<0
  .go_wp2
   go_meet
   case rel=>exact ⟨_,rfl,⟨λa=>by simp at a,λa=>by omega⟩,rfl⟩
  by_cases b:(p.length:Int)<=h
  .go_wp2
   go_meet
   case rel=>exact ⟨_,rfl,⟨λa=>by simp at a,λa=>by omega⟩,rfl⟩
  by_cases b:l<0
  .go_wp2
   go_meet
   case rel=>exact ⟨_,rfl,⟨λa=>by simp at a,λa=>by omega⟩,rfl⟩
  by_cases b:5000<l
  .go_wp2
   go_meet
   case rel=>exact ⟨_,rfl,⟨λa=>by simp at a,λa=>by omega⟩,rfl⟩
  go_wp2
  go_meet
  case rel=>exact ⟨_,rfl,⟨λ_=>by omega,λ_=>rfl⟩,rfl⟩
 case rest=>
 obtain⟨ao,rfl,b8,rfl⟩:=hcut
 rename World=>bc
 cases ao with
 | true =>
  have n:r=4:=ea a6 (λe=>by
   have:=b8.2 ⟨(qA.1 e.1).1,e.2⟩
   cases this)
  subst n;go_wp2_with (refine fJ gX ac 0 [J I 0,J I 0,O U 0 0,J I 0] rfl (by simp) pi (.tmp 12) (.tmp 46) rfl rfl rfl rfl ?_;intro A j o Z;rw[fw (by rfl)]at j)
  refine bodyPost_ret (jk rfl gX j rfl rfl) rfl ?_;exact⟨λa=>(by cases a),λ_=>rfl,G.trans (o.below G.size (λb N a=>by omega))⟩
 | false =>
 obtain⟨⟨bs,ar⟩,bI,bM⟩:=b8.1 rfl;have a3:=iA v.out;clear b8;go_wp2_with fail;refine(vj p _ p.length h f bc (eA (Oq G) V.out) a3 (ai _) (by omega) ar D).mono ?_;rintro a E ⟨rfl,a2⟩;have H:=eu G a2;have cf:=bf.bl a2;have bh:=ac.bl a2;have P:E.cell? ⟨m.heap.size,0,U⟩=M (O aa p.length u):=cf.cell 0;clear f9 bf ac a2 G
 cases x:(fy p h f).isSome with
 | false =>
  have Y:jU p h f=(-1,-1):=by
   unfold jU
   cases e:fy p h f with
   | none => rfl
   | some b => rw[e]at x; cases x
  have n:r=4:=ea a6 (λe=>by
   have:=(qA.1 e.1).2.1
   rw[x]at this;cases this)
  subst n;rw[Y];dsimp only;clear x Y;go_upto_region 8 with fail
  go_wp2_with (refine fJ gX bh 0 [J I 0,J I 0,O U 0 0,J I 0] rfl (by simp) pi (.tmp 12) (.tmp 72) rfl rfl rfl rfl ?_;intro A j o Z;rw[fw (by rfl)]at j)
  refine bodyPost_ret (jk rfl gX j rfl rfl) rfl ?_;exact⟨λa=>(by cases a),λ_=>rfl,H.trans (o.below H.size (λb N a=>by omega))⟩
 | true =>
 obtain⟨a0,cb,d4,ca,_⟩:=sh a3 x;have Y:jU p h f=((a0:Int),(cb:Int)):=by unfold jU;rw[d4]
 rw[Y];dsimp only;obtain⟨T,S,G,G,G,f6,G,cc,G,G,ec,G,bz,G,q,_,a5,_,_,_,_,_⟩:=zN V.out ca;simp only[Value.slice.injEq,true_and]at ec;obtain⟨rfl,rfl⟩:=ec;obtain⟨G,G,G,G,rfl,_,ei,ej⟩:=it q.1;have cs:=Ou ej;have X:=jw.1 (nL v.out x);obtain⟨g,y⟩:∃g,g=(ew p h f).args:=⟨_,rfl⟩;have G:g.length<=4194304:=by rw[y];have:=X.2.2.1;omega
 have e3:=Ou (aq X y);rw[<-y]at a5 ei cs
 have eo:Hid (¬(g.length=d.length/\∀w∈g,w=0)->r=4):=λe=>ea a6 (λi=>e (by
  have:=(qA.1 i.1).2.2
  rw[y];exact this))
 have gf:Hid (g.length=d.length->(∀w∈g,w=0)->mP p h f d.length=K):=λe i=>qA.2 ⟨⟨bs,ar⟩,x,by rw[<-y];exact e,by rw[<-y];exact i⟩;have e4:=Ou x;have h:=Ou ca;replace bz:=Oq H _ _ bz;replace a5:=Oq H _ _ a5;have h:(0:Int)<=(a0:Int):=by omega
 have h:(a0:Int)<(p.length:Int):=by omega
 have h:(0:Int)<=(cb:Int):=by omega
 have h:(cb:Int)<(f6:Int):=by omega
 have h:¬(a0:Int)<0:=by omega
 clear x d4 ca Y q ej y X a6
 by_cases d5:g.length=d.length
 rotate_left
 .have n:r=4:=ea eo (λe=>d5 e.1);subst n;have f1:¬(g.length:Int)=(d.length:Int):=by omega
  go_upto_region 8 with fail
  go_wp2_with (refine fJ gX bh 0 [J I 0,J I 0,O U 0 0,J I 0] rfl (by simp) pi (.tmp 12) (.tmp 72) rfl rfl rfl rfl ?_;intro A j o Z;rw[fw (by rfl)]at j)
  refine bodyPost_ret (jk rfl gX j rfl rfl) rfl ?_;exact⟨λa=>(by cases a),λ_=>rfl,H.trans (o.below H.size (λb N a=>by omega))⟩
 have an:=Ou d5;have f1:(g.length:Int)=(d.length:Int):=by omega
 obtain⟨t,rfl⟩:=ax bs;go_wp2
 go_loopw [17,18] (λe a wr=>∃(b:Nat) (ce:Value),b<=d.length/\a=J I b/\e=ce/\Hid (∀w∈g.take b,w=0)/\wr.ownsRow E.heap.size 183 2 ce ((d.take b).map gt).length (fY ((d.take b).map gt))/\Below E.heap.size E wr) (λ_ a _=>d.length-(intOf a).toNat)
 case atStart=>exact ⟨0,_,az _,rfl,rfl,λw n=>(by cases n),World.ownsRow_nil _ _ _ _,ay _ _⟩
 case round=>
  obtain⟨b,ce,N,rfl,rfl,cp,Q,C⟩:=hrel;have L:=eu H C;have cg:=cf.bl C;have bk:=bh.bl C;have h:wr.cell? ⟨m.heap.size,0,U⟩=M (O (M ⟨T,S,U⟩) p.length u):=cg.cell 0;have a4:((d.take b).map gt).length=b:=by rw[aZ,aR];omega
  obtain⟨a8,ba,rfl⟩:=fd Q
  by_cases b9:b<d.length
  .have z:b<g.length:=(by have:=ea an;omega);obtain rfl:=ei (eW z);obtain rfl:=fo (eW b9);have h:=Oq C _ _ bz;have h:=Oq C _ _ a5;have h:=Oq L _ _ (ea cs b z);have h:=Oq L _ _ (ea eR b b9);have h:(0:Int)<=(b:Int):=(by omega);have h:(b:Int)<(d.length:Int):=(by omega);have h:(b:Int)<(g.length:Int):=(by omega);have ci:Hid (g[b]? =M g[b]):=ae z;have br:Hid (d[b]? =M d[b]):=ae b9;have ck:Hid (g[b]∈g):=av z;generalize g[b]=tk at *;generalize d[b]=ak at *
   by_cases ad:tk=0
   rotate_left
   .have n:r=4:=ea eo (λe=>ad (e.2 _ ck.out));subst n;go_upto_region 14 with fail
    go_wp2_with (refine fJ gX bk 0 [J I 0,J I 0,O U 0 0,J I 0] rfl (by simp) pi (.tmp 12) (.tmp 93) rfl rfl rfl rfl ?_;intro A j o Z;rw[fw (by rfl)]at j)
    refine bodyPost_ret (jk rfl gX j rfl rfl) rfl ?_;exact⟨λa=>(by cases a),λ_=>rfl,L.trans (o.below L.size (λb N a=>by omega))⟩
   subst ad;obtain⟨Z,B,A,R,cm,o,h⟩:=wa Q C.size (by omega) (gt ak) wr.heap.size rfl;have cn:((d.take (b+1)).map gt)=(d.take b).map gt++ [gt ak]:=(by rw[bd,ea br,aM];rfl);have h:∀i,(O a8 ((d.take b).map gt).length ba).ownBlock=M i->E.heap.size<=i:=λi q=>(Q.lt i q).1
   have j:Hid ((∀w∈g.take (b+1),w=0)/\A.ownsRow E.heap.size 183 2 (O Z (((d.take b).map gt).length+1) B) ((d.take (b+1)).map gt).length (fY ((d.take (b+1)).map gt))/\Below E.heap.size E A):=by
    refine⟨λw n=>?_,by rw[cn];exact cm,C.trans (o.below C.size (λi q a=>by have:=h i a;omega))⟩;rw[bd,ea ci]at n
    rcases aN.1 n with e | e
    .exact ea cp w e
    .exact aC.1 e
   rw[a4]at j R;have n:(Builtin.append_ #[181,181] 181 #[O a8 b ba,O (M ⟨wr.heap.size,0,U⟩) 1 1]).run Tryz.prog (wr.alloc (zC #[J I 1,J I ak] 183))= .ok (O Z (b+1) B) A:=R;rw[a4];go_wp2_with (at_builtin;refine OA rfl (.tmp 94) (.tmp 100) 181 rfl _ _ rfl rfl n ?_)
   go_roundw
   case rel=>exact ⟨b+1,_,by omega,by go_num,rfl,j.out.1,j.out.2.1,j.out.2.2⟩
   case measure=>simp[intOf];omega
  .obtain rfl:b=d.length:=by omega
   have br:=Ou (ea gf an.out (by have:=ea cp;rwa[<-ea an,bG]at this));rw[bG]at Q a4;rw[a4]at Q;have cn:=Ou Q
   have ci:Hid (r=if s=K\/kN p=K then 0 else 5):=by
    show _=_
    rw[ea bn];unfold kB;rw[am v.out,am ⟨ea br,bI,bM⟩]
   rw[bG,aZ];go_upto_if 103 with fail
   go_cut [] (λa=>(s=K\/kN p=K)/\Below wr.heap.size wr a)
   case first=>
    cases s with
    | true =>
     go_wp2
     go_meet
     case rel=>exact ⟨.inl (by simp),ay _ _⟩
    | false =>
     go_wp2_with fail;refine(Mn p _ wr (eA (Oq L) V.out) v.out D).mono ?_;rintro a z ⟨rfl,B⟩
     cases ck:kN p with
     | true =>
      have j:=Ou ck;go_wp2
      go_meet
      case rel=>exact ⟨.inr j.out,B⟩
     | false =>
      have n:r=5:=(by rw[ea ci,ck];rfl);subst n;have ad:=bk.bl B;have R:=eu L B;go_upto_region 19 with fail
      go_wp2_with (refine fJ gX ad 0 [J I 0,J I 0,O U 0 0,J I 0] rfl (by simp) pi (.tmp 12) (.tmp 108) rfl rfl rfl rfl ?_;intro A j o Z;rw[fw (by rfl)]at j)
      refine bodyPost_ret (jk rfl gX j rfl rfl) rfl ?_;exact⟨λa=>(by cases a),λ_=>rfl,R.trans (o.below R.size (λb N a=>by omega))⟩
   case rest=>
   obtain⟨d6,B⟩:=hcut
   rename World=>z
   have n:r=0:=(by rw[ea ci,am d6]);subst n;have fs:s=K\/k.2≠5:=d6.imp id λa=>by rw[ea bo];exact Eu v.out D br.out bI bM a
   have R:=eu L B;have g:=cg.bl B;have ad:=bk.bl B;have h:z.cell? ⟨m.heap.size,0,U⟩=M (O (M ⟨T,S,U⟩) p.length u):=g.cell 0;have j:=Ou (eX cn.out (Ox B) (λi q a=>by have:=(cn.out.lt i q).2;omega));have d1:=ev z (zC #[O (M ⟨T,S,U⟩) p.length u,zB s,O U 0 0,O U 0 0,J I 0,J I 0,O U 0 0,J I 0] 188);have eK:=Oz z #[O (M ⟨T,S,U⟩) p.length u,zB s,O U 0 0,O U 0 0,J I 0,J I 0,O U 0 0,J I 0] 188;obtain⟨g,g⟩:=fh.start p d1 (ai _) eK;have e5:=Ou g;have eS:=Ou d1;have g:=zk v.out (c:=(t:Int)) (by omega) ar;have o:=Ou (eA (Oq R) V.out);obtain⟨X,y⟩:=ea e3
   have ft:1+(d.length:Int)<=(ew p (t:Int) f).locals/\(ew p (t:Int) f).locals<=8:=by
    have A:=ea an;rw[y]at A;have g:=X.2.2.2.2.2.2.1;omega
   have cm:=Ou ft;have Z:=Ou fs;go_wp2_with fail;refine(Es e5.out o.out a3 D (by decide) t (by omega) (by omega)).mono ?_;rintro a gb A;unfold qI at A;rw[af (by decide)]at A;obtain⟨d3,⟨g,g,g,fn⟩,fc⟩:=A;rw[show ((Em.ox.length:Nat):Int)+1=1 from rfl]at d3;subst d3
   have dp:=eX (eX j.out (Ox eS.out) (λi q a=>by have:=(j.out.lt i q).2;omega)) fc (λi q a=>by
    rcases a with a | a
    .have:=(j.out.lt i q).2;omega
    .cases a)
   have f2:eG 2 (mC gb.cell?) (O a8 d.length ba) (d.map gt):=by
    rw[show d.length=(d.map gt).length from (aZ _).symm]at dp ⊢;exact uX dp
   have cz:=Eo fn o.out a3 D (az _) (t:Int) f bs ar e4.out (ju (t:Int) 0) (d.map gt) a8 d.length ba f2 (by rw[aZ];exact cm.out.1) cm.out.2;rw[show fq (ju (t:Int) 0)=2 from rfl,show eI (ju (t:Int) 0)=1 from rfl]at cz;have e0:=Ou cz;go_wp2_with fail;refine e0.out.mono ?_;rintro a gc ⟨rfl,⟨d,d,d,d⟩,_⟩
   have e1:Hid (rR p l z z.heap.size (O (M ⟨T,S,U⟩) p.length u) s (ew p (t:Int) f) k gc):=by
    have e:=rR.start v.out D br.out bI bM (by rw[<-ea bo];exact ea Z) d rfl rfl rfl rfl rfl rfl;rw[<-ea bo]at e;exact e
   obtain⟨et,rfl⟩:∃et:World,et=wr:=⟨_,rfl⟩;go_wp2
   go_loopw [22] (λ_ a=>rR p l z z.heap.size (O (M ⟨T,S,U⟩) p.length u) s (ew p (t:Int) f) k a) (λ_ a=>l.toNat-tF (a.cell? ⟨z.heap.size,7,U⟩))
   case atStart=>exact ea e1
   case round=>
    have e2:=Ou hrel;go_wp2_with fail;refine(MA e2.out o.out Z.out).mono ?_;rintro a d (⟨rfl,fa,f0⟩ | ⟨rfl,e9⟩)
    .have ck:=Ou (aq fa f0);go_wp2
     go_roundw
     case rel=>exact ck.out.1
     case measure=>exact ck.out.2
    .obtain⟨d,d,d,e7,eg,d0,d⟩:=e9.out;have eP:=ad.bl d0;obtain⟨ep,er,rfl⟩:=fd eg;generalize f3:(if k.2=1 then kh k.1 k.1.told (ew p (t:Int) f).ret else 0)=vv at *;have e6:=Ou f3;have ck:=Ou eg;have d:=ad.lt;go_upto_region 25 with fail
     go_wp2_with (first
      | refine jv gX e7 4 [J I k.2,J I vv,O ep k.1.out.length er,J I (k.1.steps : Int)] rfl (λd b a => by rw[IQ]; exact a) (.tmp 130) rfl rfl rfl ?_
      | (refine fJ gX eP 0 [J I k.2,J I vv,O ep k.1.out.length er,J I (k.1.steps : Int)] rfl (by simp) (λb a => by simp only[aE, aF, or_false]at a; rcases a with rfl | rfl | rfl | rfl <;> rfl) (.tmp 12) (.tmp 131) rfl rfl rfl rfl ?_; intro d cu cA d; rw[fw (by rfl)]at cu))
     refine bodyPost_ret (jk rfl gX cu rfl rfl) rfl ?_;have d2:=eu R d0;refine Al ⟨_,by rw[ea e6];rfl,Ov (eX ck.out cA (λi q a=>?_)) R.size,d2.trans (cA.below d2.size (λb N a=>by omega))⟩;have:=(ck.out.lt i q).1;omega
end
end Go.Proofs.YtiiokkllmchohaaGreat
