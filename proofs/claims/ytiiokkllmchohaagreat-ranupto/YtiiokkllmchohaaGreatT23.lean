/- The machine's frames: pop, top. -/
import Derived.Test.YtiiokkllmchohaaGreatT22
set_option maxHeartbeats 0
set_option maxRecDepth 99999
namespace Go.Proofs.YtiiokkllmchohaaGreat
open Go.Value renaming int->J,slice->O,pointer->zP,bool->zB
open Go.IntKind renaming i64->I
open Option renaming none->U,some->M
open Bool renaming true->K,false->F
open Go.Ending renaming returned->zR
open Go.Obj renaming cells->zC
open Go.RowKit Go.Shelf
section
attribute [local go_sem ↓] Go.wp_at_zero Go.wp_at_succ
attribute [local go_sem] eZ
section
variable {w w' : World} {B : Nat} {A : List Nat} {fb : Nat} {mc : List Value} {pc : Int} {vl : Value} {loc : List LVal} {vs : Value} {stk : List LVal}
theorem gL.mods{c}(a:gL w B A fb mc pc vl loc vs stk)(d:ee c w w')(e:¬c fb)(f:∀b,vl.ownBlock=M b->¬c b)(g:∀b,vs.ownBlock=M b->¬c b):gL w' B A fb mc pc vl loc vs stk:=
 ⟨a.blk.mods d e,a.l7,a.base,eX a.lo d f,eX a.st d g,a.ne⟩
theorem gL.below{b}(a:gL w B A fb mc pc vl loc vs stk)(c:Below b w w')(d:w.heap.size<=b):gL w' B A fb mc pc vl loc vs stk:=
 a.mods (Ox c) (by have:=a.blk.lt;omega) (λb c=>by have:=(a.lo.lt b c).2;omega) (λb c=>by have:=(a.st.lt b c).2;omega)
end
theorem Co(A):∀(d:List LVal) (a:Nat) (b:LVal),a<d.length->fF A (d.set a b)=OL (fF A d) (a*3) (ff A b)
 | [], a, b, h => by simp at h
 | u :: r, 0, b, _ => by
  show ff A b++fF A r=OL (ff A u++fF A r) (0*3) (ff A b)
  unfold OL;have c:(ff A u).length=3:=rfl;have e:(ff A b).length=3:=rfl;rw[cr,List.take_zero,bN,e,bJ,cY,c,co,List.drop_zero,ct (by rw[c];omega),bN]
 | u :: r, a + 1, b, h => by
  show ff A u++fF A (r.set a b)=OL (ff A u++fF A r) ((a+1)*3) (ff A b)
  have f:=Co A r a b (by simpa using h);have c:(ff A u).length=3:=rfl;have e:(ff A b).length=3:=rfl;have i:(ff A u).take ((a+1)*3)=ff A u:=aH (by rw[c];omega);have g:(ff A u).drop ((a+1)*3+3)= []:=ct (by rw[c];omega);unfold OL at f ⊢;rw[f,e,dK,cY,c,i,g,bN,show (a+1)*3-3=a*3 by omega,show (a+1)*3+3-3=a*3+3 by omega];simp only[a9]
theorem DQ{w B A e f g c a}(d)(l:w.ownsRow B 170 3 (O (M ⟨e,0,U⟩) f g) f (fF A a))(v:f=a.length)(t:c<a.length):
  ∃b,ed w e 170 b/\c*3+3<=b.length/\∀w',ed w' e 170 (OL b (c*3) (ff A d))->w'.ownsRow B 170 3 (O (M ⟨e,0,U⟩) f g) f (fF A (a.set c d)):=by
 subst v
 rcases l.2 with ⟨h,_⟩ | ⟨f,f,b,h,m,n,o,p,q,r⟩
 .cases h
 .cases h
  have j:b.toList.length=g*3:=by rw[Array.length_toList];exact q
  have i:c*3+3<=b.toList.length:=by rw[j];omega
  refine⟨b.toList,n,i,λw' s=>⟨by rw[sf,aO],.inr ⟨e,g,(OL b.toList (c*3) (ff A d)).toArray,rfl,m,s,o,p,?_,?_⟩⟩⟩
  .rw [dt,tV (by exact i),j]
  .have u:(fF A a).length=a.length*3:=sf A a;have k:(ff A d).length=3:=rfl;rw[Co A a c d t]
   show (OL b.toList (c*3) (ff A d)).take (a.length*3)=_
   apply cM
   intro x;rw[bj,rv (by exact i),rv (by rw[u,k];omega),k,<-r,bj]
   by_cases b:x<a.length*3
   .simp only [b,if_true]
   .simp only [b,if_false];rw[af (by omega),af (by omega)]
def vW (B:Nat)(A:Ol)(fb:Nat)(mc:Oj)(pc:Int)(vl:Value)(loc:List LVal)(vs:Value)(stk:List LVal)(v:LVal)(w w':World)(e:Ending):Prop:=
 ∃vs',e=zR (.agg (ff A v).toArray)/\gL w' B A fb mc pc vl loc vs' stk/\vs'.ownBlock=vs.ownBlock/\ee (λk=>k=fb) w w'
theorem jT(B A fb mc pc vl loc vs stk b w)(e:gL w B A fb mc pc vl loc vs (stk++ [b]))(H:stk.length<4194304):
  Calls Tryz.prog 170 #[zP (M ⟨fb,0,U⟩)] w λd w'=>vW B A fb mc pc vl loc vs stk b w w' d:=by
 have i:=ev w (zC #[J I 0,J I 0,zP U] 170);have q:=Oz w #[J I 0,J I 0,zP U] 170;have s:=Ou (e.below i (ai _));have:=e.blk.lt;have o:∀a,vs.ownBlock=M a->a<w.heap.size:=λa c=>(e.st.lt a c).2;have D:∀a,vl.ownBlock=M a->a<w.heap.size:=λa c=>(e.lo.lt a c).2;have:(stk++ [b]).length=stk.length+1:=by simp
 have x:Hid ((stk++ [b]).take stk.length=stk):=by show _=_;simp
 have t:Hid ((stk++ [b]).drop stk.length= [b]):=by show _=_;simp
 have v:=Ou (oN A b);go_in
 go_wp2_with fail;generalize w.alloc _=W at *;refine(Dy B A fb mc pc vl loc vs (stk++ [b]) 1 W s (by omega) (by omega)).mono ?_;rintro d e ⟨e,e,G,rfl,e,_,C,f,l,y,h⟩;obtain⟨a,rfl,c⟩:=C (by omega);have j:(stk++ [b]).length-1=stk.length:=by omega
 rw[j,ea x]at l;rw[j,ea t]at f;rw[j];have p:=f _ rfl 0 _ rfl;have E:=f _ rfl 1 _ rfl;have F:=f _ rfl 2 _ rfl;rw[yG]at p E F;rw[bK]at p;have r:=q.mods h (by omega);have g:=Ou (aq l y);have:=h.size;have:=i.size;have:=o a c;have u:=Ou ((fX (S:=λa=>a=fb) i).trans h (λ_ _ d=>d));have n:=ea v;unfold ff at n;generalize z:ic A b.obj=ob at *;go_wp2_with (refine fJ jf r 0 [J I b.kind,J I b.num,ob] rfl (by simp) n (.tmp 2) (.tmp 6) rfl rfl rfl rfl ?_;intro b k m b)
 rw[fw (by rfl)]at k;refine bodyPost_ret (j9 rfl jf k rfl rfl) rfl ?_;refine⟨G,by unfold ff;rw[z],g.1.mods m (by omega) (λa c d=>?_) (λa c d=>?_),g.2,u.trans m (λa b d=>by omega)⟩
 .have:=D a c;omega
 .rw [g.out.2]at c;have:=o a c;omega
theorem Dz(B A fb mc pc vl loc vs stk a w)(f:gL w B A fb mc pc vl loc vs (stk++ [a]))(h:stk.length<4194304):
  Calls Tryz.prog 214 #[zP (M ⟨fb,0,U⟩)] w λj w'=>sY (ff A a) w w' j:=by
 have g:=ev w (zC #[J I 0,J I 0,zP U] 170);have p:=Oz w #[J I 0,J I 0,zP U] 170;have s:(stk++ [a]).length=stk.length+1:=by simp
 obtain⟨b,q,rfl,h,_,i⟩:=jH f.st (by omega);have h:(stk++ [a])[stk.length]? =M a:=by simp
 have l:w.cell? ⟨b,stk.length*3,U⟩=M (J I a.kind):=by
  rw[i _ (by omega)];exact oh A _ _ a h 0 (by omega)
 have u:w.cell? ⟨b,stk.length*3+1,U⟩=M (J I a.num):=by
  rw[i _ (by omega)];exact oh A _ _ a h 1 (by omega)
 have v:w.cell? ⟨b,stk.length*3+2,U⟩=M (ic A a.obj):=by
  rw[i _ (by omega)];exact oh A _ _ a h 2 (by omega)
 have h:=f.c7.2.2;have d:=Oq g;have m:=d _ _ l;have n:=d _ _ u;have o:=d _ _ v;have e:=d _ _ h;have t:=oN A a;unfold ff at *;generalize ic A a.obj=ob at *;rw[s]at e;have:((stk.length+1:Nat):Int)-1=(stk.length:Int):=by omega
 have:=fp stk.length;have:IntKind.i64.wrap (stk.length:Int)=(stk.length:Int):=by rw[IntKind.wrap_i64];omega
 have:(stk.length:Int)<(stk.length:Int)+1:=by omega
 have:(stk.length:Int)<((stk.length+1:Nat):Int):=by omega
 have:b<w.heap.size:=World.block_lt_of_cell? w _ l;have:fb<w.heap.size:=f.blk.lt;go_in
 go_wp2_with fail;generalize w.alloc _=W at *;refine fk (λw'=>w'.cell? ⟨fb,9,U⟩=M (O (M ⟨b,0,U⟩) (stk.length+1) q)/\w'.cell? ⟨b,stk.length*3,U⟩=M (J I a.kind)/\w'.cell? ⟨b,stk.length*3+1,U⟩=M (J I a.num)/\w'.cell? ⟨b,stk.length*3+2,U⟩=M ob) ⟨e,m,n,o⟩ λhHeld=>?_;refine dZ 3 0 ?_;refine dZ 4 1 ?_;refine dZ 5 2 ?_;refine dZ 6 3 ?_;refine dZ 7 4 ?_;refine dZ 8 5 ?_;refine dZ 9 6 ?_;refine dZ 10 7 ?_;refine dZ 11 8 ?_;refine dZ 12 9 ?_;refine dZ 13 10 ?_;refine dZ 14 11 ?_;refine el 12 (λb r=>?_);refine kS jf p.drew 0 [J I a.kind,J I a.num,ob] rfl (by simp) t (.tmp 2) (.tmp 14) rfl rfl rfl ?_;intro a k c a;rw[fw (by rfl)]at k;refine r.out _ _ ⟨c.cell (w:=W.drew) e ?_,c.cell (w:=W.drew) m ?_,c.cell (w:=W.drew) n ?_,c.cell (w:=W.drew) o ?_⟩ λhHeld=>?_
 .dsimp only;omega
 .dsimp only;omega
 .dsimp only;omega
 .dsimp only;omega
 try simp only[Act.put]
 refine eV ?_;go_wp2;refine bodyPost_ret (j9 rfl jf k rfl rfl) rfl ?_;exact⟨rfl,g.drew.trans (c.below g.size (λd a j=>by omega))⟩
theorem Ka(x c w):Calls Tryz.prog 231 #[J I 3,J I x,J I c] w λd e=>d=zR (J I (wrap64 (x+c)))/\e=w:=by
 go_in
 go_wp2;go_ret;exact⟨rfl,rfl⟩
theorem Kj(x c w):Calls Tryz.prog 231 #[J I 4,J I x,J I c] w λd e=>d=zR (J I (wrap64 (x-c)))/\e=w:=by
 go_in
 go_wp2;go_ret;exact⟨rfl,rfl⟩
theorem Kh(x c w):Calls Tryz.prog 231 #[J I 5,J I x,J I c] w λd e=>d=zR (J I (wrap64 (x*c)))/\e=w:=by
 go_in
 go_wp2;go_ret;exact⟨rfl,rfl⟩
theorem Ki(x c w)(f:c≠0):Calls Tryz.prog 231 #[J I 6,J I x,J I c] w λd e=>d=zR (J I (wrap64 (Int.tdiv x c)))/\e=w:=by
 go_in
 go_wp2;go_ret;exact⟨rfl,rfl⟩
def lS (B:Nat)(A:Ol)(fb:Nat)(mc:Oj)(pc:Int)(vl:Value)(vs:Value)(loc stk:List LVal)(w w':World)(e:Ending):Prop:=
 ∃vs',e=zR (.tuple #[])/\gL w' B A fb mc pc vl loc vs' stk/\ee (λk=>k=fb\/vs.ownBlock=M k\/vl.ownBlock=M k) w w'/\(vs'.ownBlock=vs.ownBlock\/∃k,w.heap.size<=k/\vs'.ownBlock=M k)
theorem vX.move{B A fb mc pc vl loc vs f stk l g w m c}(n:vX B A fb mc pc vl loc vs stk l w m c)(i:ee (λd=>d=fb\/f.ownBlock=M d\/vl.ownBlock=M d) g w)(j:vs.ownBlock=f.ownBlock\/∃d,g.heap.size<=d/\vs.ownBlock=M d):lS B A fb mc pc vl f loc (stk++ [l]) g m c:=by
 obtain⟨m,f,g,l,o⟩:=n;refine⟨m,f,g,i.trans l (λd p c=>?_),?_⟩
 .rcases c with c | c
  .exact .inl c
  .rcases j with e | ⟨k,h,e⟩
   .exact .inr (.inl (e▸c))
   .rw [e]at c;cases c;omega
 .have:=i.size
  rcases o with c | ⟨d,p,c⟩
  .rcases j with e | ⟨k,h,e⟩
   .exact .inl (c.trans e)
   .exact .inr ⟨k,h,c.trans e⟩
  .exact .inr ⟨d,by omega,c⟩
section
variable (B : Nat) (A : List Nat) (fb : Nat) (mc : List Value) (pc : Int) (vl : Value) (loc : List LVal) (vs : Value) (stk : List LVal) (a b : Int) (w : World)
theorem KD (h:gL w B A fb mc pc vl loc vs stk)(i:B<=w.heap.size)(l:stk.length<=4194304):Calls Tryz.prog 215 #[zP (M ⟨fb,0,U⟩),.agg #[J I 0,J I a,J I b]] w λc j=>lS B A fb mc pc vl vs loc (stk++ [gt a]) w j c:=by
 have k:=ev w (zC #[J I 0,J I a,J I b] 60);go_in
 go_wp2_with fail;generalize w.alloc _=W at *;refine(sv a _).mono ?_;rintro c m ⟨rfl,j⟩;have d:=eu k j;have f:=Ou (h.below d (ai _));go_wp2_with fail;refine(nf B A fb mc pc vl loc vs stk (gt a) m f (ap i d.size) l).mono ?_;rintro c c e;have g:=Ou (e.move (fX d) (.inl rfl));obtain⟨c,rfl,_⟩:=e;go_wp2;go_end0;exact g
theorem KC (h:gL w B A fb mc pc vl loc vs stk)(i:B<=w.heap.size)(l:stk.length<=4194304):Calls Tryz.prog 215 #[zP (M ⟨fb,0,U⟩),.agg #[J I 16,J I a,J I b]] w λc j=>lS B A fb mc pc vl vs loc (stk++ [rm]) w j c:=by
 have k:=ev w (zC #[J I 16,J I a,J I b] 60);go_in
 go_wp2_with fail;generalize w.alloc _=W at *;refine(Dw _).mono ?_;rintro c m ⟨rfl,j⟩;have d:=eu k j;have f:=Ou (h.below d (ai _));go_wp2_with fail;refine(nf B A fb mc pc vl loc vs stk rm m f (ap i d.size) l).mono ?_;rintro c c e;have g:=Ou (e.move (fX d) (.inl rfl));obtain⟨c,rfl,_⟩:=e;go_wp2;go_end0;exact g
theorem KA(d:Nat)(x)(hx:loc[d]? =M x)(g:gL w B A fb mc pc vl loc vs stk)(C:B<=w.heap.size)(H:stk.length<=4194304)(k:loc.length<=4194304):Calls Tryz.prog 215 #[zP (M ⟨fb,0,U⟩),.agg #[J I 1,J I (d:Int),J I b]] w λe f=>lS B A fb mc pc vl vs loc (stk++ [x]) w f e:=by
 have j:=ev w (zC #[J I 1,J I (d:Int),J I b] 60);have u:=Oz w #[J I 1,J I (d:Int),J I b] 60;have:d<loc.length:=(ag.1 hx).1;obtain⟨c,o,rfl,k,_,m⟩:=jH g.lo (by omega);have k:=Oq j;have r:=k _ _ (show w.cell? ⟨c,d*3,U⟩=M (J I x.kind) by rw[m _ (by omega)];exact oh A _ _ x hx 0 (by omega));have s:=k _ _ (show w.cell? ⟨c,d*3+1,U⟩=M (J I x.num) by rw[m _ (by omega)];exact oh A _ _ x hx 1 (by omega));have t:=k _ _ (show w.cell? ⟨c,d*3+2,U⟩=M (ic A x.obj) by rw[m _ (by omega)];exact oh A _ _ x hx 2 (by omega));have z:=k _ _ g.c7.2.1;have:=g.blk.lt;have K:∀c,vs.ownBlock=M c->c<w.heap.size:=λc d=>(g.st.lt c d).2;have h:=Ou (g.below j (ai _));have:=fp d;have:(d:Int)<(loc.length:Int):=by omega
 have G:ff A x= [J I x.kind,J I x.num,ic A x.obj]:=rfl;generalize ic A x.obj=ob at *;have v:=Ou G;go_in
 go_wp2_with fail;generalize w.alloc _=W at *;have n:=u.c1;refine iY (λf=>f.cell? ⟨fb,8,U⟩=M (O (M ⟨c,0,U⟩) loc.length o)/\f.cell? ⟨w.heap.size,1,U⟩=M (J I (d:Int))/\f.cell? ⟨c,d*3,U⟩=M (J I x.kind)/\f.cell? ⟨c,d*3+1,U⟩=M (J I x.num)/\f.cell? ⟨c,d*3+2,U⟩=M ob) ⟨z,n,r,s,t⟩ λhHeld=>?_;refine dZ 25 0 ?_;refine dZ 26 1 ?_;refine dZ 27 2 ?_;refine dZ 28 3 ?_;refine dZ 29 4 ?_;refine dZ 30 5 ?_;refine dZ 31 6 ?_;refine dZ 32 7 ?_;refine dZ 33 8 ?_;refine el 9 (λd E=>?_);go_simp;have F:Below w.heap.size w W.drew:=j.drew;have q:=nf B A fb mc pc (O (M ⟨c,0,U⟩) loc.length o) loc vs stk x W.drew (h.below (ay _ _).drew (ai _)) (ap C j.size) H;rw[ea v]at q;refine q.mono ?_;rintro e d p;have y:=Ou (p.move (fX F) (.inl rfl));obtain⟨d,rfl,D,i,_⟩:=p
 have l:¬(c=fb\/vs.ownBlock=M c):=λe=>by
  rcases e with e | e
  .exact OO h.lo h.blk mQ (show _=M fb from e▸rfl)
  .exact h.ne c rfl e
 have L:¬(w.heap.size=fb\/vs.ownBlock=M w.heap.size):=λe=>by
  rcases e with e | e
  .omega
  .have:=K _ e;omega
 go_wp2_with fail;refine E.out _ _ ⟨D.c7.2.1,i.cell (w:=W.drew) n L,i.cell (w:=W.drew) r l,i.cell (w:=W.drew) s l,i.cell (w:=W.drew) t l⟩ λhHeld=>?_;refine ig ?_;go_wp2;go_end0;exact y
theorem vW.mods{B A fb mc pc vl loc vs stk g w f c}(h:vW B A fb mc pc vl loc vs stk g w f c):∃d,c=zR (.agg (ff A g).toArray)/\gL f B A fb mc pc vl loc d stk/\d.ownBlock=vs.ownBlock/\ee (λe=>e=fb\/vs.ownBlock=M e\/vl.ownBlock=M e) w f:=by
 obtain⟨d,e,f,g,i⟩:=h;exact⟨d,e,f,g,i.mono (λ_ _ c=>.inl c)⟩
theorem KE(e)(h:gL w B A fb mc pc vl loc vs (stk++ [e]))(l:stk.length<4194304):Calls Tryz.prog 215 #[zP (M ⟨fb,0,U⟩),.agg #[J I 14,J I a,J I b]] w λc o=>lS B A fb mc pc vl vs loc stk w o c:=by
 have d:=ev w (zC #[J I 14,J I a,J I b] 60);have f:=Ou (h.below d (ai _));go_in
 go_wp2_with fail;generalize w.alloc _=W at *;refine(jT B A fb mc pc vl loc vs stk e W f l).mono ?_;rintro c p k;obtain⟨n,rfl,i,m,j⟩:=k.mods;have g:Hid (lS B A fb mc pc vl vs loc stk w p (zR (.tuple #[]))):=⟨n,rfl,i,(fX d).trans j (λ_ _ c=>c),.inl m⟩;go_wp2;go_end0;exact g
theorem KJ(e f)(E:e<loc.length)(h:gL w B A fb mc pc vl loc vs (stk++ [f]))(F:stk.length<4194304)(P:loc.length<=4194304):Calls Tryz.prog 215 #[zP (M ⟨fb,0,U⟩),.agg #[J I 2,J I (e:Int),J I b]] w λc j=>lS B A fb mc pc vl vs (loc.set e f) stk w j c:=by
 have l:=ev w (zC #[J I 2,J I (e:Int),J I b] 60);have s:=Oz w #[J I 2,J I (e:Int),J I b] 60;obtain⟨g,o,rfl,P,_,_⟩:=jH h.lo (by omega);have:g<w.heap.size:=(h.lo.lt g rfl).2;have x:=Oq l _ _ h.c7.2.1;have:=h.blk.lt;have t:=Ou (h.below l (ai _));have:=fp e;have:(e:Int)<(loc.length:Int):=by omega
 have H:=oN A f;go_in
 go_wp2_with fail;generalize w.alloc _=W at *;have m:=s.c1;refine iY (λj=>j.cell? ⟨fb,8,U⟩=M (O (M ⟨g,0,U⟩) loc.length o)/\j.cell? ⟨w.heap.size,1,U⟩=M (J I (e:Int))) ⟨x,m⟩ λhHeld=>?_;refine dZ 37 0 ?_;refine dZ 38 1 ?_;refine dZ 39 2 ?_;refine dZ 40 3 ?_;refine dZ 41 4 ?_;refine dZ 42 5 ?_;refine dZ 43 6 ?_;refine el 7 (λv k=>?_);go_simp;refine(jT B A fb mc pc _ loc vs stk f _ (t.below (ay _ _).drew (ai _)) F).mono ?_;rintro c N z;obtain⟨L,rfl,d,G,p⟩:=z;have n:N.cell? ⟨w.heap.size,1,U⟩=M (J I (e:Int)):=p.cell (w:=W.drew) m (by dsimp only;omega);go_wp2_with fail;refine k.out _ _ ⟨d.c7.2.1,n⟩ λhHeld=>?_;refine dZ 45 8 ?_;refine el 9 (λv k=>?_);obtain⟨h,C,D,K⟩:=DQ f d.lo rfl E;refine kS jf C (e*3) (ff A f) rfl D H (.tmp 45) (.tmp 44) rfl rfl rfl ?_;intro r y i h;have q:¬fb=g:=λc=>OO d.lo d.blk mQ (show _=M fb from c▸rfl)
 have u:Hid (lS B A fb mc pc (O (M ⟨g,0,U⟩) loc.length o) vs (loc.set e f) stk w r (zR (.tuple #[]))):=by
  refine⟨L,rfl,⟨d.blk.mods i q,d.l7,d.base,?_,eX d.st i (λf e c=>d.ne g rfl (c▸e)),d.ne⟩,?_,.inl G⟩
  .rw [aO];exact K r y
  .refine (fX l).drew.trans ((p.mono (λ_ _ c=>.inl c)).trans i (λ_ _ c=>.inr (.inr (c▸rfl)))) (λ_ _ c=>c)
 refine k.out _ _ ⟨i.cell d.c7.2.1 q,i.cell n (by dsimp only;omega)⟩ λhHeld=>?_;try simp only[Act.put]
 refine ig ?_;go_wp2;go_end0;exact u
theorem Kz(d)(g:gL w B A fb mc pc vl loc vs (stk++ [d]))(F:B<=w.heap.size)(G:stk.length+1<4194304):Calls Tryz.prog 215 #[zP (M ⟨fb,0,U⟩),.agg #[J I 15,J I a,J I b]] w λc D=>lS B A fb mc pc vl vs loc (stk++ [d]++ [d]) w D c:=by
 have i:=ev w (zC #[J I 15,J I a,J I b] 60);have p:=Ou (g.below i (ai _));have x:=oN A d;have:∀c,vl.ownBlock=M c->c<w.heap.size:=λc d=>(g.lo.lt c d).2;have z:∀c,vs.ownBlock=M c->c<w.heap.size:=λc d=>(g.st.lt c d).2;have:=g.blk.lt;go_in
 go_wp2_with fail;generalize w.alloc _=W at *;refine(jT B A fb mc pc vl loc vs stk d W p (by omega)).mono ?_;rintro c f e;obtain⟨n,rfl,s,m,g⟩:=e.mods;have j:=(fX i).trans g (λ_ _ c=>c);have:=j.size
 go_wp2_with (first
  | refine jv jf h 0 (ff A d) rfl (λd e c => by simpa using c) (.tmp 4) rfl rfl rfl ?_
  | (refine fJ jf (Oz f #[J I 0,J I 0,zP U] 170) 0 (ff A d) rfl (by simp) x (.tmp 4) (.tmp 53) rfl rfl rfl rfl ?_; intro o h u g; rw[fw (by rfl)]at h))
 have g:Below f.heap.size f o:=(ev f _).trans (u.below (by simp) (λe d c=>by omega));have i:=s.below g (ai _);have k:=j.trans (fX (S:=λ_=>False) g) (λ_ _ c=>c.elim);have:=k.size;refine(nf B A fb mc pc vl loc n stk d o i (by omega) (by omega)).mono ?_;rintro c E e;obtain⟨C,rfl,t,l,y⟩:=e.move k (.inl m);have:=l.size
 have v:¬(f.heap.size=fb\/n.ownBlock=M f.heap.size):=λc=>by
  rcases c with c | c
  .omega
  .rw [m]at c;have:=z _ c;omega
 have r:=h.mods e.choose_spec.2.2.1 v;go_wp2_with (refine jv jf r 0 (ff A d) rfl (λd e c=>by simpa using c) (.tmp 4) rfl rfl rfl ?_)
 refine(nf B A fb mc pc vl loc C (stk++ [d]) d E t (by omega) (by simp;omega)).mono ?_;rintro c c e;have q:=Ou (e.move l y);obtain⟨_,rfl,_⟩:=e;go_wp2;go_end0;exact q
end
theorem qY(d c e w):(Instr.field 170 (.agg #[J I d,J I c,e]) 1).run Tryz.prog w= .ok (J I c) w:=by kernel_rfl
theorem qZ(d e c w):(Instr.field 170 (.agg #[J I d,J I e,c]) 2).run Tryz.prog w= .ok c w:=by kernel_rfl
attribute [local go_sem] qY qZ
section
variable (B : Nat) (A : List Nat) (fb : Nat) (mc : List Value) (pc : Int) (vl : Value) (loc : List LVal) (vs : Value) (stk : List LVal) (a b : Int) (w : World)
theorem KM(x e)(g:gL w B A fb mc pc vl loc vs (stk++ [x]++ [e]))(aa:B<=w.heap.size)(ab:stk.length+2<4194304):Calls Tryz.prog 215 #[zP (M ⟨fb,0,U⟩),.agg #[J I 20,J I a,J I b]] w λc X=>lS B A fb mc pc vl vs loc (stk++ [e]++ [x]) w X c:=by
 have n:=ev w (zC #[J I 20,J I a,J I b] 60);have y:=Ou (g.below n (ai _));have N:=oN A x;have O:=oN A e;have R:∀c,vs.ownBlock=M c->c<w.heap.size:=λc d=>(g.st.lt c d).2;have:=g.blk.lt;go_in
 go_wp2_with fail;generalize w.alloc _=W at *;refine(jT B A fb mc pc vl loc vs (stk++ [x]) e W y (by simp;omega)).mono ?_;rintro c Y d;obtain⟨T,rfl,E,s,g⟩:=d.mods;have H:=(fX n).trans g (λ_ _ c=>c);go_wp2_with fail;refine(jT B A fb mc pc vl loc T stk x Y E (by omega)).mono ?_;rintro c f d;obtain⟨h,rfl,F,L,g⟩:=d.mods;have o:=H.trans g (λd _ c=>by rw[s]at c;exact c);have:=o.size;have r:h.ownBlock=vs.ownBlock:=L.trans s;have u:=(Oz f #[J I 0,J I 0,zP U] 170).alloc (zC #[J I 0,J I 0,zP U] 170);have i:=Oz (f.alloc (zC #[J I 0,J I 0,zP U] 170)) #[J I 0,J I 0,zP U] 170;rw[World.size_alloc]at i
 go_wp2_with (first
  | refine jv jf D 0 (ff A e) rfl (λd e c => by simpa using c) (.tmp 5) rfl rfl rfl ?_
  | (refine fJ jf u 0 (ff A e) rfl (by simp) O (.tmp 5) (.tmp 63) rfl rfl rfl rfl ?_; intro g j l P; rw[fw (by rfl)]at j; have v := i.mods l (by omega))
  | (refine fJ jf v 0 (ff A x) rfl (by simp) N (.tmp 6) (.tmp 65) rfl rfl rfl rfl ?_; intro t k m g; rw[fw (by rfl)]at k; have D := j.mods m (by omega)))
 have g:Below f.heap.size f t:=(gS f _ _).trans ((l.below (by simp;omega) (λd e c=>by omega)).trans (m.below (by rw[P];simp;omega) (λd e c=>by omega)));have i:=F.below g (ai _);have p:=o.trans (fX (S:=λ_=>False) g) (λ_ _ c=>c.elim);have:=p.size;refine(nf B A fb mc pc vl loc h stk e t i (by omega) (by omega)).mono ?_;rintro c Z d;obtain⟨V,rfl,G,q,Q⟩:=d.move p (.inl r);have:=q.size
 have K:¬(f.heap.size+1=fb\/h.ownBlock=M (f.heap.size+1)):=λc=>by
  rcases c with c | c
  .omega
  .rw [r]at c;have:=R _ c;omega
 have C:=k.mods d.choose_spec.2.2.1 K;go_wp2_with (refine jv jf C 0 (ff A x) rfl (λd e c=>by simpa using c) (.tmp 6) rfl rfl rfl ?_)
 refine(nf B A fb mc pc vl loc V (stk++ [e]) x Z G (by omega) (by simp;omega)).mono ?_;rintro c c d;have z:=Ou (d.move q Q);obtain⟨_,rfl,_⟩:=d;go_wp2;go_end0;exact z
theorem Ky(x e)(f:gL w B A fb mc pc vl loc vs (stk++ [x]++ [e]))(E:B<=w.heap.size)(F:stk.length+2<4194304):Calls Tryz.prog 215 #[zP (M ⟨fb,0,U⟩),.agg #[J I 3,J I a,J I b]] w λc l=>lS B A fb mc pc vl vs loc (stk++ [gt (wrap64 (x.num+e.num))]) w l c:=by
 have g:=ev w (zC #[J I 3,J I a,J I b] 60);have m:=Oz w #[J I 3,J I a,J I b] 60;have p:=Ou (f.below g (ai _));have:=f.blk.lt;go_in
 go_wp2_with fail;generalize w.alloc _=W at *;refine(jT B A fb mc pc vl loc vs (stk++ [x]) e W p (by simp;omega)).mono ?_;rintro c C d;have n:=m.mods d.choose_spec.2.2.2 (by omega);obtain⟨z,rfl,r,j,e⟩:=d.mods;have u:=(fX g).trans e (λ_ _ c=>c);unfold ff;go_wp2_with fail;refine(jT B A fb mc pc vl loc z stk x C r (by omega)).mono ?_;rintro c e d;have o:=n.mods d.choose_spec.2.2.2 (by omega);obtain⟨k,rfl,s,y,e⟩:=d.mods;have h:=u.trans e (λd _ c=>by rw[j]at c;exact c);have:=h.size;have v:k.ownBlock=vs.ownBlock:=y.trans j;have:=o.c0;unfold ff;go_wp2_with fail;refine(Ka _ _ _).mono ?_;rintro c l ⟨rfl,rfl⟩;go_wp2_with fail;refine(sv _ _).mono ?_;rintro c D ⟨rfl,e⟩;have t:=s.below e (ai _);have i:=h.trans (fX (S:=λ_=>False) e) (λ_ _ c=>c.elim);have:=i.size;go_wp2_with fail;refine(nf B A fb mc pc vl loc k stk (gt _) D t (by omega) (by omega)).mono ?_;rintro c c d;have q:=Ou (d.move i (.inl v));obtain⟨_,rfl,_⟩:=d;go_wp2;go_end0;exact q
theorem KL(x e)(f:gL w B A fb mc pc vl loc vs (stk++ [x]++ [e]))(E:B<=w.heap.size)(F:stk.length+2<4194304):Calls Tryz.prog 215 #[zP (M ⟨fb,0,U⟩),.agg #[J I 4,J I a,J I b]] w λc l=>lS B A fb mc pc vl vs loc (stk++ [gt (wrap64 (x.num-e.num))]) w l c:=by
 have g:=ev w (zC #[J I 4,J I a,J I b] 60);have m:=Oz w #[J I 4,J I a,J I b] 60;have p:=Ou (f.below g (ai _));have:=f.blk.lt;go_in
 go_wp2_with fail;generalize w.alloc _=W at *;refine(jT B A fb mc pc vl loc vs (stk++ [x]) e W p (by simp;omega)).mono ?_;rintro c C d;have n:=m.mods d.choose_spec.2.2.2 (by omega);obtain⟨z,rfl,r,j,e⟩:=d.mods;have u:=(fX g).trans e (λ_ _ c=>c);unfold ff;go_wp2_with fail;refine(jT B A fb mc pc vl loc z stk x C r (by omega)).mono ?_;rintro c e d;have o:=n.mods d.choose_spec.2.2.2 (by omega);obtain⟨k,rfl,s,y,e⟩:=d.mods;have h:=u.trans e (λd _ c=>by rw[j]at c;exact c);have:=h.size;have v:k.ownBlock=vs.ownBlock:=y.trans j;have:=o.c0;unfold ff;go_wp2_with fail;refine(Kj _ _ _).mono ?_;rintro c l ⟨rfl,rfl⟩;go_wp2_with fail;refine(sv _ _).mono ?_;rintro c D ⟨rfl,e⟩;have t:=s.below e (ai _);have i:=h.trans (fX (S:=λ_=>False) e) (λ_ _ c=>c.elim);have:=i.size;go_wp2_with fail;refine(nf B A fb mc pc vl loc k stk (gt _) D t (by omega) (by omega)).mono ?_;rintro c c d;have q:=Ou (d.move i (.inl v));obtain⟨_,rfl,_⟩:=d;go_wp2;go_end0;exact q
theorem KB(x e)(f:gL w B A fb mc pc vl loc vs (stk++ [x]++ [e]))(E:B<=w.heap.size)(F:stk.length+2<4194304):Calls Tryz.prog 215 #[zP (M ⟨fb,0,U⟩),.agg #[J I 5,J I a,J I b]] w λc l=>lS B A fb mc pc vl vs loc (stk++ [gt (wrap64 (x.num*e.num))]) w l c:=by
 have g:=ev w (zC #[J I 5,J I a,J I b] 60);have m:=Oz w #[J I 5,J I a,J I b] 60;have p:=Ou (f.below g (ai _));have:=f.blk.lt;go_in
 go_wp2_with fail;generalize w.alloc _=W at *;refine(jT B A fb mc pc vl loc vs (stk++ [x]) e W p (by simp;omega)).mono ?_;rintro c C d;have n:=m.mods d.choose_spec.2.2.2 (by omega);obtain⟨z,rfl,r,j,e⟩:=d.mods;have u:=(fX g).trans e (λ_ _ c=>c);unfold ff;go_wp2_with fail;refine(jT B A fb mc pc vl loc z stk x C r (by omega)).mono ?_;rintro c e d;have o:=n.mods d.choose_spec.2.2.2 (by omega);obtain⟨k,rfl,s,y,e⟩:=d.mods;have h:=u.trans e (λd _ c=>by rw[j]at c;exact c);have:=h.size;have v:k.ownBlock=vs.ownBlock:=y.trans j;have:=o.c0;unfold ff;go_wp2_with fail;refine(Kh _ _ _).mono ?_;rintro c l ⟨rfl,rfl⟩;go_wp2_with fail;refine(sv _ _).mono ?_;rintro c D ⟨rfl,e⟩;have t:=s.below e (ai _);have i:=h.trans (fX (S:=λ_=>False) e) (λ_ _ c=>c.elim);have:=i.size;go_wp2_with fail;refine(nf B A fb mc pc vl loc k stk (gt _) D t (by omega) (by omega)).mono ?_;rintro c c d;have q:=Ou (d.move i (.inl v));obtain⟨_,rfl,_⟩:=d;go_wp2;go_end0;exact q
theorem KH(x e)(z:e.num≠0)(f:gL w B A fb mc pc vl loc vs (stk++ [x]++ [e]))(F:B<=w.heap.size)(G:stk.length+2<4194304):Calls Tryz.prog 215 #[zP (M ⟨fb,0,U⟩),.agg #[J I 6,J I a,J I b]] w λc l=>lS B A fb mc pc vl vs loc (stk++ [gt (wrap64 (Int.tdiv x.num e.num))]) w l c:=by
 have g:=ev w (zC #[J I 6,J I a,J I b] 60);have m:=Oz w #[J I 6,J I a,J I b] 60;have p:=Ou (f.below g (ai _));have:=f.blk.lt;go_in
 go_wp2_with fail;generalize w.alloc _=W at *;refine(jT B A fb mc pc vl loc vs (stk++ [x]) e W p (by simp;omega)).mono ?_;rintro c D d;have n:=m.mods d.choose_spec.2.2.2 (by omega);obtain⟨C,rfl,r,j,e⟩:=d.mods;have u:=(fX g).trans e (λ_ _ c=>c);unfold ff;go_wp2_with fail;refine(jT B A fb mc pc vl loc C stk x D r (by omega)).mono ?_;rintro c e d;have o:=n.mods d.choose_spec.2.2.2 (by omega);obtain⟨k,rfl,s,y,e⟩:=d.mods;have h:=u.trans e (λd _ c=>by rw[j]at c;exact c);have:=h.size;have v:k.ownBlock=vs.ownBlock:=y.trans j;have:=o.c0;unfold ff;go_wp2_with fail;refine(Ki _ _ _ z).mono ?_;rintro c l ⟨rfl,rfl⟩;go_wp2_with fail;refine(sv _ _).mono ?_;rintro c E ⟨rfl,e⟩;have t:=s.below e (ai _);have i:=h.trans (fX (S:=λ_=>False) e) (λ_ _ c=>c.elim);have:=i.size;go_wp2_with fail;refine(nf B A fb mc pc vl loc k stk (gt _) E t (by omega) (by omega)).mono ?_;rintro c c d;have q:=Ou (d.move i (.inl v));obtain⟨_,rfl,_⟩:=d;go_wp2;go_end0;exact q
end
end
structure eD where
 m:eh
 pc:Nat
 loc:List LVal
 stk:List LVal
structure fL where
 cls:Int
 fO:List LVal
structure eJ where
 frames:List eD
 objs:List fL
 told:LVal
 out:List Int
 steps:Nat
structure gv where
 fb:Nat
 mc:List Value
 vl:Value
 vs:Value
def Rl (ρ :Nat->Nat×Nat)(r:Nat×Nat)(v:Value):Prop:=∀g,v.ownBlock=M g->ρ g=r
def machC (vp:Value)(fuel:Int)(ask:Bool)(vr:Value)(n:Nat)(A:Ol)(told:LVal)(eE:Value)(steps:Nat):List Value:=
 [vp,J I fuel,zB ask,vr,J I (n:Int),J I told.kind,J I told.num,ic A told.obj,eE,J I (steps:Int)]
structure pT (w0 w:World)(ρ :Nat->Nat×Nat)(A:Ol)(i:Nat)(f:eD)(x:gv):Prop where
 fr:gL w w0.heap.size A x.fb x.mc (f.pc:Int) x.vl f.loc x.vs f.stk
 mt:∃va vco vf,x.mc=ng f.m va vco vf/\fK w0.cell? f.m va vco vf
 r0: ρ x.fb=(0,i)
 r1:Rl ρ (1,i) x.vl
 r2:Rl ρ (2,i) x.vs
 lI:∀v∈f.loc,okV A v
 oks:∀v∈f.stk,okV A v
structure rO (w0 w:World)(ρ :Nat->Nat×Nat)(A:Ol)(k:Nat)(o:fL)(b:Nat)(v:Value):Prop where
 blk:ed w b 234 [J I o.cls,v]
 base:w0.heap.size<=b
 row:w.ownsRow w0.heap.size 170 3 v o.fO.length (fF A o.fO)
 r3: ρ b=(3,k)
 r4:Rl ρ (4,k) v
 ok:∀u∈o.fO,okV A u
structure fE (w0 w:World)(ρ :Nat->Nat×Nat)(mb:Nat)(vp:Value)(fuel:Int)(ask:Bool)(st:eJ)(A:Ol)(X:List gv)(Y:Oj)(vr eE:Value):Prop where
 eH:ed w mb 172 (machC vp fuel ask vr st.objs.length A st.told eE st.steps)
 base:w0.heap.size<=mb
 iv: ρ mb=(5,0)
 run:w.ownsRow w0.heap.size 231 1 vr X.length (X.map λx=>zP (M ⟨x.fb,0,U⟩))
 oA:Rl ρ (6,0) vr
 io:w.ownsRow w0.heap.size 3 1 eE st.out.length (st.out.map (J .i64))
 iZ:Rl ρ (7,0) eE
 lx:X.length=st.frames.length
 fr:∀(i:Nat) (f:eD) (x:gv),st.frames[i]? =M f->X[i]? =M x->pT w0 w ρ A i f x
 la:A.length=st.objs.length
 ly:Y.length=st.objs.length
 ob:∀(k:Nat) (o:fL) (b:Nat) (v:Value),st.objs[k]? =M o->A[k]? =M b->Y[k]? =M v->rO w0 w ρ A k o b v
 qu:okV A st.told
 bel:Below w0.heap.size w0 w
 low:∀k,k<w0.heap.size->ρ k=(9,0)
theorem gL.size{w b A a e f h d i g}(c:gL w b A a e f h d i g):a<w.heap.size:=c.blk.lt
def Same (n:Nat)(ρ ρ':Nat->Nat×Nat):Prop:=∀k,k<n->ρ' k= ρ k
theorem Rl.same{ρ ρ' d b c}(e:Rl ρ d b)(g:Same c ρ ρ')(f:∀a,b.ownBlock=M a->a<c):Rl ρ' d b:=λa b=>(g a (f a b)).trans (e a b)
section
variable {w0 w w' : World} {ρ ρ' : Nat -> Nat × Nat} {A : List Nat} {S : Nat -> Prop}
theorem pT.mods{b f x}(a:pT w0 w ρ A b f x)(g:ee S w w')(d:Same w.heap.size ρ ρ')(e:∀c,c<w.heap.size->S c->ρ c≠(0,b)/\ρ c≠(1,b)/\ρ c≠(2,b)):pT w0 w' ρ' A b f x:=by
 refine⟨a.fr.mods g (λd=>(e _ a.fr.size d).1 a.r0) (λb c d=>(e b (a.fr.lo.lt b c).2 d).2.1 (a.r1 b c)) (λb c d=>(e b (a.fr.st.lt b c).2 d).2.2 (a.r2 b c)),a.mt,(d _ a.fr.size).trans a.r0,a.r1.same d (λb c=>(a.fr.lo.lt b c).2),a.r2.same d (λb c=>(a.fr.st.lt b c).2),a.lI,a.oks⟩
theorem rO.mods{c g d i}(a:rO w0 w ρ A c g d i)(f:ee S w w')(h:Same w.heap.size ρ ρ')(e:∀b,b<w.heap.size->S b->ρ b≠(3,c)/\ρ b≠(4,c)):rO w0 w' ρ' A c g d i:=
 ⟨a.blk.mods f (λd=>(e _ a.blk.lt d).1 a.r3),a.base,eX a.row f (λb c d=>(e b (a.row.lt b c).2 d).2 (a.r4 b c)),(h _ a.blk.lt).trans a.r3,a.r4.same h (λb c=>(a.row.lt b c).2),a.ok⟩
theorem xi{a}(b)(c:okV A a):okV (A++b) a:=λb a=>by
 have:=c b a;rw[aw];omega
theorem pT.more{d c x}(b)(a:pT w0 w ρ A d c x):pT w0 w ρ (A++b) d c x:=by
 refine⟨⟨a.fr.blk,a.fr.l7,a.fr.base,?_,?_,a.fr.ne⟩,a.mt,a.r0,a.r1,a.r2,λd c=>xi b (a.lI d c),λd c=>xi b (a.oks d c)⟩
 .rw [tv A b a.lI];exact a.fr.lo
 .rw [tv A b a.oks];exact a.fr.st
theorem rO.more{d e c f}(b)(a:rO w0 w ρ A d e c f):rO w0 w ρ (A++b) d e c f:=by
 refine⟨a.blk,a.base,?_,a.r3,a.r4,λd c=>xi b (a.ok d c)⟩;rw[tv A b a.ok];exact a.row
end
def AV (ρ :Nat->Nat×Nat)(i k:Nat):Prop:= ρ k=(0,i)\/ρ k=(1,i)\/ρ k=(2,i)
section
variable {w0 w w' : World} {ρ : Nat -> Nat × Nat} {mb : Nat} {vp : Value} {fuel : Int} {ask : Bool} {st : eJ} {A : List Nat} {X : List gv} {Y : List Value} {vr eE : Value}
theorem fE.upd(b:fE w0 w ρ mb vp fuel ask st A X Y vr eE){d r x}(u:st.frames[d]? =M r)(hx:X[d]? =M x){S}(n:ee S w w')(B:∀a,a<w.heap.size->S a->AV ρ d a){pc:Nat}{loc stk vs'}(z:gL w' w0.heap.size A x.fb x.mc (pc:Int) x.vl loc vs' stk)(C:vs'.ownBlock=x.vs.ownBlock\/∃a,w.heap.size<=a/\vs'.ownBlock=M a)(D:∀o∈loc,okV A o)(E:∀o∈stk,okV A o):
  ∃ ρ',fE w0 w' ρ' mb vp fuel ask { st with frames:=st.frames.set d { r with pc:=pc,loc:=loc,stk:=stk } } A (X.set d { x with vs:=vs' }) Y vr eE:=by
 have l:=b.fr d r x u hx;refine⟨λa=>if w.heap.size<=a then (2,d) else ρ a,?_⟩;have j:Same w.heap.size ρ (λa=>if w.heap.size<=a then (2,d) else ρ a):=λa g=>by show (if _ then _ else _)=_;rw[af (by omega)]
 have i:∀a,a<w.heap.size->S a->∀b,b≠(0,d)->b≠(1,d)->b≠(2,d)->ρ a≠b:=λa g h b d s t e=>by
  rcases B a g h with c | c | c
  .exact d (e.symm.trans c)
  .exact s (e.symm.trans c)
  .exact t (e.symm.trans c)
 have v:d<st.frames.length:=(ag.1 u).1;refine⟨b.eH.mods n (λe=>i _ b.eH.lt e (5,0) (by simp) (by simp) (by simp) b.iv),b.base,(j _ b.eH.lt).trans b.iv,?_,b.oA.same j (λc f=>(b.run.lt c f).2),eX b.io n (λc f e=>i c (b.io.lt c f).2 e (7,0) (by simp) (by simp) (by simp) (b.iZ c f)),b.iZ.same j (λc f=>(b.io.lt c f).2),by simpa using b.lx,?_,b.la,b.ly,?_,b.qu,?_,λa g=>(j a (dm g b.bel.size)).trans (b.low a g)⟩
 .have p:((X.set d { x with vs:=vs' }).map λx=>Value.pointer (M ⟨x.fb,0,U⟩))=X.map λx=>Value.pointer (M ⟨x.fb,0,U⟩):=by
   rw[List.map_set]
   apply cM
   intro m
   by_cases k:d=m
   .subst k;have q:d<X.length:=(ag.1 hx).1;rw[aA (by simpa using q),aU,hx];rfl
   .rw [ah k]
  rw[p,aO];exact eX b.run n (λc f e=>i c (b.run.lt c f).2 e (6,0) (by simp) (by simp) (by simp) (b.oA c f))
 .intro m y F p q
  by_cases k:d=m
  .subst k;rw[aA v]at p;rw[aA (by rw[b.lx];exact v)]at q;obtain rfl:=aT p;obtain rfl:=aT q;refine⟨z,l.mt,(j _ l.fr.size).trans l.r0,l.r1.same j (λc f=>(l.fr.lo.lt c f).2),λc f=>?_,D,E⟩
   rcases C with e | ⟨a,g,e⟩
   .have d:x.vs.ownBlock=M c:=e▸f;exact(j c (l.fr.st.lt c d).2).trans (l.r2 c d)
   .rw [show vs'.ownBlock=M c from f]at e;obtain rfl:=aT e
    show (if _ then _ else _)=_
    rw[am g]
  .rw [ah k]at p q;exact(b.fr m y F p q).mods n j (λa g h=>⟨i a g h _ (by simp;omega) (by simp) (by simp),i a g h _ (by simp) (by simp;omega) (by simp),i a g h _ (by simp) (by simp) (by simp;omega)⟩)
 .intro a e c o s t d;exact(b.ob a e c o s t d).mods n j (λm k h=>⟨i m k h _ (by simp) (by simp) (by simp),i m k h _ (by simp) (by simp) (by simp)⟩)
 .refine b.bel.trans (n.below b.bel.size (λa g h=>?_));have c:a<w.heap.size:=dm g b.bel.size;exact i a c h (9,0) (by simp) (by simp) (by simp) (b.low a g)
theorem pT.within{d e x}(c:pT w0 w ρ A d e x):∀a,a<w.heap.size->(a=x.fb\/x.vs.ownBlock=M a\/x.vl.ownBlock=M a)->AV ρ d a:=λa _ b=>by
 rcases b with rfl | b | b
 .exact .inl c.r0
 .exact .inr (.inr (c.r2 a b))
 .exact .inr (.inl (c.r1 a b))
theorem fE.move(g:fE w0 w ρ mb vp fuel ask st A X Y vr eE){i f x}(h:st.frames[i]? =M f)(hx:X[i]? =M x){a b e}(l:lS w0.heap.size A x.fb x.mc (f.pc:Int) x.vl x.vs a b w w' e)(o:∀c∈a,okV A c)(p:∀c∈b,okV A c):
  e=zR (.tuple #[])/\∃ ρ' d,fE w0 w' ρ' mb vp fuel ask { st with frames:=st.frames.set i { f with loc:=a,stk:=b } } A (X.set i { x with vs:=d }) Y vr eE:=by
 obtain⟨d,m,j,k,n⟩:=l;obtain⟨ρ',a⟩:=g.upd h hx k (g.fr i f x h hx).within j n o p;exact⟨m,ρ',d,a⟩
end
section
attribute [local go_sem ↓] Go.wp_at_zero Go.wp_at_succ
attribute [local go_sem] eZ
def AS (p:On)(c slot:Int)(w0 w w':World)(e:Ending):Prop:=∃va vco vf,e=zR (fB (ew p c slot) va vco vf)/\fK w0.cell? (ew p c slot) va vco vf/\Below w.heap.size w w'
theorem tI(p x b e f c w)(v:eQ f x p)(S:Below f.heap.size f c)(V:c.cell? ⟨w,0,U⟩=M x)(X:ez p p.length)(Y:eM p<=4194304)(aa:0<=b)(G:b<(p.length:Int))(q:(fy p b e).isSome=K):
  Calls Tryz.prog 115 #[zP (M ⟨w,0,U⟩),J I b,J I e] c λd Z=>AS p b e f c Z d:=by
 obtain⟨N,n⟩:=bQ.1 q;have g:=ev c (zC #[J I 0,O U 0 0,J I 0,J I 0,J I 0,O U 0 0,O U 0 0] 63);have z:=Oz c #[J I 0,O U 0 0,J I 0,J I 0,J I 0,O U 0 0,O U 0 0] 63;have:=Oq g _ _ V;have T:=eu S g;have D:=Ou v;have i:=Ou n;obtain⟨w,_,_,w,rfl,_⟩:=v;clear n;go_in
 go_wp2_with fail;generalize c.alloc _=W at *;refine(tm p _ p.length b e f W D T X (ai _) (by omega) G Y).mono ?_;rintro d y ⟨a,E,H,P,F,L,Q,rfl,o,m⟩;obtain⟨r,s⟩:=o N i;obtain rfl:=qX i r;have B:=Ou s;have h:=z.bl m;generalize t:ew p b e=a at *;have C:=Ou t;clear t
 have u:∀b∈[J .i64 a.slot,O E a.args.length F,J I a.ret,J I a.locals,J I a.stack,O H a.code.length L,O P a.frames.length Q],b.oneCell'=K:=λb a=>by
  simp only[aE,aF,or_false]at a
  rcases a with rfl | rfl | rfl | rfl | rfl | rfl | rfl <;> rfl
 have:=h.lt;clear o r s q
 go_wp2_with (first
  | refine jv pu j 0 _ rfl (λa b d => by simpa using d) (.tmp 7) rfl rfl rfl ?_
  | (refine fJ pu (Oz y #[J I 0,O U 0 0,J I 0,J I 0,J I 0,O U 0 0,O U 0 0] 63) 0 _ rfl (by simp) u (.tmp 7) (.tmp 17) rfl rfl rfl rfl ?_; intro a j l a; rw[fw (by rfl)]at j; have A := (h.alloc (zC #[J I 0,O U 0 0,J I 0,J I 0,J I 0,O U 0 0,O U 0 0] 63)).mods l (by omega))
  | (refine fJ pu A 0 _ rfl (by simp) u (.tmp 6) (.tmp 19) rfl rfl rfl rfl ?_; intro a k R a; rw[fw (by rfl)]at k))
 refine bodyPost_ret (j9 rfl pu k rfl rfl) rfl ?_;unfold AS;rw[ea C];refine⟨_,_,_,rfl,ea B,?_⟩;have c:=(ev y _).trans (l.below (by simp) (λb a d=>by omega));have b:=eu g m;have a:=eu b c;exact a.trans (R.below a.size (λb a d=>by omega))
theorem gL.MZ{i f s r q c m n h e l o A u}(d:gL i r q c m n h l o A)(w:ee (λa=>h.ownBlock=M a) i f)(y:f.ownsRow r 170 3 e (l++u).length (fF q (l++u)))(D:e.ownBlock=h.ownBlock\/∃a,i.heap.size<=a/\e.ownBlock=M a)(C:s=f.setCell ⟨c,8,U⟩ e):
  gL s r q c m n e (l++u) o A/\ee (λa=>a=c\/h.ownBlock=M a) i s/\f.cell? ⟨c,8,U⟩=M h/\f.frozen? ⟨c,8,U⟩=F:=by
 subst C;have v:=d.l7;have l:¬h.ownBlock=M c:=OO d.lo d.blk mQ;have k:=d.blk.mods w l;have x:ee (λa=>a=c) f (f.setCell ⟨c,8,U⟩ e):=(Ow (λa=>a=c) f).setCell (p:=⟨c,8,U⟩) (λ_=>rfl) _;have z:=k.setCell 8 e
 have B:(m++ [J I n,h,o]).set 8 e=m++ [J I n,e,o]:=by
  rw[bS _ _ (by omega),v];rfl
 rw[B]at z;have l:ee (λa=>a=c\/h.ownBlock=M a) i (f.setCell ⟨c,8,U⟩ e):=(w.mono (λ_ _ b=>.inr b)).trans x (λ_ _ b=>.inl b);refine⟨⟨z,v,d.base,eX y x (λj g b=>OO y k mQ (b▸g)),eX d.st l (λj g b=>?_),λj g b=>?_⟩,l,?_,k.frozen 8⟩
 .rcases b with b | b
  .exact OO d.st d.blk mQ (b▸g)
  .exact d.ne j b g
 .rcases D with t | ⟨a,a,t⟩
  .exact d.ne j (t▸g) b
  .rw [t]at g
   cases g
   have:=(d.st.lt _ b).2;omega
 .rw [k.cell,aP (by omega),v];rfl
structure lT (w V:World)(A:Ol)(fb:Nat)(mc:Oj)(loc:List LVal)(vl:Value):Prop where
 fr:gL V w.heap.size A fb mc 0 vl loc (O U 0 0) []
 b3:ed V w.heap.size 63 mc
 bel:Below w.heap.size w V
 new:w.heap.size<fb
theorem lT.add{k j d l i e m g h f l2}(a:lT k j i e m g h)(n:ee (λc=>h.ownBlock=M c) j d)(o:d.ownsRow k.heap.size 170 3 f (g++l2).length (fF i (g++l2)))(q:f.ownBlock=h.ownBlock\/∃c,j.heap.size<=c/\f.ownBlock=M c)(p:l=d.setCell ⟨e,8,U⟩ f):
  lT k l i e m (g++l2) f/\d.cell? ⟨e,8,U⟩=M h/\d.frozen? ⟨e,8,U⟩=F:=by
 obtain⟨e,d,f,g⟩:=a.fr.MZ n o q p;have r:=a.fr.lo.lt;refine⟨⟨e,a.b3.mods d (λb=>?_),a.bel.trans (d.below a.bel.size (λc d b=>?_)),a.new⟩,f,g⟩
 .rcases b with b | b
  .have:=a.new;omega
  .exact OO a.fr.lo a.b3 (by decide) b
 .rcases b with b | b
  .have:=a.new;omega
  .have:=(r c b).1;omega
theorem lT.keep{j b e d f h g i}(a:lT j b d f h g i)(c:Below b.heap.size b e):lT j e d f h g i:=
 ⟨a.fr.below c (ai _),a.b3.below c a.b3.lt,a.bel.trans (c.mono a.bel.size),a.new⟩
def oY:Option Value->Nat
 | some (O _ n _) => n
 | _ => 0
def A7 (A:Ol)(mc:Oj)(loc:List LVal)(w w':World)(e:Ending):Prop:=
 ∃fb vl,e=zR (zP (M ⟨fb,0,U⟩))/\lT w w' A fb mc loc vl
theorem wU(g a b9 ca cb this d ac b8)(e e1:World)(E:fK e1.cell? a b9 ca cb)(eo:ac=U->d.length=0/\b8=0)(es:∀B,ac=M B->∀F G,(fF g d)[F]? =M G->e.cell? (B.add F)=M G)(e3:1+(d.length:Int)<=a.locals)(e4:a.locals<=8):
  Calls Tryz.prog 165 #[fB a b9 ca cb,.agg (ff g this).toArray,O ac d.length b8] e λs u=>A7 g (ng a b9 ca cb) (this::d++List.replicate (a.locals.toNat-(1+d.length)) eO) e u s:=by
 obtain⟨bf,a8,ba,bc,be⟩:=info_parts wS;unfold fB;obtain⟨eK,eP,eR⟩:=E;obtain⟨l,_,_,m,rfl,_⟩:=eK;obtain⟨q,_,_,r,rfl,_⟩:=eR;obtain⟨n,_,_,o,rfl,_⟩:=eP;have cA:=oN g this;have ei:ff g this= [J I this.kind,J I this.num,ic g this.obj]:=rfl;rw[ei]at cA ⊢;generalize ep:ic g this.obj=ob at *;go_in
 go_wp2_with fail;generalize a5:((e.alloc _).alloc _).alloc _=W;have cz:Below e.heap.size e W:=by rw[<-a5];exact((ev e _).alloc (by simp) _).alloc (by simp;omega) _
 have cc:ed W e.heap.size 63 [J I a.slot,O l a.args.length m,J I a.ret,J I a.locals,J I a.stack,O n a.code.length o,O q a.frames.length r]:=by rw[<-a5];exact((Oz e _ _).alloc _).alloc _
 have Q:ed W (e.heap.size+1) 170 [J I this.kind,J I this.num,ob]:=by
  rw[<-a5];have:=(Oz (e.alloc (zC #[J I a.slot,O l a.args.length m,J I a.ret,J I a.locals,J I a.stack,O n a.code.length o,O q a.frames.length r] 63)) #[J I this.kind,J I this.num,ob] 170);rw[World.size_alloc]at this;exact this.alloc _
 have R:ed W (e.heap.size+1+1) 239 [J I a.slot,O l a.args.length m,J I a.ret,J I a.locals,J I a.stack,O n a.code.length o,O q a.frames.length r,J I 0,O U 0 0,O U 0 0]:=by
  rw[<-a5];have:=Oz ((e.alloc (zC #[J I a.slot,O l a.args.length m,J I a.ret,J I a.locals,J I a.stack,O n a.code.length o,O q a.frames.length r] 63)).alloc (zC #[J I this.kind,J I this.num,ob] 170)) #[J I a.slot,O l a.args.length m,J I a.ret,J I a.locals,J I a.stack,O n a.code.length o,O q a.frames.length r,J I 0,O U 0 0,O U 0 0] 239;rw[World.size_alloc,World.size_alloc]at this;exact this
 obtain⟨f,b6⟩:∃a,a=e.heap.size+1+1:=⟨_,rfl⟩;obtain⟨w,cu⟩:∃a,a=e.heap.size+1:=⟨_,rfl⟩;rw[<-cu]at b6 R Q ⊢;rw[<-b6]at R ⊢
 have cf:lT e W g f (ng a (O l a.args.length m) (O n a.code.length o) (O q a.frames.length r)) [] (O U 0 0):=
  ⟨⟨R,rfl,by omega,World.ownsRow_nil _ _ _ _,World.ownsRow_nil _ _ _ _,λb a=>(by cases a)⟩,cc,cz,by omega⟩
 have b5:¬w=f:=by omega
 have a5:e.heap.size<w:=by omega
 clear b6 cu;have ao:=Q.c0;have ar:=Q.c1;have a0:=Q.c2;have d5:=R.c8;have eS:=cz.size;have en:ee (λ_=>False) W W.drew:=(Ow _ W).drew;obtain⟨a5,y,cs,a4,N,ds⟩:=iN (P:=Tryz.prog) (W:=W.drew) 173 173 170 bf _ 3 24 Tryz.underlying173 a8 ba bc be rfl (by decide) e.heap.size (O U 0 0) 0 [] (World.ownsRow_nil _ _ _ _) #[J I this.kind,J I this.num,ob] rfl cA W.heap.size rfl (by unfold maxLen;omega) (by omega) eS;have X:ee (λc=>(O U 0 0).ownBlock=M c) W y:=⟨N.os,N.tape,N.output,N.size,N.block⟩;have cp:Below W.heap.size W (W.drew.alloc (zC #[J I this.kind,J I this.num,ob] 170)):=⟨rfl,rfl,rfl,by simp,λb a=>cO W.drew _ b a⟩;have ab:=Oq cp;have a5:(W.alloc (zC #[J I this.kind,J I this.num,ob] 170)).cell? ⟨f,8,U⟩=M (O U 0 0):=ab _ _ d5;have bk:=ab _ _ ao;have bn:=ab _ _ ar;have bo:=ab _ _ a0;rw[bJ]at a4;obtain⟨K,L,rfl⟩:=fd a4;have b7:∀c,¬(O U 0 0).ownBlock=M c:=λc s=>by cases s
 have cn:y.ownsRow e.heap.size 170 3 (O K 1 L) ([]++ [this]).length (fF g ([]++ [this])):=by
  have D:fF g ([]++ [this])= []++ [J I this.kind,J I this.num,ob]:=by rw[<-ep];rfl
  rw[D];exact a4
 obtain⟨v,a5,a5⟩:=cf.add (l2:= [this]) X cn ds rfl;have bz:y.cell? ⟨w,0,U⟩=M (J I this.kind):=X.cell ao (b7 _);have bI:y.cell? ⟨w,1,U⟩=M (J I this.num):=X.cell ar (b7 _);have bM:y.cell? ⟨w,2,U⟩=M ob:=X.cell a0 (b7 _);have a3:ee (λc=>c=f) y (y.setCell ⟨f,8,U⟩ (O K 1 L)):=(Ow (λc=>c=f) y).setCell (p:=⟨f,8,U⟩) (λ_=>rfl) _;have cg:=a3.cell bz b5;have ci:=a3.cell bI b5;have ck:=a3.cell bM b5;have ce:=Ou v;clear cf v a4 cn N X ds cp ab a3 en cc Q R
 go_cut [] (λb=>∃K L,lT e b g f (ng a (O l a.args.length m) (O n a.code.length o) (O q a.frames.length r)) ([]++ [this]) (O K 1 L))
 case first=>
  refine fk (λu=>u.cell? ⟨w,0,U⟩=M (J I this.kind)/\u.cell? ⟨w,1,U⟩=M (J I this.num)/\u.cell? ⟨w,2,U⟩=M ob) ⟨ao,ar,a0⟩ λhHeld=>?_;refine dZ 11 0 ?_;refine dZ 12 1 ?_;refine dZ 13 2 ?_;refine dZ 14 3 ?_;refine dZ 16 5 ?_;refine iu 4 6 (λh b=>?_) λh b=>?_
  .go_simp;refine b.out _ _ ⟨ao,ar,a0⟩ λhHeld=>?_;refine el 6 (λh b=>?_);go_simp;refine b.out _ _ ⟨bk,bn,bo⟩ λhHeld=>?_;refine el 7 (λh b=>?_);refine ON (.tmp 15) (.tmp 17) 173 rfl _ _ rfl rfl cs ?_;go_simp;refine b.out _ _ ⟨bz,bI,bM⟩ λhHeld=>?_;refine dZ 19 8 ?_;refine dZ 20 9 ?_;refine el 10 (λh b=>?_);go_simp;refine b.out _ _ ⟨cg,ci,ck⟩ λhHeld=>?_;refine eV ?_;go_wp2
   go_meet
   case rel=>exact ⟨_,_,ea ce⟩
  .go_simp;refine b.out _ _ ⟨bk,bn,bo⟩ λhHeld=>?_;refine el 4 (λh b=>?_);go_simp;refine b.out _ _ ⟨bk,bn,bo⟩ λhHeld=>?_;refine el 7 (λh b=>?_);refine ON (.tmp 15) (.tmp 17) 173 rfl _ _ rfl rfl cs ?_;go_simp;refine b.out _ _ ⟨bz,bI,bM⟩ λhHeld=>?_;refine dZ 19 8 ?_;refine dZ 20 9 ?_;refine el 10 (λh b=>?_);go_simp;refine b.out _ _ ⟨cg,ci,ck⟩ λhHeld=>?_;refine eV ?_;go_wp2
   go_meet
   case rel=>exact ⟨_,_,ea ce⟩
 case rest=>
  obtain⟨K,L,v⟩:=hcut;generalize wc=V1 at *;have w:=v.fr.c7.2.1;have et:∀B,ac=M B->∀F G,(fF g d)[F]? =M G->V1.cell? (B.add F)=M G:=λB s F G a=>Oq v.bel _ _ (es B s F G a);go_wp2_with (refine AM rfl (.tmp 25) (.tmp 26) 173 rfl e.heap.size 170 bf _ 3 24 Tryz.underlying173 a8 ba bc be rfl (by decide) (O K 1 L) 1 _ rfl v.fr.lo ac d.length b8 (fF g d) rfl (sf g d) eo et (Ie g d) (by unfold maxLen;omega) (by omega) v.bel.size ?_;intro w e2 dp ej eg;obtain⟨d4,d9,rfl⟩:=fd dp;obtain⟨i,w,w⟩:=v.add (l2:=d) ((Ow _ V1).grown ej (λc s _=>s)) (by rw[se,aw];exact dp) (eg.imp id (λs=>⟨_,ai _,s⟩)) rfl)
  generalize e2.setCell _ _=V2 at *
  have d3:Hid (lT e V2 g f (ng a (O l a.args.length m) (O n a.code.length o) (O q a.frames.length r)) (this::d++List.replicate 0 eO) (O d4 (1+d.length) d9)):=by
   show lT _ _ _ _ _ _ _
   rw[List.replicate_zero,bL];exact i
  go_loopw [] (λwr=>∃(c:Nat) (x:Value),1+d.length+c<=a.locals.toNat/\lT e wr g f (ng a (O l a.args.length m) (O n a.code.length o) (O q a.frames.length r)) (this::d++List.replicate c eO) x) (λwr=>a.locals.toNat-oY (wr.cell? ⟨f,8,U⟩))
  case atStart=>exact ⟨0,_,by omega,ea d3⟩
  case round=>
   obtain⟨c,x,v,A⟩:=hrel;obtain⟨k,a2⟩:∃k,k=this::d++List.replicate c eO:=⟨_,rfl⟩;have cm:k.length=1+d.length+c:=(by rw[a2];simp;omega);have ad:=Ou a2;rw[<-a2]at A;clear a2;obtain⟨d1,d2,rfl⟩:=fd A.fr.lo;have T:=A.fr.c7.2.1;have d0:=A.b3.c3;have z:=Ou cm
   by_cases v:1+d.length+c<a.locals.toNat
   .have er:(k.length:Int)<a.locals:=(by omega);clear cm;go_wp2;refine fk (λu=>u.cell? ⟨f,8,U⟩=M (O d1 k.length d2)/\u.cell? ⟨e.heap.size,3,U⟩=M (J I a.locals)) ⟨T,d0⟩ λhHeld=>?_;refine dZ 30 0 ?_;refine dZ 31 1 ?_;refine dZ 32 2 ?_;refine dZ 33 3 ?_;refine dZ 34 4 ?_;refine dZ 35 5 ?_;refine dZ 36 6 ?_;refine dZ 37 7 ?_;refine eV ?_;go_wp2;refine fk (λ_=>True) trivial λhHeld=>?_;refine dZ 38 0 ?_;refine dZ 39 1 ?_;refine dZ 40 2 ?_;refine dZ 41 3 ?_;refine iu 4 5 (λh b=>?_) λh b=>?_
    .go_simp;refine b.out _ _ trivial λhHeld=>?_;refine el 5 (λh b=>?_);go_simp;refine(Dv _).mono ?_;rintro s H ⟨rfl,t⟩;have Z:Below wr.heap.size wr H:=⟨t.os,t.tape,t.output,t.size,t.block⟩;have i:=A.keep Z;obtain⟨e0,bh,a6,C,Y,aa⟩:=iN (P:=Tryz.prog) (W:=H) 173 173 170 bf _ 3 24 Tryz.underlying173 a8 ba bc be rfl (by decide) e.heap.size _ _ _ i.fr.lo #[J I 2,J I 0,zP U] rfl (λa E=>by simp only[aE,aF,or_false]at E;rcases E with rfl | rfl | rfl <;> rfl) H.heap.size rfl (by have:=ea z;unfold maxLen;omega) (by have:=ea z;omega) i.bel.size;obtain⟨an,a1,rfl⟩:=fd C;obtain⟨j,d6,ec⟩:=i.add (l2:= [eO]) Y (by rw[se,aw];exact C) aa rfl;have br:=i.fr.c7.2.1;have bs:=(i.fr.blk.alloc (zC #[J I 2,J I 0,zP U] 170)).cell 8;rw[<-i.fr.blk.cell,br]at bs;have ak:=Ou j;clear i j C Y aa Z;go_wp2_with fail;refine b.out _ _ trivial λhHeld=>?_;refine el 6 (λh b=>?_);go_simp;refine b.out _ _ trivial λhHeld=>?_;refine el 7 (λh b=>?_);refine ON (.tmp 42) (.tmp 44) 173 rfl _ _ rfl rfl a6 ?_;go_simp;refine b.out _ _ trivial λhHeld=>?_;refine dZ 46 8 ?_;refine dZ 47 9 ?_;refine el 10 (λh b=>?_);go_simp;refine b.out _ _ trivial λhHeld=>?_;refine eV ?_;have j:=ea ak;have V:=j.fr.c7.2.1;generalize bh.setCell _ _=V6 at *
     have S:Hid (∃(c:Nat) (x:Value),1+d.length+c<=a.locals.toNat/\lT e V6 g f (ng a (O l a.args.length m) (O n a.code.length o) (O q a.frames.length r)) (this::d++List.replicate c eO) x):=by
      refine⟨c+1,O an (k.length+1) a1,by omega,?_⟩;have D:this::d++List.replicate (c+1) eO=k++ [eO]:=(by rw[ea ad,cC];simp);rw[D];exact j
     have D:Hid (a.locals.toNat-oY (V6.cell? ⟨f,8,U⟩)<a.locals.toNat-oY (wr.cell? ⟨f,8,U⟩)):=by
      show _<_
      rw[V,T];have:=ea z;simp only[oY];omega
     go_wp2_with fail;exact⟨ea S,ea D⟩
    .go_simp;refine(Dv _).mono ?_;rintro s H ⟨rfl,t⟩;have Z:Below wr.heap.size wr H:=⟨t.os,t.tape,t.output,t.size,t.block⟩;have i:=A.keep Z;obtain⟨e0,bh,a6,C,Y,aa⟩:=iN (P:=Tryz.prog) (W:=H) 173 173 170 bf _ 3 24 Tryz.underlying173 a8 ba bc be rfl (by decide) e.heap.size _ _ _ i.fr.lo #[J I 2,J I 0,zP U] rfl (λa E=>by simp only[aE,aF,or_false]at E;rcases E with rfl | rfl | rfl <;> rfl) H.heap.size rfl (by have:=ea z;unfold maxLen;omega) (by have:=ea z;omega) i.bel.size;obtain⟨an,a1,rfl⟩:=fd C;obtain⟨j,d6,ec⟩:=i.add (l2:= [eO]) Y (by rw[se,aw];exact C) aa rfl;have br:=i.fr.c7.2.1;have bs:=(i.fr.blk.alloc (zC #[J I 2,J I 0,zP U] 170)).cell 8;rw[<-i.fr.blk.cell,br]at bs;have ak:=Ou j;clear i j C Y aa Z;go_wp2_with fail;refine b.out _ _ trivial λhHeld=>?_;refine iu 4 6 (λh b=>?_) λh b=>?_
     .go_simp;refine b.out _ _ trivial λhHeld=>?_;refine el 6 (λh b=>?_);go_simp;refine b.out _ _ trivial λhHeld=>?_;refine el 7 (λh b=>?_);refine ON (.tmp 42) (.tmp 44) 173 rfl _ _ rfl rfl a6 ?_;go_simp;refine b.out _ _ trivial λhHeld=>?_;refine dZ 46 8 ?_;refine dZ 47 9 ?_;refine el 10 (λh b=>?_);go_simp;refine b.out _ _ trivial λhHeld=>?_;refine eV ?_;have j:=ea ak;have V:=j.fr.c7.2.1;generalize bh.setCell _ _=V6 at *
      have S:Hid (∃(c:Nat) (x:Value),1+d.length+c<=a.locals.toNat/\lT e V6 g f (ng a (O l a.args.length m) (O n a.code.length o) (O q a.frames.length r)) (this::d++List.replicate c eO) x):=by
       refine⟨c+1,O an (k.length+1) a1,by omega,?_⟩;have D:this::d++List.replicate (c+1) eO=k++ [eO]:=(by rw[ea ad,cC];simp);rw[D];exact j
      have D:Hid (a.locals.toNat-oY (V6.cell? ⟨f,8,U⟩)<a.locals.toNat-oY (wr.cell? ⟨f,8,U⟩)):=by
       show _<_
       rw[V,T];have:=ea z;simp only[oY];omega
      go_wp2_with fail;exact⟨ea S,ea D⟩
     .go_simp;refine b.out _ _ trivial λhHeld=>?_;refine el 4 (λh b=>?_);go_simp;refine b.out _ _ trivial λhHeld=>?_;refine el 7 (λh b=>?_);refine ON (.tmp 42) (.tmp 44) 173 rfl _ _ rfl rfl a6 ?_;go_simp;refine b.out _ _ trivial λhHeld=>?_;refine dZ 46 8 ?_;refine dZ 47 9 ?_;refine el 10 (λh b=>?_);go_simp;refine b.out _ _ trivial λhHeld=>?_;refine eV ?_;have j:=ea ak;have V:=j.fr.c7.2.1;generalize bh.setCell _ _=V6 at *
      have S:Hid (∃(c:Nat) (x:Value),1+d.length+c<=a.locals.toNat/\lT e V6 g f (ng a (O l a.args.length m) (O n a.code.length o) (O q a.frames.length r)) (this::d++List.replicate c eO) x):=by
       refine⟨c+1,O an (k.length+1) a1,by omega,?_⟩;have D:this::d++List.replicate (c+1) eO=k++ [eO]:=(by rw[ea ad,cC];simp);rw[D];exact j
      have D:Hid (a.locals.toNat-oY (V6.cell? ⟨f,8,U⟩)<a.locals.toNat-oY (wr.cell? ⟨f,8,U⟩)):=by
       show _<_
       rw[V,T];have:=ea z;simp only[oY];omega
      go_wp2_with fail;exact⟨ea S,ea D⟩
   .have er:¬(k.length:Int)<a.locals:=(by omega)
    have h:Hid (A7 g (ng a (O l a.args.length m) (O n a.code.length o) (O q a.frames.length r)) (this::d++List.replicate (a.locals.toNat-(1+d.length)) eO) e wr.drew (zR (zP (M ⟨f,0,U⟩)))):=by
     have b:a.locals.toNat-(1+d.length)=c:=(by omega);rw[b,<-ea ad];exact⟨f,_,rfl,A.keep (ay _ _).drew⟩
    go_wp2;refine fk (λu=>u.cell? ⟨f,8,U⟩=M (O d1 k.length d2)/\u.cell? ⟨e.heap.size,3,U⟩=M (J I a.locals)) ⟨T,d0⟩ λhHeld=>?_;refine dZ 30 0 ?_;refine dZ 31 1 ?_;refine dZ 32 2 ?_;refine dZ 33 3 ?_;refine dZ 34 4 ?_;refine dZ 35 5 ?_;refine dZ 36 6 ?_;refine dZ 37 7 ?_;refine eV ?_;go_wp2;go_ret;have b:=ea h;rw[cB]at b;exact b
def fV (t:Int):LVal:=if t=0 then gt 0 else rm
theorem Cw(b a):si a=ff b (fV a):=by
 unfold si fV
 split <;> rfl
theorem AE:170≠234:=by decide
theorem It(b):∃a,si b= [J I a,J I 0,zP U]:=by
 unfold si
 split
 .exact⟨0,rfl⟩
 .exact⟨1,rfl⟩
theorem z8{f:World}{g h b a q p e d o n r s}(i:f.ownsRow g b q e o r)(m:f.ownsRow h a p d n s)(k:b≠a)(c)(l:e.ownBlock=M c):d.ownBlock≠M c:=λb=>by
 obtain⟨a,j⟩:=j8 i l;obtain⟨a,a⟩:=j8 m b;exact k (j.uniq a)
structure oE (w V:World)(A:Ol)(b:Nat)(c:Int)(v:Value)(l:List LVal):Prop where
 blk:ed V b 234 [J I c,v]
 row:V.ownsRow w.heap.size 170 3 v l.length (fF A l)
 new:w.heap.size<=b
theorem oE.add{l k c j i a m h d g l2}(e:oE l k i a m h g)(n:ee (λb=>h.ownBlock=M b) k c)(q:c.ownsRow l.heap.size 170 3 d (g++l2).length (fF i (g++l2)))(r:j=c.setCell ⟨a,1,U⟩ d):
  oE l j i a m d (g++l2)/\ee (λb=>b=a\/h.ownBlock=M b) k j/\c.cell? ⟨a,1,U⟩=M h/\c.frozen? ⟨a,1,U⟩=F:=by
 subst r;have f:=e.blk.mods n (OO e.row e.blk AE);have o:ee (λb=>b=a) c (c.setCell ⟨a,1,U⟩ d):=(Ow (λb=>b=a) c).setCell (p:=⟨a,1,U⟩) (λ_=>rfl) _;refine⟨⟨f.setCell 1 d,eX q o (λc b a=>OO q f AE (a▸b)),e.new⟩,?_,f.cell 1,f.frozen 1⟩;exact(n.mono (λb _ a=>.inr a)).trans o (λb _ a=>.inl a)
theorem oE.mods{g e b h f c i m l}(a:oE e b f c i m l)(j:ee g b h)(k:∀d,e.heap.size<=d->d<b.heap.size->¬g d):oE e h f c i m l:=
 ⟨a.blk.mods j (k c a.new a.blk.lt),eX a.row j (λb c=>k b (a.row.lt b c).1 (a.row.lt b c).2),a.new⟩
def yi (A:Ol)(c:Int)(fl:Ok)(mb:Nat)(mcs:Oj)(w w':World)(e:Ending):Prop:=
 ∃b v,e=zR (zP (M ⟨b,0,U⟩))/\oE w w' A b c v (fl.map fV)/\ed w' mb 172 mcs/\ee (λk=>k=mb) w w'
theorem Dq(p a8 g D c e v t z i h y u x)(bM:eQ D a8 p)(bo:Below D.heap.size D c)(ei:D.heap.size<=e)(V:ed c e 172 (machC a8 v t z i h y u x))(b6:ez p p.length)(b8:eM p<=4194304)(eg:0<=g)(ba:g<(p.length:Int))(ej:i<=4194304):
  Calls Tryz.prog 112 #[zP (M ⟨e,0,U⟩),J I g] c λa ec=>yi h g (OE p g) e (machC a8 v t z (i+1) h y u x) c ec a:=by
 obtain⟨cc,bs,b9,ca,cb⟩:=info_parts wS;have cg:=Ou bM;obtain⟨B,_,_,C,rfl,_⟩:=bM;have:c.cell? ⟨e,4,U⟩=M (J I (i:Int)):=V.cell 4;have:=V.frozen 4;have bf:=V.setCell 4 (J I ((i:Int)+1));have d0:ee (λb=>b=e) c (c.setCell ⟨e,4,U⟩ (J I ((i:Int)+1))):=(Ow (λb=>b=e) c).setCell (p:=⟨e,4,U⟩) (λ_=>rfl) _;have:=V.lt;have d4:(machC (O B p.length C) v t z i h y u x).set 4 (J I ((i:Int)+1))=machC (O B p.length C) v t z (i+1) h y u x:=rfl;rw[d4]at bf;have bh:=bf.alloc (zC #[J I g,O U 0 0] 234);have d6:((c.setCell ⟨e,4,U⟩ (J I ((i:Int)+1))).alloc (zC #[J I g,O U 0 0] 234)).cell? ⟨e,0,U⟩=M (O B p.length C):=bh.cell 0;have bn:=d0.alloc (zC #[J I g,O U 0 0] 234);have V:(c.setCell ⟨e,4,U⟩ (J I ((i:Int)+1))).heap.size=c.heap.size:=by simp
 have f:=Oz (c.setCell ⟨e,4,U⟩ (J I ((i:Int)+1))) #[J I g,O U 0 0] 234;rw[V]at f;go_in
 go_wp2_with fail;generalize (c.setCell _ _).alloc _=W at *;have V:Below D.heap.size D W:=bo.trans (bn.below bo.size (λb d2 a=>by omega));refine(wy p b6 b8 (g+1).toNat g _ W (eA (Oq V) cg.out) (by omega) ba (ai _)).mono ?_;rintro a E ⟨D,rfl,bI,Z⟩;obtain⟨bc,be,rfl⟩:=fd bI
 have:(OE p g).length<=4194304:=by
  obtain⟨d,rfl⟩:∃d:Nat,g=(d:Int):=⟨g.toNat,by omega⟩;exact ap (uE p b6 (by omega)) b8
 have d1:=Z.size;have:=f.lt;have cm:oE c E h c.heap.size g (O U 0 0) []:=⟨f.bl Z,World.ownsRow_nil _ _ _ _,ai _⟩;have ci:=bh.bl Z;have ck:=bn.trans (fX (S:=λb=>b=e) Z) (λ_ _ a=>a);generalize ds:OE p g=F at *;have ce:=Ou ds;have cf:Hid (oE c E h c.heap.size g (O U 0 0) ((F.take 0).map fV)/\E.ownsRow W.heap.size 43 1 (O bc F.length be) F.length (F.map (J .i64))/\ed E e 172 (machC (O B p.length C) v t z (i+1) h y u x)/\ee (λb=>b=e) c E/\W.heap.size<=E.heap.size):=⟨cm,bI,ci,ck,d1⟩;go_wp2
 go_loopw [25] (λa wr=>∃(b:Nat) (aa:Value),b<=F.length/\a=J I b/\oE c wr h c.heap.size g aa ((F.take b).map fV)/\wr.ownsRow W.heap.size 43 1 (O bc F.length be) F.length (F.map (J .i64))/\ed wr e 172 (machC (O B p.length C) v t z (i+1) h y u x)/\ee (λb=>b=e) c wr/\W.heap.size<=wr.heap.size) (λa _=>F.length-(intOf a).toNat)
 case atStart=>exact ⟨0,_,az _,rfl,ea cf⟩
 case round=>
  obtain⟨b,aa,d2,rfl,s,L,a1,an,b7⟩:=hrel
  by_cases d3:b<F.length
  .obtain⟨dp,D,br,D,D,b5⟩:=jH L (by omega);simp only[Value.slice.injEq,true_and]at br;obtain⟨rfl,rfl⟩:=br;obtain⟨j,a6⟩:∃j,F[b]? =M j:=⟨_,ae d3⟩;have:wr.cell? ⟨dp,b,U⟩=M (J I j):=(by rw[b5 _ (by omega),aU,a6];rfl);obtain⟨l,X⟩:∃l,l=(F.take b).map fV:=⟨_,rfl⟩;have bk:l.length=b:=(by rw[X];simp;omega);have ac:=Ou X;rw[<-X]at s;have ad:=Ou a6;clear X a6 b5;obtain⟨N,Q,rfl⟩:=fd s.row;have ba:wr.cell? ⟨c.heap.size,1,U⟩=M (O N l.length Q):=s.blk.cell 1;have d6:(0:Int)<=(b:Int):=(by omega);have:(b:Int)<(F.length:Int):=(by omega);obtain⟨A,bz⟩:=It j;have R:=Ou bz;have T:=Ou bk;clear bz bk;go_wp2;refine fk (λ_=>True) trivial λhHeld=>?_;refine dZ 29 0 ?_;refine dZ 30 1 ?_;refine dZ 31 2 ?_;refine dZ 32 3 ?_;refine dZ 34 5 ?_;refine iu 4 6 (λk d=>?_) λk d=>?_
   .go_simp;refine d.out _ _ trivial λhHeld=>?_;refine el 6 (λk d=>?_);go_simp;refine(Dr j _).mono ?_;rintro a o ⟨rfl,m⟩;rw[ea R];have n:Below wr.heap.size wr o:=⟨m.os,m.tape,m.output,m.size,m.block⟩;have K:=Ox n;have f:=s.mods K (λc _ b a=>by omega);have w:=eX L K (λc b a=>by have:=(L.lt c b).2;omega);have a2:=a1.bl n;have ar:=an.trans (fX (S:=λb=>b=e) n) (λ_ _ a=>a);obtain⟨d9,ab,Y,H,ao,d5⟩:=iN (P:=Tryz.prog) (W:=o) 173 173 170 cc _ 3 24 Tryz.underlying173 bs b9 ca cb rfl (by decide) c.heap.size _ _ _ f.row #[J I A,J I 0,zP U] rfl (λaa a=>by simp only[aE,aF,or_false]at a;rcases a with rfl | rfl | rfl <;> rfl) o.heap.size rfl (by have:=ea T;unfold maxLen;omega) (by have:=ea T;omega) (by have:=n.size;omega);obtain⟨cn,cz,rfl⟩:=fd H
    have a4:fF h [fV j]= [J I A,J I 0,zP U]:=by
     show ff h (fV j)++ []=_
     rw[bL,<-Cw,ea R]
    obtain⟨ak,q,cu,cA⟩:=f.add (l2:= [fV j]) ao (by rw[se,aw,a4];exact H) rfl;have cp:o.cell? ⟨c.heap.size,1,U⟩=M (O N l.length Q):=f.blk.cell 1;have cs:(o.alloc (zC #[J I A,J I 0,zP U] 170)).cell? ⟨c.heap.size,1,U⟩=M (O N l.length Q):=(f.blk.alloc _).cell 1
    have a5:=eX w q (λc b a=>by
     rcases a with a | a
     .exact OO w f.blk (by decide) (a▸b)
     .exact z8 w f.row (by decide) c b a)
    have a3:=a2.mods q (λa=>by
     rcases a with a | a
     .omega
     .have:=(f.row.lt e a).1;omega)
    have a0:=ar.trans q (λc b a=>by
     rcases a with a | a
     .omega
     .have:=(f.row.lt c a).1;omega)
    have r:=Ou (aq ak (aq a5 (aq a3 (aq a0 (ap (ap b7 n.size) q.size)))));go_wp2_with fail;refine d.out _ _ trivial λhHeld=>?_;refine el 7 (λk d=>?_);go_simp;refine d.out _ _ trivial λhHeld=>?_;refine el 8 (λk d=>?_);refine ON (.tmp 33) (.tmp 36) 173 rfl _ _ rfl rfl Y ?_;go_simp;refine d.out _ _ trivial λhHeld=>?_;refine dZ 38 9 ?_;refine dZ 39 10 ?_;refine el 11 (λk d=>?_);go_simp;refine d.out _ _ trivial λhHeld=>?_;refine eV ?_;generalize ab.setCell _ _=V6 at *
    have G:l++ [fV j]=(F.take (b+1)).map fV:=by
     rw[bd,aM,<-ea ac,ea ad];rfl
    rw[G]at r;go_wp2_with fail;refine⟨⟨b+1,_,by omega,by go_num,ea r⟩,by simp[intOf];omega⟩
   .go_simp;refine(Dr j _).mono ?_;rintro a o ⟨rfl,m⟩;rw[ea R];have n:Below wr.heap.size wr o:=⟨m.os,m.tape,m.output,m.size,m.block⟩;have K:=Ox n;have f:=s.mods K (λc _ b a=>by omega);have w:=eX L K (λc b a=>by have:=(L.lt c b).2;omega);have a2:=a1.bl n;have ar:=an.trans (fX (S:=λb=>b=e) n) (λ_ _ a=>a);obtain⟨d9,ab,Y,H,ao,d5⟩:=iN (P:=Tryz.prog) (W:=o) 173 173 170 cc _ 3 24 Tryz.underlying173 bs b9 ca cb rfl (by decide) c.heap.size _ _ _ f.row #[J I A,J I 0,zP U] rfl (λaa a=>by simp only[aE,aF,or_false]at a;rcases a with rfl | rfl | rfl <;> rfl) o.heap.size rfl (by have:=ea T;unfold maxLen;omega) (by have:=ea T;omega) (by have:=n.size;omega);obtain⟨cn,cz,rfl⟩:=fd H
    have a4:fF h [fV j]= [J I A,J I 0,zP U]:=by
     show ff h (fV j)++ []=_
     rw[bL,<-Cw,ea R]
    obtain⟨ak,q,cu,cA⟩:=f.add (l2:= [fV j]) ao (by rw[se,aw,a4];exact H) rfl;have cp:o.cell? ⟨c.heap.size,1,U⟩=M (O N l.length Q):=f.blk.cell 1;have cs:(o.alloc (zC #[J I A,J I 0,zP U] 170)).cell? ⟨c.heap.size,1,U⟩=M (O N l.length Q):=(f.blk.alloc _).cell 1
    have a5:=eX w q (λc b a=>by
     rcases a with a | a
     .exact OO w f.blk (by decide) (a▸b)
     .exact z8 w f.row (by decide) c b a)
    have a3:=a2.mods q (λa=>by
     rcases a with a | a
     .omega
     .have:=(f.row.lt e a).1;omega)
    have a0:=ar.trans q (λc b a=>by
     rcases a with a | a
     .omega
     .have:=(f.row.lt c a).1;omega)
    have r:=Ou (aq ak (aq a5 (aq a3 (aq a0 (ap (ap b7 n.size) q.size)))));go_wp2_with fail;refine d.out _ _ trivial λhHeld=>?_;refine iu 4 7 (λk d=>?_) λk d=>?_
    .go_simp;refine d.out _ _ trivial λhHeld=>?_;refine el 7 (λk d=>?_);go_simp;refine d.out _ _ trivial λhHeld=>?_;refine el 8 (λk d=>?_);refine ON (.tmp 33) (.tmp 36) 173 rfl _ _ rfl rfl Y ?_;go_simp;refine d.out _ _ trivial λhHeld=>?_;refine dZ 38 9 ?_;refine dZ 39 10 ?_;refine el 11 (λk d=>?_);go_simp;refine d.out _ _ trivial λhHeld=>?_;refine eV ?_;generalize ab.setCell _ _=V6 at *
     have G:l++ [fV j]=(F.take (b+1)).map fV:=by
      rw[bd,aM,<-ea ac,ea ad];rfl
     rw[G]at r;go_wp2_with fail;refine⟨⟨b+1,_,by omega,by go_num,ea r⟩,by simp[intOf];omega⟩
    .go_simp;refine d.out _ _ trivial λhHeld=>?_;refine el 4 (λk d=>?_);go_simp;refine d.out _ _ trivial λhHeld=>?_;refine el 8 (λk d=>?_);refine ON (.tmp 33) (.tmp 36) 173 rfl _ _ rfl rfl Y ?_;go_simp;refine d.out _ _ trivial λhHeld=>?_;refine dZ 38 9 ?_;refine dZ 39 10 ?_;refine el 11 (λk d=>?_);go_simp;refine d.out _ _ trivial λhHeld=>?_;refine eV ?_;generalize ab.setCell _ _=V6 at *
     have G:l++ [fV j]=(F.take (b+1)).map fV:=by
      rw[bd,aM,<-ea ac,ea ad];rfl
     rw[G]at r;go_wp2_with fail;refine⟨⟨b+1,_,by omega,by go_num,ea r⟩,by simp[intOf];omega⟩
  .obtain rfl:b=F.length:=by omega
   rw[bG]at s
   have d:Hid (yi h g (OE p g) e (machC (O B p.length C) v t z (i+1) h y u x) c wr (zR (zP (M ⟨c.heap.size,0,U⟩)))):=by
    show yi _ _ _ _ _ _ _ _
    rw[ea ce];exact⟨_,_,rfl,s,a1,an⟩
   go_wp2;go_ret;exact ea d
end
end Go.Proofs.YtiiokkllmchohaaGreat
