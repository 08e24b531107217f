/- Walk of the document's answer: may an instruction be? -/
import Derived.Test.YtiiokkllmchohaaGreatT01
set_option maxHeartbeats 0
set_option maxRecDepth 99999
namespace Go.Proofs.YtiiokkllmchohaaGreat
open Go.Value renaming int->J,slice->O,pointer->zP,bool->zB
open Go.IntKind renaming i64->I
open Option renaming none->U,some->M
open Bool renaming true->K,false->F
open Go.Ending renaming returned->zR
open Go.Obj renaming cells->zC
open Go.RowKit
section
attribute [local go_sem ↓] Go.wp_at_zero Go.wp_at_succ
theorem jg(a b c d):Below a.heap.size a (((a.alloc b).alloc c).alloc d):=(gS a b c).alloc (gS a b c).size _
def mJ (vc:Value)(m:eh)(aa ca fa:Om)(al acap ccap fl fcap:Nat)(op a b:Int):Array Value:=
 #[.agg #[vc],.agg #[J I m.slot,O aa al acap,J I m.ret,J I m.locals,J I m.stack,O ca m.code.length ccap,O fa fl fcap],.agg #[J I op,J I a,J I b]]
theorem L8(p u f v y A x w z C B d e g h)(G:eQ h u p)(J:eM p<=4194304)(_hcl:f.code.length<=4194304)(D:d≠10)(E:d≠11)(F:d≠12):
  Calls Tryz.prog 149 (mJ u f v y A x w z C B d e g) h λb c=>b=zR (zB (eU p f ⟨d,e,g⟩))/\Below h.heap.size h c:=by
 have a:p.length<=4194304:=ap (fQ p) J;obtain⟨h,h,h,h,rfl,h,H,I⟩:=eN G;clear I H;unfold mJ
 by_cases j:d=0
 .subst j;go_in
  go_wp2
  go_ret;exact⟨eC (by simp[eU]),jg _ _ _ _⟩
 by_cases k:d=1
 .subst k
  cases a:fR e f.locals
  .go_in
   go_wp2_with (go_at_call 200;refine(lj _ _ _).mono ?_;rintro b c ⟨rfl,rfl⟩)
   go_ret;exact⟨eC (by simp[eU,a]),jg _ _ _ _⟩
  .go_in
   go_wp2_with (go_at_call 200;refine(lj _ _ _).mono ?_;rintro b c ⟨rfl,rfl⟩)
   go_ret;exact⟨eC (by simp[eU,a]),jg _ _ _ _⟩
 by_cases n:d=2
 .subst n
  cases a:fR e f.locals
  .go_in
   go_wp2_with (go_at_call 200;refine(lj _ _ _).mono ?_;rintro b c ⟨rfl,rfl⟩)
   go_ret;exact⟨eC (by simp[eU,a]),jg _ _ _ _⟩
  .go_in
   go_wp2_with (go_at_call 200;refine(lj _ _ _).mono ?_;rintro b c ⟨rfl,rfl⟩)
   go_ret;exact⟨eC (by simp[eU,a]),jg _ _ _ _⟩
 by_cases o:d=7
 .subst o
  cases a:fR e f.code.length
  .go_in
   go_wp2_with (go_at_call 200;refine(lj _ _ _).mono ?_;rintro b c ⟨rfl,rfl⟩)
   go_ret;exact⟨eC (by simp[eU,a]),jg _ _ _ _⟩
  .go_in
   go_wp2_with (go_at_call 200;refine(lj _ _ _).mono ?_;rintro b c ⟨rfl,rfl⟩)
   go_ret;exact⟨eC (by simp[eU,a]),jg _ _ _ _⟩
 by_cases q:d=8
 .subst q
  cases a:fR e f.code.length
  .go_in
   go_wp2_with (go_at_call 200;refine(lj _ _ _).mono ?_;rintro b c ⟨rfl,rfl⟩)
   go_ret;exact⟨eC (by simp[eU,a]),jg _ _ _ _⟩
  .go_in
   go_wp2_with (go_at_call 200;refine(lj _ _ _).mono ?_;rintro b c ⟨rfl,rfl⟩)
   go_ret;exact⟨eC (by simp[eU,a]),jg _ _ _ _⟩
 by_cases m:d=18
 .subst m
  cases a:fR e f.code.length
  .go_in
   go_wp2_with (go_at_call 200;refine(lj _ _ _).mono ?_;rintro b c ⟨rfl,rfl⟩)
   go_ret;exact⟨eC (by simp[eU,a]),jg _ _ _ _⟩
  .go_in
   go_wp2_with (go_at_call 200;refine(lj _ _ _).mono ?_;rintro b c ⟨rfl,rfl⟩)
   go_ret;exact⟨eC (by simp[eU,a]),jg _ _ _ _⟩
 by_cases r:d=9
 .subst r
  cases a:fR e p.length
  .go_in
   go_wp2_with (go_at_call 200;refine(lj _ _ _).mono ?_;rintro b c ⟨rfl,rfl⟩)
   go_ret;exact⟨eC (by simp[eU,a]),jg _ _ _ _⟩
  .go_in
   go_wp2_with (go_at_call 200;refine(lj _ _ _).mono ?_;rintro b c ⟨rfl,rfl⟩)
   go_ret;exact⟨eC (by simp[eU,a]),jg _ _ _ _⟩
 by_cases l:d=17
 .subst l
  cases a:fR e p.length
  .go_in
   go_wp2_with (go_at_call 200;refine(lj _ _ _).mono ?_;rintro b c ⟨rfl,rfl⟩)
   go_ret;exact⟨eC (by simp[eU,a]),jg _ _ _ _⟩
  .go_in
   go_wp2_with (go_at_call 200;refine(lj _ _ _).mono ?_;rintro b c ⟨rfl,rfl⟩)
   go_ret;exact⟨eC (by simp[eU,a]),jg _ _ _ _⟩
 have t:eU p f ⟨d,e,g⟩=(fR d 21 && e == 0 && g == 0):=by
  unfold eU;simp only[j,k,n,o,q,m,r,l,D,E,F,or_self,if_false]
 have i:=Ou t;clear t
 cases a:fR d 21
 .go_in
  go_wp2_with (go_at_call 200;refine(lj _ _ _).mono ?_;rintro b c ⟨rfl,rfl⟩)
  go_ret;exact⟨eC (by rw[ea i,a];rfl),jg _ _ _ _⟩
 .cases s:(e == 0)
  .go_in
   go_wp2_with (go_at_call 200;refine(lj _ _ _).mono ?_;rintro b c ⟨rfl,rfl⟩)
   go_ret;exact⟨eC (by rw[ea i,a,s];rfl),jg _ _ _ _⟩
  .go_in
   go_wp2_with (go_at_call 200;refine(lj _ _ _).mono ?_;rintro b c ⟨rfl,rfl⟩)
   go_ret;exact⟨eC (by rw[ea i,a,s];rfl),jg _ _ _ _⟩
end
theorem CZ:(Tryz.prog.info? 60).map (λa=>(a.zero,a.size,a.bytes))=M (M (.agg #[J I 0,J I 0,J I 0]),3,24):=by kernel_rfl
theorem C4:(Tryz.prog.info? 61).map (λa=>(a.zero,a.size,a.bytes))=M (M (O U 0 0),1,24):=by kernel_rfl
theorem Jl:(Tryz.prog.info? 42).map (λa=>(a.zero,a.size,a.bytes))=M (M (.agg #[J I 0,O U 0 0,O U 0 0]),3,56):=by kernel_rfl
theorem CY:(Tryz.prog.info? 36).map (λa=>(a.zero,a.size,a.bytes))=M (M (O U 0 0),1,24):=by kernel_rfl
theorem JU{b F v h s ac ab q r aa e Q}(g:HS b v h s ac (O q e.length r) ab aa e Q)(a A G)(bc:A=U->a.length=0/\G=0)(bf:∀z,A=M z->∀(D:Nat) (E:Value),(OH a)[D]? =M E->b.cell? (z.add D)=M E)(bo:a.length<=1048576)(bn:e.length+1<=16777216)(a3:ed F b.heap.size 60 (madeCells (Value.agg #[J I 0,J I 0,J I 0]).cells ((a.length+1)*3)).toList)(Z:ee (λ_=>False) b F)(br:F.heap.size=b.heap.size+1):
  ∃o,(Builtin.copy_ #[61,61] 3 #[O (M ⟨b.heap.size,0,U⟩) (a.length+1) (a.length+1),O A a.length G]).run Tryz.prog F= .ok (goInt a.length) o/\
   ee (λ_=>False) b o/\o.heap.size=b.heap.size+1/\(∃N,ed o b.heap.size 60 N/\N.length=(a.length+1)*3)/\
   ∃m n j,(Builtin.append_ #[46,46] 46 #[O q e.length r,O (M ⟨b.heap.size+1,0,U⟩) 1 1]).run Tryz.prog
     ((((o.setCell ⟨b.heap.size,a.length*3,U⟩ (J I (-77000000))).setCell ⟨b.heap.size,a.length*3+1,U⟩ (J I 0)).setCell ⟨b.heap.size,a.length*3+2,U⟩ (J I 0)).alloc (zC #[O (M ⟨b.heap.size,0,U⟩) (a.length+1) (a.length+1)] 61))= .ok (O m (e.length+1) n) j/\
    ee (λc=>(O q e.length r).ownBlock=M c) b j/\ed j h 53 s/\
    HS (j.setCell ⟨h,1,U⟩ (O m (e.length+1) n)) v h (s.set 1 (O m (e.length+1) n)) ac (O m (e.length+1) n) ab aa (e++ [(b.heap.size,a.length+1)]) Q/\
    ed j b.heap.size 60 (OH a++rh)/\((O m (e.length+1) n).ownBlock=(O q e.length r).ownBlock\/∃c,b.heap.size<=c/\(O m (e.length+1) n).ownBlock=M c):=by
 obtain⟨bh,ad,F,ak,F⟩:=info_parts CZ;obtain⟨bk,an,ao,ar,a0⟩:=info_parts C4;have a6:=g.le;have a8:=g.lt;obtain⟨o,a5,T,F,N⟩:=yZ (P:=Tryz.prog) 61 3 60 bh 3 Tryz.underlying61 ad ak b.heap.size (a.length+1) (a.length+1) A a.length G (by omega) bc (OH a) (qe a) (λz d D E b=>Z.cell (bf z d D E b) (λa=>a)) 60 _ a3 (by rw[qe,tJ];omega) (Gz a);have R:ee (λ_=>False) b o:=Z.trans F (λb a d=>by omega)
 have x:(OH a++(madeCells (Value.agg #[J I 0,J I 0,J I 0]).cells ((a.length+1)*3)).toList.drop (OH a).length).length=(a.length+1)*3:=by
  rw[aw,cv,tJ,qe];omega
 have V:ed (((o.setCell ⟨b.heap.size,a.length*3,U⟩ (J I (-77000000))).setCell ⟨b.heap.size,a.length*3+1,U⟩ (J I 0)).setCell ⟨b.heap.size,a.length*3+2,U⟩ (J I 0)) b.heap.size 60 (OH a++rh):=by
  have:=((T.setCell (a.length*3) (J I (-77000000))).setCell (a.length*3+1) (J I 0)).setCell (a.length*3+2) (J I 0)
  have d:((((OH a++(madeCells (Value.agg #[J I 0,J I 0,J I 0]).cells ((a.length+1)*3)).toList.drop (OH a).length).set (a.length*3) (J I (-77000000))).set (a.length*3+1) (J I 0)).set (a.length*3+2) (J I 0))=OH a++rh:=by
   have u:=zd (l:=kP (OH a++(madeCells (Value.agg #[J I 0,J I 0,J I 0]).cells ((a.length+1)*3)).toList.drop (OH a).length) (a.length*3) (J I (-77000000)) (J I 0) (J I 0)) (k:=a.length*3) (by rw[pJ,x];omega) (vu (by rw[x];omega)) (vw (by rw[x];omega)) (vz (by rw[x];omega))
   have w:(kP (OH a++(madeCells (Value.agg #[J I 0,J I 0,J I 0]).cells ((a.length+1)*3)).toList.drop (OH a).length) (a.length*3) (J I (-77000000)) (J I 0) (J I 0)).take (a.length*3)=OH a:=by
    unfold kP;rw[dX (by omega),dX (by omega),dX (by omega),cI (by rw[qe];omega),aH (by rw[qe];omega)]
   show kP _ _ _ _ _=_
   rw[<-bH (a.length*3) (kP (OH a++(madeCells (Value.agg #[J I 0,J I 0,J I 0]).cells ((a.length+1)*3)).toList.drop (OH a).length) (a.length*3) (J I (-77000000)) (J I 0) (J I 0)),u,w]
  rwa[d]at this
 refine⟨o,a5,R,by omega,⟨_,T,x⟩,?_⟩;generalize H:((o.setCell ⟨b.heap.size,a.length*3,U⟩ (J I (-77000000))).setCell ⟨b.heap.size,a.length*3+1,U⟩ (J I 0)).setCell ⟨b.heap.size,a.length*3+2,U⟩ (J I 0)=X3 at V ⊢
 have B:ee (λ_=>False) b X3:=by
  rw[<-H];exact((R.setCell (λg=>df _ g) _).setCell (λg=>df _ g) _).setCell (λg=>df _ g) _
 have o:X3.heap.size=b.heap.size+1:=by rw[<-H];simp;omega
 clear H;have u:=g.stay B (λc d b _ a=>a.elim);obtain⟨o,j,a1,L,y,a2⟩:=iN (P:=Tryz.prog) (W:=X3) 46 46 61 bk (O U 0 0) 1 24 Tryz.underlying46 an ao ar a0 rfl (by decide) v (O q e.length r) e.length (e.map ls) u.i.row #[O (M ⟨b.heap.size,0,U⟩) (a.length+1) (a.length+1)] rfl (by simp[Value.oneCell']) (b.heap.size+1) (by omega) (by unfold maxLen;omega) (by omega) (by omega);obtain⟨m,n,rfl⟩:=fd L;have o:∀c,(O q e.length r).ownBlock=M c->v<=c/\c<b.heap.size:=g.i.row.lt;have X:ed j h 53 s:=u.hands.1.mods y (λd=>by have:=o _ d;omega);have Y:ed j b.heap.size 60 (OH a++rh):=V.mods y (λd=>by have:=o _ d;omega);have o:=y.size;refine⟨m,n,j,a1,(B.mono (λ_ _ a=>a.elim)).trans y (λ_ _ d=>d),X,?_,Y,?_⟩
 .have C:ee (λc=>c=h\/(O q e.length r).ownBlock=M c) X3 (j.setCell ⟨h,1,U⟩ (O m (e.length+1) n)):=(y.mono (λ_ _ d=>.inr d)).setCell (λ_=>.inl rfl) _
  have w:∀(d:TypeId),d≠53->d≠61->∀c b,ed X3 c d b->¬(c=h\/(O q e.length r).ownBlock=M c):=λd a g c b e K=>by
   rcases K with rfl | K
   .exact a (e.uniq u.hands.1)
   .obtain⟨o,o⟩:=j8 u.i.row K;exact g (e.uniq o)
  have a4:=g.hands.2;have ba:b.heap.size≠h:=by omega
  have be:=eX (S:=λc=>c=h) L ((Ow (λc=>c=h) j).setCell (p:=⟨h,1,U⟩) (λ_=>rfl) (O m (e.length+1) n)) (λa d=>by have:=L.lt a d;omega);refine⟨⟨X.setCell 1 _,by rw[aO];exact a4⟩,by rw[ah (by omega)];exact g.c0,by rw[aA (by omega)],by rw[ah (by omega)];exact g.c2,?_,?_,?_,a8,ap u.le C.size⟩
  .exact u.t.mods C (w _ (by decide) (by decide)) (w _ (by decide) (by decide))
  .have j:∀d∈e,v<=d.1/\1<=d.2/\d.2<=1048577/\∃s:List Value,ed b d.1 60 s/\s.length=d.2*3/\s.drop ((d.2-1)*3)=rh:=g.i.ent;refine iV.push g.i (S:=λc=>c=h\/(O q e.length r).ownBlock=M c) ((B.mono (λ_ _ a=>a.elim)).trans C (λ_ _ d=>d)) (λc b e=>w _ (by decide) (by decide) c b (e.mods B (λa=>a))) a6 (ai _) (by omega) (by omega) (Y.gP ba _) (by rw[aw,qe];show _+3=_;omega) ?_ ?_
   .rw [show a.length+1-1=a.length by omega,bW (by rw[qe];omega),ct (by rw[qe];omega)];rfl
   .rw [aM];exact be
  .exact u.f.mods C (w _ (by decide) (by decide)) (w _ (by decide) (by decide))
 .rcases a2 with w | ⟨c,w,a⟩
  .exact .inl w
  .exact .inr ⟨c,by omega,a⟩
structure FH (w w4 X:World)(B bh:Nat)(cs:Oj)(m:eh)(aa ca fa:Om)(acap ccap fcap:Nat)(vt vi vf:Value)(ts is fs:List (Nat×Nat))(g1:Nat)(vt1:Value)(gc:Nat)(vi1:Value):Prop where
 eq:X=(w4.setCell ⟨bh,1,U⟩ vi1).setCell ⟨w.heap.size+2,5,U⟩ (O (M ⟨gc,0,U⟩) m.code.length (m.code.length+1))
 hs:HS X B bh ((cs.set 0 vt1).set 1 vi1) vt1 vi1 vf (ts++ [(g1,m.args.length+1)]) (is++ [(gc,m.code.length+1)]) fs
 mods:ee (nC bh vt vi vf) w X
 b0:ed X w.heap.size 63 [J I m.slot,O aa m.args.length acap,J I m.ret,J I m.locals,J I m.stack,O ca m.code.length ccap,O fa m.frames.length fcap]
 b1:ed X (w.heap.size+1) 63 [J I 0,O U 0 0,J I 0,J I 0,J I 0,O U 0 0,O U 0 0]
 b2:ed X (w.heap.size+2) 63 [J I m.slot,O (M ⟨g1,0,U⟩) m.args.length (m.args.length+1),J I m.ret,J I m.locals,J I m.stack,O (M ⟨gc,0,U⟩) m.code.length (m.code.length+1),O fa m.frames.length fcap]
 g:ed X g1 43 (m.args.map (J .i64)++lastT)
 c:ed X gc 60 (OH m.code++rh)
 new1:w.heap.size+3<=g1
 uS:w.heap.size+3<=gc
 lt:vt1.ownBlock=vt.ownBlock\/∃k,w.heap.size<=k/\vt1.ownBlock=M k
 li:vi1.ownBlock=vi.ownBlock\/∃k,w.heap.size<=k/\vi1.ownBlock=M k
def vQ (g:Addr->Option Value)(cf:Oj)(f:fT)(j:Nat):Prop:=
 ∃vl vs,cf[j*3]? =M (J I f.pc)/\cf[j*3+1]? =M vl/\cf[j*3+2]? =M vs/\eG 1 (gy g) vl f.locals/\eG 1 (gy g) vs f.stack
theorem vQ.keep{f g cf d e b}(j:vQ f cf e b)(h:fN f g)(a:∀c,c<b*3+3->d[c]? =cf[c]?):vQ g d e b:=by
 obtain⟨g,k,b,c,d,e,f⟩:=j;exact⟨g,k,by rw[a _ (by omega)];exact b,by rw[a _ (by omega)];exact c,by rw[a _ (by omega)];exact d,fu h e,fu h f⟩
structure kH (w wr:World)(B bh:Nat)(cs:Oj)(m:eh)(aa ca fa:Om)(acap ccap fcap:Nat)(vt vi vf:Value)(nts:Nat)(vi1:Value)(is1 fs:List (Nat×Nat))(g1 gc gf i:Nat)(vt2:Value)(ts2:List (Nat×Nat))(cs2 cf:Oj):Prop where
 hs:HS wr B bh cs2 vt2 vi1 vf ts2 is1 fs
 rest:∀j,3<=j->cs2[j]? =cs[j]?
 mods:ee (nC bh vt vi vf) w wr
 b0:ed wr w.heap.size 63 [J I m.slot,O aa m.args.length acap,J I m.ret,J I m.locals,J I m.stack,O ca m.code.length ccap,O fa m.frames.length fcap]
 b1:ed wr (w.heap.size+1) 63 [J I 0,O U 0 0,J I 0,J I 0,J I 0,O U 0 0,O U 0 0]
 b2:ed wr (w.heap.size+2) 63 [J I m.slot,O (M ⟨g1,0,U⟩) m.args.length (m.args.length+1),J I m.ret,J I m.locals,J I m.stack,O (M ⟨gc,0,U⟩) m.code.length (m.code.length+1),O fa m.frames.length fcap]
 g:ed wr g1 43 (m.args.map (J .i64)++lastT)
 c:ed wr gc 60 (OH m.code++rh)
 fb:ed wr gf 42 cf
 fl:cf.length=(m.frames.length+1)*3
 done:∀(j:Nat) (hj:j<m.frames.length),j<i->vQ (OJ tT wr) cf m.frames[j] j
 lt:vt2.ownBlock=vt.ownBlock\/∃k,w.heap.size<=k/\vt2.ownBlock=M k
 li:vi1.ownBlock=vi.ownBlock\/∃k,w.heap.size<=k/\vi1.ownBlock=M k
 tl:ts2.length=nts+1+2*i
 sB:w.heap.size+3<=gf
 uS:w.heap.size+3<=gc
 new1:w.heap.size+3<=g1
 old:∀e∈fs,e.1<w.heap.size
 leB:B<=w.heap.size
section
variable {w wr : World} {B bh : Nat} {cs : List Value} {m : eh} {aa ca fa : Option Addr} {acap ccap fcap : Nat} {vt vi vf : Value} {nts : Nat} {vi1 : Value} {is1 fs : List (Nat × Nat)} {g1 gc gf i : Nat} {vt2 : Value} {ts2 : List (Nat × Nat)} {cs2 cf : List Value}
theorem kH.rows(d:kH w wr B bh cs m aa ca fa acap ccap fcap vt vi vf nts vi1 is1 fs g1 gc gf i vt2 ts2 cs2 cf){b}(e:b<w.heap.size)(a:b=bh\/vt2.ownBlock=M b):nC bh vt vi vf b:=by
 rcases a with rfl | a
 .exact .inl rfl
 .rcases d.lt with c | ⟨b,b,b⟩
  .exact .inr (.inl (c▸a))
  .rw [b]at a;cases a;omega
theorem kH.far(d:kH w wr B bh cs m aa ca fa acap ccap fcap vt vi vf nts vi1 is1 fs g1 gc gf i vt2 ts2 cs2 cf){b c f}(e:ed wr b c f)(g:c≠53)(h:c≠40):¬(b=bh\/vt2.ownBlock=M b):=λa=>by
 rcases a with rfl | a
 .exact g (e.uniq d.hs.hands.1)
 .obtain⟨b,b⟩:=j8 d.hs.t.row a;exact h (e.uniq b)
theorem kH.drew (a:kH w wr B bh cs m aa ca fa acap ccap fcap vt vi vf nts vi1 is1 fs g1 gc gf i vt2 ts2 cs2 cf):kH w wr.drew B bh cs m aa ca fa acap ccap fcap vt vi vf nts vi1 is1 fs g1 gc gf i vt2 ts2 cs2 cf:=by
 have b:ee (λ_=>False) wr wr.drew:=(Ow _ _).drew;exact⟨a.hs.stay b (λ_ _ _ _ a=>a.elim),a.rest,a.mods.drew,a.b0,a.b1,a.b2,a.g,a.c,a.fb,a.fl,λf d e=>(a.done f d e).keep (jO b (λ_ _ _ _ _ a=>a)) (λ_ _=>rfl),a.lt,a.li,a.tl,a.sB,a.uS,a.new1,a.old,a.leB⟩
theorem kH.ri(a:kH w wr B bh cs m aa ca fa acap ccap fcap vt vi vf nts vi1 is1 fs g1 gc gf i vt2 ts2 cs2 cf){d k h e}(n:d.length<=1048576)(b:um wr k bh cs2 vt2 B ts2 d h e)(j)(o:ts2.length+1=j+1+2*i):
  kH w k B bh cs m aa ca fa acap ccap fcap vt vi vf j vi1 is1 fs g1 gc gf i e (ts2++ [(h,d.length+1)]) (cs2.set 0 e) cf:=by
 have:=a.mods.size
 refine⟨a.hs.ri n b,λe d=>by rw[ah (by omega)];exact a.rest e d,a.mods.trans b.mods (λf b d=>a.rows b d),a.b0.mods b.mods (a.far a.b0 (by decide) (by decide)),a.b1.mods b.mods (a.far a.b1 (by decide) (by decide)),a.b2.mods b.mods (a.far a.b2 (by decide) (by decide)),
  a.g.mods b.mods (a.far a.g (by decide) (by decide)),a.c.mods b.mods (a.far a.c (by decide) (by decide)),a.fb.mods b.mods (a.far a.fb (by decide) (by decide)),a.fl,
  λe d h=>(a.done e d h).keep (jO b.mods (λf f e b d=>by obtain rfl:=aC.1 d;exact a.far b (by decide) (by decide))) (λ_ _=>rfl),?_,a.li,by rw[aw,aS];omega,a.sB,a.uS,a.new1,a.old,a.leB⟩
 .rcases b.lies with l | ⟨f,b,b⟩
  .rw [l];exact a.lt
  .exact .inr ⟨f,by omega,b⟩
theorem kH.tg(b:kH w wr B bh cs m aa ca fa acap ccap fcap vt vi vf nts vi1 is1 fs g1 gc gf i vt2 ts2 cs2 cf)(a)(c:a<(m.frames.length+1)*3):∃d,wr.cell? ⟨gf,a,U⟩=M d:=
 ⟨cf[a]'(by rw[b.fl];exact c),by rw[b.fb.cell];exact ae _⟩
theorem kH.put(a:kH w wr B bh cs m aa ca fa acap ccap fcap vt vi vf nts vi1 is1 fs g1 gc gf i vt2 ts2 cs2 cf)(D:i<m.frames.length){vl vs}(v:eG 1 (gy (OJ tT wr)) vl m.frames[i].locals)(C:eG 1 (gy (OJ tT wr)) vs m.frames[i].stack)(o)(A:ts2.length=o+1+2*(i+1)):
  ∃q,kH w (((wr.setCell ⟨gf,i*3,U⟩ (J I m.frames[i].pc)).setCell ⟨gf,i*3+1,U⟩ vl).setCell ⟨gf,i*3+2,U⟩ vs) B bh cs m aa ca fa acap ccap fcap vt vi vf o vi1 is1 fs g1 gc gf (i+1) vt2 ts2 cs2 q:=by
 have:=a.mods.size;have:=a.sB;have y:=a.hs.lt;have x:=a.hs.le;generalize n:((wr.setCell ⟨gf,i*3,U⟩ (J I m.frames[i].pc)).setCell ⟨gf,i*3+1,U⟩ vl).setCell ⟨gf,i*3+2,U⟩ vs=X
 have d:ee (λb=>b=gf) wr X:=by
  rw[<-n];exact(((Ow (λb=>b=gf) wr).setCell (p:=⟨gf,i*3,U⟩) (λ_=>rfl) _).setCell (p:=⟨gf,i*3+1,U⟩) (λ_=>rfl) _).setCell (p:=⟨gf,i*3+2,U⟩) (λ_=>rfl) _
 have r:ed X gf 42 (kP cf (i*3) (J I m.frames[i].pc) vl vs):=by
  rw[<-n];exact((a.fb.setCell (i*3) _).setCell (i*3+1) _).setCell (i*3+2) _
 have s:=a.fl;have e:∀ {b l h},ed wr b l h->l≠42->¬(b=gf):=λb h d=>by subst d;exact h (b.uniq a.fb)
 have j:fN (OJ tT wr) (OJ tT X):=jO d (λb l h b h=>by obtain rfl:=aC.1 h;exact e b (by decide));refine⟨_,⟨⟨a.hs.hands.1.mods d (e a.hs.hands.1 (by decide)),a.hs.hands.2⟩,a.hs.c0,a.hs.c1,a.hs.c2,a.hs.t.mods d (λb h b=>e b (by decide)) (λb h b=>e b (by decide)),a.hs.i.mods d (λb h b=>e b (by decide)) (λb h b=>e b (by decide)),a.hs.f.wZ d (λb h b=>e b (by decide)) (λd e b=>by have:=a.old d e;omega),y,ap x d.size⟩,a.rest,a.mods.trans d (λb b d=>by omega),a.b0.mods d (e a.b0 (by decide)),a.b1.mods d (e a.b1 (by decide)),a.b2.mods d (e a.b2 (by decide)),a.g.mods d (e a.g (by decide)),a.c.mods d (e a.c (by decide)),r,by rw[pJ];exact s,λk u d=>?_,a.lt,a.li,A,a.sB,a.uS,a.new1,a.old,a.leB⟩
 .rcases bt k i with z | d
  .exact (a.done k u z).keep j (λb b=>ua (by omega))
  .obtain rfl:k=i:=by omega
   exact⟨vl,vs,vu (by omega),vw (by omega),vz (by omega),fu j v,fu j C⟩
theorem kH.fin{l o}(b:kH w wr B bh cs m aa ca fa acap ccap fcap vt vi (O l fs.length o) nts vi1 is1 fs g1 gc gf m.frames.length vt2 ts2 cs2 cf)(a6:fs.length+1<=16777216)(a5:m.frames.length<=1048576):
  ∃n q j,(Builtin.append_ #[47,47] 47 #[O l fs.length o,O (M ⟨wr.heap.size,0,U⟩) 1 1]).run Tryz.prog
    ((((wr.setCell ⟨gf,m.frames.length*3,U⟩ (J I (-77000000))).setCell ⟨gf,m.frames.length*3+1,U⟩ (O U 0 0)).setCell ⟨gf,m.frames.length*3+2,U⟩ (O U 0 0)).alloc (zC #[O (M ⟨gf,0,U⟩) (m.frames.length+1) (m.frames.length+1)] 36))= .ok (O n (fs.length+1) q) j/\
   ed j bh 53 cs2/\ee (nC bh vt vi (O l fs.length o)) w j/\wr.heap.size<=j.heap.size/\
   ed j w.heap.size 63 [J I m.slot,O aa m.args.length acap,J I m.ret,J I m.locals,J I m.stack,O ca m.code.length ccap,O fa m.frames.length fcap]/\
   ed j (w.heap.size+1) 63 [J I 0,O U 0 0,J I 0,J I 0,J I 0,O U 0 0,O U 0 0]/\
   ed j (w.heap.size+2) 63 [J I m.slot,O (M ⟨g1,0,U⟩) m.args.length (m.args.length+1),J I m.ret,J I m.locals,J I m.stack,O (M ⟨gc,0,U⟩) m.code.length (m.code.length+1),O fa m.frames.length fcap]/\
   HS (j.setCell ⟨bh,2,U⟩ (O n (fs.length+1) q)) B bh (cs2.set 2 (O n (fs.length+1) q)) vt2 vi1 (O n (fs.length+1) q) ts2 is1 (fs++ [(gf,m.frames.length+1)])/\
   fK (OJ t3 j) m (O (M ⟨g1,0,U⟩) m.args.length (m.args.length+1)) (O (M ⟨gc,0,U⟩) m.code.length (m.code.length+1)) (O (M ⟨gf,0,U⟩) m.frames.length (m.frames.length+1))/\
   ((O n (fs.length+1) q).ownBlock=(O l fs.length o).ownBlock\/∃a,w.heap.size<=a/\(O n (fs.length+1) q).ownBlock=M a):=by
 obtain⟨a4,T,V,Y,Z⟩:=info_parts CY;have:=b.mods.size;have:=b.sB;have Q:=b.hs.lt;have ar:=b.hs.le;have an:=b.fl;have:=b.leB;generalize H:((wr.setCell ⟨gf,m.frames.length*3,U⟩ (J I (-77000000))).setCell ⟨gf,m.frames.length*3+1,U⟩ (O U 0 0)).setCell ⟨gf,m.frames.length*3+2,U⟩ (O U 0 0)=X
 have u:ee (λa=>a=gf) wr X:=by
  rw[<-H];exact(((Ow (λa=>a=gf) wr).setCell (p:=⟨gf,m.frames.length*3,U⟩) (λ_=>rfl) _).setCell (p:=⟨gf,m.frames.length*3+1,U⟩) (λ_=>rfl) _).setCell (p:=⟨gf,m.frames.length*3+2,U⟩) (λ_=>rfl) _
 have a3:X.heap.size=wr.heap.size:=by rw[<-H];simp
 have L:ed X gf 42 (kP cf (m.frames.length*3) (J I (-77000000)) (O U 0 0) (O U 0 0)):=by
  rw[<-H];exact((b.fb.setCell (m.frames.length*3) _).setCell (m.frames.length*3+1) _).setCell (m.frames.length*3+2) _
 have v:∀ {a k e},ed wr a k e->k≠42->¬(a=gf):=λd a h=>by subst h;exact a (d.uniq b.fb)
 have s:HS X B bh cs2 vt2 vi1 (O l fs.length o) ts2 is1 fs:=⟨⟨b.hs.hands.1.mods u (v b.hs.hands.1 (by decide)),b.hs.hands.2⟩,b.hs.c0,b.hs.c1,b.hs.c2,b.hs.t.mods u (λa e d=>v d (by decide)) (λa e d=>v d (by decide)),b.hs.i.mods u (λa e d=>v d (by decide)) (λa e d=>v d (by decide)),b.hs.f.wZ u (λa e d=>v d (by decide)) (λh r z=>by have:=b.old h r;omega),Q,ap ar u.size⟩;obtain⟨H,j,ac,K,x,ad⟩:=iN (P:=Tryz.prog) (W:=X) 47 47 36 a4 (O U 0 0) 1 24 Tryz.underlying47 T V Y Z rfl (by decide) B (O l fs.length o) fs.length (fs.map ls) s.f.row #[O (M ⟨gf,0,U⟩) (m.frames.length+1) (m.frames.length+1)] rfl (by simp[Value.oneCell']) wr.heap.size a3 (by unfold maxLen;omega) (by omega) (by omega);obtain⟨n,q,rfl⟩:=fd K;have a1:∀a,(O l fs.length o).ownBlock=M a->∃e,ed X a 36 e:=λa h=>j8 s.f.row h;have E:∀ {a k e},ed X a k e->k≠36->¬((O l fs.length o).ownBlock=M a):=λd a h=>by obtain⟨H,H⟩:=a1 _ h;exact a (d.uniq H)
 have N:ed j bh 53 cs2:=s.hands.1.mods x (E s.hands.1 (by decide));have F:=L.mods x (E L (by decide));have:=x.size;have ao:fN (OJ tT wr) (OJ tT j):=(jO u (λa k e d a=>by obtain rfl:=aC.1 a;exact v d (by decide))).trans (jO x (λa k e d a=>by obtain rfl:=aC.1 a;exact E d (by decide)));have D:∀ {a k e},ed wr a k e->k≠42->k≠36->ed j a k e:=λd y A=>(d.mods u (v d y)).mods x (E (d.mods u (v d y)) A);refine⟨n,q,j,ac,N,(b.mods.trans u (λa z h=>by omega)).trans x (λa z h=>.inr (.inr (.inr h))),by omega,D b.b0 (by decide) (by decide),D b.b1 (by decide) (by decide),D b.b2 (by decide) (by decide),?_,?_,?_⟩
 .have G:ee (λa=>a=bh\/(O l fs.length o).ownBlock=M a) X (j.setCell ⟨bh,2,U⟩ (O n (fs.length+1) q)):=(x.mono (λ_ _ h=>.inr h)).setCell (λ_=>.inl rfl) _
  have C:∀(k:TypeId),k≠53->k≠36->∀a e,ed X a k e->¬(a=bh\/(O l fs.length o).ownBlock=M a):=λk y A a e d z=>by
   rcases z with rfl | z
   .exact y (d.uniq s.hands.1)
   .exact E d A z
  have ak:=b.hs.hands.2;have a0:gf≠bh:=by omega
  have a2:=eX (S:=λa=>a=bh) K ((Ow (λa=>a=bh) j).setCell (p:=⟨bh,2,U⟩) (λ_=>rfl) (O n (fs.length+1) q)) (λa h=>by have:=K.lt a h;omega);refine⟨⟨N.setCell 2 _,by rw[aO];exact ak⟩,by rw[ah (by omega)];exact b.hs.c0,by rw[ah (by omega)];exact b.hs.c1,by rw[aA (by omega)],s.t.mods G (C _ (by decide) (by decide)) (C _ (by decide) (by decide)),s.i.mods G (C _ (by decide) (by decide)) (C _ (by decide) (by decide)),?_,Q,ap s.le G.size⟩;refine⟨by rw[aw,aM];exact a2,λh r=>?_,?_⟩
  .rcases aN.1 r with r | r
   .obtain⟨y,A,l,e,k,n⟩:=s.f.ent h r;exact⟨y,A,l,e,k.mods G (C _ (by decide) (by decide) _ _ k),n⟩
   .rw [aC]at r;subst r;refine⟨by show B<=gf;omega,by show 1<=m.frames.length+1;omega,by show m.frames.length+1<=1048577;omega,_,F.gP a0 _,by rw[pJ];exact an,?_⟩
    .rw [show m.frames.length+1-1=m.frames.length by omega];exact zd (by rw[pJ];omega) (vu (by omega)) (vw (by omega)) (vz (by omega))
  .rw [aM,List.nodup_append];refine⟨b.hs.f.nodup,by simp,λe ab R d=>?_⟩;obtain⟨h,r,rfl⟩:=bF.1 ab;have:R=gf:=by simpa using d
   have:=b.old h r;omega
 .have C:∀ {e d},eG 1 (gy (OJ tT wr)) e d->eG 1 (gy (OJ t3 j)) e d:=λC=>fu (ao.trans (wu (by simp) j)) C;refine⟨q9 (D b.g (by decide) (by decide)) (by simp) (by omega),yX (D b.c (by decide) (by decide)) (by simp) (by omega),?_⟩;refine⟨_,gf,0,_,rfl,by omega,⟨λ_=>rfl,.inr (.inl rfl)⟩,λab d R=>?_⟩;obtain⟨G,rfl⟩:=ag.1 R;obtain⟨n,o,d,e,j,k,l⟩:=b.done ab G G;exact⟨n,o,by rw[rY F (by simp),bJ,ua (by omega)];exact d,by rw[rY F (by simp),bJ,ua (by omega)];exact e,by rw[rY F (by simp),bJ,ua (by omega)];exact j,C k,C l⟩
 .rcases ad with h | ⟨a,b,b⟩
  .exact .inl h
  .exact .inr ⟨a,by omega,b⟩
end
section
attribute [local go_sem ↓] Go.wp_at_zero Go.wp_at_succ
theorem rZ{b a}(c:b≠a)(e:World)(d f g h x i j):(((e.setCell ⟨a,f,U⟩ x).setCell ⟨a,g,U⟩ i).setCell ⟨a,h,U⟩ j).cell? ⟨b,d,U⟩=e.cell? ⟨b,d,U⟩:=by
 refine World.cell?_of_block ?_;rw[cZ _ _ _ _ c,cZ _ _ _ _ c,cZ _ _ _ _ c]
theorem Dm (a:List fT):4*a.length<=(a.map iB).sum:=by
 induction a with
 | nil => simp
 | cons a a b => simp only[bC, dk, bA]; unfold iB; unfold iB at b; omega
structure AZ (w w':World)(B bh:Nat)(cs:Oj)(m:eh)(vt vi vf:Value)(ts is fs:List (Nat×Nat))(g1 gc gf:Nat)(vt' vi' vf':Value)(ts' is' fs':List (Nat×Nat))(cs':Oj):Prop where
 hs:HS w' B bh cs' vt' vi' vf' ts' is' fs'
 rest:∀j,3<=j->cs'[j]? =cs[j]?
 mods:ee (nC bh vt vi vf) w w'
 vals:fK (OJ t3 w') m (O (M ⟨g1,0,U⟩) m.args.length (m.args.length+1)) (O (M ⟨gc,0,U⟩) m.code.length (m.code.length+1)) (O (M ⟨gf,0,U⟩) m.frames.length (m.frames.length+1))
 lt:vt'.ownBlock=vt.ownBlock\/∃k,w.heap.size<=k/\vt'.ownBlock=M k
 li:vi'.ownBlock=vi.ownBlock\/∃k,w.heap.size<=k/\vi'.ownBlock=M k
 lf:vf'.ownBlock=vf.ownBlock\/∃k,w.heap.size<=k/\vf'.ownBlock=M k
 tl:ts'.length<=ts.length+fI m
 il:is'.length=is.length+1
 fl:fs'.length=fs.length+1
theorem JX(a gx g0 g1 b o e a8 a0 e0 cA D r x)(h3:fK (jb e o b) a gx g0 g1)(L:HS b o e a8 a0 e0 cA D r x)(cz:fI a<=1048576)(h5:D.length+fI a<=16777216)(h1:r.length+1<=16777216)(hZ:x.length+1<=16777216):
  Calls Tryz.prog 82 #[zP (M ⟨e,0,U⟩),.agg #[J I a.slot,gx,J I a.ret,J I a.locals,J I a.stack,g0,g1]] b λm bk=>∃q f0 f1,m=zR (.agg #[J I a.slot,O (M ⟨q,0,U⟩) a.args.length (a.args.length+1),J I a.ret,J I a.locals,J I a.stack,O (M ⟨f0,0,U⟩) a.code.length (a.code.length+1),O (M ⟨f1,0,U⟩) a.frames.length (a.frames.length+1)])/\
   ∃i9 i8 i7 i6 ia hH hG,AZ b bk o e a8 a a0 e0 cA D r x q f0 f1 i9 i8 i7 i6 ia hH hG:=by
 obtain⟨h9,hO,hP,hQ,hR⟩:=info_parts CZ;obtain⟨k0,kk,kl,kn,ko⟩:=info_parts C4;obtain⟨h8,hK,hL,hM,hN⟩:=info_parts Jl;obtain⟨kW,kd,ke,kf,ki⟩:=info_parts CY;obtain⟨ei,ej,en⟩:=h3;have g9:=Ou ei;have hh:=Ou ej;have j4:=Ou en;obtain⟨bs,_,_,bz,rfl,_⟩:=eN ei;obtain⟨A,kb,kc,B,rfl,_,kw,_⟩:=eN ej;obtain⟨H,z,K,E,rfl,_,hX,ga⟩:=eN en;have hj:=Ou ga;clear ei ej en ga;have er:=L.lt;have h2:=L.le;have aa:=Ou L;clear L;have f4:a.args.length<=1048576:=by unfold fI at cz;omega
 have hW:a.code.length<=1048576:=by unfold fI at cz;omega
 have hY:a.frames.length<=1048576:=ap (AC a) cz;go_in
 go_wp2_with fail;generalize ba:((b.alloc _).alloc _).alloc _=W;have b5:ee (λ_=>False) b W:=by rw[<-ba];exact(((Ow _ b).alloc _).alloc _).alloc _
 have kA:W.heap.size=b.heap.size+3:=by rw[<-ba];simp
 have d4:ed W b.heap.size 63 [J I a.slot,O bs a.args.length bz,J I a.ret,J I a.locals,J I a.stack,O A a.code.length B,O H a.frames.length E]:=by rw[<-ba];exact((Oz _ _ _).alloc _).alloc _
 have fo:ed W (b.heap.size+1) 63 [J I 0,O U 0 0,J I 0,J I 0,J I 0,O U 0 0,O U 0 0]:=by rw[<-ba];exact(by simpa using (Oz (b.alloc _) _ _).alloc _)
 have fs:ed W (b.heap.size+2) 63 [J I a.slot,O bs a.args.length bz,J I a.ret,J I a.locals,J I a.stack,O A a.code.length B,O H a.frames.length E]:=by rw[<-ba];exact(by simpa using Oz ((b.alloc _).alloc _) _ _)
 clear ba;have a6:=Ou (aa.stay b5 (λd X V _ h=>h.elim));have hc:=Ou (fu ((px b5 (λ_ _ h=>h)).trans (jZ e o W)) g9);refine(wT a.args _ W e a8 a0 o D hc a6.hands a6.c0 a6.t.row a6.le er f4 (by unfold fI at h5;omega)).mono ?_;rintro m k ⟨q,rfl,g2,Q⟩
 have b7:∀d,b.heap.size<=d->d<W.heap.size->¬(d=e\/a0.ownBlock=M d):=λd a _ u=>by
  rcases u with u | u
  .omega
  .have:=aa.t.row.lt d u;omega
 have d5:=d4.mods Q.mods (b7 _ (by omega) (by omega));have ft:=fo.mods Q.mods (b7 _ (by omega) (by omega));have cb:=fs.mods Q.mods (b7 _ (by omega) (by omega));have kx:=Q.mods.size;have g8:=Ou (a6.ri f4 Q);have hl:=Ou ((b5.mono (T:=nC e a0 e0 cA) (λ_ _ h=>h.elim)).trans (a6.J4 Q) (λ_ _ L=>L));obtain⟨ak,ao,h7⟩:=fd aa.i.row;subst h7
 obtain⟨eR,eS,hT,gl,gn⟩:=G4 (wB ((px b5 (λ_ _ h=>h)).trans (px Q.mods (λd u=>λy=>by
  rcases y with y | y
  .omega
  .have:=aa.t.row.lt d y;omega))) hh)
 injection hT with hU _ hV
 subst hU hV;have hp:=Ou gl;have hq:=Ou gn;have k9:=d5.c5;have iJ:=cb.c1;have k2:=cb.frozen 1;have ks:e≠b.heap.size+2:=by omega
 have d1:=Ou Q;have ka:=Ou b7;have j3:=Ou d4;have g6:=Ou d5;have g7:=Ou ft;have e4:=Ou cb;clear gl gn Q b7 d4 fo fs d5 ft cb b5;obtain⟨br,bI⟩:∃br,br=k.setCell ⟨b.heap.size+2,1,U⟩ (O (M ⟨q,0,U⟩) a.args.length (a.args.length+1)):=⟨_,rfl⟩;have b6:ee (λd=>d=b.heap.size+2) k br:=by rw[bI];exact(Ow (λd=>d=b.heap.size+2) _).setCell (p:=⟨b.heap.size+2,1,U⟩) (λ_=>rfl) _
 have cu:br.heap.size=k.heap.size:=by rw[bI];simp
 have dp:=g6.mods b6 (by omega);have g3:=g7.mods b6 (by omega);have g4:ed br (b.heap.size+2) 63 [J I a.slot,O (M ⟨q,0,U⟩) a.args.length (a.args.length+1),J I a.ret,J I a.locals,J I a.stack,O A a.code.length B,O H a.frames.length E]:=by rw[bI];exact e4.setCell 1 _
 have d0:=Ou (g8.stay b6 (λd X V w u=>by
  subst u;rw[w.uniq e4.out]
  decide))
 have d3:=Ou dp;have hv:=Ou g3;have hw:=Ou g4;have d2:=Ou b6;have hi:=Ou bI;clear dp g3 g4 b6 bI
 have gf:∀a1,ed a1 k.heap.size 60 (madeCells (Value.agg #[J I 0,J I 0,J I 0]).cells ((a.code.length+1)*3)).toList->ee (λ_=>False) (k.setCell ⟨b.heap.size+2,1,U⟩ (O (M ⟨q,0,U⟩) a.args.length (a.args.length+1))) a1->a1.heap.size=k.heap.size+1->
   ∃n an ar l,(Builtin.copy_ #[61,61] 3 #[O (M ⟨k.heap.size,0,U⟩) (a.code.length+1) (a.code.length+1),O A a.code.length B]).run Tryz.prog a1= .ok (goInt a.code.length) n/\
    (Builtin.append_ #[46,46] 46 #[O ak r.length ao,O (M ⟨k.heap.size+1,0,U⟩) 1 1]).run Tryz.prog
     ((((n.setCell ⟨k.heap.size,a.code.length*3,U⟩ (J I (-77000000))).setCell ⟨k.heap.size,a.code.length*3+1,U⟩ (J I 0)).setCell ⟨k.heap.size,a.code.length*3+2,U⟩ (J I 0)).alloc (zC #[O (M ⟨k.heap.size,0,U⟩) (a.code.length+1) (a.code.length+1)] 61))= .ok (O an (r.length+1) ar) l/\
    a1.cell? ⟨b.heap.size,5,U⟩=M (O A a.code.length B)/\
    (∃be bf bh,n.cell? ⟨k.heap.size,a.code.length*3,U⟩=M be/\n.cell? ⟨k.heap.size,a.code.length*3+1,U⟩=M bf/\n.cell? ⟨k.heap.size,a.code.length*3+2,U⟩=M bh)/\
    (∀j,n.frozen? ⟨k.heap.size,j,U⟩=F)/\n.heap.size=k.heap.size+1/\n.cell? ⟨b.heap.size,5,U⟩=M (O A a.code.length B)/\n.cell? ⟨e,1,U⟩=M (O ak r.length ao)/\
    l.cell? ⟨e,1,U⟩=M (O ak r.length ao)/\l.frozen? ⟨e,1,U⟩=F/\l.cell? ⟨b.heap.size,5,U⟩=M (O A a.code.length B)/\l.cell? ⟨b.heap.size,6,U⟩=M (O H a.frames.length E)/\
    l.cell? ⟨b.heap.size+2,5,U⟩=M (O A a.code.length B)/\l.frozen? ⟨b.heap.size+2,5,U⟩=F/\k.heap.size+1<=l.heap.size/\
    ∃d,FH b l d o e a8 a bs A H bz B E a0 (O ak r.length ao) cA D r x q g2 k.heap.size (O an (r.length+1) ar):=by
  intro a1 bM bc cp;rw[<-ea hi]at bc
  obtain⟨n,P,ac,cs,⟨a3,N,ci⟩,an,ar,l,cf,s,a2,ab,R,ad⟩:=JU d0 a.code A B hp (λa m b8 b d=>by
    have:=ea hq a m b8 b d
    exact d2.cell (jZ e o k _ _ this) (λm=>by have:=uz this;omega)) hW h1 (by rw[cu];exact bM) bc (by rw[cu];exact cp)
  rw[cu]at P cf cs N R ab ad;have ca:∀d,(O ak r.length ao).ownBlock=M d->o<=d/\d<b.heap.size:=aa.i.row.lt;have C:∀d,b.heap.size<=d->¬((O ak r.length ao).ownBlock=M d):=λd u m=>by have:=ca d m;omega
  have bo:=s.size;rw[cu]at bo;have bn:=d3.mods s (C _ (by omega));have ds:=hv.mods s (C _ (by omega));have a5:=hw.mods s (C _ (by omega));have e3:=d3.mods ac (λh=>h);have ce:=d0.hands.1.mods ac (λh=>h);have dp:=d3.mods bc (λh=>h);have b9:=d0.c1;have cg:b.heap.size+3<=q:=by have:=d1.new;omega
  have a4:=((d1.blk.mods d2 (by omega)).mods s (C _ (by omega)))
  have cc:k.heap.size+1<=l.heap.size:=by
   have:=R.lt;omega
  refine⟨n,an,ar,l,P,cf,by rw[dp.cell];rfl,?_,N.frozen,cs,by rw[e3.cell];rfl,by rw[ce.cell];exact b9,by rw[a2.cell];exact b9,a2.frozen 1,by rw[bn.cell];rfl,by rw[bn.cell];rfl,by rw[a5.cell];rfl,a5.frozen 5,cc,_,rfl,?_,?_,?_,?_,?_,?_,?_,cg,by omega,?_,?_⟩
  .have hx:∀j,j<(a.code.length+1)*3->∃b,n.cell? ⟨k.heap.size,j,U⟩=M b:=λj eo=>⟨a3[j]'(by omega),by rw[N.cell];exact ae (by omega)⟩;obtain⟨be,et⟩:=hx (a.code.length*3) (by omega);obtain⟨bf,eK⟩:=hx (a.code.length*3+1) (by omega);obtain⟨bh,eP⟩:=hx (a.code.length*3+2) (by omega);exact⟨be,bf,bh,et,eK,eP⟩
  .refine ab.stay (S:=λd=>d=b.heap.size+2) ((Ow (λd=>d=b.heap.size+2) _).setCell (p:=⟨b.heap.size+2,5,U⟩) (λ_=>rfl) _) (λd X V w u=>?_);subst u;rw[w.uniq (a5.gP (p:=⟨e,1,U⟩) (by show b.heap.size+2≠e;omega) _)]
   decide
  .refine ((hl.trans d2 (λj eo m=>by omega)).trans s (λj eo m=>.inr (.inr (.inl m)))).setCell (λ_=>.inl rfl) _ |>.setCell (λL=>by simp at L;omega) _
  .exact (bn.gP (p:=⟨e,1,U⟩) (by show b.heap.size≠e;omega) _).gP (p:=⟨b.heap.size+2,5,U⟩) (by show b.heap.size≠b.heap.size+2;omega) _
  .exact (ds.gP (p:=⟨e,1,U⟩) (by show b.heap.size+1≠e;omega) _).gP (p:=⟨b.heap.size+2,5,U⟩) (by show b.heap.size+1≠b.heap.size+2;omega) _
  .exact (a5.gP (p:=⟨e,1,U⟩) (by show b.heap.size+2≠e;omega) _).setCell 5 _
  .exact (a4.gP (p:=⟨e,1,U⟩) (by show q≠e;omega) _).gP (p:=⟨b.heap.size+2,5,U⟩) (by show q≠b.heap.size+2;omega) _
  .exact (R.gP (p:=⟨e,1,U⟩) (by show k.heap.size≠e;omega) _).gP (p:=⟨b.heap.size+2,5,U⟩) (by show k.heap.size≠b.heap.size+2;omega) _
  .rcases d1.lies with j | ⟨d,j,G⟩
   .exact .inl j
   .exact .inr ⟨d,by omega,G⟩
  .rcases ad with j | ⟨d,j,G⟩
   .exact .inl j
   .exact .inr ⟨d,by omega,G⟩
 have ho:=Ou gf;clear gf
 go_wp2_with (first
  | (at_make; refine sN rfl (.tmp 18) (.tmp 18) 61 rfl 60 h9 (.agg #[J I 0,J I 0,J I 0]) 3 24 Tryz.underlying61 hO hP hQ hR _ _ _ (a.code.length + 1) rfl rfl (by omega) (by omega) (by omega) ?_; intro a1 bM bc cp
     obtain⟨n,an,ar,l,P,cf,gq,⟨be,bf,bh,et,eK,eP⟩,iS,cs,ib,ih,ii,iC,ij,is,iF,iG,s,hF,j⟩:=ho a1 (by simpa using bM) bc (by simpa using cp);have e5:=Ou j
     clear j bM bc cp)
  | (at_builtin; refine OA rfl (.tmp 34) (.tmp 36) 46 rfl _ _ rfl rfl cf ?_)
  | (at_make; refine sN rfl (.tmp 49) (.tmp 49) 36 rfl 42 h8 (.agg #[J I 0,O U 0 0,O U 0 0]) 3 56 Tryz.underlying36 hK hL hM hN _ _ _ (a.frames.length + 1) rfl rfl (by omega) (by omega) (by omega) ?_; intro e2 f9 G gm
     have j:ed e2 l.heap.size 42 (madeCells (Value.agg #[J I 0,O U 0 0,O U 0 0]).cells ((a.frames.length+1)*3)).toList:=(by simpa using f9);have n:e2.heap.size=l.heap.size+1:=(by simpa using gm);rw[<-e5.out.eq]at G;have hf:=Ou j;have hm:=Ou G
     clear f9 G gm j))
 obtain⟨cc,ce,h6⟩:=fd aa.f.row;subst h6
 have hr:Hid (∃a4 a3 a2 ca,kH b e2 o e a8 a bs A H bz B E a0 (O ak r.length ao) (O cc x.length ce) D.length (O an (r.length+1) ar) (r++ [(k.heap.size,a.code.length+1)]) x q k.heap.size l.heap.size 0 a4 a3 a2 ca):=by
  have j:=ea e5;have G:=ea hm;have s:=j.mods.size;have bo:hF.heap.size=l.heap.size:=by rw[j.eq];simp
  refine⟨g2,D++ [(q,a.args.length+1)],_,_,j.hs.stay G (λ_ _ _ _ h=>h.elim),λb8 ep=>by rw[ah (by omega),ah (by omega)],j.mods.trans G (λ_ _ h=>h.elim),j.b0.mods G (λh=>h),j.b1.mods G (λh=>h),j.b2.mods G (λh=>h),j.g.mods G (λh=>h),j.c.mods G (λh=>h),ea hf,by rw[tJ],λb8 ep L=>absurd L (cW _),j.lt,j.li,by rw[aw,aS],by omega,j.uS,j.new1,λm n=>?_,h2⟩;obtain⟨_,_,_,V,w,_⟩:=aa.f.ent m n;exact w.lt
 clear gq et eK eP iS cs ib ih ii iC ij is iF iG
 go_loopw [8] (λd wr=>∃j:Nat,j<=a.frames.length/\d=J I j/\∃a4 a3 a2 ca,kH b wr o e a8 a bs A H bz B E a0 (O ak r.length ao) (O cc x.length ce) D.length (O an (r.length+1) ar) (r++ [(k.heap.size,a.code.length+1)]) x q k.heap.size l.heap.size j a4 a3 a2 ca) (λd _=>a.frames.length-(intOf d).toNat)
 case atStart=>exact ⟨0,az _,rfl,ea hr⟩
 case round=>
  obtain⟨j,eo,rfl,a4,a3,a2,ca,es⟩:=hrel;have iM:wr.cell? ⟨b.heap.size,6,U⟩=M (O H a.frames.length E):=by rw[es.b0.cell];rfl
  have s:=Ou es;clear es
  by_cases ck:j<a.frames.length
  .obtain rfl:=hX (eW ck);have ep:=px s.mods (λd u=>aa.KO u);obtain⟨hS,h4,b8,d9,ec,cn,d6⟩:=(hj j ck).keep ep;have ad:z≠e/\z<o:=uz b8;have gk:=jZ e o wr _ _ b8;have b9:=jZ e o wr _ _ d9;have gp:=jZ e o wr _ _ ec;have eg:=ap (AB (av ck)) cz;have e6:a.frames[j].locals.length<=1048576:=(by unfold iB at eg;omega);have e7:a.frames[j].stack.length<=1048576:=(by unfold iB at eg;omega);generalize P:a.frames[j]=h at *;have f6:=Ou P;clear P;have hk:a3.length=D.length+1+2*j:=s.tl
   have hn:4*a.frames.length+8<=fI a:=by
    have:=Dm a.frames;unfold fI;omega
   have gb:=Ou cn;have gc:=Ou d6;obtain⟨f2,hu,hy,f3,rfl,_⟩:=eN cn;obtain⟨eR,hz,hA,eS,rfl,_⟩:=eN d6;have ha:(j:Int)<(a.frames.length:Int):=(by omega);have hg:=fp j;have gs:(j:Int)<(a.frames.length:Int)+1:=(by omega);have h0:=s.sB;have cg:b.heap.size≠l.heap.size:=(by omega);have ci:z≠l.heap.size:=(by omega);have N:=Ou s.drew;clear cn d6 b8 d9 ec ep;go_wp2
   go_region_held3 (λbk=>bk.cell? ⟨b.heap.size,6,U⟩=M (O (M ⟨z,K,U⟩) a.frames.length E)/\bk.cell? ⟨z,K+j*3,U⟩=M (J I h.pc)/\bk.cell? ⟨z,K+j*3+1,U⟩=M (O f2 h.locals.length f3)/\bk.cell? ⟨z,K+j*3+2,U⟩=M (O eR h.stack.length eS))
    (first | go_keep | (exact⟨fn,e9,fa,fc⟩) | (exact⟨g5,bn,ds,a5⟩) | (exact⟨(rZ cg _ _ _ _ _ _ _ _).trans g5,(rZ ci _ _ _ _ _ _ _ _).trans bn,(rZ ci _ _ _ _ _ _ _ _).trans ds,(rZ ci _ _ _ _ _ _ _ _).trans a5⟩))
    (first
      | ((go_at_call_of 83 (O f2 h.locals.length f3); refine(wT h.locals _ wr.drew e a2 a4 o a3 (fu (jZ e o wr) gb) N.hs.hands N.hs.c0 N.hs.t.row N.hs.le er e6 (by omega)).mono ?_); rintro m n ⟨hI, rfl, e1, ab⟩
         have C:∀d,d≠e/\d<o->¬(d=e\/a4.ownBlock=M d):=λd u y=>by
          rcases y with y | y
          .omega
          .have:=N.hs.t.row.lt d y;omega
         have fn:=ab.mods.cell (p:=⟨b.heap.size,6,U⟩) iM (N.far N.b0 (by decide) (by decide));have e9:=ab.mods.cell (p:=⟨z,K+j*3,U⟩) gk (C _ ad);have fa:=ab.mods.cell (p:=⟨z,K+j*3+1,U⟩) b9 (C _ ad);have fc:=ab.mods.cell (p:=⟨z,K+j*3+2,U⟩) gp (C _ ad);have R:=Ou (N.ri e6 ab (D.length+1) (by omega));have hC:=Ou (q9 (T:=tT) (cap:=h.locals.length+1) ab.blk (by simp) (by omega));have hB:=Ou (fu ((px ab.mods C).trans (jZ e o n)) gc)
         clear ab)
      | ((go_at_call_of 83 (O eR h.stack.length eS); refine(wT h.stack _ n e (a2.set 0 e1) e1 o _ hB R.hs.hands R.hs.c0 R.hs.t.row R.hs.le er e7 (by simp; omega)).mono ?_); rintro m l4 ⟨hJ, rfl, l0, ac⟩
         have cm:∀d,d≠e/\d<o->¬(d=e\/e1.ownBlock=M d):=λd u y=>by
          rcases y with y | y
          .omega
          .have:=R.hs.t.row.lt d y;omega
         have g5:=ac.mods.cell (p:=⟨b.heap.size,6,U⟩) fn (R.far R.b0 (by decide) (by decide));have bn:=ac.mods.cell (p:=⟨z,K+j*3,U⟩) e9 (cm _ ad);have ds:=ac.mods.cell (p:=⟨z,K+j*3+1,U⟩) fa (cm _ ad);have a5:=ac.mods.cell (p:=⟨z,K+j*3+2,U⟩) fc (cm _ ad);have bo:=Ou (R.ri e7 ac (D.length+2) (by simp;omega));have hD:=Ou (q9 (T:=tT) (cap:=h.stack.length+1) ac.blk (by simp) (by omega));have hE:=Ou (fu (jO ac.mods (λd X V w C=>by obtain rfl:=aC.1 C;exact R.far w (by decide) (by decide))) hC);obtain⟨be,e3⟩:=bo.tg (j*3) (by omega);obtain⟨bf,j0⟩:=bo.tg (j*3+1) (by omega);obtain⟨bh,j1⟩:=bo.tg (j*3+2) (by omega);have j2:=bo.fb.frozen
         clear ac))
   have P:=ea f6;obtain⟨bf,C⟩:=bo.put ck (vl:=O (M ⟨hI,0,U⟩) h.locals.length (h.locals.length+1)) (vs:=O (M ⟨hJ,0,U⟩) h.stack.length (h.stack.length+1)) (by rw[P];exact hE) (by rw[P];exact hD) D.length (by simp;omega);rw[P]at C;have be:=Ou C;clear C P
   go_wp2
   exact⟨⟨j+1,by omega,by go_num,_,_,_,_,ea be⟩,by simp[intOf];omega⟩
  .obtain rfl:j=a.frames.length:=by omega
   obtain⟨d6,d9,n,hS,b9,gc,kD,gs,N,P,f2,gp,f6⟩:=s.fin hZ hY;obtain⟨be,e3⟩:=s.tg (a.frames.length*3) (by omega);obtain⟨bf,j0⟩:=s.tg (a.frames.length*3+1) (by omega);obtain⟨bh,j1⟩:=s.tg (a.frames.length*3+2) (by omega);have j2:=s.fb.frozen;have h0:=s.sB;have cg:b.heap.size≠l.heap.size:=(by omega);have ci:e≠l.heap.size:=(by omega);have gb:=s.hs.hands.1;have gq:wr.cell? ⟨e,2,U⟩=M (O cc x.length ce):=(by rw[gb.cell];exact s.hs.c2);have lF:n.cell? ⟨e,2,U⟩=M (O cc x.length ce):=(by rw[b9.cell];exact s.hs.c2);have lW:=b9.frozen 2;have lE:n.cell? ⟨b.heap.size,6,U⟩=M (O H a.frames.length E):=(by rw[gs.cell];rfl);have k1:n.cell? ⟨b.heap.size+2,0,U⟩=M (J I a.slot):=(by rw[P.cell];rfl);have iJ:n.cell? ⟨b.heap.size+2,1,U⟩=M (O (M ⟨q,0,U⟩) a.args.length (a.args.length+1)):=(by rw[P.cell];rfl);have k3:n.cell? ⟨b.heap.size+2,2,U⟩=M (J I a.ret):=(by rw[P.cell];rfl);have k4:n.cell? ⟨b.heap.size+2,3,U⟩=M (J I a.locals):=(by rw[P.cell];rfl);have k5:n.cell? ⟨b.heap.size+2,4,U⟩=M (J I a.stack):=(by rw[P.cell];rfl);have k6:n.cell? ⟨b.heap.size+2,5,U⟩=M (O (M ⟨k.heap.size,0,U⟩) a.code.length (a.code.length+1)):=(by rw[P.cell];rfl);have k7:n.cell? ⟨b.heap.size+2,6,U⟩=M (O H a.frames.length E):=(by rw[P.cell];rfl);have k8:=P.frozen;have lc:n.cell? ⟨b.heap.size+1,0,U⟩=M (J I 0):=(by rw[N.cell];rfl);have lg:n.cell? ⟨b.heap.size+1,1,U⟩=M (O U 0 0):=(by rw[N.cell];rfl);have lm:n.cell? ⟨b.heap.size+1,2,U⟩=M (J I 0):=(by rw[N.cell];rfl);have ln:n.cell? ⟨b.heap.size+1,3,U⟩=M (J I 0):=(by rw[N.cell];rfl);have lp:n.cell? ⟨b.heap.size+1,4,U⟩=M (J I 0):=(by rw[N.cell];rfl);have lq:n.cell? ⟨b.heap.size+1,5,U⟩=M (O U 0 0):=(by rw[N.cell];rfl);have lv:n.cell? ⟨b.heap.size+1,6,U⟩=M (O U 0 0):=(by rw[N.cell];rfl);have lB:=N.frozen;have kp:e≠b.heap.size:=(by omega);have bM:e≠b.heap.size+1:=(by omega);have kr:e≠b.heap.size+2:=(by omega);have hy:=Ou N;have hz:=Ou P;have hn:=Ou gc;have hk:=Ou f2;have hu:=Ou gp;have ha:=Ou f6;have hg:=Ou b9;clear b9 gc gs N P f2 gp f6 gb;go_wp2_with (at_builtin;refine OA rfl (.tmp 94) (.tmp 96) 47 rfl _ _ rfl rfl hS ?_)
   generalize ec:n.setCell ⟨e,2,U⟩ (O d6 (x.length+1) d9)=Y;have cm:ee (λd=>d=e) n Y:=(by rw[<-ec];exact(Ow (λd=>d=e) _).setCell (p:=⟨e,2,U⟩) (λ_=>rfl) _);have f3:=ea hk;rw[ec]at f3;clear ec;have e6:=hy.mods cm (by omega);have hA:=hz.mods cm (by omega);generalize eg:Y.setCell ⟨b.heap.size+1+1,6,U⟩ (O (M ⟨l.heap.size,0,U⟩) a.frames.length (a.frames.length+1))=Z0;have h4:ee (λd=>d=b.heap.size+1\/d=b.heap.size+2) Y Z0:=(by rw[<-eg];exact(Ow (λd=>d=b.heap.size+1\/d=b.heap.size+2) _).setCell (p:=⟨b.heap.size+2,6,U⟩) (λ_=>.inr rfl) _);have e7:=e6.gP (p:=⟨b.heap.size+1+1,6,U⟩) (by show b.heap.size+1≠b.heap.size+1+1;omega) (O (M ⟨l.heap.size,0,U⟩) a.frames.length (a.frames.length+1));rw[eg]at e7;clear eg;have ad:=((((((e7.setCell 0 (J I a.slot)).setCell 1 (O (M ⟨q,0,U⟩) a.args.length (a.args.length+1))).setCell 2 (J I a.ret)).setCell 3 (J I a.locals)).setCell 4 (J I a.stack)).setCell 5 (O (M ⟨k.heap.size,0,U⟩) a.code.length (a.code.length+1))).setCell 6 (O (M ⟨l.heap.size,0,U⟩) a.frames.length (a.frames.length+1));have cn:=((((((((Ow (λd=>d=b.heap.size+1\/d=b.heap.size+2) Y).trans h4 (λ_ _ m=>m)).setCell (p:=⟨b.heap.size+1,0,U⟩) (λ_=>.inl rfl) (J I a.slot)).setCell (p:=⟨b.heap.size+1,1,U⟩) (λ_=>.inl rfl) (O (M ⟨q,0,U⟩) a.args.length (a.args.length+1))).setCell (p:=⟨b.heap.size+1,2,U⟩) (λ_=>.inl rfl) (J I a.ret)).setCell (p:=⟨b.heap.size+1,3,U⟩) (λ_=>.inl rfl) (J I a.locals)).setCell (p:=⟨b.heap.size+1,4,U⟩) (λ_=>.inl rfl) (J I a.stack)).setCell (p:=⟨b.heap.size+1,5,U⟩) (λ_=>.inl rfl) (O (M ⟨k.heap.size,0,U⟩) a.code.length (a.code.length+1))).setCell (p:=⟨b.heap.size+1,6,U⟩) (λ_=>.inl rfl) (O (M ⟨l.heap.size,0,U⟩) a.frames.length (a.frames.length+1));generalize ((((((Z0.setCell ⟨b.heap.size+1,0,U⟩ (J I a.slot)).setCell ⟨b.heap.size+1,1,U⟩ (O (M ⟨q,0,U⟩) a.args.length (a.args.length+1))).setCell ⟨b.heap.size+1,2,U⟩ (J I a.ret)).setCell ⟨b.heap.size+1,3,U⟩ (J I a.locals)).setCell ⟨b.heap.size+1,4,U⟩ (J I a.stack)).setCell ⟨b.heap.size+1,5,U⟩ (O (M ⟨k.heap.size,0,U⟩) a.code.length (a.code.length+1))).setCell ⟨b.heap.size+1,6,U⟩ (O (M ⟨l.heap.size,0,U⟩) a.frames.length (a.frames.length+1))=Z at ad cn ⊢;have iT:Z.cell? ⟨b.heap.size+1,0,U⟩=M (J I a.slot):=(by rw[ad.cell];rfl);have i0:Z.cell? ⟨b.heap.size+1,1,U⟩=M (O (M ⟨q,0,U⟩) a.args.length (a.args.length+1)):=(by rw[ad.cell];rfl);have i1:Z.cell? ⟨b.heap.size+1,2,U⟩=M (J I a.ret):=(by rw[ad.cell];rfl);have i2:Z.cell? ⟨b.heap.size+1,3,U⟩=M (J I a.locals):=(by rw[ad.cell];rfl);have i3:Z.cell? ⟨b.heap.size+1,4,U⟩=M (J I a.stack):=(by rw[ad.cell];rfl)
   have i4:Z.cell? ⟨b.heap.size+1,5,U⟩=M (O (M ⟨k.heap.size,0,U⟩) a.code.length (a.code.length+1)):=(by rw[ad.cell];rfl);have i5:Z.cell? ⟨b.heap.size+1,6,U⟩=M (O (M ⟨l.heap.size,0,U⟩) a.frames.length (a.frames.length+1)):=(by rw[ad.cell];rfl);refine bodyPost_ret (v:=.agg #[J I a.slot,O (M ⟨q,0,U⟩) a.args.length (a.args.length+1),J I a.ret,J I a.locals,J I a.stack,O (M ⟨k.heap.size,0,U⟩) a.code.length (a.code.length+1),O (M ⟨l.heap.size,0,U⟩) a.frames.length (a.frames.length+1)]) (by simp[results,Tryz.results82,go_sem,iT,i0,i1,i2,i3,i4,i5]) rfl ⟨q,k.heap.size,l.heap.size,rfl,a4,O an (r.length+1) ar,O d6 (x.length+1) d9,a3,r++ [(k.heap.size,a.code.length+1)],x++ [(l.heap.size,a.frames.length+1)],a2.set 2 (O d6 (x.length+1) d9),?_⟩
   have gk:∀ {d X V},ed Y d X V->X≠63->¬(d=b.heap.size+1\/d=b.heap.size+2):=λw C m=>by
    rcases m with rfl | rfl
    .exact C (w.uniq e6)
    .exact C (w.uniq hA)
   refine⟨f3.stay cn (λd X V w u=>?_),λb8 ep=>by rw[ah (by omega)];exact s.rest b8 ep,(hn.trans cm (λd _ m=>.inl m)).trans cn (λd u m=>by omega),hu.keep ((jO cm (λd X V w C m=>?_)).trans (jO cn (λd X V w C=>gk w ?_))),s.lt,s.li,ea ha,?_,by rw[aw];rfl,by rw[aw];rfl⟩
   .intro C;refine gk w ?_ u
    rcases C with rfl | rfl | rfl | rfl | rfl | rfl | rfl <;> decide
   .subst m;rw[w.uniq hg.out]at C;exact absurd C (by decide)
   .simp only [aE,aF,or_false]at C
    rcases C with rfl | rfl | rfl <;> decide
   .have:=s.tl;have:=Dm a.frames;unfold fI;omega
theorem xr{c d}(b:fR c d=K):∃a:Nat,c=a/\(a:Int)<d:=by
 unfold fR at b;simp only[aD,decide_eq_true_eq]at b;obtain⟨a,c⟩:=ax b.1;exact⟨a,c,by omega⟩
theorem vk{b a d}(f:fR b a=d)(c):Calls Tryz.prog 200 #[J I b,J I a] c λe g=>e=zR (zB d)/\g=c:=f▸lj b a c
theorem L4(p u n x A C z y B E D h d e b)(m:eQ b u p)(K:ez p p.length)(s:eM p<=4194304)(l:h=10\/h=11):
  Calls Tryz.prog 149 (mJ u n x A C z y B E D h d e) b λi c=>i=zR (zB (eU p n ⟨h,d,e⟩))/\Below b.heap.size b c:=by
 have:p.length<=4194304:=ap (fQ p) s
 have q:eU p n ⟨h,d,e⟩=(fR d p.length && fR e (OE p d).length):=by
  unfold eU
  rcases l with rfl | rfl <;> simp
 have o:=Ou q;clear q;have v:=Ou m;obtain⟨Q,V,X,R,rfl,T,G,H⟩:=eN m;clear H G m;unfold mJ
 cases g:fR d p.length
 .rcases l with rfl | rfl <;>
  .go_in
   go_wp2
   generalize a:((b.alloc _).alloc _).alloc _=W;have f:=qR a;have t:=(nH a).c1;clear a
   go_quiet ((go_at_call 200;exact Calls.quiet_of_same (vk g _)))
   go_wp2
   go_ret;exact⟨eC (by rw[ea o,g];rfl),below_drewN f _⟩
 .obtain⟨k,rfl,S⟩:=xr g
  cases r:fR e (OE p k).length <;> rcases l with rfl | rfl <;>
  .go_in
   go_wp2
   generalize a:((b.alloc _).alloc _).alloc _=W;have f:=qR a;have N:=(p8 a).c0;have t:=(nH a).c1;have P:=(nH a).c2;clear a;have w:=Ou (eA (Oq f) v);have L:=f.size
   go_region_held3 (λc=>c.cell? ⟨b.heap.size,0,U⟩=M (O Q p.length R)/\c.cell? ⟨b.heap.size+1+1,1,U⟩=M (J I (k:Int))/\c.cell? ⟨b.heap.size+1+1,2,U⟩=M (J I e))
    (first | go_keep | (exact⟨Oq j _ _ (by simpa using N),Oq j _ _ (by simpa using t),Oq j _ _ (by simpa using P)⟩))
    (first | ((go_at_call_of 200 (J .i64 (p.length:Int));refine(vk g _).mono ?_);rintro i c ⟨rfl,rfl⟩)
           | ((go_at_call_of 200 (J .i64 ((OE p (k : Int)).length : Int)); refine(vk r _).mono ?_); rintro i c ⟨rfl, rfl⟩)
           | ((go_at_call 92; refine(sH p p.length K (ai _) s k _ _ (eA (Oq ((ay _ _).drew)) w) (by omega)).mono ?_); rintro i ab ⟨Y, rfl, F, j⟩; obtain ⟨Z, aa, rfl⟩ := fd F))
   go_wp2
   go_ret;exact⟨eC (by rw[ea o,g,r];rfl),f.drew.trans (j.mono (by simpa using L))⟩
theorem Ks(p a b):decide (0<=(jU p a b).1)=(fy p a b).isSome:=by
 unfold jU
 cases fy p a b with
 | none => rfl
 | some a => simp
theorem L3(p m h q t v s r u x w a e d)(g:eQ d m p)(B:ez p p.length)(l:eM p<=4194304):
  Calls Tryz.prog 149 (mJ m h q t v s r u x w 12 a e) d λf n=>f=zR (zB (eU p h ⟨12,a,e⟩))/\Below d.heap.size d n:=by
 have:p.length<=4194304:=ap (fQ p) l;have k:eU p h ⟨12,a,e⟩=(fR a p.length && (fy p a e).isSome):=by unfold eU;simp
 have i:=Ou k;clear k;have o:=Ou g;obtain⟨e,e,e,e,rfl,e,z,A⟩:=eN g;clear A z g;unfold mJ
 cases c:fR a p.length
 .go_in
  go_wp2_with (go_at_call 200;refine(vk c _).mono ?_;rintro f n ⟨rfl,rfl⟩)
  go_ret;exact⟨eC (by rw[ea i,c];rfl),jg _ _ _ _⟩
 .obtain⟨a,rfl,a⟩:=xr c;go_in
  go_wp2_with fail;generalize b:((d.alloc _).alloc _).alloc _=W;have j:=qR b;have:=(p8 b).c0;have:=(nH b).c1;have:=(nH b).c2;clear b;refine(vk c _).mono ?_;rintro f a ⟨rfl,rfl⟩;go_wp2_with fail;refine(vj p _ p.length _ _ _ (eA (Oq j) o) B (ai _) (by omega) (by omega) l).mono ?_;rintro f a ⟨rfl,y⟩
  go_wp2
  go_ret;exact⟨eC (by rw[ea i,c,Ks];rfl),eu j y⟩
theorem Ef(p g e h k m j i l o n c d)(r:eQ d g p)(u:ez p p.length)(s:eM p<=4194304)(v:e.code.length<=4194304):
  Calls Tryz.prog 149 (mJ g e h k m j i l o n c.op c.a c.b) d λf w=>f=zR (zB (eU p e c))/\Below d.heap.size d w:=by
 by_cases q:c.op=10\/c.op=11
 .exact L4 p g e h k m j i l o n c.op c.a c.b d r u s q
 by_cases t:c.op=12
 .have:=L3 p g e h k m j i l o n c.a c.b d r u s;rw[<-t]at this;exact this
 .exact L8 p g e h k m j i l o n c.op c.a c.b d r s v (λf=>q (.inl f)) (λf=>q (.inr f)) t
theorem GX{p a}(b:¬(1<=a.code.length/\a.code.length<=40/\a.frames.length<=40)):gY p a=F:=by
 unfold gY;simp only[cQ,decide_eq_false_iff_not];omega
theorem GF{p a}(b:1<=a.code.length/\a.code.length<=40/\a.frames.length<=40):gY p a=(a.code.all (eU p a) && gK p.length a (-1) a.frames):=by
 unfold gY;rw[decide_eq_true b.1,decide_eq_true b.2.1,decide_eq_true b.2.2]
 rfl
theorem rU{α :Type}{a:List α}{f b}(d:b<a.length)(c:f a[b]=F):a.all f=F:=by
 rw[cx];exact⟨_,av d,by rw[c];exact bZ⟩
theorem tE{d c b e g}(f:¬(e<b.pc/\b.pc<c.code.length/\(b.locals.length:Int)=c.locals/\(b.stack.length:Int)<=c.stack/\b.locals.all (gT d)=K/\b.stack.all (gT d)=K)):gK d c e (b::g)=F:=by
 unfold gK m9;rw[cw];intro a;simp only[aD,decide_eq_true_eq]at a;exact f ⟨a.1.1,a.1.2.1.1.1.1,a.1.2.1.1.1.2,a.1.2.1.1.2,a.1.2.1.2,a.1.2.2⟩
theorem IP{d c a e f}(b:e<a.pc/\a.pc<c.code.length/\(a.locals.length:Int)=c.locals/\(a.stack.length:Int)<=c.stack/\a.locals.all (gT d)=K/\a.stack.all (gT d)=K):gK d c e (a::f)=gK d c a.pc f:=by
 rw[gK,m9,decide_eq_true b.1,decide_eq_true b.2.1,decide_eq_true b.2.2.1,decide_eq_true b.2.2.2.1,b.2.2.2.2.1,b.2.2.2.2.2]
 rfl
theorem Ee{a d c e}(g:a.all (gT c)=e)(b)(h:eG 1 (gF b) d a)(j:∀x∈a,I64 x)(i:a.length<=4194304):
  Calls Tryz.prog 150 #[d,J I c] b λf k=>f=zR (zB e)/\k=b:=g▸LW a d c b h j i
theorem LV(p n a h i j c)(b:lR c a h i j)(g:fI a<=4194304)(e:¬(1<=a.code.length/\a.code.length<=40/\a.frames.length<=40)):
  Calls Tryz.prog 94 #[.agg #[n],.agg #[J I a.slot,h,J I a.ret,J I a.locals,J I a.stack,i,j]] c λl o=>l=zR (zB (gY p a))/\Below c.heap.size c o:=by
 have:a.code.length<=4194304:=by unfold fI at g;omega
 have:a.frames.length<=4194304:=ap (AC a) g;obtain⟨c,c,c,c,rfl,_,_,_⟩:=eN b.1;obtain⟨c,c,c,c,rfl,_,_,_⟩:=eN b.2.1;obtain⟨c,c,c,c,rfl,_,_,_⟩:=eN b.2.2;have d:=Ou (GX (p:=p) e);have k:=Ou e;clear b e
 by_cases b:a.code.length<1
 .have f:(a.code.length:Int)<1:=by omega
  go_in
  go_wp2;go_ret;exact⟨eC d.symm,gS _ _ _⟩
 by_cases b:40<a.code.length
 .have f:¬(a.code.length:Int)<1:=by omega
  have m:(40:Int)<a.code.length:=by omega
  go_in
  go_wp2;go_ret;exact⟨eC d.symm,gS _ _ _⟩
 have:40<a.frames.length:=by have:=ea k;omega
 have f:¬(a.code.length:Int)<1:=by omega
 have m:¬(40:Int)<a.code.length:=by omega
 have:(40:Int)<a.frames.length:=by omega
 go_in
 go_wp2;go_ret;exact⟨eC d.symm,gS _ _ _⟩
theorem LU(p bk c bh bn bo e)(a6:eQ e bk p)(z:lR e c bh bn bo)(ce:ez p p.length)(ba:eM p<=4194304)(cc:fI c<=4194304)(d0:pQ c):
  Calls Tryz.prog 94 #[.agg #[bk],.agg #[J I c.slot,bh,J I c.ret,J I c.locals,J I c.stack,bn,bo]] e λG h=>G=zR (zB (gY p c))/\Below e.heap.size e h:=by
 by_cases ad:¬(1<=c.code.length/\c.code.length<=40/\c.frames.length<=40)
 .exact LV p bk c bh bn bo e z cc ad
 have ad:=Classical.not_not.1 ad;have o:=Ou (GF (p:=p) ad);have e1:p.length<=4194304:=ap (fQ p) ba;have ej:¬(c.code.length:Int)<1:=by omega
 have en:¬(40:Int)<c.code.length:=by omega
 have eo:¬(40:Int)<c.frames.length:=by omega
 have d5:=Ou z;have bz:=Ou a6;obtain⟨cg,e4,e5,ci,rfl,_,_,_⟩:=eN a6;obtain⟨V,d6,d9,X,rfl,_,_,_⟩:=eN z.1;obtain⟨ec,l,m,aa,rfl,et,cu,b8⟩:=eN z.2.1;obtain⟨ab,eg,ei,ac,rfl,eK,cz,b9⟩:=eN z.2.2;have cm:=Ou b8;have cn:=Ou b9;clear a6 z b8 b9;go_in
 go_wp2_with fail;generalize n:(e.alloc _).alloc _=W;have L:=oK n;have a2:=(lD n).c0;have ao:=(gI n).c0;have ar:=(gI n).c1;have a0:=(gI n).c2;have P:=(gI n).c3;have Q:=(gI n).c4;have R:=(gI n).c5;have S:=(gI n).c6;clear n;have T:=Ou (Oq L);have an:=L.size
 go_loopw [5] (λe wr=>∃d:Nat,d<=c.code.length/\e=J I d/\(c.code.take d).all (eU p c)=K/\Below W.heap.size W wr) (λe _=>c.code.length-(intOf e).toNat)
 case atStart=>exact ⟨0,az _,rfl,rfl,ay _ _⟩
 case round=>
  obtain⟨d,cA,rfl,b6,j⟩:=hrel;have a4:=Ou b6;have i:=Oq j;have y:=Ou i;have N:=j.size;have w:=i _ _ a2;have bc:=i _ _ ao;have be:=i _ _ ar;have bf:=i _ _ a0;have B:=i _ _ P;have C:=i _ _ Q;have x:=i _ _ R;have D:=i _ _ S;clear b6 i
  by_cases k:d<c.code.length
  .obtain rfl:=cu (eW k);have q:=mH (f:=eU p c) k;rw[ea a4]at q;have HS:=Ou q;obtain⟨E,Y,Z⟩:=(cm d k).keep (T.trans y);have u:(d:Int)<(c.code.length:Int):=(by omega);have t:=fp d;clear q;have bs:=Ou (aq ao (aq ar (aq a0 (aq P (aq Q (aq R S))))));clear ao ar a0 P Q R S a2
   cases r:eU p c c.code[d]
   .go_wp2
    go_region_held3 (λh=>h.cell? ⟨e.heap.size,0,U⟩=M (O cg p.length ci)/\h.cell? ⟨e.heap.size+1,0,U⟩=M (J I c.slot)/\h.cell? ⟨e.heap.size+1,1,U⟩=M (O V c.args.length X)/\h.cell? ⟨e.heap.size+1,2,U⟩=M (J I c.ret)/\
      h.cell? ⟨e.heap.size+1,3,U⟩=M (J I c.locals)/\h.cell? ⟨e.heap.size+1,4,U⟩=M (J I c.stack)/\h.cell? ⟨e.heap.size+1,5,U⟩=M (O (M ⟨l,m,U⟩) c.code.length aa)/\h.cell? ⟨e.heap.size+1,6,U⟩=M (O ab c.frames.length ac)/\
      h.cell? ⟨l,m+d*3,U⟩=M (J I c.code[d].op)/\h.cell? ⟨l,m+d*3+1,U⟩=M (J I c.code[d].a)/\h.cell? ⟨l,m+d*3+2,U⟩=M (J I c.code[d].b))
     (first | go_keep | (exact⟨Oq g _ _ (by simpa using w),Oq g _ _ (by simpa using bc),Oq g _ _ (by simpa using be),Oq g _ _ (by simpa using bf),Oq g _ _ (by simpa using B),Oq g _ _ (by simpa using C),Oq g _ _ (by simpa using x),Oq g _ _ (by simpa using D),Oq g _ _ (by simpa using E),Oq g _ _ (by simpa using Y),Oq g _ _ (by simpa using Z)⟩))
     (first | ((go_at_call 149;refine(Ef p _ c V (M ⟨l,m,U⟩) ab c.args.length X aa c.frames.length ac c.code[d] _ (eA (Oq ((ay _ _).drew)) (eA (T.trans y) bz)) ce ba (by omega)).mono ?_);rintro G br ⟨rfl,g⟩))
    have s:Below e.heap.size e br:=(L.trans (j.mono an)).drew.trans (g.mono (by simpa using ap an N))
    go_wp2
    go_ret;exact⟨eC (by rw[ea o,rU k r];rfl),s⟩
   .go_wp2
    go_region_held3 (λh=>h.cell? ⟨e.heap.size,0,U⟩=M (O cg p.length ci)/\h.cell? ⟨e.heap.size+1,0,U⟩=M (J I c.slot)/\h.cell? ⟨e.heap.size+1,1,U⟩=M (O V c.args.length X)/\h.cell? ⟨e.heap.size+1,2,U⟩=M (J I c.ret)/\
      h.cell? ⟨e.heap.size+1,3,U⟩=M (J I c.locals)/\h.cell? ⟨e.heap.size+1,4,U⟩=M (J I c.stack)/\h.cell? ⟨e.heap.size+1,5,U⟩=M (O (M ⟨l,m,U⟩) c.code.length aa)/\h.cell? ⟨e.heap.size+1,6,U⟩=M (O ab c.frames.length ac)/\
      h.cell? ⟨l,m+d*3,U⟩=M (J I c.code[d].op)/\h.cell? ⟨l,m+d*3+1,U⟩=M (J I c.code[d].a)/\h.cell? ⟨l,m+d*3+2,U⟩=M (J I c.code[d].b))
     (first | go_keep | (exact⟨Oq g _ _ (by simpa using w),Oq g _ _ (by simpa using bc),Oq g _ _ (by simpa using be),Oq g _ _ (by simpa using bf),Oq g _ _ (by simpa using B),Oq g _ _ (by simpa using C),Oq g _ _ (by simpa using x),Oq g _ _ (by simpa using D),Oq g _ _ (by simpa using E),Oq g _ _ (by simpa using Y),Oq g _ _ (by simpa using Z)⟩))
     (first | ((go_at_call 149;refine(Ef p _ c V (M ⟨l,m,U⟩) ab c.args.length X aa c.frames.length ac c.code[d] _ (eA (Oq ((ay _ _).drew)) (eA (T.trans y) bz)) ce ba (by omega)).mono ?_);rintro G br ⟨rfl,g⟩))
    have ak:Below W.heap.size W br:=j.drew.trans (g.mono (by simpa using N))
    go_wp2
    exact⟨⟨d+1,by omega,by go_num,by rw[ea HS,r];rfl,ak⟩,by simp[intOf];omega⟩
  .have t:Hid (c.code.all (eU p c)=K):=by
    have:=ea a4
    rwa[aH (by omega)]at this
   go_wp2_with fail;clear w bc be bf B C x D;obtain⟨ck,rfl⟩:∃ck:World,ck=wr:=⟨_,rfl⟩
   go_loopw [7,8] (λg e h=>∃(d:Nat) (a1:Int),d<=c.frames.length/\e=J I d/\g=J I a1/\gK p.length c (-1) c.frames=gK p.length c a1 (c.frames.drop d)/\Below W.heap.size W h) (λ_ e _=>c.frames.length-(intOf e).toNat)
   case atStart=>exact ⟨0,-1,az _,rfl,rfl,rfl,j⟩
   case round=>
    clear k cA a4 y N j;obtain⟨A,a1,eP,rfl,rfl,ca,j⟩:=hrel;have q:=Ou ca;have i:=Oq j;have y:=Ou i;have N:=j.size;have w:=i _ _ a2;have B:=i _ _ P;have C:=i _ _ Q;have x:=i _ _ R;have D:=i _ _ S;clear ca i
    by_cases k:A<c.frames.length
    .obtain rfl:=cz (eW k);have u:=Ou (dg k);obtain⟨fs,ft,E,Y,Z,a5,a8⟩:=(cn A k).keep (T.trans y);have cf:=d0.2.2.2.2.2.2 _ (av k);have cb:=ap (AB (av k)) cc;have dp:c.frames[A].locals.length<=4194304:=(by unfold iB at cb;omega);have ds:c.frames[A].stack.length<=4194304:=(by unfold iB at cb;omega);have bs:=Ou a5;have cp:=Ou a8;obtain⟨d1,e2,e3,d2,rfl,_,_,_⟩:=eN a5;obtain⟨d3,fa,fc,d4,rfl,_,_,_⟩:=eN a8;have eR:=Oo E;have eS:=Oo x;have e0:=Oo w;clear a5 a8;generalize c.frames[A]=f at *;go_wp2_with fail;generalize H:wr.alloc _=W2;have b7:Below wr.heap.size wr W2:=(by rw[<-H];exact ev _ _);have e6:W2.cell? ⟨wr.heap.size,0,U⟩=M (J I f.pc):=(by rw[<-H];exact jM _ _ _ 0);have e7:W2.cell? ⟨wr.heap.size,1,U⟩=M (O d1 f.locals.length d2):=(by rw[<-H];exact jM _ _ _ 1);have e9:W2.cell? ⟨wr.heap.size,2,U⟩=M (O d3 f.stack.length d4):=(by rw[<-H];exact jM _ _ _ 2);clear H;have v:=Oq b7;have bI:=Ou v;have fn:=v _ _ w;have t3:=v _ _ B;have t4:=v _ _ C;have t5:=v _ _ x;have fo:=v _ _ D;have ak:Below W.heap.size W W2:=j.trans (b7.mono N);have s:Below e.heap.size e W2:=L.trans (ak.mono an);clear v w B C x D E Y Z a2 ao ar a0 P Q R S;refine(Ee rfl _ (fu bI bs) cf.2.1 dp).mono ?_;rintro G f0 ⟨rfl,rfl⟩;go_wp2_with fail;refine(Ee rfl _ (fu bI cp) cf.2.2 ds).mono ?_;rintro G f1 ⟨rfl,rfl⟩
     by_cases ep:f.pc<=a1
     .go_wp2;go_ret;exact⟨eC (by rw[ea o,ea t,ea q,ea u,tE (λc=>by omega)];rfl),s⟩
     by_cases er:(c.code.length:Int)<=f.pc
     .go_wp2;go_ret;exact⟨eC (by rw[ea o,ea t,ea q,ea u,tE (λc=>by omega)];rfl),s⟩
     by_cases r:(f.locals.length:Int)≠c.locals
     .have cs:((f.locals.length:Int) == c.locals)=F:=(by simpa using r);have a3:=Ou r;clear r;go_wp2;go_ret;exact⟨eC (by rw[ea o,ea t,ea q,ea u,tE (λc=>ea a3 c.2.2.1)];rfl),s⟩
     have r:=Classical.not_not.1 r;have cs:((f.locals.length:Int) == c.locals)=K:=(by simpa using r);have a3:=Ou r;clear r
     by_cases es:c.stack<(f.stack.length:Int)
     .go_wp2;go_ret;exact⟨eC (by rw[ea o,ea t,ea q,ea u,tE (λc=>by omega)];rfl),s⟩
     cases bM:f.locals.all (gT p.length)
     .go_wp2;go_ret;exact⟨eC (by rw[ea o,ea t,ea q,ea u,tE (λc=>bZ (bM.symm.trans c.2.2.2.2.1))];rfl),s⟩
     cases b5:f.stack.all (gT p.length)
     .go_wp2;go_ret;exact⟨eC (by rw[ea o,ea t,ea q,ea u,tE (λc=>bZ (b5.symm.trans c.2.2.2.2.2))];rfl),s⟩
     go_wp2_with fail;exact⟨⟨A+1,f.pc,by omega,by go_num,rfl,by rw[ea q,ea u,IP ⟨by omega,by omega,ea a3,by omega,bM,b5⟩],ak⟩,by simp[intOf];omega⟩
    .go_wp2
     go_ret;exact⟨eC (by rw[ea o,ea t,ea q,dF (by omega)];rfl),L.trans (j.mono an)⟩
end
end Go.Proofs.YtiiokkllmchohaaGreat
