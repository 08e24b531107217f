/- The law's hands look at what they kept. -/
import Derived.Test.YtiiokkllmchohaaGreatT20
import Derived.Test.YtiiokkllmchohaaGreatT21
import Derived.Test.YtiiokkllmchohaaGreatT42
set_option maxHeartbeats 0
set_option maxRecDepth 99999
namespace Go.Proofs.YtiiokkllmchohaaGreat
open Go.Value renaming int->J,slice->O,pointer->zP,bool->zB
open Go.IntKind renaming i64->I
open Option renaming none->U,some->M
open Bool renaming true->K,false->F
open Go.Ending renaming returned->zR
open Go.Obj renaming cells->zC
open Go.RowKit
section
attribute [local go_sem ↓] Go.wp_at_zero Go.wp_at_succ
theorem JB(a)(b:a<6)(c):(jS a c).length=iW a:=by
 match a,b with
 | 0, _ => rfl
 | 1, _ => rfl
 | 2, _ => rfl
 | 3, _ => rfl
 | 4, _ => rfl
 | 5, _ => rfl
theorem JC(a)(b:a<6):0<iW a:=by
 match a,b with
 | 0, _ => decide
 | 1, _ => decide
 | 2, _ => decide
 | 3, _ => decide
 | 4, _ => decide
 | 5, _ => decide
theorem DP{d:World}{i f e c j h}(l:d.ownsRow i f 1 (O e c j) c h){b}(p:b<c):∃a,e=M ⟨a,0,U⟩/\d.cell? ⟨a,b,U⟩=h[b]? :=by
 rcases l.2 with ⟨g,b⟩ | ⟨a,b,k,g,_,n,_,_,_,o⟩
 .omega
 .cases g
  refine⟨a,rfl,?_⟩;have m:ed d a f k.toList:=by unfold ed;simpa using n
  rw[m.cell,<-o,bj,am (by omega)]
structure FF (w:World)(bh K i L:Nat)(g gm cap capm:Nat)(a:Om)(len ec:Nat)(m:Int):Prop where
 r:w.cell? ⟨bh,7+2*K,U⟩=M (O (M ⟨g,0,U⟩) L cap)
 s:w.cell? ⟨bh,8+2*K,U⟩=M (O (M ⟨gm,0,U⟩) L capm)
 e:w.cell? ⟨g,i,U⟩=M (O a len ec)
 k:w.cell? ⟨gm,i,U⟩=M (J I m)
 le:len<=1048576
 lies:0<len->∃ge,a=M ⟨ge,0,U⟩/\∀q,q<len->∀r,r<iW K->w.cell? ⟨ge,q*iW K+r,U⟩=(jS K m)[r]?
theorem iK.look{s n y I b}(d:km s n y I b){K g}(j:K<6)(f:g<(b K).length):∃c h w x t E z F,FF s n K g (b K).length c h w x t E z F:=by
 obtain⟨n,J,l⟩:=d.row (7+2*K) (by omega) (by omega);obtain⟨n,G,k⟩:=d.row (8+2*K) (by omega) (by omega);have C:jl b (7+2*K)=(b K).map fZ.sl:=by unfold jl;rw[am (by omega),show (7+2*K-7) / 2=K by omega]
 have D:jl b (8+2*K)=(b K).map fZ.mv:=by unfold jl;rw[af (by omega),show (8+2*K-8) / 2=K by omega]
 rw[C,aZ]at l;rw[D,aZ]at k;obtain⟨n,L,rfl⟩:=fd l;obtain⟨n,H,rfl⟩:=fd k;obtain⟨c,rfl,p⟩:=DP l f;obtain⟨h,rfl,q⟩:=DP k f;have i:=d.ent K j (b K)[g] (av f);rw[aU,ae f]at p q;generalize (b K)[g]=e at *;refine⟨c,h,L,H,e.a.map λc=>⟨c,0,U⟩,e.len,e.cap,e.m,⟨by rw[d.hands.1.cell];exact J,by rw[d.hands.1.cell];exact G,p,q,i.2.1,λb=>?_⟩⟩
 cases o:e.a with
 | none => have := i.1 o; omega
 | some ge =>
  obtain⟨b,u,v⟩:=i.2.2 ge o;refine⟨ge,rfl,λb r c B=>?_⟩;have d:=JC K j
  have A:b*iW K+c<e.len*iW K:=by
   have:(b+1)*iW K<=e.len*iW K:=bP _ r;rw[cq]at this;omega
  rw[u.cell,<-In (JB K j e.m) r B,<-v,bj,am A]
theorem iK.rowAt{e b h j a}(c:km e b h j a){K}(n:K<6):∃f g,e.cell? ⟨b,7+2*K,U⟩=M (O f (a K).length g):=by
 obtain⟨b,d,k⟩:=c.row (7+2*K) (by omega) (by omega);obtain⟨l,m,rfl⟩:=fd k;have i:jl a (7+2*K)=(a K).map fZ.sl:=by unfold jl;rw[am (by omega),show (7+2*K-7) / 2=K by omega]
 rw[i,aZ]at d;exact⟨l,m,by rw[c.hands.1.cell];exact d⟩
theorem iK.below{w f a b d c e}(g:iK w a b d c e)(h:Below w.heap.size w f):iK f a b d c e:=g.mods (we h) (λa=>a) (λ_ _ _ a=>a) (λ_ _ _ _ _ _ a=>a)
theorem JN(u G a4 be g)(a2:km u G a4 be g)(aa:∀a3,a3<6->(g a3).length<=16777216):
  Calls Tryz.prog 47 #[zP (M ⟨G,0,U⟩)] u λbc f=>bc=zR (zB true)/\Below u.heap.size u f:=by
 have B:=Ou a2;clear a2;go_in
 go_wp2
 go_loopw [3,4] (λb a wr=>∃c:Nat,c<=(g 0).length/\a=J I c/\b=zB true/\Below u.heap.size u wr) (λ_ a _=>(g 0).length-(intOf a).toNat)
 case atStart=>exact ⟨0,az _,rfl,rfl,ay _ _⟩
 case round=>
  obtain⟨c,T,rfl,rfl,b⟩:=hrel;have ak:=aa 0 (by omega)
  by_cases q:c<(g 0).length
  .have r:(c:Int)<((g 0).length:Int):=(by omega);obtain⟨R,p,z,P,F,h,W,k,S⟩:=(B.below b).look (by omega) q;obtain⟨e,n,s,t,ao,o⟩:=S;simp only[iW,jS,Nat.reduceMul,Nat.reduceAdd]at e n o;have E:=Ou o;have C:=Ou b;clear o b;obtain⟨l,rfl⟩:∃l:World,l=wr:=⟨_,rfl⟩;generalize (g 0).length=L at *;go_wp2
   go_loopw [3,5] (λb c wr=>∃a:Nat,a<=h/\c=J I a/\b=zB true/\Below l.heap.size l wr) (λ_ c _=>h-(intOf c).toNat)
   case atStart=>exact ⟨0,az _,rfl,rfl,ay _ _⟩
   case round=>
    obtain⟨a,an,rfl,rfl,b⟩:=hrel;have d:=Oq b;have H:=d _ _ e;have x:=d _ _ n;have N:=d _ _ s;have y:=d _ _ t;have D:=Ou b
    by_cases m:a<h
    .as_aux_lemma=>
      have V:(a:Int)<(h:Int):=(by omega);obtain⟨i,rfl,j⟩:=E (by omega);have Q:wr.cell? ⟨i,a,U⟩=M (J I k):=d _ _ (by have:=j a m 0 (by omega);simpa using this);clear d j e n s t b;go_wp2
      go_region_held3 (λf=>f.cell? ⟨G,7,U⟩=M (O (M ⟨R,0,U⟩) L z)/\f.cell? ⟨G,8,U⟩=M (O (M ⟨p,0,U⟩) L P)/\f.cell? ⟨R,c,U⟩=M (O (M ⟨i,0,U⟩) h W)/\f.cell? ⟨p,c,U⟩=M (J I k)/\f.cell? ⟨i,a,U⟩=M (J I k))
       (first | (exact⟨H,x,N,y,Q⟩) | go_keep)
       (fail)
      go_wp2_with fail;exact⟨⟨a+1,by omega,by go_num,rfl,D.drew⟩,by simp[intOf];omega⟩
    .have V:¬(a:Int)<(h:Int):=(by omega);go_wp2_with fail;exact⟨⟨c+1,by omega,by go_num,rfl,eu C b⟩,by simp[intOf];omega⟩
  .have r:¬(c:Int)<((g 0).length:Int):=(by omega);obtain⟨F,z,e⟩:=(B.below b).rowAt (K:=0) (by omega);simp only[Nat.reduceMul,Nat.reduceAdd]at e;have v:=Ou b;go_wp2_with fail;clear e r q T;clear b
   go_loopw [3,6] (λb a wr=>∃c:Nat,c<=(g 5).length/\a=J I c/\b=zB true/\Below u.heap.size u wr) (λ_ a _=>(g 5).length-(intOf a).toNat)
   case atStart=>exact ⟨0,az _,rfl,rfl,ea v⟩
   case round=>
    obtain⟨c,T,rfl,rfl,b⟩:=hrel;clear v;have ak:=aa 5 (by omega)
    by_cases q:c<(g 5).length
    .have r:(c:Int)<((g 5).length:Int):=(by omega);obtain⟨R,p,z,P,F,h,W,k,S⟩:=(B.below b).look (by omega) q;obtain⟨e,n,s,t,ao,o⟩:=S;simp only[iW,jS,Nat.reduceMul,Nat.reduceAdd]at e n o;have E:=Ou o;have C:=Ou b;clear o b;obtain⟨l,rfl⟩:∃l:World,l=wr:=⟨_,rfl⟩;generalize (g 5).length=L at *;go_wp2
     go_loopw [3,7] (λb c wr=>∃a:Nat,a<=h/\c=J I a/\b=zB true/\Below l.heap.size l wr) (λ_ c _=>h-(intOf c).toNat)
     case atStart=>exact ⟨0,az _,rfl,rfl,ay _ _⟩
     case round=>
      obtain⟨a,an,rfl,rfl,b⟩:=hrel;have d:=Oq b;have H:=d _ _ e;have x:=d _ _ n;have N:=d _ _ s;have y:=d _ _ t;have D:=Ou b
      by_cases m:a<h
      .as_aux_lemma=>
        have V:(a:Int)<(h:Int):=(by omega);obtain⟨i,rfl,j⟩:=E (by omega);have Q:wr.cell? ⟨i,a,U⟩=M (J I k):=d _ _ (by have:=j a m 0 (by omega);simpa using this);clear d j e n s t b;go_wp2
        go_region_held3 (λf=>f.cell? ⟨G,17,U⟩=M (O (M ⟨R,0,U⟩) L z)/\f.cell? ⟨G,18,U⟩=M (O (M ⟨p,0,U⟩) L P)/\f.cell? ⟨R,c,U⟩=M (O (M ⟨i,0,U⟩) h W)/\f.cell? ⟨p,c,U⟩=M (J I k)/\f.cell? ⟨i,a,U⟩=M (J I k))
         (first | (exact⟨H,x,N,y,Q⟩) | go_keep)
         (fail)
        go_wp2_with fail;exact⟨⟨a+1,by omega,by go_num,rfl,D.drew⟩,by simp[intOf];omega⟩
      .have V:¬(a:Int)<(h:Int):=(by omega);go_wp2_with fail;exact⟨⟨c+1,by omega,by go_num,rfl,eu C b⟩,by simp[intOf];omega⟩
    .have r:¬(c:Int)<((g 5).length:Int):=(by omega);obtain⟨F,z,e⟩:=(B.below b).rowAt (K:=5) (by omega);simp only[Nat.reduceMul,Nat.reduceAdd]at e;have v:=Ou b;go_wp2_with fail;clear e r q T;clear b
     go_loopw [3,8] (λb a wr=>∃c:Nat,c<=(g 1).length/\a=J I c/\b=zB true/\Below u.heap.size u wr) (λ_ a _=>(g 1).length-(intOf a).toNat)
     case atStart=>exact ⟨0,az _,rfl,rfl,ea v⟩
     case round=>
      obtain⟨c,T,rfl,rfl,b⟩:=hrel;clear v;have ak:=aa 1 (by omega)
      by_cases q:c<(g 1).length
      .have r:(c:Int)<((g 1).length:Int):=(by omega);obtain⟨R,p,z,P,F,h,W,k,S⟩:=(B.below b).look (by omega) q;obtain⟨e,n,s,t,ao,o⟩:=S;simp only[iW,jS,Nat.reduceMul,Nat.reduceAdd]at e n o;have E:=Ou o;have C:=Ou b;clear o b;obtain⟨l,rfl⟩:∃l:World,l=wr:=⟨_,rfl⟩;generalize (g 1).length=L at *;go_wp2
       go_loopw [3,9] (λb c wr=>∃a:Nat,a<=h/\c=J I a/\b=zB true/\Below l.heap.size l wr) (λ_ c _=>h-(intOf c).toNat)
       case atStart=>exact ⟨0,az _,rfl,rfl,ay _ _⟩
       case round=>
        obtain⟨a,an,rfl,rfl,b⟩:=hrel;have d:=Oq b;have H:=d _ _ e;have x:=d _ _ n;have N:=d _ _ s;have y:=d _ _ t;have D:=Ou b
        by_cases m:a<h
        .as_aux_lemma=>
          have V:(a:Int)<(h:Int):=(by omega);obtain⟨i,rfl,j⟩:=E (by omega);have Q:wr.cell? ⟨i,a*3,U⟩=M (J I k):=d _ _ (by have:=j a m 0 (by omega);simpa using this);have X:wr.cell? ⟨i,a*3+1,U⟩=M (J I 0):=d _ _ (by have:=j a m 1 (by omega);simpa using this);have Z:wr.cell? ⟨i,a*3+2,U⟩=M (J I 0):=d _ _ (by have:=j a m 2 (by omega);simpa using this);clear d j e n s t b;go_wp2
          go_region_held3 (λf=>f.cell? ⟨G,9,U⟩=M (O (M ⟨R,0,U⟩) L z)/\f.cell? ⟨G,10,U⟩=M (O (M ⟨p,0,U⟩) L P)/\f.cell? ⟨R,c,U⟩=M (O (M ⟨i,0,U⟩) h W)/\f.cell? ⟨p,c,U⟩=M (J I k)/\f.cell? ⟨i,a*3,U⟩=M (J I k)/\f.cell? ⟨i,a*3+1,U⟩=M (J I 0)/\f.cell? ⟨i,a*3+2,U⟩=M (J I 0))
           (first | (exact⟨H,x,N,y,Q,X,Z⟩) | go_keep)
           (fail)
          go_wp2_with fail;exact⟨⟨a+1,by omega,by go_num,rfl,D.drew⟩,by simp[intOf];omega⟩
        .have V:¬(a:Int)<(h:Int):=(by omega);go_wp2_with fail;exact⟨⟨c+1,by omega,by go_num,rfl,eu C b⟩,by simp[intOf];omega⟩
      .have r:¬(c:Int)<((g 1).length:Int):=(by omega);obtain⟨F,z,e⟩:=(B.below b).rowAt (K:=1) (by omega);simp only[Nat.reduceMul,Nat.reduceAdd]at e;have v:=Ou b;go_wp2_with fail;clear e r q T;clear b
       go_loopw [3,10] (λb a wr=>∃c:Nat,c<=(g 2).length/\a=J I c/\b=zB true/\Below u.heap.size u wr) (λ_ a _=>(g 2).length-(intOf a).toNat)
       case atStart=>exact ⟨0,az _,rfl,rfl,ea v⟩
       case round=>
        obtain⟨c,T,rfl,rfl,b⟩:=hrel;clear v;have ak:=aa 2 (by omega)
        by_cases q:c<(g 2).length
        .have r:(c:Int)<((g 2).length:Int):=(by omega);obtain⟨R,p,z,P,F,h,W,k,S⟩:=(B.below b).look (by omega) q;obtain⟨e,n,s,t,ao,o⟩:=S;simp only[iW,jS,Nat.reduceMul,Nat.reduceAdd]at e n o;have E:=Ou o;have C:=Ou b;clear o b;obtain⟨l,rfl⟩:∃l:World,l=wr:=⟨_,rfl⟩;generalize (g 2).length=L at *;go_wp2
         go_loopw [3,11] (λb c wr=>∃a:Nat,a<=h/\c=J I a/\b=zB true/\Below l.heap.size l wr) (λ_ c _=>h-(intOf c).toNat)
         case atStart=>exact ⟨0,az _,rfl,rfl,ay _ _⟩
         case round=>
          obtain⟨a,an,rfl,rfl,b⟩:=hrel;have d:=Oq b;have H:=d _ _ e;have x:=d _ _ n;have N:=d _ _ s;have y:=d _ _ t;have D:=Ou b
          by_cases m:a<h
          .as_aux_lemma=>
            have V:(a:Int)<(h:Int):=(by omega);obtain⟨i,rfl,j⟩:=E (by omega);have Q:wr.cell? ⟨i,a*3,U⟩=M (J I k):=d _ _ (by have:=j a m 0 (by omega);simpa using this);have X:wr.cell? ⟨i,a*3+1,U⟩=M (O U 0 0):=d _ _ (by have:=j a m 1 (by omega);simpa using this);have Z:wr.cell? ⟨i,a*3+2,U⟩=M (O U 0 0):=d _ _ (by have:=j a m 2 (by omega);simpa using this);clear d j e n s t b;go_wp2_with fail;have w:=Oz wr #[J I k,O U 0 0,O U 0 0] 42;have A:Below wr.heap.size wr (wr.alloc (zC #[J I k,O U 0 0,O U 0 0] 42)):=ev _ _;generalize wr.alloc _=Y at *;have ac:=w.c0;have ad:=w.c1;have a1:=w.c2;have ar:=tQ x A;have a0:=tQ y A;clear H x N y Q X Z w;have ab:=Ou A;clear A
            go_region_held3 (λf=>f.cell? ⟨G,12,U⟩=M (O (M ⟨p,0,U⟩) L P)/\f.cell? ⟨p,c,U⟩=M (J I k)/\f.cell? ⟨wr.heap.size,0,U⟩=M (J I k)/\f.cell? ⟨wr.heap.size,1,U⟩=M (O U 0 0)/\f.cell? ⟨wr.heap.size,2,U⟩=M (O U 0 0))
             (first | (exact⟨ar,a0,ac,ad,a1⟩) | go_keep)
             (fail)
            go_wp2_with fail;exact⟨⟨a+1,by omega,by go_num,rfl,(eu D ab).drew⟩,by simp[intOf];omega⟩
          .have V:¬(a:Int)<(h:Int):=(by omega);go_wp2_with fail;exact⟨⟨c+1,by omega,by go_num,rfl,eu C b⟩,by simp[intOf];omega⟩
        .have r:¬(c:Int)<((g 2).length:Int):=(by omega);obtain⟨F,z,e⟩:=(B.below b).rowAt (K:=2) (by omega);simp only[Nat.reduceMul,Nat.reduceAdd]at e;have v:=Ou b;go_wp2_with fail;clear e r q T;clear b
         go_loopw [3,13] (λb a wr=>∃c:Nat,c<=(g 3).length/\a=J I c/\b=zB true/\Below u.heap.size u wr) (λ_ a _=>(g 3).length-(intOf a).toNat)
         case atStart=>exact ⟨0,az _,rfl,rfl,ea v⟩
         case round=>
          obtain⟨c,T,rfl,rfl,b⟩:=hrel;clear v;have ak:=aa 3 (by omega)
          by_cases q:c<(g 3).length
          .have r:(c:Int)<((g 3).length:Int):=(by omega);obtain⟨R,p,z,P,F,h,W,k,S⟩:=(B.below b).look (by omega) q;obtain⟨e,n,s,t,ao,o⟩:=S;simp only[iW,jS,Nat.reduceMul,Nat.reduceAdd]at e n o;have E:=Ou o;have C:=Ou b;clear o b;obtain⟨l,rfl⟩:∃l:World,l=wr:=⟨_,rfl⟩;generalize (g 3).length=L at *;go_wp2
           go_loopw [3,14] (λb c wr=>∃a:Nat,a<=h/\c=J I a/\b=zB true/\Below l.heap.size l wr) (λ_ c _=>h-(intOf c).toNat)
           case atStart=>exact ⟨0,az _,rfl,rfl,ay _ _⟩
           case round=>
            obtain⟨a,an,rfl,rfl,b⟩:=hrel;have d:=Oq b;have H:=d _ _ e;have x:=d _ _ n;have N:=d _ _ s;have y:=d _ _ t;have D:=Ou b
            by_cases m:a<h
            .as_aux_lemma=>
              have V:(a:Int)<(h:Int):=(by omega);obtain⟨i,rfl,j⟩:=E (by omega);have Q:wr.cell? ⟨i,a*7,U⟩=M (J I k):=d _ _ (by have:=j a m 0 (by omega);simpa using this);have X:wr.cell? ⟨i,a*7+1,U⟩=M (O U 0 0):=d _ _ (by have:=j a m 1 (by omega);simpa using this);have Z:wr.cell? ⟨i,a*7+2,U⟩=M (J I 0):=d _ _ (by have:=j a m 2 (by omega);simpa using this);have a5:wr.cell? ⟨i,a*7+3,U⟩=M (J I 0):=d _ _ (by have:=j a m 3 (by omega);simpa using this);have a6:wr.cell? ⟨i,a*7+4,U⟩=M (J I 0):=d _ _ (by have:=j a m 4 (by omega);simpa using this);have a8:wr.cell? ⟨i,a*7+5,U⟩=M (O U 0 0):=d _ _ (by have:=j a m 5 (by omega);simpa using this);have ba:wr.cell? ⟨i,a*7+6,U⟩=M (O U 0 0):=d _ _ (by have:=j a m 6 (by omega);simpa using this);clear d j e n s t b;go_wp2_with fail;have w:=Oz wr #[J I k,O U 0 0,J I 0,J I 0,J I 0,O U 0 0,O U 0 0] 63;have A:Below wr.heap.size wr (wr.alloc (zC #[J I k,O U 0 0,J I 0,J I 0,J I 0,O U 0 0,O U 0 0] 63)):=ev _ _;generalize wr.alloc _=Y at *;have ac:=w.c0;have ad:=w.c1;have a1:=w.c5;have ar:=tQ x A;have a0:=tQ y A;clear H x N y Q X Z a5 a6 a8 ba w;have ab:=Ou A;clear A
              go_region_held3 (λf=>f.cell? ⟨G,14,U⟩=M (O (M ⟨p,0,U⟩) L P)/\f.cell? ⟨p,c,U⟩=M (J I k)/\f.cell? ⟨wr.heap.size,0,U⟩=M (J I k)/\f.cell? ⟨wr.heap.size,1,U⟩=M (O U 0 0)/\f.cell? ⟨wr.heap.size,5,U⟩=M (O U 0 0))
               (first | (exact⟨ar,a0,ac,ad,a1⟩) | go_keep)
               (fail)
              go_wp2_with fail;exact⟨⟨a+1,by omega,by go_num,rfl,(eu D ab).drew⟩,by simp[intOf];omega⟩
            .have V:¬(a:Int)<(h:Int):=(by omega);go_wp2_with fail;exact⟨⟨c+1,by omega,by go_num,rfl,eu C b⟩,by simp[intOf];omega⟩
          .have r:¬(c:Int)<((g 3).length:Int):=(by omega);obtain⟨F,z,e⟩:=(B.below b).rowAt (K:=3) (by omega);simp only[Nat.reduceMul,Nat.reduceAdd]at e;have v:=Ou b;go_wp2_with fail;clear e r q T;clear b
           go_loopw [3,16] (λb a wr=>∃c:Nat,c<=(g 4).length/\a=J I c/\b=zB true/\Below u.heap.size u wr) (λ_ a _=>(g 4).length-(intOf a).toNat)
           case atStart=>exact ⟨0,az _,rfl,rfl,ea v⟩
           case round=>
            obtain⟨c,T,rfl,rfl,b⟩:=hrel;clear v;have ak:=aa 4 (by omega)
            by_cases q:c<(g 4).length
            .have r:(c:Int)<((g 4).length:Int):=(by omega);obtain⟨R,p,z,P,F,h,W,k,S⟩:=(B.below b).look (by omega) q;obtain⟨e,n,s,t,ao,o⟩:=S;simp only[iW,jS,Nat.reduceMul,Nat.reduceAdd]at e n o;have E:=Ou o;have C:=Ou b;clear o b;obtain⟨l,rfl⟩:∃l:World,l=wr:=⟨_,rfl⟩;generalize (g 4).length=L at *;go_wp2
             go_loopw [3,17] (λb c wr=>∃a:Nat,a<=h/\c=J I a/\b=zB true/\Below l.heap.size l wr) (λ_ c _=>h-(intOf c).toNat)
             case atStart=>exact ⟨0,az _,rfl,rfl,ay _ _⟩
             case round=>
              obtain⟨a,an,rfl,rfl,b⟩:=hrel;have d:=Oq b;have H:=d _ _ e;have x:=d _ _ n;have N:=d _ _ s;have y:=d _ _ t;have D:=Ou b
              by_cases m:a<h
              .as_aux_lemma=>
                have V:(a:Int)<(h:Int):=(by omega);obtain⟨i,rfl,j⟩:=E (by omega);have Q:wr.cell? ⟨i,a*3,U⟩=M (J I k):=d _ _ (by have:=j a m 0 (by omega);simpa using this);have X:wr.cell? ⟨i,a*3+1,U⟩=M (O U 0 0):=d _ _ (by have:=j a m 1 (by omega);simpa using this);have Z:wr.cell? ⟨i,a*3+2,U⟩=M (O U 0 0):=d _ _ (by have:=j a m 2 (by omega);simpa using this);clear d j e n s t b;go_wp2_with fail;have w:=Oz wr #[J I k,O U 0 0,O U 0 0] 66;have A:Below wr.heap.size wr (wr.alloc (zC #[J I k,O U 0 0,O U 0 0] 66)):=ev _ _;generalize wr.alloc _=Y at *;have ac:=w.c0;have ad:=w.c1;have a1:=w.c2;have ar:=tQ x A;have a0:=tQ y A;clear H x N y Q X Z w;have ab:=Ou A;clear A
                go_region_held3 (λf=>f.cell? ⟨G,16,U⟩=M (O (M ⟨p,0,U⟩) L P)/\f.cell? ⟨p,c,U⟩=M (J I k)/\f.cell? ⟨wr.heap.size,0,U⟩=M (J I k)/\f.cell? ⟨wr.heap.size,1,U⟩=M (O U 0 0)/\f.cell? ⟨wr.heap.size,2,U⟩=M (O U 0 0))
                 (first | (exact⟨ar,a0,ac,ad,a1⟩) | go_keep)
                 (fail)
                go_wp2_with fail;exact⟨⟨a+1,by omega,by go_num,rfl,(eu D ab).drew⟩,by simp[intOf];omega⟩
              .have V:¬(a:Int)<(h:Int):=(by omega);go_wp2_with fail;exact⟨⟨c+1,by omega,by go_num,rfl,eu C b⟩,by simp[intOf];omega⟩
            .have r:¬(c:Int)<((g 4).length:Int):=(by omega);obtain⟨F,z,e⟩:=(B.below b).rowAt (K:=4) (by omega);simp only[Nat.reduceMul,Nat.reduceAdd]at e;have v:=Ou b;go_wp2_with fail;clear e r q T;go_ret;exact⟨rfl,b⟩
structure AX (w w':World)(bh:Nat)(cs cs':Oj)(n n':Nat)(es es':Nat->List fZ):Prop where
 inv:km w' bh cs' n' es'
 nle:n'<=n+20001
 cnt:∀j,j<6->(es' j).length<=(es j).length+80004
 mods:ee (λk=>k=bh\/∃f,OK cs f k) w w'
 rows:∀f k,OK cs' f k->OK cs f k\/w.heap.size<=k
abbrev qk:List Value:= [O U 0 0,O U 0 0,O U 0 0,O U 0 0,O U 0 0,O U 0 0,J I 0,O U 0 0,O U 0 0,O U 0 0,O U 0 0,O U 0 0,O U 0 0,O U 0 0,O U 0 0,O U 0 0,O U 0 0,O U 0 0,O U 0 0]
theorem CX(a)(c:7<=a)(b:a<19):qk[a]? =M (O U 0 0):=by
 match a,c,b with
 | 7, _, _ | 8, _, _ | 9, _, _ | 10, _, _ | 11, _, _ | 12, _, _ | 13, _, _ | 14, _, _ | 15, _, _ | 16, _, _ | 17, _, _ | 18, _, _ => rfl
 | n + 19, _, h => omega
theorem CW(a)(b:a<6):qk[a]? =M (O U 0 0):=by
 match a,b with
 | 0, _ | 1, _ | 2, _ | 3, _ | 4, _ | 5, _ => rfl
theorem Jb(c f):¬OK qk c f:=by
 rintro ⟨f,b,d⟩;have e:c<19:=(ag.1 b).1
 rcases bt c 6 with a | a
 .rw [CW c a]at b;cases b;cases d
 .rcases Nat.eq_or_lt_of_le a with a | a
  .subst a;cases b;cases d
  .rw [CX c a e]at b;cases b;cases d
theorem Ja (a:World):km (a.alloc (zC qk.toArray 53)) a.heap.size qk 0 (λ_=> []):=
 ⟨⟨Oz a qk.toArray 53,rfl⟩,CW,rfl,λa f e=>⟨O U 0 0,CX a f e,by
   have:jl (λ_=> []) a= []:=by unfold jl;split <;> rfl
   rw[this];exact World.ownsRow_nil _ _ _ _⟩,λa i h d=>absurd d (Jb a h),λg _ c b=>(by cases b),λg _ c b=>(by cases b)⟩
end
end Go.Proofs.YtiiokkllmchohaaGreat
