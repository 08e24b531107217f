/- The pass, walked. -/
import Derived.Test.YtiiokkllmchohaaGreatT20
import Derived.Test.YtiiokkllmchohaaGreatT27
set_option maxHeartbeats 0
set_option maxRecDepth 99999
namespace Go.Proofs.YtiiokkllmchohaaGreat
open Go.Value renaming int->J,slice->O,pointer->zP,bool->zB
open Go.IntKind renaming i64->I
open Option renaming none->U,some->M
open Bool renaming true->K,false->F
open Go.Ending renaming returned->zR
open Go.Obj renaming cells->zC
open Go.RowKit Go.Shelf
section
attribute [local go_sem ↓] Go.wp_at_zero Go.wp_at_succ
attribute [local go_sem] eZ
attribute [local go_sem] Oper.semAt_some
def yv (w:World)(p:On)(c:Int)(m:eh)(bh ba:Nat)(vp:Value)(mc:Oj)(N:Nat)(a:Act)(V:World):Prop:=
 ∃(k:Nat) (h:Option ef) (ds:List Nat) (u0 u1 u2 u4 u8 u9 u10 u11 u12 u13 u14 u15 u16 u17 u20 u21 u22 u23 u24 u25 u26 u27 u28 u29 u30 u31 u32 u33 u34 u35 u36 u37 u38 u39 u40 u41 u42 u43 u44 u45 u46 u47 u48 u49 u50 u51 u52 u53 u54 u55 u56 u57:Value),N+k=m.code.length/\a= { tmps:= #[u0,u1,u2,zP (M ⟨w.heap.size,0,U⟩),u4,zP (M ⟨w.heap.size+1,0,U⟩),zP (M ⟨bh,0,U⟩),zP (M ⟨ba,0,U⟩),u8,u9,u10,u11,u12,u13,u14,u15,u16,u17,J I (m.code.length:Int),J I (k:Int),u20,u21,u22,u23,u24,u25,u26,u27,u28,u29,u30,u31,u32,u33,u34,u35,u36,u37,u38,u39,u40,u41,u42,u43,u44,u45,u46,u47,u48,u49,u50,u51,u52,u53,u54,u55,u56,u57],defers:=ds.map tK }/\iP p c m k=M h/\jK w V p m bh ba vp mc ds h
def yu (w:World)(p:On)(c:Int)(m:eh)(bh ba:Nat)(vp:Value)(mc:Oj)(k:Nat)(a:Act)(V:World):Prop:=
 ∃(h':Option ef) (ds':List Nat) (u0 u1 u2 u4 u8 u9 u10 u11 u12 u13 u14 u15 u16 u17 u20 u21 u22 u23 u24 u25 u26 u27 u28 u29 u30 u31 u32 u33 u34 u35 u36 u37 u38 u39 u40 u41 u42 u43 u44 u45 u46 u47 u48 u49 u50 u51 u52 u53 u54 u55 u56 u57:Value),a= { tmps:= #[u0,u1,u2,zP (M ⟨w.heap.size,0,U⟩),u4,zP (M ⟨w.heap.size+1,0,U⟩),zP (M ⟨bh,0,U⟩),zP (M ⟨ba,0,U⟩),u8,u9,u10,u11,u12,u13,u14,u15,u16,u17,J I (m.code.length:Int),J I (k:Int),u20,u21,u22,u23,u24,u25,u26,u27,u28,u29,u30,u31,u32,u33,u34,u35,u36,u37,u38,u39,u40,u41,u42,u43,u44,u45,u46,u47,u48,u49,u50,u51,u52,u53,u54,u55,u56,u57],defers:=ds'.map tK }/\iP p c m (k+1)=M h'/\jK w V p m bh ba vp mc ds' h'
def vV (w:World)(p:On)(c:Int)(m:eh)(bh ba:Nat)(vp:Value)(mc:Oj)(k:Nat)(ds:Ol)(h:Option ef)(a:Act)(V:World):Prop:=
 ∃(h':Option ef) (u0 u1 u2 u4 u9 u10 u11 u12 u13 u14 u15 u16 u17 u20 u21 u22 u23 u24 u25 u26 u27 u28 u29 u30 u31 u32 u33 u34 u35 u36 u37 u38 u39 u40 u41 u42 u43 u44 u45 u46 u47 u48 u49 u50 u51 u52 u53 u54 u55 u56 u57:Value),a= { tmps:= #[u0,u1,u2,zP (M ⟨w.heap.size,0,U⟩),u4,zP (M ⟨w.heap.size+1,0,U⟩),zP (M ⟨bh,0,U⟩),zP (M ⟨ba,0,U⟩),J I (k:Int),u9,u10,u11,u12,u13,u14,u15,u16,u17,J I (m.code.length:Int),J I (k:Int),u20,u21,u22,u23,u24,u25,u26,u27,u28,u29,u30,u31,u32,u33,u34,u35,u36,u37,u38,u39,u40,u41,u42,u43,u44,u45,u46,u47,u48,u49,u50,u51,u52,u53,u54,u55,u56,u57],defers:=ds.map tK }/\jK w V p m bh ba vp mc ds h'/\((h'=U/\iP p c m (k+1)=M U)\/(∃s,h'=M s/\stepS p m k h=kv p m k s))
theorem Ls(p hI l a hH hJ hK k)(fc:eQ k hI p)(h2:0<=l)(ii:l<(p.length:Int))(ft:fK k.cell? a hH hJ hK)(b8:Good p)(hW:mU p a)(h5:∀ia∈a.code,eU p a ia=K)(h0:a.code.length<=40)(ei:sR p a)(fa:a.frames.length<=40)(e4:a.args.length<=7)(h1:kT p.length a.stack (fH l a)):
  Calls Tryz.prog 55 #[.agg #[hI], .int I l,fB a hH hJ hK] k λd ih=>yx (iX p l a) k ih d:=by
 have f1:p.length<=4194304:=ap (fQ p) b8.sz;have ca:=Ou fc;have cb:=Ou ft;unfold fB;obtain⟨h8,f0,h9⟩:=ft;obtain⟨u,_,_,v,rfl,_⟩:=h8;obtain⟨V,X,ad,q,rfl,ft,h3,e9⟩:=eN f0;have hP:=Ou e9;clear e9 f0;obtain⟨y,_,_,z,rfl,_⟩:=h9;obtain⟨A,_,_,B,rfl,_⟩:=fc;have bz:=xg (c:=l) e4;have ep:=gS k (zC #[O A p.length B] 24) (zC #[ .int I a.slot,O u a.args.length v, .int I a.ret, .int I a.locals, .int I a.stack,O V a.code.length q,O y a.frames.length z] 63);have eK:ed ((k.alloc (zC #[O A p.length B] 24)).alloc (zC #[ .int I a.slot,O u a.args.length v, .int I a.ret, .int I a.locals, .int I a.stack,O V a.code.length q,O y a.frames.length z] 63)) k.heap.size 24 [O A p.length B]:=(Oz k _ _).alloc _
 have eP:ed ((k.alloc (zC #[O A p.length B] 24)).alloc (zC #[ .int I a.slot,O u a.args.length v, .int I a.ret, .int I a.locals, .int I a.stack,O V a.code.length q,O y a.frames.length z] 63)) (k.heap.size+1) 63 [ .int I a.slot,O u a.args.length v, .int I a.ret, .int I a.locals, .int I a.stack,O V a.code.length q,O y a.frames.length z]:=by
  have:=Oz (k.alloc (zC #[O A p.length B] 24)) #[ .int I a.slot,O u a.args.length v, .int I a.ret, .int I a.locals, .int I a.stack,O V a.code.length q,O y a.frames.length z] 63;rw[World.size_alloc]at this;exact this
 have eR:=Ou (Ot (Oq ep) cb);refine Bv Tryz.func55 rfl ?_;simp only[Tryz.ntmps55,dt,bA,cT,Nat.reduceAdd,Nat.reduceSub,dP,dQ,List.push_toArray,dU,bN,cB];refine lO ?_;go_wp2_with fail;refine lO ?_;go_wp2_with fail;refine(Nc l a _ _ _ _ h2 (by omega) eR e4).mono ?_;rintro d C ⟨rfl,ac⟩;have d4:=eK.bl ac;have b7:=eP.bl ac;have er:=eu ep ac;have fs:=er.size;clear eK eP ac ep eR;go_wp2_with (refine fJ gR ((Oz C _ _).alloc _) 0 _ (kR bz) (by simp) (oF bz).one (.tmp 6) (.tmp 15) rfl rfl rfl rfl ?_;intro bM D N bI;rw[fw (by rw[kR bz];rfl)]at D;have b6:ed bM (C.heap.size+1) 4 [zB F]:=(by have f:=Oz (C.alloc (zC (List.replicate 17 ( .int I 0)).toArray 130)) #[zB F] 4;rw[World.size_alloc]at f;exact f.mods N (by omega));have hY:=b6.c0;have hZ:=b6.frozen 0)
 have ao:Below C.heap.size C bM:=(gS C _ _).trans (N.below (by simp;omega) (λb a d=>by omega));have et:=b6.setCell 0 (zB K)
 have b9:Hid (jK k (bM.setCell ⟨C.heap.size+1,0,U⟩ (zB K)) p a C.heap.size (C.heap.size+1) (O A p.length B) [ .int I a.slot,O u a.args.length v, .int I a.ret, .int I a.locals, .int I a.stack,O V a.code.length q,O y a.frames.length z] [] (M (fH l a))):=
  ⟨(er.trans (ao.mono fs)).setCell (p:=⟨C.heap.size+1,0,U⟩) (by dsimp only;omega) _,(d4.bl ao).gP (by have:=d4.lt;dsimp only;omega) _,(b7.bl ao).gP (by have:=b7.lt;dsimp only;omega) _,
   ⟨_,kR bz,D.gP (by dsimp only;omega) _,λj d=>by obtain rfl:=aT d;exact⟨oF bz,h1⟩⟩,et,λ_ f=>(by cases f),λ_ f=>(by cases f),List.nodup_nil⟩
 generalize bM.setCell _ _=W at *;have eg:=b9.bm.c5;obtain⟨w,ck⟩:∃w,w=C.heap.size:=⟨_,rfl⟩;obtain⟨h,eo⟩:∃h,h=C.heap.size+1:=⟨_,rfl⟩;rw[<-eo,<-ck]at b9;rw[<-eo,<-ck];have cp:k.heap.size+1<w:=by rw[ck];exact b7.lt
 have ci:w<h:=by omega
 clear ao D N bI b6 et hY hZ d4 b7 er fs ck eo;refine lO ?_;go_wp2_with fail;refine yd ?_;refine N9 (yv k p l a w h (O A p.length B) [ .int I a.slot,O u a.args.length v, .int I a.ret, .int I a.locals, .int I a.stack,O V a.code.length q,O y a.frames.length z]) a.code.length ?start ?round
 case start=>unfold yv;exact⟨0,M (fH l a),[],_,_,_,_,_,_,_,_,_,_,_,_,_,_,_,_,_,_,_,_,_,_,_,_,_,_,_,_,_,_,_,_,_,_,_,_,_,_,_,_,_,_,_,_,_,_,_,_,_,_,_,_,by omega,rfl,rfl,ea b9⟩
 case round=>
  clear eg b9;intro hX e0 eS bo;obtain⟨b,f,Y,f6,f9,gq,hl,ib,hG,ga,gb,gc,gk,gl,gm,gn,gp,gs,gx,g0,g1,g2,g3,g4,g5,g6,g7,g8,g9,ha,hc,hf,hg,hh,hi,hj,hk,hm,hn,ho,hp,hq,hr,hu,hv,hw,hx,hy,hz,hA,hB,hC,hD,hE,hF,C,rfl,cm,bf⟩:=bo;have d6:=Ou bf;have a5:=Ou cm
  by_cases P:b<a.code.length
  .obtain rfl:=h3 (eW P);have h7:(b:Int)<(a.code.length:Int):=(by omega);have C:=fp b;have C:=Ou (eA (Oq bf.bel) ca);have hT:=Ou (Ot (Oq bf.bel) cb);clear cm bf;refine lO ?_;go_wp2_with fail;refine lO ?_;go_wp2_with fail;refine vP (J:=yu k p l a w h (O A p.length B) [ .int I a.slot,O u a.args.length v, .int I a.ret, .int I a.locals, .int I a.stack,O (M ⟨X,ad,U⟩) a.code.length q,O y a.frames.length z] b) ?ptail ?pblk
   case ptail=>
    intro e0 eS bo;obtain⟨e3,e,f6,f9,gq,hl,ib,hG,ga,gb,gc,gk,gl,gm,gn,gp,gs,gx,g0,g1,g2,g3,g4,g5,g6,g7,g8,g9,ha,hc,hf,hg,hh,hi,hj,hk,hm,hn,ho,hp,hq,hr,hu,hv,hw,hx,hy,hz,hA,hB,hC,hD,hE,hF,rfl,a0,g⟩:=bo;refine ph ?_;go_wp2_with fail;refine⟨hX-1,by omega,?_⟩;unfold yv;exact⟨b+1,e3,e,_,_,_,_,_,_,_,_,_,_,_,_,_,_,_,_,_,_,_,_,_,_,_,_,_,_,_,_,_,_,_,_,_,_,_,_,_,_,_,_,_,_,_,_,_,_,_,_,_,_,_,_,by omega,rfl,a0,g⟩
   case pblk=>
    refine yd ?_;refine Oa (J:=vV k p l a w h (O A p.length B) [ .int I a.slot,O u a.args.length v, .int I a.ret, .int I a.locals, .int I a.stack,O (M ⟨X,ad,U⟩) a.code.length q,O y a.frames.length z] b Y f) ?prest ?pfront
    case prest=>
     intro e0 eS bo;obtain⟨e3,f6,f9,gq,hl,hG,ga,gb,gc,gk,gl,gm,gn,gp,gs,gx,g0,g1,g2,g3,g4,g5,g6,g7,g8,g9,ha,hc,hf,hg,hh,hi,hj,hk,hm,hn,ho,hp,hq,hr,hu,hv,hw,hx,hy,hz,hA,hB,hC,hD,hE,hF,rfl,g,h4⟩:=bo;have T:=g.at_.c0;have E:=Ou g
     rcases h4 with ⟨rfl,a0⟩ | ⟨j,rfl,fo⟩
     .have e:=Ou a0;clear a0 g;dsimp only[Option.isSome]at T;refine lO ?_;go_wp2_with fail;unfold yu;exact⟨U,Y,_,_,_,_,_,_,_,_,_,_,_,_,_,_,_,_,_,_,_,_,_,_,_,_,_,_,_,_,_,_,_,_,_,_,_,_,_,_,_,_,_,_,_,_,_,_,_,_,_,_,_,_,rfl,ea e,ea E⟩
     .dsimp only [Option.isSome]at T;have d3:=g.bp.c0;have cu:=g.bm.c0;have cz:=g.bm.c1;have cA:=g.bm.c2;have dp:=g.bm.c3;have d0:=g.bm.c4;have d1:=g.bm.c5;have d2:=g.bm.c6;obtain⟨a8,br,ab,bk⟩:=g.hd;obtain⟨cf,cg⟩:=bk j rfl;have d9:=Ou (eA (Oq g.bel) ca);have hU:=Ou (Ot (Oq g.bel) cb);have G:=Ou fo;clear fo g bk;refine lO ?_;go_wp2_with fail;refine lO ?_;go_wp2_with (refine jv gR ab 0 a8 br (λa b d=>by simpa using d) (.tmp 6) rfl rfl rfl ?_)
      refine(Iu p _ a _ _ _ b j a8 _ d9 hU P h0 cf cg b8 hW h5).mono ?_;rintro d bM ⟨bc,be,ao⟩;have m:=E.below ao;clear cu cz cA dp d0 d1 d2 d3 T ab cf cg
      cases a1:iq p a b j with
      | none =>
       obtain rfl:=be a1;have t:Hid (iX p l a=F):=z9 P a5 (by rw[ea G];unfold kv;rw[a1];rfl);clear a1 bc be;go_wp2_with fail;exact Aa m.bel m.nd m.oS m.lo t
      | some o =>
       obtain⟨ba,rfl,ce,e7⟩:=bc o a1;have d5:Hid (stepS p a b f=if (gU (ey a b) b).all (λQ=> !Q.2 || jp p a o Q.1) then M (if gJ (ey a b) then M o else U) else U):=(by show _=_;rw[ea G];unfold kv;rw[a1];rfl);obtain⟨C,h6,cc,_⟩:=m.hd;have bs:=ce.len;clear a1 bc be G;go_wp2_with (refine fJ gR cc 0 ba bs (by omega) ce.one (.tmp 6) (.tmp 44) rfl rfl rfl rfl ?_;intro hL L R fn)
       rw[fw (by rw[bs,h6])]at L;have bh:=m.put cp ci R L bs U (λj d=>by cases d);have ak:=L.gP (p:=⟨h,0,U⟩) (by dsimp only;omega) (zB (U:Option ef).isSome);have e1:hL.cell? ⟨h,0,U⟩=M (zB K):=(m.at_.mods R (by omega)).cell 0;have e2:=(m.at_.mods R (by omega)).frozen 0;refine lO ?_;go_wp2_with fail;dsimp only[Option.isSome]at bh ak;generalize hL.setCell _ _=w4 at *;have eg:=bh.bm.c5;clear e1 e2 R L fn cc m;refine lO ?_;go_wp2_with fail;refine(CE _ _ _ _ _).mono ?_;rintro d a3 ⟨rfl,cn⟩;have en:Below w4.heap.size w4 a3:=(by rw[cn];exact gS _ _ _);have f3:a3.cell? ⟨w4.heap.size,0,U⟩=M (O (M ⟨X,ad,U⟩) a.code.length q):=(by rw[cn];exact wj _ _ _ _ 0);have f4:a3.cell? ⟨w4.heap.size+1,0,U⟩=M ( .int I (b:Int)):=(by rw[cn];exact wl _ _ _ _ 0);clear cn;have an:=bh.below en;have e5:=ak.bl en;have C:=bh.at_.lt;have C:=an.at_.lt;obtain⟨hM,hN,hO⟩:=hP b P;have cs:=Oq an.bel;have e6:ey a b=a.code[b]:=(by unfold ey;rw[ae P];rfl);have hS:=Ou (DN a.code[b] b a.code.length q X ad w4.heap.size (w4.heap.size+1) (λa=>a=h) a3 P (by omega) f3 f4 ⟨cs _ _ hM,cs _ _ hN,cs _ _ hO⟩ (by omega) (λa d=>by omega));rw[e6]at d5;generalize a.code[b]=Q at *;clear hM hN hO cs f3 f4 en bh ak e6 eg;go_wp2_with fail;refine yd ?_
       refine Fw Tryz.func55 (gf:=158) (lb:= #[zP (M ⟨w4.heap.size,0,U⟩),zP (M ⟨w4.heap.size+1,0,U⟩)]) rfl (enters_of Tryz.func158 (by kernel_rfl) rfl) hS rfl (λa d=>by omega)
        (λb5 t=>∃x,gU Q b=x++b5/\(∀e∈x,e.2=K->jp p a o e.1=K)/\jK k t p a w h (O A p.length B) [ .int I a.slot,O u a.args.length v, .int I a.ret, .int I a.locals, .int I a.stack,O (M ⟨X,ad,U⟩) a.code.length q,O y a.frames.length z] Y (if x.any (λe=> !e.2) then M o else U)/\ed t w 130 ba/\a3.heap.size<=t.heap.size)
        (λr t=>r=lJ 5/\(gU Q b).all (λe=> !e.2 || jp p a o e.1)=F/\∃ar,jK k t p a w h (O A p.length B) [ .int I a.slot,O u a.args.length v, .int I a.ret, .int I a.locals, .int I a.stack,O (M ⟨X,ad,U⟩) a.code.length q,O y a.frames.length z] Y ar) ?rown ⟨[],rfl,λ_ f=>(by cases f),an,e5,ai _⟩ ?ra1 ?rassign ?rbody ?rdone ?rpanic
       case rassign=>
        intro f2 e t i s;rw[CG];simp only[aG,bi,bq]
        gi_wp2
        exact s
       case rown=>
        rintro b5 t i ⟨x,bc,be,i,n,r⟩ e;have:=e5.lt;exact⟨x,bc,be,i.Kw an e,n.mods e (by omega),ap r e.size⟩
       case rbody=>
        rintro f2 e b5 t ⟨x,r,n,i,bn,ej⟩;have ec:=Ou i
        cases a2:e.2 with
        | true =>
         have d3:=i.bp.c0;have cu:=i.bm.c0;have cz:=i.bm.c1;have cA:=i.bm.c2;have dp:=i.bm.c3;have d0:=i.bm.c4;have d1:=i.bm.c5;have d2:=i.bm.c6;have hR:=Ou (eA (Oq i.bel) ca);have hV:=Ou (Ot (Oq i.bel) cb);have hQ:=Ou (aq r n);clear i r n
         gi_wp2_with (refine Oc gR bn 0 ba bs (λa b d=>by simpa using d) (.tmp 6) rfl rfl rfl ?_)
         refine⟨trivial,rfl,?_⟩;refine(CallsIn.inRound f2 (callsIn_wide.2 (Kx p _ a _ _ _ e.1 o ba _ hR b8.sup f1 hV ei fa ce _ e7))).mono ?_;rintro d es ⟨Z,aa,ar⟩;obtain⟨r,n⟩:=hQ
         cases s:jp p a o e.1 with
         | true =>
          obtain rfl:=Z s
          have a6:Hid (∃H,gU Q b=H++b5/\(∀b∈H,b.2=K->jp p a o b.1=K)/\jK k es p a w h (O A p.length B) [ .int I a.slot,O u a.args.length v, .int I a.ret, .int I a.locals, .int I a.stack,O (M ⟨X,ad,U⟩) a.code.length q,O y a.frames.length z] Y (if H.any (λe=> !e.2) then M o else U)/\ed es w 130 ba/\a3.heap.size<=es.heap.size):=⟨x++ [e],by rw[r];simp,λb a=>by
           rcases aN.1 a with f | f
           .exact n b f
           .obtain rfl:=aC.1 f;exact λ_=>s,by
           have d:(x++ [e]).any (λe=> !e.2)=x.any (λe=> !e.2):=(by simp[a2]);rw[d];exact ec.below ar,bn.bl ar,ap ej ar.size⟩
          have a4:=Ou (fX (S:=λa=>a=h) ar);clear s Z aa r n
          gi_wp2_with fail
          exact⟨ea a4,ea a6⟩
         | false =>
          obtain rfl:=aa s
          have a6:Hid ((gU Q b).all (λe=> !e.2 || jp p a o e.1)=F):=by
           show _=_
           rw[r,cx];exact⟨e,by simp,by simp[a2,s]⟩
          have H:=Ou (ec.below ar);have a4:=Ou (fX (S:=λa=>a=h) ar);clear s Z aa r n
          gi_wp2_with fail
          exact⟨rfl,ea a4,rfl,ea a6,_,ea H⟩
        | false =>
         have aa:=Ou (i.put cp ci (Ow _ _) bn bs (M o) (λj d=>by obtain rfl:=aT d;exact⟨ce,e7⟩));have s:∃a,t.cell? ⟨h,0,U⟩=M (zB a):=⟨_,i.at_.cell 0⟩;obtain⟨k,s⟩:=s;have k:=i.at_.frozen 0
         have a6:Hid (∃H,gU Q b=H++b5/\(∀b∈H,b.2=K->jp p a o b.1=K)/\H.any (λe=> !e.2)=K):=⟨x++ [e],by rw[r];simp,λb a=>by
          rcases aN.1 a with f | f
          .exact n b f
          .obtain rfl:=aC.1 f;exact λd=>(by rw[a2]at d;cases d),by simp[a2]⟩
         have Z:=Ou (bn.gP (p:=⟨h,0,U⟩) (by dsimp only;omega) (zB K));have a4:=Ou ((Ow (λa=>a=h) t).setCell (p:=⟨h,0,U⟩) (λ_=>rfl) (zB K));clear i r n ec
         gi_wp2_with fail
         obtain⟨H,k,q,s⟩:=a6;exact⟨ea a4,H,k,q,by rw[s];exact ea aa,ea Z,by simpa using ej⟩
       case rdone=>
        rintro H t Z ⟨x,r,n,i,bn,ej⟩ s;rw[bL]at r
        have aa:(gU Q b).all (λe=> !e.2 || jp p a o e.1)=K:=by
         rw[r,aJ];intro e a2
         cases ar:e.2 with
         | true => simp[n e a2 ar]
         | false => rfl
        have a0:iP p l a (b+1)=M (if x.any (λe=> !e.2) then M o else U):=by
         unfold iP;rw[ea a5,au,ea d5,aa,<-r,FU];rfl
        simp only[Exit.inBlock,Exit.then];unfold yu;exact⟨_,H::Y,_,_,_,_,_,_,_,_,_,_,_,_,_,_,_,_,_,_,_,_,_,_,_,_,_,_,_,_,_,_,_,_,_,_,_,_,_,_,_,_,_,_,_,_,_,_,_,_,_,_,_,_,rfl,a0,i.mark an s Z⟩
       case rpanic=>
        rintro H r t Z ⟨rfl,aa,ar,i⟩ s;have n:iX p l a=F:=z9 P a5 (by rw[ea d5,aa];rfl);have e:=i.mark an s Z;simp only[Exit.inBlock,Exit.then];exact Aa (ds:=H::Y) e.bel e.nd e.oS e.lo n
    case pfront=>
     have o:=ea d6;have d3:=o.bp.c0;have cu:=o.bm.c0;have cz:=o.bm.c1;have cA:=o.bm.c2;have dp:=o.bm.c3;have d0:=o.bm.c4;have d1:=o.bm.c5;have d2:=o.bm.c6;clear o;refine ph ?_;go_wp2_with fail;refine ph ?_;go_wp2_with fail;refine(DR p a _ _ _ b _ hT ei fa).mono ?_;rintro d a0 ⟨rfl,ac⟩;have r:=Ou (d6.below ac);clear cu cz cA dp d0 d1 d2 d3 ac;unfold sq
     cases x:jP a b with
     | none =>
      have H:stepS p a b f=(match (generalizing:=false) f with | some j=>kv p a b j | none=>M U):=by
       unfold stepS;rw[x]
       cases f <;> rfl
      have G:=Ou H;clear x H;dsimp only;go_wp2_with (refine fJ gR (Oz _ _ _) 0 mB rfl (by simp) AN (.tmp 9) (.tmp 26) rfl rfl rfl rfl ?_;intro a6 D N bI)
      have g:=r.below ((ev a0 _).trans (N.below (by simp) (λb a d=>by omega)));clear D N bI r;have T:=g.at_.c0;have E:=Ou g;clear g;refine ph ?_;go_wp2_with fail;refine ph ?_;go_wp2_with fail;unfold vV;refine⟨f,_,_,_,_,_,_,_,_,_,_,_,_,_,_,_,_,_,_,_,_,_,_,_,_,_,_,_,_,_,_,_,_,_,_,_,_,_,_,_,_,_,_,_,_,_,_,_,_,_,_,_,rfl,ea E,?_⟩
      cases f with
      | none => exact .inl ⟨rfl, by unfold iP; rw[ea a5]; exact ea G⟩
      | some j => exact .inr ⟨j, rfl, ea G⟩
     | some k =>
      obtain⟨e,a3,rfl⟩:=CI x;obtain⟨k,o,Q⟩:=ei e a3;have n:=xh k o;have i:=kR n;have ar:=(oF n).one
      have H:stepS p a b f=(match (generalizing:=false) f with | some j=>if gA p j (gW e) then kv p a b (gW e) else U | none=>kv p a b (gW e)):=by
       unfold stepS;rw[x]
       cases f <;> rfl
      have G:=Ou H;clear x H;dsimp only;go_wp2_with (refine fJ gR (Oz _ _ _) 0 _ i (by simp) ar (.tmp 9) (.tmp 26) rfl rfl rfl rfl ?_;intro a6 D N bI)
      rw[fw (by rw[i];rfl)]at D;have g:=r.below ((ev a0 _).trans (N.below (by simp) (λb a d=>by omega)));have k:h<a0.heap.size:=r.at_.lt;clear N bI r;obtain⟨a8,br,ab,bk⟩:=g.hd;have T:=g.at_.c0;have E:=Ou g
      cases f with
      | none =>
       dsimp only[Option.isSome]at T;clear g;refine ph ?_;go_wp2_with fail;refine ph ?_
       go_wp2_with (first
        | refine jv gR D 0 _ i (λa b d => by simpa using d) (.tmp 9) rfl rfl rfl ?_
        | (refine fJ gR ab 0 _ i (by omega) ar (.tmp 6) (.tmp 37) rfl rfl rfl rfl ?_; intro a1 L R fn; rw[fw (by rw[i, br])]at L; have e1 : a1.cell? ⟨h, 0, U⟩ = M (zB F) := (E.at_.mods R (by omega)).cell 0; have e2 := (E.at_.mods R (by omega)).frozen 0))
       unfold vV;exact⟨M (gW e),_,_,_,_,_,_,_,_,_,_,_,_,_,_,_,_,_,_,_,_,_,_,_,_,_,_,_,_,_,_,_,_,_,_,_,_,_,_,_,_,_,_,_,_,_,_,_,_,_,_,_,rfl,E.put cp ci R L i (M (gW e)) (λj d=>by obtain rfl:=aT d;exact⟨oF n,Q⟩),.inr ⟨_,rfl,ea G⟩⟩
      | some j =>
       dsimp only[Option.isSome]at T;obtain⟨cf,cg⟩:=bk j rfl;have a4:=g.bp.c0;have d9:=Ou (eA (Oq g.bel) ca);clear g bk;refine ph ?_
       go_wp2_with (first
        | refine jv gR ab 0 a8 br (λa b d => by simpa using d) (.tmp 6) rfl rfl rfl ?_
        | refine jv gR D 0 _ i (λa b d => by simpa using d) (.tmp 9) rfl rfl rfl ?_)
       refine(DH p _ j (gW e) a8 _ _ d9 b8.sup f1 cf (oF n) _ _ cg Q).mono ?_;rintro d a1 ⟨Z,aa,f⟩;have m:=E.below f;have L:=D.bl f;have cc:=ab.bl f;clear E ab D T a4
       cases s:gA p j (gW e) with
       | false =>
        obtain rfl:=aa s;have t:Hid (iX p l a=F):=z9 P a5 (by rw[ea G,s];rfl);clear s Z aa;go_wp2_with fail;exact Aa m.bel m.nd m.oS m.lo t
       | true =>
        obtain rfl:=Z s;have a2:Hid (stepS p a b (M j)=kv p a b (gW e)):=(by show _=_;rw[ea G,s];rfl);have t:=Ou m;clear s Z aa m;go_wp2_with fail;refine ph ?_
        go_wp2_with (first
         | refine jv gR L 0 _ i (λa b d => by simpa using d) (.tmp 9) rfl rfl rfl ?_
         | (refine fJ gR cc 0 _ i (by omega) ar (.tmp 6) (.tmp 37) rfl rfl rfl rfl ?_; intro ba ak an f; rw[fw (by rw[i, br])]at ak; have f : ba.cell? ⟨h, 0, U⟩ = M (zB K) := (t.at_.mods an (by omega)).cell 0; have f := (t.at_.mods an (by omega)).frozen 0))
        unfold vV;exact⟨M (gW e),_,_,_,_,_,_,_,_,_,_,_,_,_,_,_,_,_,_,_,_,_,_,_,_,_,_,_,_,_,_,_,_,_,_,_,_,_,_,_,_,_,_,_,_,_,_,_,_,_,_,_,rfl,t.put cp ci an ak i (M (gW e)) (λj d=>by obtain rfl:=aT d;exact⟨oF n,Q⟩),.inr ⟨_,rfl,ea a2⟩⟩
  .have h7:¬(b:Int)<(a.code.length:Int):=(by omega);obtain rfl:b=a.code.length:=by omega
   have n:iX p l a=K:=(by unfold iX;rw[cm];rfl);have t:=Ou n;clear n P cm bf;refine lO ?_;go_wp2_with fail;refine lO ?_;go_wp2_with fail;exact Lr d6 t rfl
end
section
attribute [local go_sem ↓] Go.wp_at_zero Go.wp_at_succ
attribute [local go_sem] eZ
def FA (b:Bool)(w w':World)(e:Ending):Prop:=e=zR (J I (if b then 0 else 5))/\Below w.heap.size w w'
def qw (p : List eb) (c : Nat) : Bool := (((p[c]?).map (·.ek)).getD []).all (iX p (c : Int))
def kN (p:On):Bool:=(List.range p.length).all (qw p)
theorem xp{p a}(b:a<p.length):qw p a=p[a].ek.all (iX p (a:Int)):=by
 unfold qw;rw[ae b];rfl
theorem Ln{p}:kN p=K↔∀a e c,gh p a e=M c->iX p a c=K:=by
 unfold kN;rw[aJ]
 constructor
 .intro f a e c b;unfold gh at b
  split at b
  .rename_i j
   cases hx:p[a.toNat]? with
   | none => rw[hx]at b; cases b
   | some k =>
    rw[hx,au]at b;have d:=(ag.1 hx).1;have g:=f a.toNat (bw.2 d);unfold qw at g;rw[hx]at g;have:=aJ.1 g c (aB b);rw[show ((a.toNat:Nat):Int)=a by omega]at this;exact this
  .cases b
 .intro f a h;have d:=bw.1 h;rw[xp d,aJ];intro c b;obtain⟨e,i,rfl⟩:=bT b;exact f a e _ (zV d i)
theorem D6(b a)(c:(List.range a).all b=K):(List.range (a+1)).all b=b a:=by
 rw[dl,bR,c];simp
theorem D5{f a b}(d:a<b)(c:f a=F):(List.range b).all f=F:=by
 rw[cx];exact⟨a,bw.2 d,by simp[c]⟩
theorem Lp(p X d)(E:eQ d X p)(C:fi p=0)(q:eM p<=4194304):
  Calls Tryz.prog 61 #[.agg #[X]] d λc bs=>un (kN p) d bs c:=by
 have aa:=oj C q;have:p.length<=4194304:=ap (fQ p) q;have ao:=Ou E;obtain⟨X,X,X,X,rfl,_,bh,X⟩:=eN E;have ar:=Ou X;go_in
 go_wp2_with fail;generalize E:d.alloc _=W;have L:=qQ E;have a8:=(bx1 E).c0
 go_loopw [9] (λc wr=>∃a:Nat,a<=p.length/\c=J I a/\(List.range a).all (qw p)=K/\Below W.heap.size W wr) (λc _=>p.length-(intOf c).toNat)
 case atStart=>exact ⟨0,az _,rfl,rfl,ay _ _⟩
 case round=>
  obtain⟨a,E,rfl,G,k⟩:=hrel;obtain⟨i,rfl⟩:∃i:World,i=wr:=⟨_,rfl⟩;have P:Below d.heap.size d i:=eu L k
  by_cases g:a<p.length
  .obtain rfl:=bh (eW g);obtain⟨E,E,a3,E,E,ba,bf⟩:=(ar a g).keep (Oq P);have bk:gV p[a]<=4194304:=ap (kE (av g)) q;have an:=Ou (λ(b:Nat) (S:b<p[a].ek.length)=>kZ C (zV g S));have ak:=Ou (λc:p[a].ek.all (iX p (a:Int))=F=>D5 (f:=qw p) g (by rw[xp g];exact c));have HS:=Ou (show p[a].ek.all (iX p (a:Int))=K->(List.range (a+1)).all (qw p)=K from λc=>by rw[D6 _ _ G,xp g];exact c);generalize p[a]=x at *;obtain⟨y,_,_,z,rfl,_⟩:=ba;obtain⟨U,g,g,V,rfl,g,be,g⟩:=eN bf;have ac:=Ou g;have:x.ek.length<=4194304:=ap (mO x) bk;have:=Oo a3;have a4:=Oq k _ _ a8;go_wp2_with fail;have N:=k.trans ((ev i (zC #[J I x.sup,O y x.fields.length z,O U x.ek.length V] 66)).mono k.size);have T:=kK i (zC #[J I x.sup,O y x.fields.length z,O U x.ek.length V] 66);generalize i.alloc _=Z at *;have ab:=Ou T;have a2:=T _ _ a4;have R:=eu L N
   go_loopw [17] (λc wr=>∃b:Nat,b<=x.ek.length/\c=J I b/\(x.ek.take b).all (iX p (a:Int))=K/\Below Z.heap.size Z wr) (λc _=>x.ek.length-(intOf c).toNat)
   case atStart=>exact ⟨0,az _,rfl,rfl,ay _ _⟩
   case round=>
    obtain⟨b,S,rfl,g,h⟩:=hrel;have s:=Ou g;have:Below d.heap.size d wr:=eu R h
    by_cases j:b<x.ek.length
    .obtain rfl:=be (eW j);obtain⟨d,d,d,n,bn,d,d,d,d,d,d⟩:=((ac b j).keep ab).keep (Oq h);obtain⟨bo,br,e⟩:=an b j;have ad:=Ou (λc:iX p (a:Int) x.ek[b]=F=>rU (f:=iX p (a:Int)) j c);have D:=mH (f:=iX p (a:Int)) j;rw[s.out]at D;have a0:=Ou D;generalize x.ek[b]=m at *;have a1:=Ou n;obtain⟨t,_,_,u,rfl,_⟩:=n.1;obtain⟨v,_,_,w,rfl,_⟩:=n.2.1;obtain⟨A,_,_,B,rfl,_⟩:=n.2.2;have:=Oo bn;have d:=Oq h _ _ a2;have:=Oo d;go_wp2_with fail;have M:=h.trans ((ev wr (zC #[J I m.slot,O t m.args.length u,J I m.ret,J I m.locals,J I m.stack,O v m.code.length w,O A m.frames.length B] 63)).mono h.size);have bc:=kK wr (zC #[J I m.slot,O t m.args.length u,J I m.ret,J I m.locals,J I m.stack,O v m.code.length w,O A m.frames.length B] 63);obtain⟨r,rfl⟩:∃r:World,r=wr:=⟨_,rfl⟩;generalize r.alloc _=Y at *;have g:=Ou (a1.keep bc);have Q:=eu R M;have d:=Ou (eA (Oq Q) ao);refine(Ls p _ (a:Int) m _ _ _ _ d bo br g aa e.ok e.ins e.c40 e.fr e.f40 e.a7 e.bg).mono ?_;rintro c d ⟨a5,a6,H⟩
     cases l:iX p (a:Int) m with
     | false =>
      obtain rfl:=a6 l;have o:=Ou (ak (ad l));go_wp2_with fail;exact⟨rfl,λc=>(by rw[show kN p=F from ea o]at c;cases c),λ_=>rfl,eu Q H⟩
     | true =>
      obtain rfl:=a5 l;have o:=Ou l;go_wp2_with fail;refine⟨⟨b+1,by omega,by go_num,by rw[ea a0,ea o];rfl,eu M H⟩,by simp[intOf];omega⟩
    .obtain rfl:b=x.ek.length:=by omega
     go_wp2_with fail;refine⟨⟨a+1,by omega,by go_num,ea HS (by rw[<-ea s,bG]),eu N h⟩,by simp[intOf];omega⟩
  .obtain rfl:a=p.length:=by omega
   have b:=Ou G;go_wp2;go_end0;exact⟨λ_=>rfl,λc=>(by rw[show kN p=K from ea b]at c;cases c),P⟩
end
end Go.Proofs.YtiiokkllmchohaaGreat
