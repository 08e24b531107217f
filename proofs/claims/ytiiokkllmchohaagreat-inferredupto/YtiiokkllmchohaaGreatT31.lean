/- The document's step: the state that is made, in memory. -/
import Derived.Test.YtiiokkllmchohaaGreatT30
set_option maxHeartbeats 4000000
set_option maxRecDepth 100000
namespace Go.Proofs.YtiiokkllmchohaaGreat
open Go.RowKit Go.Shelf
structure gW (w V:World)(B b:Nat)(vl:Value)(loc:List Int)(vs:Value)(stk:List Int):Prop where
 bel:Below w.heap.size w V
 box:ak V b 149 [.bool true,vl,vs]
 rl:V.ownsRow B 43 1 vl loc.length (loc.map (Value.int .i64))
 rs:V.ownsRow B 43 1 vs stk.length (stk.map (Value.int .i64))
 ne:∀g,vl.ownBlock=some g→vs.ownBlock≠some g
section
variable {w V : World} {B b : Nat} {vl vs : Value} {loc stk : List Int}
theorem gW.start (hb:Below w.heap.size w V):gW w (V.alloc (.cells #[.bool true,.slice none 0 0,.slice none 0 0] 149)) B V.heap.size (.slice none 0 0) [] (.slice none 0 0) []:=
 ⟨hb.alloc hb.size _,ak.new V _ _,World.ownsRow_nil _ _ _ _,World.ownsRow_nil _ _ _ _,fun g h=>by cases h⟩
theorem gW.Zk (i:gW w V B b vl loc vs stk):vC w V B b 1 [.bool true,vl,vs] vl loc:=⟨i.bel,i.box,rfl,i.rl⟩
theorem gW.growS (i:gW w V B b vl loc vs stk):vC w V B b 2 [.bool true,vl,vs] vs stk:=⟨i.bel,i.box,rfl,i.rs⟩
theorem gW.below {V':World}(i:gW w V B b vl loc vs stk)(h:Below V.heap.size V V'):gW w V' B b vl loc vs stk:=
 ⟨i.bel.trans (h.mono i.bel.size),i.box.below h i.box.lt,eP i.rl (ay.of_below h) (fun g hg e=>by have:=(i.rl.lt g hg).2;omega),eP i.rs (ay.of_below h) (fun g hg e=>by have:=(i.rs.lt g hg).2;omega),i.ne⟩
theorem gW.locals (i:gW w V B b (.slice none 0 0) [] (.slice none 0 0) [])(hB:w.heap.size≤B)(pK:B≤V.heap.size)(hb:w.heap.size≤b)(hbB:b<B)(xs:List Int)(hx:xs.length≤4194304)(sa:Option Addr)(sn sc:Nat)(hsn:sn=xs.length)(hnil:sa=none→sn=0∧sc=0)(hsrc:∀ad,sa=some ad→∀j u,(xs.map (Value.int .i64))[j]? =some u→V.cell? (ad.add j)=some u) :
  ∃a n cap w',(Builtin.append_ #[40,40] 40 #[.slice none 0 0,.slice sa sn sc]).run Tryz.prog V= .ok (.slice a n cap) w'∧
   w'.cell? ⟨b,1,none⟩=some (.slice none 0 0)∧w'.frozen? ⟨b,1,none⟩=false∧Below V.heap.size V w'∧gW w (w'.setCell ⟨b,1,none⟩ (.slice a n cap)) B b (.slice a n cap) xs (.slice none 0 0) []:=by
 obtain⟨a,n,cap,w',happ,c1,f1,hM,_,I⟩:=i.Zk.more hB pK hb hbB (by simp) xs hx sa sn sc hsn hnil hsrc;exact⟨a,n,cap,w',happ,c1,f1,hM.below (Nat.le_refl _) (fun k hk e=>by cases e),I.bel,I.box,by simpa using I.row,World.ownsRow_nil _ _ _ _,fun g _ h=>by cases h⟩
theorem gW.set (i:gW w V B b vl loc vs stk)(hB:w.heap.size≤B){g:Nat}(hg:vl.ownBlock=some g)(k:Nat)(x:Int):gW w (V.setCell ⟨g,k,none⟩ (.int .i64 x)) B b vl (loc.set k x) vs stk∧ay (fun j=>j=g) V (V.setCell ⟨g,k,none⟩ (.int .i64 x)):=by
 have hM:ay (fun j=>j=g) V (V.setCell ⟨g,k,none⟩ (.int .i64 x)):=(ay.refl (fun j=>j=g) V).setCell (p:=⟨g,k,none⟩) (fun _=>rfl) _;have hlt:=(i.rl.lt g hg).1;refine⟨⟨i.bel.trans (hM.below i.bel.size (fun j hj e=>by omega)),i.box.mods hM (fun e=>UN i.rl i.box (by rw [hg,e])),?_,eP i.rs hM (fun g' hg' e=>i.ne g hg (by rw [hg',e])),i.ne⟩,hM⟩;have:=abE i.rl hg k (.int .i64 x);rw [List.length_set,List.map_set];exact this
theorem gW.more (i:gW w V B b vl loc vs stk)(hB:w.heap.size≤B)(pK:B≤V.heap.size)(hb:w.heap.size≤b)(hbB:b<B)(hl:stk.length≤100)(xs:List Int)(hx:xs.length≤4194304)(sa:Option Addr)(sn sc:Nat)(hsn:sn=xs.length)(hnil:sa=none→sn=0∧sc=0)(hsrc:∀ad,sa=some ad→∀j u,(xs.map (Value.int .i64))[j]? =some u→V.cell? (ad.add j)=some u) :
  ∃a n cap w',(Builtin.append_ #[40,40] 40 #[vs,.slice sa sn sc]).run Tryz.prog V= .ok (.slice a n cap) w'∧
   w'.cell? ⟨b,2,none⟩=some vs∧w'.frozen? ⟨b,2,none⟩=false∧ay (fun j=>vs.ownBlock=some j) V w'∧gW w (w'.setCell ⟨b,2,none⟩ (.slice a n cap)) B b vl loc (.slice a n cap) (stk++xs):=by
 obtain⟨a,n,cap,w',happ,c1,f1,hM,hv,I⟩:=i.growS.more hB pK hb hbB hl xs hx sa sn sc hsn hnil hsrc;have hM2:ay (fun j=>j=b) w' (w'.setCell ⟨b,2,none⟩ (.slice a n cap)):=(ay.refl (fun j=>j=b) w').setCell (p:=⟨b,2,none⟩) (fun _=>rfl) _;have r1:=eP i.rl hM (fun g hg e=>i.ne g hg e);refine⟨a,n,cap,w',happ,c1,f1,hM,I.bel,I.box,eP r1 hM2 (fun g hg e=>by have:=(i.rl.lt g hg).1;omega),I.row,fun g hg h=>?_⟩
 rcases hv g h with h' | h'
 ·exact i.ne g hg h'
 ·have:=(i.rl.lt g hg).2;omega
theorem gW.one (i:gW w V B b vl loc vs stk)(hB:w.heap.size≤B)(pK:B≤V.heap.size)(hb:w.heap.size≤b)(hbB:b<B)(hl:stk.length≤100)(x:Int) :
  ∃a n cap w',(Builtin.append_ #[40,40] 40 #[vs,.slice (some ⟨V.heap.size,0,none⟩) 1 1]).run Tryz.prog (V.alloc (.cells #[.int .i64 x] 43))= .ok (.slice a n cap) w'∧
   w'.cell? ⟨b,2,none⟩=some vs∧w'.frozen? ⟨b,2,none⟩=false∧ay (fun j=>vs.ownBlock=some j) V w'∧gW w (w'.setCell ⟨b,2,none⟩ (.slice a n cap)) B b vl loc (.slice a n cap) (stk++ [x]):=by
 obtain⟨a,n,cap,w',happ,c1,f1,hM,hv,I⟩:=i.growS.one hB pK hb hbB hl x;have hM2:ay (fun j=>j=b) w' (w'.setCell ⟨b,2,none⟩ (.slice a n cap)):=(ay.refl (fun j=>j=b) w').setCell (p:=⟨b,2,none⟩) (fun _=>rfl) _;have r1:=eP i.rl hM (fun g hg e=>i.ne g hg e);refine⟨a,n,cap,w',happ,c1,f1,hM,I.bel,I.box,eP r1 hM2 (fun g hg e=>by have:=(i.rl.lt g hg).1;omega),I.row,fun g hg h=>?_⟩
 rcases hv g h with h' | h'
 ·exact i.ne g hg h'
 ·have:=(i.rl.lt g hg).2;omega
theorem gW.read (i:gW w V B b vl loc vs stk):Gx B V ⟨loc,stk⟩ vl vs:=
 ⟨rQ i.rl (fun g hg=>(i.rl.lt g hg).1),rQ i.rs (fun g hg=>(i.rs.lt g hg).1)⟩
end
end Go.Proofs.YtiiokkllmchohaaGreat
