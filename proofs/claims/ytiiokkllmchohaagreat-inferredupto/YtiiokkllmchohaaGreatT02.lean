/- What the law's hands hold while lists are lent. -/
import Derived.Test.YtiiokkllmchohaaGreatT01
set_option maxHeartbeats 4000000
set_option maxRecDepth 100000
namespace Go.Proofs.YtiiokkllmchohaaGreat
open Go.RowKit
structure jS (w:World)(B:Nat)(eo ei:TypeId)(sz:Nat)(nN:List Value)(v:Value)(es:List (Nat×Nat)):Prop where
 row:w.ownsRow B eo 1 v es.length (es.map rW)
 ent:∀e∈es,B≤e.1∧1≤e.2∧e.2≤1048577∧∃cs:List Value,ak w e.1 ei cs∧cs.length=e.2*sz∧cs.drop ((e.2-1)*sz)=nN
 nodup:(es.map Prod.fst).Nodup

theorem jS.nil (w:World)(B:Nat)(eo ei:TypeId)(sz:Nat)(nN:List Value):jS w B eo ei sz nN (.slice none 0 0) []:=
 ⟨World.ownsRow_nil w B eo 1,fun _ h=>absurd h List.not_mem_nil,List.nodup_nil⟩
theorem jS.mods {w w':World}{B:Nat}{eo ei:TypeId}{sz:Nat}{nN:List Value}{v:Value}{es:List (Nat×Nat)}{S:Nat→Prop}(h:jS w B eo ei sz nN v es)(m:ay S w w')
  (hr:∀k cs,ak w k eo cs→¬S k) (he:∀k cs,ak w k ei cs→¬S k):jS w' B eo ei sz nN v es:=by
 refine⟨eP h.row m (fun g hg=>?_),fun e hm=>?_,h.nodup⟩
 ·obtain⟨cur,hb⟩:=lD h.row hg;exact hr g cur hb
 ·obtain⟨h1,h2,h3,cs,h4,h5⟩:=h.ent e hm;exact⟨h1,h2,h3,cs,h4.mods m (he _ _ h4),h5⟩
theorem jS.OU {w w':World}{B:Nat}{eo ei:TypeId}{sz:Nat}{nN:List Value}{v:Value}{es:List (Nat×Nat)}{S:Nat→Prop}(h:jS w B eo ei sz nN v es)(m:ay S w w')
  (hr:∀k cs,ak w k eo cs→¬S k) (he:∀e∈es,¬S e.1):jS w' B eo ei sz nN v es:=by
 refine⟨eP h.row m (fun g hg=>?_),fun e hm=>?_,h.nodup⟩
 ·obtain⟨cur,hb⟩:=lD h.row hg;exact hr g cur hb
 ·obtain⟨h1,h2,h3,cs,h4,h5⟩:=h.ent e hm;exact⟨h1,h2,h3,cs,h4.mods m (he e hm),h5⟩
theorem jS.push {w w':World}{B:Nat}{eo ei:TypeId}{sz:Nat}{nN:List Value}{v v':Value}{es:List (Nat×Nat)}{S:Nat→Prop}(h:jS w B eo ei sz nN v es)(m:ay S w w')
  (he:∀k cs,ak w k ei cs→¬S k) {g n:Nat} (hB:B≤w.heap.size) (hg:w.heap.size≤g) (hn:1≤n) (hn':n≤1048577) {cs:List Value} (hb:ak w' g ei cs) (hl:cs.length=n*sz) (hd:cs.drop ((n-1)*sz)=nN)
  (hrow:w'.ownsRow B eo 1 v' (es.length+1) ((es++ [(g,n)]).map rW)):jS w' B eo ei sz nN v' (es++ [(g,n)]):=by
 refine⟨by rw [List.length_append];exact hrow,fun e hm=>?_,?_⟩
 ·rcases List.mem_append.1 hm with hm | hm
  ·obtain⟨h1,h2,h3,cs',h4,h5⟩:=h.ent e hm;exact⟨h1,h2,h3,cs',h4.mods m (he _ _ h4),h5⟩
  ·rw [List.mem_singleton] at hm;subst hm;exact⟨by show B≤g;omega,hn,hn',cs,hb,hl,hd⟩
 ·rw [List.map_append,List.nodup_append];refine⟨h.nodup,by simp,fun a ha b hb'=>?_⟩;obtain⟨e,hm,rfl⟩:=List.mem_map.1 ha;have:b=g:=by simpa using hb'
  subst this;obtain⟨_,_,_,cs',h4,_⟩:=h.ent e hm;have:=h4.lt;omega

abbrev lastT:List Value:= [.int .i64 (-77000000)]
abbrev DF:List Value:= [.int .i64 (-77000000),.int .i64 0,.int .i64 0]
abbrev ahH:List Value:= [.int .i64 (-77000000),.slice none 0 0,.slice none 0 0]
abbrev ahI:List Value:= [.int .i64 (-77000000),.slice none 0 0,.int .i64 0,.int .i64 0,.int .i64 0,.slice none 0 0,.slice none 0 0]
abbrev ahG:List Value:= [.int .i64 (-77000000),.slice none 0 0,.slice none 0 0]
abbrev InT (w:World)(B:Nat)(v:Value)(es:List (Nat×Nat)):Prop:=jS w B 40 43 1 lastT v es
abbrev InI (w:World)(B:Nat)(v:Value)(es:List (Nat×Nat)):Prop:=jS w B 61 60 3 DF v es
abbrev Xj (w:World)(B:Nat)(v:Value)(es:List (Nat×Nat)):Prop:=jS w B 36 42 3 ahH v es
abbrev Ep (w:World)(B:Nat)(v:Value)(es:List (Nat×Nat)):Prop:=jS w B 64 63 7 ahI v es
abbrev Rf (w:World)(B:Nat)(v:Value)(es:List (Nat×Nat)):Prop:=jS w B 22 66 3 ahG v es

def jV (b n:Nat)(w:World)(a:Addr):Option Value:=if a.block≠b∧a.block<n then w.cell? a else none
theorem mQ (b n:Nat)(w:World):dM (jV b n w) w.cell? :=fun p v h=>by
 unfold jV at h
 split at h
 ·exact h
 ·cases h
theorem uz {b n:Nat}{w w':World}{S:Nat→Prop}(m:ay S w w')(hS:∀k,k≠b∧k<n→¬S k):dM (jV b n w) (jV b n w'):=fun p v h=>by
 unfold jV at h ⊢
 split at h
 ·rename_i hp;rw [if_pos hp];exact m.cell h (hS _ hp)
 ·cases h
theorem JZ {b n:Nat}{w:World}{a:Addr}{v:Value}(h:jV b n w a=some v):a.block≠b∧a.block<n:=by
 unfold jV at h
 split at h
 ·assumption
 ·cases h
def Nr (T:List TypeId)(w:World)(k:Nat):Prop:=∃t cs,ak w k t cs∧t∈T
def Mc (T:List TypeId)(w:World)(k:Nat):Bool:=match w.heap[k]? with
 | some (.cells _ t fr) => decide (t ∈ T) && decide (fr = (0, 0))
 | _ => false
theorem akn {T:List TypeId}{w:World}{k:Nat}(h:Nr T w k):Mc T w k=true:=by
 obtain⟨t,cs,hb,ht⟩:=h;unfold ak at hb;simp [Mc,hb,ht]
theorem akm {T:List TypeId}{w:World}{k:Nat}(h:Mc T w k=true):Nr T w k:=by
 unfold Mc at h
 split at h
 ·rename_i c t fr hc;simp only [Bool.and_eq_true,decide_eq_true_eq] at h;obtain⟨h1,rfl⟩:=h;exact⟨t,c.toList,by unfold ak;simpa using hc,h1⟩
 ·cases h
def cellS (T:List TypeId)(w:World)(a:Addr):Option Value:=if Mc T w a.block=true then w.cell? a else none
theorem NC {T:List TypeId}{w:World}{a:Addr}(h:Nr T w a.block):cellS T w a=w.cell? a:=by
 unfold cellS;rw [if_pos (akn h)]
theorem ND {T:List TypeId}{w:World}{a:Addr}{v:Value}(h:cellS T w a=some v):Nr T w a.block∧w.cell? a=some v:=by
 unfold cellS at h
 split at h
 ·rename_i hp;exact⟨akm hp,h⟩
 ·cases h
theorem EN (T:List TypeId)(w:World):dM (cellS T w) w.cell? :=fun _ _ h=>(ND h).2
theorem NG {T T':List TypeId}(hT:∀t∈T,t∈T')(w:World):dM (cellS T w) (cellS T' w):=fun p v h=>by
 obtain⟨⟨t,cs,hb,ht⟩,h⟩:=ND h;rw [NC ⟨t,cs,hb,hT t ht⟩];exact h
theorem nI {T:List TypeId}{w w':World}{S:Nat→Prop}(m:ay S w w')(hS:∀k t cs,ak w k t cs→t∈T→¬S k):dM (cellS T w) (cellS T w'):=fun p v h=>by
 obtain⟨⟨t,cs,hb,ht⟩,h⟩:=ND h;have hn:=hS _ _ _ hb ht;rw [NC ⟨t,cs,hb.mods m hn,ht⟩];exact m.cell h hn
theorem EM {T:List TypeId}{w:World}{b:Nat}{t:TypeId}{cs:List Value}(h:ak w b t cs)(ht:t∈T)(i:Nat):cellS T w ⟨b,i,none⟩=cs[i]? :=by
 rw [NC ⟨t,cs,h,ht⟩,h.cell]
theorem Ij {T:List TypeId}{w:World}{g:Nat}{t:TypeId}{l:List Int}{rest:List Value}{cap:Nat}(h:ak w g t (l.map (Value.int .i64)++rest))(ht:t∈T)(hc:l.length≤cap):aV 1 (fE (cellS T w)) (.slice (some ⟨g,0,none⟩) l.length cap) l:=by
 refine⟨_,g,0,cap,rfl,hc,⟨fun _=>rfl,.inr (.inl rfl)⟩,fun j x hj=>?_⟩;unfold fE;have hl:=(List.getElem?_eq_some_iff.1 hj).1;rw [EM h ht,Nat.zero_add,Nat.mul_one,List.getElem?_append_left (by simpa using hl),List.getElem?_map,hj]
 rfl
theorem Si {T:List TypeId}{w:World}{g:Nat}{t:TypeId}{l:List eF}{rest:List Value}{cap:Nat}(h:ak w g t (codeCells l++rest))(ht:t∈T)(hc:l.length≤cap):aV 3 (vw (cellS T w)) (.slice (some ⟨g,0,none⟩) l.length cap) l:=by
 refine⟨_,g,0,cap,rfl,hc,⟨fun _=>rfl,.inr (.inl rfl)⟩,fun j x hj=>?_⟩;have hl:=(List.getElem?_eq_some_iff.1 hj).1
 have hr:∀r,r<3→cellS T w ⟨g,0+j*3+r,none⟩=(Fz x)[r]? :=fun r hr=>by
  rw [EM h ht,Nat.zero_add,List.getElem?_append_left (by rw [Aa];omega)];unfold codeCells;rw [flat_get (f:=Fz) (s:=3) (fun _=>rfl) l j r hr,hj]
  rfl
 exact⟨hr 0 (by omega),hr 1 (by omega),hr 2 (by omega)⟩
abbrev tT:List TypeId:= [43]
abbrev t3:List TypeId:= [43,60,42]
abbrev t4:List TypeId:= [43,60,42,63]
abbrev t5:List TypeId:= [43,60,42,63,66]

structure HS (w:World)(B bh:Nat)(cs:List Value)(vt vi vf:Value)(ts is fs:List (Nat×Nat)):Prop where
 hands:ug w bh cs
 c0:cs[0]? =some vt
 c1:cs[1]? =some vi
 c2:cs[2]? =some vf
 t:InT w B vt ts
 i:InI w B vi is
 f:Xj w B vf fs
 lt:bh<B
 le:B≤w.heap.size

def uo (bh:Nat)(vt vi vf:Value)(k:Nat):Prop:=k=bh∨vt.ownBlock=some k∨vi.ownBlock=some k∨vf.ownBlock=some k
theorem HS.rows {w:World}{B bh:Nat}{cs:List Value}{vt vi vf:Value}{ts is fs:List (Nat×Nat)}(h:HS w B bh cs vt vi vf ts is fs){k:Nat}(hk:uo bh vt vi vf k) :
  (k=bh∨B≤k)∧∃t c,ak w k t c∧(t=53∨t=40∨t=61∨t=36):=by
 rcases hk with rfl | hk | hk | hk
 ·exact⟨.inl rfl,_,_,h.hands.1,.inl rfl⟩
 ·obtain⟨c,hb⟩:=lD h.t.row hk;exact⟨.inr (h.t.row.lt k hk).1,_,c,hb,.inr (.inl rfl)⟩
 ·obtain⟨c,hb⟩:=lD h.i.row hk;exact⟨.inr (h.i.row.lt k hk).1,_,c,hb,.inr (.inr (.inl rfl))⟩
 ·obtain⟨c,hb⟩:=lD h.f.row hk;exact⟨.inr (h.f.row.lt k hk).1,_,c,hb,.inr (.inr (.inr rfl))⟩
theorem HS.other {w:World}{B bh:Nat}{cs:List Value}{vt vi vf:Value}{ts is fs:List (Nat×Nat)}(h:HS w B bh cs vt vi vf ts is fs){k:Nat}{t:TypeId}{c:List Value}(hb:ak w k t c)
  (ht:¬(t=53∨t=40∨t=61∨t=36)):¬uo bh vt vi vf k:=fun hk=>by
 obtain⟨_,t',c',hb',ht'⟩:=h.rows hk;rw [hb'.uniq hb] at ht';exact ht ht'
theorem HS.stay {w w':World}{B bh:Nat}{cs:List Value}{vt vi vf:Value}{ts is fs:List (Nat×Nat)}{S:Nat→Prop}(h:HS w B bh cs vt vi vf ts is fs)(m:ay S w w')
  (hS:∀k t c,ak w k t c→S k→¬(t=53∨t=40∨t=61∨t=36∨t=43∨t=60∨t=42)):HS w' B bh cs vt vi vf ts is fs:=by
 have hn:∀(t:TypeId),(t=53∨t=40∨t=61∨t=36∨t=43∨t=60∨t=42)→∀k c,ak w k t c→¬S k:=fun t ht k c hb hs=>hS k t c hb hs ht;exact⟨⟨h.hands.1.mods m (hn _ (by simp) _ _ h.hands.1),h.hands.2⟩,h.c0,h.c1,h.c2,h.t.mods m (hn _ (by simp)) (hn _ (by simp)),h.i.mods m (hn _ (by simp)) (hn _ (by simp)),h.f.mods m (hn _ (by simp)) (hn _ (by simp)),h.lt,Nat.le_trans h.le m.size⟩
theorem HS.DI {w w':World}{B bh:Nat}{cs:List Value}{vt vi vf:Value}{ts is fs:List (Nat×Nat)}(h:HS w B bh cs vt vi vf ts is fs){l:List Int}{g:Nat}{jD:Value}(hl:l.length≤1048576)(L:JE w w' bh cs vt B ts l g jD) :
  HS w' B bh (cs.set 0 jD) jD vi vf (ts++ [(g,l.length+1)]) is fs:=by
 have hS:∀(t:TypeId),t≠53→t≠40→∀k c,ak w k t c→¬(k=bh∨vt.ownBlock=some k):=fun t h1 h2 k c hb hk=>by
  rcases hk with rfl | hk
  ·exact h1 (hb.uniq h.hands.1)
  ·obtain⟨c',hb'⟩:=lD h.t.row hk;exact h2 (hb.uniq hb')
 have hlen:=h.hands.2;refine⟨L.hands,by rw [List.getElem?_set_self (by omega)],by rw [List.getElem?_set_ne (by omega)];exact h.c1,by rw [List.getElem?_set_ne (by omega)];exact h.c2,?_,?_,?_,h.lt,Nat.le_trans h.le L.mods.size⟩
 ·exact h.t.push L.mods (hS _ (by decide) (by decide)) h.le L.new (by omega) (by omega) L.blk (by simp) (by simp) L.row
 ·exact h.i.mods L.mods (hS _ (by decide) (by decide)) (hS _ (by decide) (by decide))
 ·exact h.f.mods L.mods (hS _ (by decide) (by decide)) (hS _ (by decide) (by decide))
theorem HS.abx {w:World}{B bh:Nat}{cs:List Value}{vt vi vf:Value}{ts is fs:List (Nat×Nat)}(h:HS w B bh cs vt vi vf ts is fs){k:Nat}{t:TypeId}{c:List Value}(hb:ak w k t c)(ht:t∈t5):¬uo bh vt vi vf k:=by
 refine h.other hb ?_;simp only [List.mem_cons,List.not_mem_nil,or_false] at ht
 rcases ht with rfl | rfl | rfl | rfl | rfl <;> decide
theorem HS.ah7 {w:World}{B bh:Nat}{cs:List Value}{vt vi vf:Value}{ts is fs:List (Nat×Nat)}(h:HS w B bh cs vt vi vf ts is fs){k:Nat}(hk:k≠bh∧k<B):¬uo bh vt vi vf k:=fun hr=>by
 have:=(h.rows hr).1;omega
theorem HS.ahS {w w':World}{B bh:Nat}{cs:List Value}{vt vi vf:Value}{ts is fs:List (Nat×Nat)}(_h:HS w B bh cs vt vi vf ts is fs){l:List Int}{g:Nat}{jD:Value}(L:JE w w' bh cs vt B ts l g jD) :
  ay (uo bh vt vi vf) w w':=L.mods.mono fun k _ hk=>by
 rcases hk with hk | hk
 ·exact .inl hk
 ·exact .inr (.inl hk)
end Go.Proofs.YtiiokkllmchohaaGreat
