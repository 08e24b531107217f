/- The law Inferred answers true: its walk. -/
import Derived.Test.YtiiokkllmchohaaGreatT44
set_option maxHeartbeats 0
set_option maxRecDepth 99999
namespace Go.Proofs.YtiiokkllmchohaaGreat
open Go.Value renaming int->J,slice->O,pointer->zP,bool->zB
open Go.IntKind renaming i64->I
open Option renaming none->U,some->M
open Bool renaming true->K,false->F
open Go.Ending renaming returned->zR
open Go.Obj renaming cells->zC
open Go.RowKit Go.Shelf
section
attribute [local go_sem ↓] Go.wp_at_zero Go.wp_at_succ
structure qG (w W:World)(bh:Nat)(vp:Value)(cs:Oj)(n:Nat)(es:Nat->List fZ)(t:Nat):Prop where
 bel:Below w.heap.size w W
 bp:ed W w.heap.size 24 [vp]
 new:w.heap.size<bh
 inv:km W bh cs n es
 nle:n<=t*20001
 cnt:∀j,j<6->(es j).length<=t*80004
theorem qG.did{q f g c p e h m n o i j}(a:qG q f c p e m i o)(b:AX f g c e h m n i j):qG q g c p h n j (o+1):=by
 have r:=a.new
 have l:∀b,b<c->¬(b=c\/∃k,OK e k b):=λb c d=>by
  rcases d with d | ⟨k,d⟩
  .omega
  .have:=(a.inv.own d).2.1;omega
 exact⟨a.bel.trans (b.mods.below a.bel.size (λb c a=>l b (by omega) a)),a.bp.mods b.mods (l _ (by omega)),r,b.inv,by have:=a.nle;have:=b.nle;omega,λd c=>by have:=a.cnt d c;have:=b.cnt d c;omega⟩
theorem qG.below{w b d e j f h i g}(a:qG w b e j f h g i)(c:Below b.heap.size b d):qG w d e j f h g i:=
 ⟨a.bel.trans (c.mono a.bel.size),a.bp.below c a.bp.lt,a.new,a.inv.below c,a.nle,a.cnt⟩
end
end Go.Proofs.YtiiokkllmchohaaGreat
