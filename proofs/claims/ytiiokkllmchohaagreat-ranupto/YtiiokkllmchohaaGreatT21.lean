/- The law's hands keep a list of frames. -/
import Derived.Test.YtiiokkllmchohaaGreatT16
set_option maxHeartbeats 0
set_option maxRecDepth 99999
namespace Go.Proofs.YtiiokkllmchohaaGreat
open Go.Value renaming int->J,slice->O,pointer->zP,bool->zB
open Go.IntKind renaming i64->I
open Option renaming none->U,some->M
open Bool renaming true->K,false->F
open Go.Ending renaming returned->zR
open Go.Obj renaming cells->zC
open Go.RowKit
section
attribute [local go_sem ↓] Go.wp_at_zero Go.wp_at_succ
section
variable {α : Type} {t : TypeId} {sz : Nat} {R : yt α} {w w' : World} {lo hi : Nat} {v : Value} {l : List α} {k mid : Nat}
end
abbrev FK (α :Type):=World->(Nat->Prop)->List Value->α->Prop
section
variable {α : Type} {t : TypeId} {sz : Nat} {R : FK α} {w wr w' : World} {D D1 : Nat -> Prop} {v : Value} {l : List α} {bh : Nat} {cs cs' cs2 : List Value} {es es' es2 : Nat -> List fZ} {B : Nat} {xs : List Value} {Ds : Nat -> Nat -> Prop} {k c : Nat}
end
section
variable {w wr wr' : World} {bh : Nat} {cs : List Value} {n : Nat} {es : Nat -> List fZ} {lo hi g : Nat} {cells : List Value} {l : List eh} {k m1 m2 mid1 c : Nat} {cs' cs2 : List Value} {es' es2 : Nat -> List fZ}
end
end
end Go.Proofs.YtiiokkllmchohaaGreat
