/- What the law's hands keep of what came out: entries, their rows, an append that keeps what was there. -/
import Derived.Test.YtiiokkllmchohaaGreatT08
import Derived.Test.YtiiokkllmchohaaGreatT14
import Derived.Test.YtiiokkllmchohaaGreatT25
import Derived.Test.YtiiokkllmchohaaGreatT41
namespace Go.Proofs.YtiiokkllmchohaaGreat
open Go.RowKit
structure Ent where
 a : Option Nat
 len : Nat
 cap : Nat
 m : Int
section
variable {w w' : World} {bh : Nat} {cs : List Value} {n : Nat} {es : Nat → List Ent} {rs : Nat → List Value}
end
section
variable {w wr : World} {bh : Nat} {cs : List Value} {n : Nat} {es : Nat → List Ent} {lo hi i : Nat} {m : Int} {L kk : Nat} {vl : Value} {cs' : List Value} {es' : Nat → List Ent}
end
end Go.Proofs.YtiiokkllmchohaaGreat
namespace Go.Proofs.YtiiokkllmchohaaGreat
open Go.RowKit
attribute [local go_sem ↓] Go.wp_at_zero Go.wp_at_succ
section
variable {α : Type} {t : TypeId} {sz : Nat} {R : OwnE α} {w w' : World} {lo hi : Nat} {v : Value} {l : List α} {k mid : Nat}
end
section
variable {w wr wr' : World} {bh : Nat} {cs : List Value} {n : Nat} {es : Nat → List Ent} {lo hi g : Nat} {cells : List Value} {l : List LMeth} {k m1 m2 mid1 c : Nat} {cs' cs2 : List Value} {es' es2 : Nat → List Ent}
end

abbrev hands0 : List Value := [.slice none 0 0, .slice none 0 0, .slice none 0 0, .slice none 0 0, .slice none 0 0, .slice none 0 0, .int .i64 0, .slice none 0 0, .slice none 0 0, .slice none 0 0, .slice none 0 0, .slice none 0 0, .slice none 0 0, .slice none 0 0, .slice none 0 0, .slice none 0 0, .slice none 0 0, .slice none 0 0, .slice none 0 0]
end Go.Proofs.YtiiokkllmchohaaGreat
