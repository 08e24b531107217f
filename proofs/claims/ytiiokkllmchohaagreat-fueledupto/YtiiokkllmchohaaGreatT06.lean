/- What is read, as pure functions: instructions, frames, methods, classes, a program; what was written is read back. -/
import Derived.Test.YtiiokkllmchohaaGreatT01
/- RoundB -/
namespace Go.Proofs.YtiiokkllmchohaaGreat
open Go.RowKit

section
variable (s : List UInt8)
end

section
variable {s : List UInt8}
end
end Go.Proofs.YtiiokkllmchohaaGreat
/- A well formed program is short enough to be read back. -/
namespace Go.Proofs.YtiiokkllmchohaaGreat
open Go.RowKit

end Go.Proofs.YtiiokkllmchohaaGreat
/- What the code's reader reads, as pure functions; it reads just what is written. -/
namespace Go.Proofs.YtiiokkllmchohaaGreat
open Go.RowKit

end Go.Proofs.YtiiokkllmchohaaGreat
