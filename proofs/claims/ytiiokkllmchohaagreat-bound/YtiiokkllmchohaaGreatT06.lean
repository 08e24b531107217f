/- A well formed program is short enough to be read back. -/
import Derived.Test.YtiiokkllmchohaaGreatT01
/- RoundC -/
namespace Go.Proofs.YtiiokkllmchohaaGreat
open Go.RowKit

end Go.Proofs.YtiiokkllmchohaaGreat
/- What the code's reader reads, as pure functions; it reads just what is written. -/
namespace Go.Proofs.YtiiokkllmchohaaGreat
open Go.RowKit

end Go.Proofs.YtiiokkllmchohaaGreat
