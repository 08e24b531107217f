/-
  No cell of these rows narrows 'for every input' (looked for: loops, veiled, ifaces, maps, wideKeys, modest, calm, conditions, laid).
  DERIVED. THE GIVEN ROWS OF THIS SEAT. 10 by the template 'for every input the law returns true; each argument reads behind the call as it read before'; 0 by the template 'total and deterministic' (their statements: YtiiokkllmchohaaGreatTotals.lean).
  GIVEN WITH THE SEED: the statements are not yours to turn. If you find one false, say at which input.
  Laid BY PROGRAM, IN A SANDBOX (cutbox-rows.mjs): the forced cells as the released guide's own fill.sh prints them over the translation 593c9defe2882969… (all of the seat's roots in one cut). By AI agents, Wed Nov 11 2026. No macro, syntax, notation, axiom, sorry.
-/
import Derived.Test.YtiiokkllmchohaaGreatChecked
import GoSem.Claim
import GoSem.ClaimJoined
import GoSem.ClaimMapViews
import Derived.JoinedTies
import Derived.KernelRfl
namespace Go.Proofs.YtiiokkllmchohaaGreat
/- THE CELL 'sum', in the pinned program and in every row, IS THE sha256 OF THE DUMP (.gsa) THAT YtiiokkllmchohaaGreatProg.lean LOADS. Nothing in Lean hashes anything: it is a label: what it is worth is what the hold of that sum in a sandbox is worth. -/
noncomputable def Tryz.pinned : Pinned := { name := "ytiiokkllmchohaagreat", sum := "593c9defe28829698ef4106874cd1305b63c74526642c0878cdb2c8a0c1795c0", checked := Tryz.checked }
namespace Rows
def none {H : Type} : Left H := { results := [], args := [] }

/-- 'assaykeep.Written': WHATEVER THE INPUT: true; the input reads as it did. -/
def writtenSpec : ChangeSpec := { name := "written", fn := fun _ => fun
  | [d1, d2, d3, d4] => { results := [.lit (.bool true)], args := [d1, d2, d3, d4] }
  | _ => none }
def writtenRow : OpenClaim := { program := "ytiiokkllmchohaagreat", sum := "593c9defe28829698ef4106874cd1305b63c74526642c0878cdb2c8a0c1795c0", func := "assay/assaykeep.Written", spec := "written", unfollowed := true, recurses := true, apart := false }
def WrittenSaid : Prop := writtenRow.holds Tryz.pinned (OpenSpec.ofChange writtenSpec)

/-- ITS FALSE NEIGHBOUR: 'it returns false'. Refute it at one input. -/
def writtenWrong : ChangeSpec := { name := "written", fn := fun _ => fun
  | [d1, d2, d3, d4] => { results := [.lit (.bool false)], args := [d1, d2, d3, d4] }
  | _ => none }
def WrittenWrongFalsely : Prop := writtenRow.holds Tryz.pinned (OpenSpec.ofChange writtenWrong)

/-- 'assaylaw.Inferred': WHATEVER THE INPUT: true; the input reads as it did. -/
def inferredSpec : ChangeSpec := { name := "inferred", fn := fun _ => fun
  | [d1, d2, d3] => { results := [.lit (.bool true)], args := [d1, d2, d3] }
  | _ => none }
def inferredRow : OpenClaim := { program := "ytiiokkllmchohaagreat", sum := "593c9defe28829698ef4106874cd1305b63c74526642c0878cdb2c8a0c1795c0", func := "assay/assaylaw.Inferred", spec := "inferred", unfollowed := true, recurses := true, apart := false }
def InferredSaid : Prop := inferredRow.holds Tryz.pinned (OpenSpec.ofChange inferredSpec)

/-- ITS FALSE NEIGHBOUR: 'it returns false'. Refute it at one input. -/
def inferredWrong : ChangeSpec := { name := "inferred", fn := fun _ => fun
  | [d1, d2, d3] => { results := [.lit (.bool false)], args := [d1, d2, d3] }
  | _ => none }
def InferredWrongFalsely : Prop := inferredRow.holds Tryz.pinned (OpenSpec.ofChange inferredWrong)

/-- 'assaylaw.Passed': WHATEVER THE INPUT: true; the input reads as it did. -/
def passedSpec : ChangeSpec := { name := "passed", fn := fun _ => fun
  | [d1, d2, d3] => { results := [.lit (.bool true)], args := [d1, d2, d3] }
  | _ => none }
def passedRow : OpenClaim := { program := "ytiiokkllmchohaagreat", sum := "593c9defe28829698ef4106874cd1305b63c74526642c0878cdb2c8a0c1795c0", func := "assay/assaylaw.Passed", spec := "passed", unfollowed := true, recurses := true, apart := false }
def PassedSaid : Prop := passedRow.holds Tryz.pinned (OpenSpec.ofChange passedSpec)

/-- ITS FALSE NEIGHBOUR: 'it returns false'. Refute it at one input. -/
def passedWrong : ChangeSpec := { name := "passed", fn := fun _ => fun
  | [d1, d2, d3] => { results := [.lit (.bool false)], args := [d1, d2, d3] }
  | _ => none }
def PassedWrongFalsely : Prop := passedRow.holds Tryz.pinned (OpenSpec.ofChange passedWrong)

/-- 'assaykeep.Agreed': WHATEVER THE INPUT: true; the input reads as it did. -/
def agreedSpec : ChangeSpec := { name := "agreed", fn := fun _ => fun
  | [d] => { results := [.lit (.bool true)], args := [d] }
  | _ => none }
def agreedRow : OpenClaim := { program := "ytiiokkllmchohaagreat", sum := "593c9defe28829698ef4106874cd1305b63c74526642c0878cdb2c8a0c1795c0", func := "assay/assaykeep.Agreed", spec := "agreed", unfollowed := true, recurses := true, apart := false }
def AgreedSaid : Prop := agreedRow.holds Tryz.pinned (OpenSpec.ofChange agreedSpec)

/-- ITS FALSE NEIGHBOUR: 'it returns false'. Refute it at one input. -/
def agreedWrong : ChangeSpec := { name := "agreed", fn := fun _ => fun
  | [d] => { results := [.lit (.bool false)], args := [d] }
  | _ => none }
def AgreedWrongFalsely : Prop := agreedRow.holds Tryz.pinned (OpenSpec.ofChange agreedWrong)

/-- 'assaylaw.Ran': WHATEVER THE INPUT: true; the input reads as it did. -/
def ranSpec : ChangeSpec := { name := "ran", fn := fun _ => fun
  | [d1, d2, d3, d4, d5] => { results := [.lit (.bool true)], args := [d1, d2, d3, d4, d5] }
  | _ => none }
def ranRow : OpenClaim := { program := "ytiiokkllmchohaagreat", sum := "593c9defe28829698ef4106874cd1305b63c74526642c0878cdb2c8a0c1795c0", func := "assay/assaylaw.Ran", spec := "ran", unfollowed := true, recurses := true, apart := false }
def RanSaid : Prop := ranRow.holds Tryz.pinned (OpenSpec.ofChange ranSpec)

/-- ITS FALSE NEIGHBOUR: 'it returns false'. Refute it at one input. -/
def ranWrong : ChangeSpec := { name := "ran", fn := fun _ => fun
  | [d1, d2, d3, d4, d5] => { results := [.lit (.bool false)], args := [d1, d2, d3, d4, d5] }
  | _ => none }
def RanWrongFalsely : Prop := ranRow.holds Tryz.pinned (OpenSpec.ofChange ranWrong)

/-- 'assaykeep.Trusted': WHATEVER THE INPUT: true; the input reads as it did. -/
def trustedSpec : ChangeSpec := { name := "trusted", fn := fun _ => fun
  | [d1, d2, d3, d4, d5] => { results := [.lit (.bool true)], args := [d1, d2, d3, d4, d5] }
  | _ => none }
def trustedRow : OpenClaim := { program := "ytiiokkllmchohaagreat", sum := "593c9defe28829698ef4106874cd1305b63c74526642c0878cdb2c8a0c1795c0", func := "assay/assaykeep.Trusted", spec := "trusted", unfollowed := true, recurses := true, apart := false }
def TrustedSaid : Prop := trustedRow.holds Tryz.pinned (OpenSpec.ofChange trustedSpec)

/-- ITS FALSE NEIGHBOUR: 'it returns false'. Refute it at one input. -/
def trustedWrong : ChangeSpec := { name := "trusted", fn := fun _ => fun
  | [d1, d2, d3, d4, d5] => { results := [.lit (.bool false)], args := [d1, d2, d3, d4, d5] }
  | _ => none }
def TrustedWrongFalsely : Prop := trustedRow.holds Tryz.pinned (OpenSpec.ofChange trustedWrong)

/-- 'assaykeep.Reckoned': WHATEVER THE INPUT: true; the input reads as it did. -/
def reckonedSpec : ChangeSpec := { name := "reckoned", fn := fun _ => fun
  | [d] => { results := [.lit (.bool true)], args := [d] }
  | _ => none }
def reckonedRow : OpenClaim := { program := "ytiiokkllmchohaagreat", sum := "593c9defe28829698ef4106874cd1305b63c74526642c0878cdb2c8a0c1795c0", func := "assay/assaykeep.Reckoned", spec := "reckoned", unfollowed := true, recurses := true, apart := false }
def ReckonedSaid : Prop := reckonedRow.holds Tryz.pinned (OpenSpec.ofChange reckonedSpec)

/-- ITS FALSE NEIGHBOUR: 'it returns false'. Refute it at one input. -/
def reckonedWrong : ChangeSpec := { name := "reckoned", fn := fun _ => fun
  | [d] => { results := [.lit (.bool false)], args := [d] }
  | _ => none }
def ReckonedWrongFalsely : Prop := reckonedRow.holds Tryz.pinned (OpenSpec.ofChange reckonedWrong)

/-- 'assaykeep.Bound': WHATEVER THE INPUT: true; the input reads as it did. -/
def boundSpec : ChangeSpec := { name := "bound", fn := fun _ => fun
  | [d1, d2, d3, d4] => { results := [.lit (.bool true)], args := [d1, d2, d3, d4] }
  | _ => none }
def boundRow : OpenClaim := { program := "ytiiokkllmchohaagreat", sum := "593c9defe28829698ef4106874cd1305b63c74526642c0878cdb2c8a0c1795c0", func := "assay/assaykeep.Bound", spec := "bound", unfollowed := true, recurses := true, apart := false }
def BoundSaid : Prop := boundRow.holds Tryz.pinned (OpenSpec.ofChange boundSpec)

/-- ITS FALSE NEIGHBOUR: 'it returns false'. Refute it at one input. -/
def boundWrong : ChangeSpec := { name := "bound", fn := fun _ => fun
  | [d1, d2, d3, d4] => { results := [.lit (.bool false)], args := [d1, d2, d3, d4] }
  | _ => none }
def BoundWrongFalsely : Prop := boundRow.holds Tryz.pinned (OpenSpec.ofChange boundWrong)

/-- 'assaykeep.Fueled': WHATEVER THE INPUT: true; the input reads as it did. -/
def fueledSpec : ChangeSpec := { name := "fueled", fn := fun _ => fun
  | [d1, d2, d3, d4, d5, d6] => { results := [.lit (.bool true)], args := [d1, d2, d3, d4, d5, d6] }
  | _ => none }
def fueledRow : OpenClaim := { program := "ytiiokkllmchohaagreat", sum := "593c9defe28829698ef4106874cd1305b63c74526642c0878cdb2c8a0c1795c0", func := "assay/assaykeep.Fueled", spec := "fueled", unfollowed := true, recurses := true, apart := false }
def FueledSaid : Prop := fueledRow.holds Tryz.pinned (OpenSpec.ofChange fueledSpec)

/-- ITS FALSE NEIGHBOUR: 'it returns false'. Refute it at one input. -/
def fueledWrong : ChangeSpec := { name := "fueled", fn := fun _ => fun
  | [d1, d2, d3, d4, d5, d6] => { results := [.lit (.bool false)], args := [d1, d2, d3, d4, d5, d6] }
  | _ => none }
def FueledWrongFalsely : Prop := fueledRow.holds Tryz.pinned (OpenSpec.ofChange fueledWrong)

/-- 'assaylaw.All': WHATEVER THE INPUT: true; the input reads as it did. -/
def allSpec : ChangeSpec := { name := "all", fn := fun _ => fun
  | [d1, d2, d3, d4, d5, d6] => { results := [.lit (.bool true)], args := [d1, d2, d3, d4, d5, d6] }
  | _ => none }
def allRow : OpenClaim := { program := "ytiiokkllmchohaagreat", sum := "593c9defe28829698ef4106874cd1305b63c74526642c0878cdb2c8a0c1795c0", func := "assay/assaylaw.All", spec := "all", unfollowed := true, recurses := true, apart := false }
def AllSaid : Prop := allRow.holds Tryz.pinned (OpenSpec.ofChange allSpec)

/-- ITS FALSE NEIGHBOUR: 'it returns false'. Refute it at one input. -/
def allWrong : ChangeSpec := { name := "all", fn := fun _ => fun
  | [d1, d2, d3, d4, d5, d6] => { results := [.lit (.bool false)], args := [d1, d2, d3, d4, d5, d6] }
  | _ => none }
def AllWrongFalsely : Prop := allRow.holds Tryz.pinned (OpenSpec.ofChange allWrong)

/- THE SECOND FORM. 'bulk': how many values and letters a reading holds, each counted each time it is reached (what is shared counts as often as it is met; a slice's spare places count too). A statement '..UptoSaid' is the law's where the arguments, and the package variables that the reading takes, are together of bulk at most 1048576: NARROWER than '..Said'. Prove '..Said' where nothing that the law and all that it calls make is longer than what came in: it says more and counts as full. Else prove '..UptoSaid'. A law counts once. -/
mutual
def uptoBulk {H : Type} : DataW H → Nat
  | .lit (.string bytes) => bytes.length + 1
  | .lit _ => 1
  | .nil => 1
  | .ptr d => uptoBulk d + 1
  | .slice elems spare => uptoBulkAll elems + uptoBulkAll spare + 1
  | .agg parts => uptoBulkAll parts + 1
  | .iface _ d => uptoBulk d + 1
  | .map entries => uptoBulkEntries entries + 1
  | .held _ => 1
def uptoBulkAll {H : Type} : List (DataW H) → Nat
  | [] => 0
  | d :: r => uptoBulk d + uptoBulkAll r
def uptoBulkEntries {H : Type} : List (Lit × DataW H) → Nat
  | [] => 0
  | x :: r => uptoBulkEntry x + uptoBulkEntries r
def uptoBulkEntry {H : Type} : Lit × DataW H → Nat
  | (.string bytes, d) => bytes.length + uptoBulk d + 1
  | (_, d) => uptoBulk d + 1
 end
def uptoSmall : (H : Type) → List (DataW H) → Bool := fun _ ds => decide (uptoBulkAll ds ≤ 1048576)
def OpenSpec.upto (s : _root_.Go.ChangeSpec) : _root_.Go.OpenSpec := { _root_.Go.OpenSpec.ofChange s with cond := some uptoSmall }

/-- 'assaykeep.Written', WHERE WHAT IT READS IS OF BULK AT MOST 1048576: true; the input reads as it did. -/
def writtenUptoRow : OpenClaim := { program := "ytiiokkllmchohaagreat", sum := "593c9defe28829698ef4106874cd1305b63c74526642c0878cdb2c8a0c1795c0", func := "assay/assaykeep.Written", spec := "written", unfollowed := true, recurses := true, apart := false, narrowed := true }
def WrittenUptoSaid : Prop := writtenUptoRow.holds Tryz.pinned (OpenSpec.upto writtenSpec)

/-- 'assaylaw.Inferred', WHERE WHAT IT READS IS OF BULK AT MOST 1048576: true; the input reads as it did. -/
def inferredUptoRow : OpenClaim := { program := "ytiiokkllmchohaagreat", sum := "593c9defe28829698ef4106874cd1305b63c74526642c0878cdb2c8a0c1795c0", func := "assay/assaylaw.Inferred", spec := "inferred", unfollowed := true, recurses := true, apart := false, narrowed := true }
def InferredUptoSaid : Prop := inferredUptoRow.holds Tryz.pinned (OpenSpec.upto inferredSpec)

/-- 'assaylaw.Passed', WHERE WHAT IT READS IS OF BULK AT MOST 1048576: true; the input reads as it did. -/
def passedUptoRow : OpenClaim := { program := "ytiiokkllmchohaagreat", sum := "593c9defe28829698ef4106874cd1305b63c74526642c0878cdb2c8a0c1795c0", func := "assay/assaylaw.Passed", spec := "passed", unfollowed := true, recurses := true, apart := false, narrowed := true }
def PassedUptoSaid : Prop := passedUptoRow.holds Tryz.pinned (OpenSpec.upto passedSpec)

/-- 'assaykeep.Agreed', WHERE WHAT IT READS IS OF BULK AT MOST 1048576: true; the input reads as it did. -/
def agreedUptoRow : OpenClaim := { program := "ytiiokkllmchohaagreat", sum := "593c9defe28829698ef4106874cd1305b63c74526642c0878cdb2c8a0c1795c0", func := "assay/assaykeep.Agreed", spec := "agreed", unfollowed := true, recurses := true, apart := false, narrowed := true }
def AgreedUptoSaid : Prop := agreedUptoRow.holds Tryz.pinned (OpenSpec.upto agreedSpec)

/-- 'assaylaw.Ran', WHERE WHAT IT READS IS OF BULK AT MOST 1048576: true; the input reads as it did. -/
def ranUptoRow : OpenClaim := { program := "ytiiokkllmchohaagreat", sum := "593c9defe28829698ef4106874cd1305b63c74526642c0878cdb2c8a0c1795c0", func := "assay/assaylaw.Ran", spec := "ran", unfollowed := true, recurses := true, apart := false, narrowed := true }
def RanUptoSaid : Prop := ranUptoRow.holds Tryz.pinned (OpenSpec.upto ranSpec)

/-- 'assaykeep.Trusted', WHERE WHAT IT READS IS OF BULK AT MOST 1048576: true; the input reads as it did. -/
def trustedUptoRow : OpenClaim := { program := "ytiiokkllmchohaagreat", sum := "593c9defe28829698ef4106874cd1305b63c74526642c0878cdb2c8a0c1795c0", func := "assay/assaykeep.Trusted", spec := "trusted", unfollowed := true, recurses := true, apart := false, narrowed := true }
def TrustedUptoSaid : Prop := trustedUptoRow.holds Tryz.pinned (OpenSpec.upto trustedSpec)

/-- 'assaykeep.Reckoned', WHERE WHAT IT READS IS OF BULK AT MOST 1048576: true; the input reads as it did. -/
def reckonedUptoRow : OpenClaim := { program := "ytiiokkllmchohaagreat", sum := "593c9defe28829698ef4106874cd1305b63c74526642c0878cdb2c8a0c1795c0", func := "assay/assaykeep.Reckoned", spec := "reckoned", unfollowed := true, recurses := true, apart := false, narrowed := true }
def ReckonedUptoSaid : Prop := reckonedUptoRow.holds Tryz.pinned (OpenSpec.upto reckonedSpec)

/-- 'assaykeep.Bound', WHERE WHAT IT READS IS OF BULK AT MOST 1048576: true; the input reads as it did. -/
def boundUptoRow : OpenClaim := { program := "ytiiokkllmchohaagreat", sum := "593c9defe28829698ef4106874cd1305b63c74526642c0878cdb2c8a0c1795c0", func := "assay/assaykeep.Bound", spec := "bound", unfollowed := true, recurses := true, apart := false, narrowed := true }
def BoundUptoSaid : Prop := boundUptoRow.holds Tryz.pinned (OpenSpec.upto boundSpec)

/-- 'assaykeep.Fueled', WHERE WHAT IT READS IS OF BULK AT MOST 1048576: true; the input reads as it did. -/
def fueledUptoRow : OpenClaim := { program := "ytiiokkllmchohaagreat", sum := "593c9defe28829698ef4106874cd1305b63c74526642c0878cdb2c8a0c1795c0", func := "assay/assaykeep.Fueled", spec := "fueled", unfollowed := true, recurses := true, apart := false, narrowed := true }
def FueledUptoSaid : Prop := fueledUptoRow.holds Tryz.pinned (OpenSpec.upto fueledSpec)

/-- 'assaylaw.All', WHERE WHAT IT READS IS OF BULK AT MOST 1048576: true; the input reads as it did. -/
def allUptoRow : OpenClaim := { program := "ytiiokkllmchohaagreat", sum := "593c9defe28829698ef4106874cd1305b63c74526642c0878cdb2c8a0c1795c0", func := "assay/assaylaw.All", spec := "all", unfollowed := true, recurses := true, apart := false, narrowed := true }
def AllUptoSaid : Prop := allUptoRow.holds Tryz.pinned (OpenSpec.upto allSpec)

end Rows
end Go.Proofs.YtiiokkllmchohaaGreat
