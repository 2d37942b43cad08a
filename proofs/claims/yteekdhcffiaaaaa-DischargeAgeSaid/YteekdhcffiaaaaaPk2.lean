/-
  KArg0
-/
import Derived.Test.YteekdhcffiaaaaaRows
import Derived.ProofKit
import Derived.LaidMore
import Derived.OpenShut
import Derived.Stop.Joined
import Derived.Test.YteekdhcffiaaaaaPk1
namespace Go.Proofs.Yteekdhcffiaaaaa
open Go.ChangeShapes Go.WideShapes Go.ChangeAt
open Go Go.RowKit Sh Leaf

theorem row_own : ownKnob Try.prog.godebug = none := by kernel_rfl
theorem row_laidOut : laidOutB Try.prog = true := by kernel_rfl
end Go.Proofs.Yteekdhcffiaaaaa
