/-
  KArg0
  KArg
-/
import Derived.Test.YteekdhcffiaaaaaDoorRows
import Derived.ProofKit
import Derived.LaidMore
import Derived.OpenShut
import Derived.Stop.Joined
import Derived.Test.YteekdhcffiaaaaaDoorPk3
namespace Go.Proofs.YteekdhcffiaaaaaDoor
open Go.ChangeShapes Go.WideShapes Go.ChangeAt
open Go Go.RowKit Sh Leaf

end Go.Proofs.YteekdhcffiaaaaaDoor
namespace Go.Proofs.YteekdhcffiaaaaaDoor
open Go.ChangeShapes Go.WideShapes Go.ChangeAt
open Go Go.RowKit Sh Leaf

end Go.Proofs.YteekdhcffiaaaaaDoor
