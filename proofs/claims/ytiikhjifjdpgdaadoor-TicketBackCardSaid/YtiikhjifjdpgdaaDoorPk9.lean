/-
  KArg0
  KArg
-/
import Derived.Test.YtiikhjifjdpgdaaDoorRows
import Derived.ProofKit
import Derived.LaidMore
import Derived.OpenShut
import Derived.Stop.Joined
import Derived.Test.YtiikhjifjdpgdaaDoorPk3
namespace Go.Proofs.YtiikhjifjdpgdaaDoor
open Go.ChangeShapes Go.WideShapes Go.ChangeAt
open Go Go.RowKit Sh Leaf

end Go.Proofs.YtiikhjifjdpgdaaDoor
namespace Go.Proofs.YtiikhjifjdpgdaaDoor
open Go.ChangeShapes Go.WideShapes Go.ChangeAt
open Go Go.RowKit Sh Leaf

end Go.Proofs.YtiikhjifjdpgdaaDoor
