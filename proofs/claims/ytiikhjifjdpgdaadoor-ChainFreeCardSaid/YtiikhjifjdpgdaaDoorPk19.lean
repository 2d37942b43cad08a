/-
  KTwo
-/
import Derived.Test.YtiikhjifjdpgdaaDoorKAnyG
import Derived.Test.YtiikhjifjdpgdaaDoorPk17
import Derived.Test.YtiikhjifjdpgdaaDoorPk18
import Derived.Test.YtiikhjifjdpgdaaDoorPk3
namespace Go.Proofs.YtiikhjifjdpgdaaDoor
open Go Go.RowKit Sh Leaf

section
variable {P : Program} {ops : Array Oper} {Q : Exit → Act → World → Prop} {md : Region.Mode} {C B : World → Prop} {ks : List Nat}
end
def bf (x : B8) : List Value := [byt x]
abbrev OwnBf (w : World) (base : Nat) (v : Value) (l : List B8) : Prop := OwnS bf 1 5 w base v l
end Go.Proofs.YtiikhjifjdpgdaaDoor
