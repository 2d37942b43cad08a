/-
  What a parameter is: a byte.
-/
import Derived.Test.YtgbcncfhmnhljaaDoorRows
import Derived.ProofKit
import Derived.LaidMore
import Derived.OpenShut
import Derived.Stop.Joined
import Derived.Test.YtgbcncfhmnhljaaDoorPk1
namespace Go.Proofs.YtgbcncfhmnhljaaDoor
open Go.ChangeShapes Go.WideShapes Go.ChangeAt
open Go Go.RowKit Sh Leaf

theorem row_own : ownKnob Tryd.prog.godebug = none := by kernel_rfl
theorem row_laidOut : laidOutB Tryd.prog = true := by kernel_rfl
theorem row_c1 : Tryd.prog.cellsOf 5 = 1 := by kernel_rfl
theorem byte_of_int (z : Int) (h : (Lit.int .u8 z).wf = true) : Value.int .u8 z = byt (BitVec.ofInt 8 z) := by
  have hz : 0 ≤ z ∧ z ≤ 255 := by simpa [Lit.wf, IntKind.min, IntKind.max, IntKind.signed, IntKind.bits] using h
  have : bv (BitVec.ofInt 8 z) = z := by
    unfold bv
    simp
    omega
  rw [byt, this]
end Go.Proofs.YtgbcncfhmnhljaaDoor
