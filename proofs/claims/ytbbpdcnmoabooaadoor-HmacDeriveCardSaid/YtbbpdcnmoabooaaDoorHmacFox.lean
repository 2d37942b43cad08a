/-
  The tag of the chapter's example, reckoned by the kernel.
-/
import Derived.Test.YtbbpdcnmoabooaaDoorHmacSpec
namespace Go.Proofs.YtbbpdcnmoabooaaDoor
namespace Sh
def keyB : List B8 := [107, 101, 121]
def foxB : List B8 := [84, 104, 101, 32, 113, 117, 105, 99, 107, 32, 98, 114, 111, 119, 110, 32, 102, 111, 120, 32, 106, 117, 109, 112, 115, 32, 111, 118, 101, 114, 32, 116, 104, 101, 32, 108, 97, 122, 121, 32, 100, 111, 103]
theorem hmac_fox : (hmac keyB foxB).map (·.toNat) = [247, 188, 131, 244, 48, 83, 132, 36, 177, 50, 152, 230, 170, 111, 177, 67, 239, 77, 89, 161, 73, 70, 23, 89, 151, 71, 157, 188, 45, 26, 60, 216] := by decide +kernel
end Sh
end Go.Proofs.YtbbpdcnmoabooaaDoor
