/-
  valueOf of package base64 by its contract.
-/
import Derived.Test.YtefjdpanjioflaaB64Spec
import Derived.Test.YtefjdpanjioflaaKStr
namespace Go.Proofs.Ytefjdpanjioflaa
open Go Go.RowKit Sh Leaf

/-- The value of the character z, 0 if it is none. -/
def vz (z : Int) : Int := if z = 95 then 63 else if z = 45 then 62 else if 48 ≤ z ∧ z ≤ 57 then z + 4 else if 97 ≤ z ∧ z ≤ 122 then z - 71 else if 65 ≤ z ∧ z ≤ 90 then z - 65 else 0
def oz (z : Int) : Bool := decide (z = 95 ∨ z = 45 ∨ (48 ≤ z ∧ z ≤ 57) ∨ (97 ≤ z ∧ z ≤ 122) ∨ (65 ≤ z ∧ z ≤ 90))
theorem vz_bv (c : B8) : vz (bv c) = bv ((vof c).getD 0) ∧ oz (bv c) = okc c := by
  have := all_bytes (p := fun c => decide (vz (c.toNat : Int) = (((vof c).getD 0).toNat : Int) ∧ oz (c.toNat : Int) = okc c)) (by decide +kernel) c
  simp only [decide_eq_true_eq] at this
  unfold bv
  exact this

set_option maxHeartbeats 1000000 in
theorem value_of_z (z : Int) (h0 : 0 ≤ z) (h1 : z ≤ 255) (w : World) :
    Calls Try.prog 16 #[.int .u8 z] w fun e w' => e = .returned (.tuple #[.int .u8 (vz z), .bool (oz z)]) ∧ w = w' := by
  rcases (by omega : z = 95 ∨ z = 45 ∨ (48 ≤ z ∧ z ≤ 57) ∨ (97 ≤ z ∧ z ≤ 122) ∨ (65 ≤ z ∧ z ≤ 90) ∨ z < 45 ∨ (45 < z ∧ z < 48) ∨ (57 < z ∧ z < 65) ∨ (90 < z ∧ z < 95) ∨ (95 < z ∧ z < 97) ∨ 122 < z) with rfl | rfl | ⟨h2, h3⟩ | ⟨h2, h3⟩ | ⟨h2, h3⟩ | h2 | ⟨h2, h3⟩ | ⟨h2, h3⟩ | ⟨h2, h3⟩ | ⟨h2, h3⟩ | h2
  all_goals
    go_enter Try.func16, Try.ntmps16
    go_wp2
    go_ret2
    refine ⟨?_, rfl⟩
    refine congrArg Ending.returned (congrArg Value.tuple ?_)
    simp
    exact ⟨by unfold vz; repeat' split
              all_goals omega, by unfold oz; first | exact decide_eq_true (by omega) | exact decide_eq_false (by omega)⟩
theorem value_of (c : B8) (w : World) :
    Calls Try.prog 16 #[byt c] w fun e w' => e = .returned (.tuple #[byt ((vof c).getD 0), .bool (okc c)]) ∧ w = w' := by
  have := value_of_z (bv c) (bv_nonneg c) (bv_le c) w
  rw [(vz_bv c).1, (vz_bv c).2] at this
  exact this
end Go.Proofs.Ytefjdpanjioflaa
