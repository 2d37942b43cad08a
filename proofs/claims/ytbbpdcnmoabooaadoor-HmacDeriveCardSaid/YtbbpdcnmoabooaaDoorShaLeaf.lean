/-
  The small functions of package sha and of the reference, each by its contract: rotations, sums of rotations, choose, majority.
-/
import Derived.Test.YtbbpdcnmoabooaaDoorShaSpec
import Derived.Test.YtbbpdcnmoabooaaDoorChecked
import Derived.WalkKit
import Derived.WalkLawsBesides
namespace Go.Proofs.YtbbpdcnmoabooaaDoor
open Go Go.RowKit Sh

theorem ret_int {k : IntKind} {a b : Int} (h : a = b) : Ending.returned (.int k a) = .returned (.int k b) := by rw [h]

namespace Leaf
abbrev u (x : W) : Value := .int .u32 (iv x)
/-- A contract of a function that only computes a word. -/
abbrev Gives (f : FuncId) (args : Array Value) (r : W) (w : World) : Prop := Calls Tryd.prog f args w fun e w' => e = .returned (.int .u32 (iv r)) ∧ w = w'

theorem choose (x y z : W) (w : World) : Gives 52 #[u x, u y, u z] (ch x y z) w := by
  have h1 := bits_and_iv
  have h2 := bits_xor_iv
  have h3 := bits_not_iv
  have h4 := u32_unsigned
  go_enter Tryd.func52, Tryd.ntmps52
  go_wp2
  go_ret
  exact ⟨rfl, rfl⟩
theorem majority (x y z : W) (w : World) : Gives 54 #[u x, u y, u z] (maj x y z) w := by
  have h1 := bits_and_iv
  have h2 := bits_xor_iv
  go_enter Tryd.func54, Tryd.ntmps54
  go_wp2
  go_ret
  exact ⟨rfl, rfl⟩
theorem rotl (x : W) (n : Nat) (h0 : 0 < n) (h1 : n < 32) (w : World) : Gives 59 #[u x, .int .i64 (-(n : Int))] (rotr x n) w := by
  have a1 := neg_and31 n h0 h1
  have a5 : 32 - (32 - (n : Int)) = n := by omega
  go_enter Tryd.func59, Tryd.ntmps59
  go_wp2
  go_ret
  exact ⟨ret_int (by rw [shl_mod_iv, shr_div_iv, bits_or_iv, rotr, BitVec.or_comm]), rfl⟩
theorem rotate (x : W) (n : Nat) (h0 : 0 < n) (h1 : n < 32) (w : World) : Gives 58 #[u x, .int .i64 (n : Int)] (rotr x n) w := by
  go_enter Tryd.func58, Tryd.ntmps58
  go_wp2_with (go_at_call 59; refine (rotl x n h0 h1 _).mono ?_; rintro e w' ⟨rfl, rfl⟩)
  go_ret
  exact ⟨rfl, rfl⟩
theorem bigSigma0 (x : W) (w : World) : Gives 53 #[u x] (S0 x) w := by
  have h2 := bits_xor_iv
  go_enter Tryd.func53, Tryd.ntmps53
  go_wp2_with fail
  refine (rotate x 2 (by omega) (by omega) _).mono ?_; rintro e w' ⟨rfl, rfl⟩
  go_wp2_with fail
  refine (rotate x 13 (by omega) (by omega) _).mono ?_; rintro e w' ⟨rfl, rfl⟩
  go_wp2_with fail
  refine (rotate x 22 (by omega) (by omega) _).mono ?_; rintro e w' ⟨rfl, rfl⟩
  go_wp2
  go_ret
  exact ⟨rfl, rfl⟩
theorem bigSigma1 (x : W) (w : World) : Gives 51 #[u x] (S1 x) w := by
  have h2 := bits_xor_iv
  go_enter Tryd.func51, Tryd.ntmps51
  go_wp2_with fail
  refine (rotate x 6 (by omega) (by omega) _).mono ?_; rintro e w' ⟨rfl, rfl⟩
  go_wp2_with fail
  refine (rotate x 11 (by omega) (by omega) _).mono ?_; rintro e w' ⟨rfl, rfl⟩
  go_wp2_with fail
  refine (rotate x 25 (by omega) (by omega) _).mono ?_; rintro e w' ⟨rfl, rfl⟩
  go_wp2
  go_ret
  exact ⟨rfl, rfl⟩
theorem smallSigma0 (x : W) (w : World) : Gives 57 #[u x] (s0 x) w := by
  have h2 := bits_xor_iv
  have h5 : iv x / (8 : Int) = iv (x >>> 3) := shr_div_iv x 3
  go_enter Tryd.func57, Tryd.ntmps57
  go_wp2_with fail
  refine (rotate x 7 (by omega) (by omega) _).mono ?_; rintro e w' ⟨rfl, rfl⟩
  go_wp2_with fail
  refine (rotate x 18 (by omega) (by omega) _).mono ?_; rintro e w' ⟨rfl, rfl⟩
  go_wp2
  go_ret
  exact ⟨rfl, rfl⟩
theorem smallSigma1 (x : W) (w : World) : Gives 56 #[u x] (s1 x) w := by
  have h2 := bits_xor_iv
  have h5 : iv x / (1024 : Int) = iv (x >>> 10) := shr_div_iv x 10
  go_enter Tryd.func56, Tryd.ntmps56
  go_wp2_with fail
  refine (rotate x 17 (by omega) (by omega) _).mono ?_; rintro e w' ⟨rfl, rfl⟩
  go_wp2_with fail
  refine (rotate x 19 (by omega) (by omega) _).mono ?_; rintro e w' ⟨rfl, rfl⟩
  go_wp2
  go_ret
  exact ⟨rfl, rfl⟩
theorem rotated (x : W) (n : Nat) (h0 : 0 < n) (h1 : n < 32) (w : World) : Gives 47 #[u x, .int .u64 (n : Int)] (rotr x n) w := by
  go_enter Tryd.func47, Tryd.ntmps47
  go_wp2
  go_ret
  exact ⟨ret_int (by rw [shl_mod_iv, shr_div_iv, bits_or_iv, rotr]), rfl⟩
theorem rotatedI (x : W) (y : Int) (h0 : 0 < y) (h1 : y < 32) (w : World) : Gives 47 #[u x, .int .u64 y] (rotr x y.toNat) w := by
  obtain ⟨n, rfl⟩ := Int.eq_ofNat_of_zero_le (Int.le_of_lt h0)
  exact rotated x n (by omega) (by omega) w
end Leaf
end Go.Proofs.YtbbpdcnmoabooaaDoor
