/-
  The lowest bit of a mask.
-/
import Derived.Shelf.Spec.TrailingZeros
import Derived.Test.YtgbcncfhmnhljaaDoorPk0
import Derived.Test.YtgbcncfhmnhljaaDoorPk1
import Derived.Test.YtgbcncfhmnhljaaDoorShelf
namespace Go.Proofs.YtgbcncfhmnhljaaDoor
open Go Go.RowKit Sh Leaf

/-- The library's table lies in its variable. -/
def Tab (w : World) : Prop := TabAt 0 Lib.deBruijn64tab w
theorem Tab.below {w w' : World} {B : Nat} (h : Tab w) (hb : Below B w w') (hB : w.heap.size ≤ B) : Tab w' := fun j hj => by
  have hc := h j hj
  have hl := World.block_lt_of_cell? w _ hc
  exact (hb.cell (p := ⟨0, j, none⟩) (Nat.lt_of_lt_of_le hl hB)).trans hc
theorem ctz_low {x : Nat} (h0 : x ≠ 0) (hx : x < 18446744073709551616) : IsLow x (Lib.ctz 64 x) ∧ Lib.ctz 64 x < 64 := by
  obtain ⟨m, hm, hk⟩ := Lib.ctzFrom_spec 64 x (by omega) hx
  have e : Lib.ctz 64 x = Lib.ctzFrom 64 x := by unfold Lib.ctz; rw [if_neg h0]
  rw [e]
  generalize Lib.ctzFrom 64 x = k at hm hk
  refine ⟨⟨?_, fun j hj => ?_⟩, hk⟩
  · unfold bt
    rw [hm, Nat.mul_div_cancel_left _ (Nat.pow_pos (by omega))]
    omega
  · unfold bt
    obtain ⟨d, rfl⟩ : ∃ d, k = j + (d + 1) := ⟨k - j - 1, by omega⟩
    have e2 : x = 2 ^ j * (2 * (2 ^ d * (2 * m + 1))) := by
      rw [hm, Nat.pow_add, Nat.pow_succ, Nat.mul_assoc, Nat.mul_assoc, Nat.mul_left_comm (2 ^ d)]
    rw [e2, Nat.mul_div_cancel_left _ (Nat.pow_pos (by omega))]
    omega
theorem clowest (m : Nat) (hm : m < 18446744073709551616) (h0 : m ≠ 0) (w : World) (hT : Tab w) :
    Calls Tryd.prog 42 #[.int .u64 (m : Int)] w fun e w' => (∃ i : Nat, e = .returned (.int .i64 (i : Int)) ∧ IsLow m i ∧ i < 64) ∧ w' = w := by
  obtain ⟨k, hk⟩ : ∃ k, k = Lib.ctz 64 m := ⟨_, rfl⟩
  have hl := ctz_low h0 hm
  rw [← hk] at hl
  have hz := Any7.bits_TrailingZeros64 Tryd.lays7n29 m hm w (fun _ => hT)
  rw [← hk] at hz
  have hz' : Calls Tryd.prog 66 #[.int .u64 (m : Int)] w fun e w' => e = .returned (.int .i64 (k : Int)) ∧ w' = w := hz
  clear hz hk hm h0 hT
  go_enter Tryd.func42, Tryd.ntmps42
  go_wp2_with fail
  refine hz'.mono ?_
  rintro e w' ⟨rfl, rfl⟩
  go_wp2
  go_ret
  exact ⟨⟨k, rfl, hl.1, hl.2⟩, rfl⟩
end Go.Proofs.YtgbcncfhmnhljaaDoor
