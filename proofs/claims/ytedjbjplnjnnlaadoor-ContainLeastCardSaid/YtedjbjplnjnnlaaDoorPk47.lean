/-
  The reference's lowest.
-/
import Derived.Test.YtedjbjplnjnnlaaDoorPk0
import Derived.Test.YtedjbjplnjnnlaaDoorPk9
namespace Go.Proofs.YtedjbjplnjnnlaaDoor
open Go Go.RowKit Sh Leaf

theorem low_zero (m i : Nat) (b : Bool) (h : decide (m / 2 ^ i % 2 = 1) = b) : (((m : Int) / 2 ^ i).tmod 2 == 0) = !b := by
  have e : ((m : Int) / 2 ^ i) = ((m / 2 ^ i : Nat) : Int) := by push_cast; rfl
  have e2 : ((m / 2 ^ i : Nat) : Int) % 2 = ((m / 2 ^ i % 2 : Nat) : Int) := by push_cast; rfl
  rw [e, Int.tmod_eq_emod_of_nonneg (Int.natCast_nonneg _), e2, ← h]
  generalize m / 2 ^ i = q
  rcases (by omega : q % 2 = 0 ∨ q % 2 = 1) with k | k <;> rw [k] <;> rfl
set_option maxRecDepth 100000 in
set_option maxHeartbeats 2000000 in
theorem rlowest (m : Nat) (hm : m < 18446744073709551616) (h0 : m ≠ 0) (w : World) :
    Calls Tryd.prog 33 #[.int .u64 (m : Int)] w fun e w' => (∃ i : Nat, e = .returned (.int .i64 (i : Int)) ∧ IsLow m i ∧ i < 64) ∧ w' = w := by
  obtain ⟨k, hk⟩ := IsLow.ex h0
  have HK := Lib.hid hk
  have hk64 : k < 64 := by
    have h1 := hk.1
    unfold bt at h1
    by_cases h : k < 64
    · exact h
    · have : m < 2 ^ k := Nat.lt_of_lt_of_le (by omega : m < 2 ^ 64) (Nat.pow_le_pow_right (by omega) (by omega))
      rw [Nat.div_eq_of_lt this] at h1
      omega
  clear hk h0
  go_enter Tryd.func33, Tryd.ntmps33
  go_wp2
  go_loopw [3] (fun i wr => ∃ j : Nat, i = .int .i64 j ∧ j ≤ k ∧ wr = w) (fun i _ => k - (intOf i).toNat)
  case atStart => exact ⟨0, rfl, by omega, rfl⟩
  case round =>
    obtain ⟨j, rfl, hj, rfl⟩ := hrel
    have HK1 := HK.out.1
    have HK2 := HK.out.2 j
    by_cases hbt : m / 2 ^ j % 2 = 1
    · have e : (((m : Int) / 2 ^ j).tmod 2 == 0) = false := low_zero m j true (by rw [hbt]; rfl)
      obtain rfl : j = k := by
        rcases Nat.lt_or_ge j k with h | h
        · exact absurd hbt (HK2 h)
        · omega
      clear HK1 HK2 hbt
      go_wp2
      go_ret
      exact ⟨⟨j, rfl, HK.out, hk64⟩, rfl⟩
    · have e : (((m : Int) / 2 ^ j).tmod 2 == 0) = true := low_zero m j false (by simpa using hbt)
      have hjk : j < k := by
        rcases Nat.lt_or_ge j k with h | h
        · exact h
        · obtain rfl : j = k := by omega
          exact absurd HK1 hbt
      clear HK1 HK2 hbt
      go_wp2
      go_roundw
      case rel => exact ⟨j + 1, by go_num, by omega, by first | trivial | rfl⟩
      case measure => simp [intOf]; omega
end Go.Proofs.YtedjbjplnjnnlaaDoor
