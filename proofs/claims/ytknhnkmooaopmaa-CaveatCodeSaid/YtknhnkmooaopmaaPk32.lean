/-
  The reference's Eight, by its contract.
-/
import Derived.Test.YtknhnkmooaopmaaPk0
import Derived.Test.YtknhnkmooaopmaaPk1
import Derived.Test.YtknhnkmooaopmaaPk10
import Derived.Test.YtknhnkmooaopmaaPk5
namespace Go.Proofs.Ytknhnkmooaopmaa
open Go Go.RowKit Sh Leaf

set_option maxHeartbeats 1000000 in
theorem eight (n : Nat) (w : World) : Calls Try.prog 62 #[.int .u64 (n : Int)] w fun e w' => ∃ v', e = .returned v' ∧ Own w' w.heap.size v' (be8 n) ∧ Below w.heap.size w w' := by
  go_enter Try.func62, Try.ntmps62
  go_wp2
  go_loopw [3, 4] (fun b i wr => ∃ k : Nat, k ≤ 8 ∧ i = .int .i64 (56 - 8 * (k : Int)) ∧ Own wr w.heap.size b ((be8 n).take k) ∧ Below w.heap.size w wr) (fun _ i _ => (intOf i + 8).toNat)
  case atStart => exact ⟨0, by omega, rfl, own_nil _ _, Below.refl _ _⟩
  case round =>
    obtain ⟨k, hk, rfl, hown, hb⟩ := hrel
    by_cases hlt : k < 8
    · have hl : ((be8 n).take k).length ≤ 8 := by rw [List.length_take, be8_length]; omega
      have hbs := hb.size
      have hz : (n : Int) / 2 ^ (56 - 8 * k) % 256 = bv (BitVec.ofNat 8 (n / 2 ^ (56 - 8 * k))) := by rw [bv_ofNat]; simp
      have i0 : (0 : Int) ≤ 56 - 8 * (k : Int) := by omega
      have HZ := Lib.hid hz
      have HT := Lib.hid (be8_take_succ n hlt)
      clear hz
      go_wp2_with (at_builtin; go_must (refine wpList_append_bytes rfl _ _ rfl w.heap.size _ ((be8 n).take k) rfl (hown.alloc _) _ (.slice (some ⟨wr.heap.size, 0, none⟩) 1 1) _ rfl (bytes_one wr _ _ HZ.out) (by simp only [List.length_singleton]; omega) (by simp; omega) ?_; intro v' w' h1 h2))
      go_roundw
      case rel =>
        refine ⟨k + 1, by omega, by go_num, ?_, (hb.alloc (by omega) _).trans h2⟩
        rw [HT.out]; exact h1
      case measure => simp [intOf]; omega
    · have ek : (be8 n).take k = be8 n := List.take_of_length_le (by rw [be8_length]; omega)
      rw [ek] at hown
      clear ek
      go_wp2
      go_ret
      exact ⟨_, rfl, hown, hb⟩
end Go.Proofs.Ytknhnkmooaopmaa
