/-
  Plain facts: the state behind some bytes does not hang on how they were divided.
-/
import Derived.Test.YtbbpdcnmoabooaaDoorShaSpec
namespace Go.Proofs.YtbbpdcnmoabooaaDoor
namespace Sh

def stAfter (l : List B8) : St := blocks init l (l.length / 64)
def restOf (l : List B8) : List B8 := l.drop (64 * (l.length / 64))
theorem restOf_length (l : List B8) : (restOf l).length = l.length % 64 := by unfold restOf; rw [List.length_drop]; omega
theorem blocks_more (s : St) (l : List B8) (q n : Nat) : blocks (blocks s l q) (l.drop (64 * q)) n = blocks s l (q + n) := by
  induction n with
  | zero => rfl
  | succ n ih =>
    rw [blocks_succ, ih, ← Nat.add_assoc, blocks_succ, List.drop_drop]
    congr 3
    omega
theorem blocks_prefix (s : St) (l b : List B8) (q : Nat) (h : 64 * q ≤ l.length) : blocks s (l ++ b) q = blocks s l q := by
  induction q with
  | zero => rfl
  | succ q ih =>
    rw [blocks_succ, blocks_succ, ih (by omega), List.drop_append, List.take_append]
    have h1 : 64 * q - l.length = 0 := by omega
    have h2 : 64 - (l.drop (64 * q)).length = 0 := by rw [List.length_drop]; omega
    rw [h2, List.take_zero, List.append_nil]
theorem rest_append (l b : List B8) : restOf l ++ b = (l ++ b).drop (64 * (l.length / 64)) := by
  unfold restOf
  rw [List.drop_append_of_le_length (by omega)]
theorem st_write (l b : List B8) : blocks (stAfter l) (restOf l ++ b) ((restOf l ++ b).length / 64) = stAfter (l ++ b) := by
  have h : 64 * (l.length / 64) ≤ l.length := by omega
  unfold stAfter
  rw [← blocks_prefix init l b _ h, rest_append, blocks_more]
  congr 1
  rw [List.length_drop, List.length_append]
  omega
theorem rest_write (l b : List B8) : (restOf l ++ b).drop (64 * ((restOf l ++ b).length / 64)) = restOf (l ++ b) := by
  rw [rest_append, List.drop_drop]
  unfold restOf
  congr 1
  rw [List.length_drop, List.length_append]
  omega
theorem sha_eq (l : List B8) : sha l = digest (stAfter (l ++ pad l.length)) := rfl
theorem stAfter_nil : stAfter [] = init := rfl
theorem restOf_nil : restOf [] = [] := rfl
end Sh
end Go.Proofs.YtbbpdcnmoabooaaDoor
