/-
  KSof
-/
import Derived.Laws.DeepStrings4
import Derived.Laws.Concat
import Derived.Test.YteekdhcffiaaaaaPk1
namespace Go.Proofs.Yteekdhcffiaaaaa
open Go Go.RowKit Sh Leaf

def sbytes (s : ByteArray) : List B8 := s.data.toList.map UInt8.toBitVec
theorem sbytes_length (s : ByteArray) : (sbytes s).length = s.size := by simp [sbytes]
@[irreducible] def sof (l : List B8) : ByteArray := ⟨(l.map UInt8.ofBitVec).toArray⟩
theorem sof_size (l : List B8) : (sof l).size = l.length := by unfold sof; simp [ByteArray.size]
theorem sof_bytes (s : ByteArray) : sof (sbytes s) = s := by
  unfold sof sbytes
  apply ByteArray.ext
  simp [List.map_map, Function.comp_def]
theorem str_sof (s : ByteArray) : ∃ l : List B8, s = sof l ∧ l.length = s.size := ⟨sbytes s, (sof_bytes s).symm, sbytes_length s⟩
theorem sof_toList (l : List B8) : (sof l).toList = l.map UInt8.ofBitVec := by rw [ByteArray.toList_eq]; unfold sof; simp
theorem sof_beq (a b : List B8) : ((sof a).toList == (sof b).toList) = decide (a = b) := by
  rw [sof_toList, sof_toList]
  by_cases h : a = b
  · subst h; simp
  · have : ¬ a.map UInt8.ofBitVec = b.map UInt8.ofBitVec := fun e => h (by
      have := congrArg (List.map UInt8.toBitVec) e
      simpa [List.map_map, Function.comp_def] using this)
    rw [decide_eq_false h]
    simpa using this
theorem sof_extract (l : List B8) (a b : Nat) : (sof l).extract a b = sof ((l.drop a).take (b - a)) := by
  unfold sof; rw [ByteArray.extract_mk, ← List.map_drop, ← List.map_take]
theorem sof_to (l : List B8) (b : Nat) : (sof l).extract 0 b = sof (l.take b) := by rw [sof_extract]; simp
end Go.Proofs.Yteekdhcffiaaaaa
