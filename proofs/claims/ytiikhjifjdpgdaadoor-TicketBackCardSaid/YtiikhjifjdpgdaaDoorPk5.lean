/-
  KSof
  KNm
  PrdDesc
  PrdEq
-/
import Derived.Laws.DeepStrings4
import Derived.Laws.Concat
import Derived.Test.YtiikhjifjdpgdaaDoorPk3
import Derived.Test.YtiikhjifjdpgdaaDoorPk0
namespace Go.Proofs.YtiikhjifjdpgdaaDoor
open Go Go.RowKit Sh Leaf

def sbytes (s : ByteArray) : List B8 := s.data.toList.map UInt8.toBitVec
theorem sbytes_length (s : ByteArray) : (sbytes s).length = s.size := by simp [sbytes]
@[irreducible] def sof (l : List B8) : ByteArray := ⟨(l.map UInt8.ofBitVec).toArray⟩
theorem sof_toList (l : List B8) : (sof l).toList = l.map UInt8.ofBitVec := by rw [ByteArray.toList_eq]; unfold sof; simp
theorem sof_beq (a b : List B8) : ((sof a).toList == (sof b).toList) = decide (a = b) := by
  rw [sof_toList, sof_toList]
  by_cases h : a = b
  · subst h; simp
  · have : ¬ a.map UInt8.ofBitVec = b.map UInt8.ofBitVec := fun e => h (by
      have := congrArg (List.map UInt8.toBitVec) e
      simpa [List.map_map, Function.comp_def] using this)
    rw [decide_eq_false h]
    simpa using this
end Go.Proofs.YtiikhjifjdpgdaaDoor
namespace Go.Proofs.YtiikhjifjdpgdaaDoor
open Go Go.RowKit Sh Leaf

end Go.Proofs.YtiikhjifjdpgdaaDoor
namespace Go.Proofs.YtiikhjifjdpgdaaDoor
open Go Go.RowKit Sh Leaf

@[irreducible] def pv (p : Prd) : Value := .agg #[.int .i64 p.kind, .int .u64 (p.mask : Int), .int .i64 p.lo, .int .i64 p.hi, .string (sof p.name), .int .i64 p.num]
@[irreducible] def dsv (k : Int) : Value :=
  .agg #[.string (sof (wd k)), .int .i64 (if k = 1 ∨ k = 2 ∨ k = 3 then 1 else if k = 4 ∨ k = 5 then 2 else if k = 6 then 3 else if k = 7 then 4 else 0),
    .int .i64 (if k = 1 then 63 else if k = 2 then 31 else if k = 3 then 6 else if k = 4 then 67108864 else if k = 5 then 1439 else if k = 6 then 16 else if k = 7 then 1000000 else 0), .bool (decide (k = 5))]
end Go.Proofs.YtiikhjifjdpgdaaDoor
namespace Go.Proofs.YtiikhjifjdpgdaaDoor
open Go Go.RowKit Sh Leaf

end Go.Proofs.YtiikhjifjdpgdaaDoor
