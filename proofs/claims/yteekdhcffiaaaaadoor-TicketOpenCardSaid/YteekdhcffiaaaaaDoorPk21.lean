/-
  KMake
-/
import Derived.Laws.MakeOwn
import Derived.Test.YteekdhcffiaaaaaDoorPk3
namespace Go.Proofs.YteekdhcffiaaaaaDoor
open Go Go.RowKit Sh Leaf

theorem make_bytes (z : Int) (m : Nat) (hz : z = (m : Int)) (hm : m ≤ 1000000) (W : World) :
    (Instr.makeSlice 39 (.int .i64 z) (.int .i64 z)).run Tryd.prog W = .ok (.slice (some ⟨W.heap.size, 0, none⟩) m m) (W.alloc (.cells (brow m fun _ => 0) 5)) := by
  subst hz
  obtain ⟨i0, hi, hz0, hz1, hz2⟩ := info_parts byteInfo
  have h := run_make (P := Tryd.prog) (w := W) 39 5 i0 (.int .u8 0) Tryd.underlying39 hi hz0 .i64 .i64 (m : Int) (m : Int) (by omega) (by omega) (by rw [hz2]; omega) (by omega)
  rw [h, hz1, brow_zero]
  have e : madeCells (Value.int .u8 0).cells (m * 1) = Array.replicate m (.int .u8 0) := by
    apply Array.ext_getElem?
    intro i
    by_cases hi : i < m
    · simp [madeCells, Value.cells, hi, Nat.mod_one]
    · simp [madeCells, Value.cells, hi]
  rw [← e]
  simp
theorem brow_zeros (m : Nat) : brow m (fun _ => 0) = ((List.replicate m (0 : B8)).map byt).toArray := by
  have := brow_list (List.replicate m (0 : B8))
  rw [List.length_replicate] at this
  rw [← this]
  refine brow_congr fun j hj => ?_
  simp [List.getD_eq_getElem?_getD, hj]
theorem made_bytes (W : World) (m : Nat) (hm : m ≤ 1000000) : Bytes (W.alloc (.cells (brow m fun _ => 0) 5)) (fun b => b = W.heap.size) (.slice (some ⟨W.heap.size, 0, none⟩) m m) (List.replicate m (0 : B8)) := by
  rw [brow_zeros]
  have := (Whole.here W 5 ((List.replicate m (0 : B8)).map byt).toArray).bytes (by simpa using hm)
  rwa [List.length_replicate] at this
end Go.Proofs.YteekdhcffiaaaaaDoor
