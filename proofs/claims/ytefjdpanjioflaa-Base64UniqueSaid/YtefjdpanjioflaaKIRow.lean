/-
  A row of numbers, or of bytes, that is known whole as a list; make of numbers.
-/
import Derived.Test.YtefjdpanjioflaaKMake
namespace Go.Proofs.Ytefjdpanjioflaa
open Go Go.RowKit Sh Leaf

abbrev vint (z : Int) : Value := .int .i64 z
section
variable {α : Type} {w : World} {g : Nat} {t : TypeId} {l : List α} {f : α → Value}
theorem Whole.at (h : Whole w g t (l.map f).toArray) (k : Nat) (hk : k < l.length) : w.cell? ⟨g, k, none⟩ = some (f l[k]) := by
  rw [h.cell]; simp [hk]
theorem Whole.any (h : Whole w g t (l.map f).toArray) (k : Nat) (hk : k < l.length) : ∃ x, w.cell? ⟨g, k, none⟩ = some (f x) := ⟨_, h.at k hk⟩
theorem Whole.put (h : Whole w g t (l.map f).toArray) (k : Nat) (x : α) : Whole (w.setCell ⟨g, k, none⟩ (f x)) g t ((l.set k x).map f).toArray := by
  have := h.set k (f x)
  rw [List.setIfInBounds_toArray, ← List.map_set] at this
  exact this
end
theorem intInfo : (Try.prog.info? 3).map (fun i => (i.zero, i.size, i.bytes)) = some (some (.int .i64 0), 1, 8) := by kernel_rfl
@[irreducible] def zints (m : Nat) : Array Value := ((List.replicate m (0 : Int)).map vint).toArray
theorem zints_eq (m : Nat) : zints m = ((List.replicate m (0 : Int)).map vint).toArray := by unfold zints; rfl
theorem make_ints (z : Int) (m : Nat) (hz : z = (m : Int)) (hm : m ≤ 1000000) (W : World) :
    (Instr.makeSlice 40 (.int .i64 z) (.int .i64 z)).run Try.prog W = .ok (.slice (some ⟨W.heap.size, 0, none⟩) m m) (W.alloc (.cells (zints m) 3)) := by
  subst hz
  rw [zints_eq]
  obtain ⟨i0, hi, hz0, hz1, hz2⟩ := info_parts intInfo
  have h := run_make (P := Try.prog) (w := W) 40 3 i0 (.int .i64 0) Try.underlying40 hi hz0 .i64 .i64 (m : Int) (m : Int) (by omega) (by omega) (by rw [hz2]; omega) (by omega)
  rw [h, hz1]
  have e : madeCells (Value.int .i64 0).cells (m * 1) = ((List.replicate m (0 : Int)).map vint).toArray := by
    apply Array.ext_getElem?
    intro i
    by_cases hi : i < m
    · simp [madeCells, Value.cells, hi, Nat.mod_one]
    · simp [madeCells, Value.cells, hi]
  rw [← e]
  simp
theorem set_take {α : Type} (L : List α) (i : Nat) (z : α) (h : i < L.length) : (L.set i z).take (i + 1) = L.take i ++ [z] := by
  apply List.ext_getElem?
  intro j
  rw [List.getElem?_take, List.getElem?_set]
  by_cases h1 : j < i
  · rw [if_pos (by omega), if_neg (by omega), List.getElem?_append_left (by simp; omega), List.getElem?_take, if_pos h1]
  · by_cases h2 : j = i
    · subst h2
      rw [if_pos (by omega), if_pos rfl, if_pos h, List.getElem?_append_right (by simp; omega)]
      simp [Nat.min_eq_left (Nat.le_of_lt h)]
    · rw [if_neg (by omega), List.getElem?_eq_none (by simp; omega)]
end Go.Proofs.Ytefjdpanjioflaa
