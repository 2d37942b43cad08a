/-
  KInts
-/
import Derived.Test.YteekdhcffiaaaaaDoorPk9
import Derived.Test.YteekdhcffiaaaaaDoorPk11
namespace Go.Proofs.YteekdhcffiaaaaaDoor
open Go.ChangeShapes Go.WideShapes Go.ChangeAt
open Go Go.RowKit Sh Leaf

theorem ints_of_arg {H : Type} {enc : TypeId × Value → H} {W : World} {v : Value} {d : DataW H} {p : List MemPlace} (hv : ∃ a n c, v = .slice a n c)
    (h : DataW.Trod enc Tryd.prog W 0 (fun _ => true) true 22 v d p) : ∃ A l c, v = .slice A l.length c ∧ Ints W (fun _ => True) A c l := by
  obtain ⟨fuel, hf⟩ := h
  obtain ⟨a0, n0, c0, rfl⟩ := hv
  rcases open_ints Tryd.underlying22 Tryd.underlying3 (by kernel_rfl) hf with ⟨hcs, -⟩ | ⟨a, len, cap, zs, hcs, -, hl, hm, hz, -, hcell, hw⟩
  · simp only [Value.cells, List.cons.injEq, and_true] at hcs
    exact ⟨none, [], 0, hcs, by simp, by simp, fun _ => rfl, fun z h => (by cases h), fun h => (by cases h)⟩
  · simp only [Value.cells, List.cons.injEq, and_true] at hcs
    simp only [if_true] at hz
    have hlen : (zs.take len).length = len := by simp; omega
    refine ⟨some a, zs.take len, cap, by rw [hlen]; exact hcs, by omega, hm, fun h => (by cases h), fun z hzm => ?_, fun h0 => ?_⟩
    · have := hw z (List.mem_of_mem_take hzm)
      simpa [Lit.wf, IntKind.min, IntKind.max, IntKind.signed, IntKind.bits] using this
    obtain ⟨b, off, spot⟩ := a
    have hspot : spot = none := by simpa [Addr.add] using World.cell?_spot (hcell 0 (by omega))
    subst hspot
    refine ⟨b, off, rfl, trivial, World.block_lt_of_cell? W _ (hcell 0 (by omega)), fun j x hj => ?_⟩
    have hj1 : j < len := by have := (List.getElem?_eq_some_iff.1 hj).1; omega
    have hc := hcell j (by omega)
    have hg : zs[j]? = some (zs.getD j 0) := by rw [List.getD_eq_getElem?_getD, List.getElem?_eq_getElem (by omega)]; rfl
    rw [List.getElem?_take_of_lt hj1, hg] at hj
    injection hj with hj0
    rw [hj0, add_plain] at hc
    exact hc
end Go.Proofs.YteekdhcffiaaaaaDoor
