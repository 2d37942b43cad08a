/-
  KArg0
  KArg
-/
import Derived.Test.YteekdhcffiaaaaaDoorRows
import Derived.ProofKit
import Derived.LaidMore
import Derived.OpenShut
import Derived.Stop.Joined
import Derived.Test.YteekdhcffiaaaaaDoorPk3
namespace Go.Proofs.YteekdhcffiaaaaaDoor
open Go.ChangeShapes Go.WideShapes Go.ChangeAt
open Go Go.RowKit Sh Leaf

theorem row_c1 : Tryd.prog.cellsOf 5 = 1 := by kernel_rfl
theorem byte_of_int (z : Int) (h : (Lit.int .u8 z).wf = true) : Value.int .u8 z = byt (BitVec.ofInt 8 z) := by
  have hz : 0 ≤ z ∧ z ≤ 255 := by simpa [Lit.wf, IntKind.min, IntKind.max, IntKind.signed, IntKind.bits] using h
  have : bv (BitVec.ofInt 8 z) = z := by
    unfold bv
    simp
    omega
  rw [byt, this]
end Go.Proofs.YteekdhcffiaaaaaDoor
namespace Go.Proofs.YteekdhcffiaaaaaDoor
open Go.ChangeShapes Go.WideShapes Go.ChangeAt
open Go Go.RowKit Sh Leaf

theorem bytes_of_arg {H : Type} {enc : TypeId × Value → H} {W : World} {v : Value} {d : DataW H} {p : List MemPlace} (hv : ∃ a n c, v = .slice a n c)
    (h : DataW.Trod enc Tryd.prog W 0 (fun _ => true) true 39 v d p) : ∃ A l c, v = .slice A l.length c ∧ Bytes W (fun _ => True) v l := by
  obtain ⟨fuel, hf⟩ := h
  obtain ⟨a0, n0, c0, rfl⟩ := hv
  rcases open_ints Tryd.underlying39 Tryd.underlying5 row_c1 hf with ⟨hcs, -⟩ | ⟨a, len, cap, zs, hcs, -, hl, hm, hz, -, hcell, hw⟩
  · simp only [Value.cells, List.cons.injEq, and_true] at hcs
    exact ⟨none, [], 0, hcs, hcs ▸ Bytes.nil _ _⟩
  · simp only [Value.cells, List.cons.injEq, and_true] at hcs
    simp only [if_true] at hz
    have hlen : ((zs.take len).map (BitVec.ofInt 8 ·)).length = len := by simp; omega
    refine ⟨some a, (zs.take len).map (BitVec.ofInt 8 ·), cap, by rw [hlen]; exact hcs, some a, cap, by rw [hlen]; exact hcs, by omega, hm, fun h => (by cases h), fun h0 => ?_⟩
    obtain ⟨b, off, spot⟩ := a
    have hspot : spot = none := by simpa [Addr.add] using World.cell?_spot (hcell 0 (by omega))
    subst hspot
    refine ⟨b, off, rfl, trivial, fun j x hj => ?_⟩
    have hj1 : j < len := by have := (List.getElem?_eq_some_iff.1 hj).1; omega
    have hc := hcell j (by omega)
    have hg : zs[j]? = some (zs.getD j 0) := by rw [List.getD_eq_getElem?_getD, List.getElem?_eq_getElem (by omega)]; rfl
    rw [List.getElem?_map, List.getElem?_take_of_lt hj1, hg] at hj
    injection hj with hj0
    have hj : BitVec.ofInt 8 (zs.getD j 0) = x := hj0
    have := byte_of_int _ (hw _ (List.mem_of_getElem? hg))
    rw [this, hj] at hc
    rw [add_plain] at hc
    exact hc
end Go.Proofs.YteekdhcffiaaaaaDoor
