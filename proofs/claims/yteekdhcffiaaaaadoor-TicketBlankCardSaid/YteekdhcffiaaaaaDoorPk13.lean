/-
  KStruct
  KTmsArg
-/
import Derived.Lib.SmallJoins
import Derived.Test.YteekdhcffiaaaaaDoorPk9
import Derived.Test.YteekdhcffiaaaaaDoorPk5
namespace Go.Proofs.YteekdhcffiaaaaaDoor
open Go.ChangeShapes Go.WideShapes Go.ChangeAt Go.Joins Go.Deep
open Go Go.RowKit Sh Leaf

section
variable {H : Type} {enc : TypeId × Value → H} {P : Program} {w : World} {base : Nat} {spare : Nat → Bool} {held : Bool}
theorem open_cells {r : Reach} {b0 : Nat} {t : TypeId} {fs : Array Field} {v : Value} {d : DataW H} {p : List MemPlace} (hs : P.underlying t = some (.struct fs)) (hone : oneCellFields P fs = true) (hC : P.cellsOf t = fs.size)
    (hv : Value.okWide P w r b0 t v) (h : DataW.Trod enc P w base spare held t v d p) :
    ∃ cs : Array Value, v = .agg cs ∧ cs.size = fs.size ∧ ∀ (i : Nat) (f : Field), fs[i]? = some f → ∃ (n : Nat) (y : DataW H × List MemPlace) (c : Value), cs[i]? = some c ∧ DataW.trod enc P w base spare held n f.type [c] = some y := by
  obtain ⟨cs, rfl, hsz⟩ := okWide_struct hs hv
  rw [hC] at hsz
  refine ⟨cs, rfl, hsz, fun i f hf => ?_⟩
  obtain ⟨fuel, ht⟩ := h
  obtain ⟨xs, n, _, hx, hl, hlen, hy⟩ := DataW.trod_struct hs ht
  obtain ⟨o, k⟩ := hone_of hone i f hf
  have hi : i < fs.size := (Array.getElem?_eq_some_iff.1 hf).1
  have hi' : i < cs.size := by omega
  have h1 := hy i f hf
  rw [o, k] at h1
  have ht1 : (cs.toList.drop i).take 1 = [cs[i]] := by
    rw [List.drop_eq_getElem_cons (by simpa using hi')]
    rfl
  rw [Value.cells, ht1] at h1
  exact ⟨n, xs[i]'(by omega), cs[i], Array.getElem?_eq_getElem hi', by
    rw [h1]
    exact List.getElem?_eq_getElem (by omega)⟩
theorem cell_int {e : TypeId} {q : IntKind} {n : Nat} {c : Value} {y : DataW H × List MemPlace} (he : P.underlying e = some (.int q)) (h : DataW.trod enc P w base spare held n e [c] = some y) : ∃ z : Int, c = .int q z ∧ (Lit.int q z).wf = true := by
  obtain ⟨z, hz, _, hw⟩ := DataW.trod_int he h
  exact ⟨z, by simpa using hz, hw⟩
end
end Go.Proofs.YteekdhcffiaaaaaDoor
namespace Go.Proofs.YteekdhcffiaaaaaDoor
open Go Go.ChangeShapes Go.WideShapes Go.ChangeAt Go.RowKit Sh Leaf
section
variable {H : Type} {enc : TypeId × Value → H} {w : World} {base : Nat} {spare : Nat → Bool} {held : Bool}
set_option maxRecDepth 100000 in
theorem tms_arg {r : Reach} {b0 : Nat} {v : Value} {d : DataW H} {p : List MemPlace} (hv : Value.okWide Tryd.prog w r b0 24 v) (h : DataW.Trod enc Tryd.prog w base spare held 24 v d p) :
    ∃ (lo hi : Int), v = .agg #[.int .i64 lo, .int .i64 hi] ∧ (-9223372036854775808 ≤ lo ∧ lo ≤ 9223372036854775807) ∧ (-9223372036854775808 ≤ hi ∧ hi ≤ 9223372036854775807) := by
  obtain ⟨cs, rfl, hsz, hc⟩ := open_cells Tryd.underlying24 (by kernel_rfl) (by kernel_rfl) hv h
  obtain ⟨n0, y0, a0, e0, h0⟩ := hc 0 _ rfl
  obtain ⟨n1, y1, a1, e1, h1⟩ := hc 1 _ rfl
  obtain ⟨lo, rfl, hw0⟩ := cell_int Tryd.underlying3 h0
  obtain ⟨hi, rfl, hw⟩ := cell_int Tryd.underlying3 h1
  refine ⟨lo, hi, ?_, ?_, ?_⟩
  · congr 1
    apply Array.ext_getElem?
    intro i
    match i with
    | 0 => exact e0
    | 1 => exact e1
    | i + 2 => rw [Array.getElem?_eq_none (by rw [hsz]; exact Nat.le_add_left _ _), Array.getElem?_eq_none (by simp)]
  · simpa [Lit.wf, IntKind.min, IntKind.max, IntKind.signed, IntKind.bits] using hw0
  · simpa [Lit.wf, IntKind.min, IntKind.max, IntKind.signed, IntKind.bits] using hw
end
end Go.Proofs.YteekdhcffiaaaaaDoor
