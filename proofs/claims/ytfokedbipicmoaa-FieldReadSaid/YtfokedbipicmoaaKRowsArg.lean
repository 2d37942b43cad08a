/-
  What a parameter is: a slice of slices of bytes.
-/
import Derived.Test.YtfokedbipicmoaaKArg
import Derived.Test.YtfokedbipicmoaaKRows
import Derived.Deep.Matrix
namespace Go.Proofs.Ytfokedbipicmoaa
open Go.ChangeShapes Go.WideShapes Go.ChangeAt
open Go Go.RowKit Sh Leaf

theorem bytes_of_cells {W : World} (A : Option Addr) (L C : Nat) (Z : List Int) (hl : L ≤ C) (hm : C ≤ maxLen) (hz : Z.length = C) (hw : ∀ n ∈ Z, (Lit.int .u8 n).wf = true) (hn : A = none → C = 0)
    (hc : ∀ a', A = some a' → ∀ c, c < C → W.cell? (a'.add c) = some (.int .u8 (Z.getD c 0))) : ((Z.take L).map (BitVec.ofInt 8 ·)).length = L ∧ Bytes W (fun _ => True) (.slice A L C) ((Z.take L).map (BitVec.ofInt 8 ·)) := by
  have hlen : ((Z.take L).map (BitVec.ofInt 8 ·)).length = L := by simp; omega
  refine ⟨hlen, A, C, by rw [hlen], by rw [hlen]; exact hl, hm, hn, fun h0 => ?_⟩
  cases A with
  | none => have := hn rfl; omega
  | some a =>
    obtain ⟨b, off, spot⟩ := a
    have hspot : spot = none := by simpa [Addr.add] using World.cell?_spot (hc _ rfl 0 (by omega))
    subst hspot
    refine ⟨b, off, rfl, trivial, fun j x hj => ?_⟩
    have hj1 : j < L := by have := (List.getElem?_eq_some_iff.1 hj).1; omega
    have h1 := hc _ rfl j (by omega)
    have hg : Z[j]? = some (Z.getD j 0) := by rw [List.getD_eq_getElem?_getD, List.getElem?_eq_getElem (by omega)]; rfl
    rw [List.getElem?_map, List.getElem?_take_of_lt hj1, hg] at hj
    injection hj with hj0
    have hj : BitVec.ofInt 8 (Z.getD j 0) = x := hj0
    have := byte_of_int _ (hw _ (List.mem_of_getElem? hg))
    rw [this, hj, add_plain] at h1
    exact h1
theorem lists_of_arg {H : Type} {enc : TypeId × Value → H} {W : World} {v : Value} {d : DataW H} {p : List MemPlace} (hv : ∃ a n c, v = .slice a n c)
    (h : DataW.Trod enc Try.prog W 0 (fun _ => true) true 32 v d p) : ∃ A ll c, v = .slice A ll.length c ∧ Lists W v ll := by
  obtain ⟨fuel, hf⟩ := h
  obtain ⟨a0, n0, c0, rfl⟩ := hv
  rcases Go.Deep.open_int_rows Try.underlying32 Try.underlying22 Try.underlying5 (by kernel_rfl) row_c1 hf with ⟨hcs, -⟩ | ⟨a, len, cap, A, L, C, Z, hcs, -, hl, hm, -, hrow⟩
  · simp only [Value.cells, List.cons.injEq, and_true] at hcs
    exact ⟨none, [], 0, hcs, hcs ▸ Lists.nil _⟩
  · simp only [Value.cells, List.cons.injEq, and_true] at hcs
    have hb : ∀ r, r < len → (((Z r).take (L r)).map (BitVec.ofInt 8 ·)).length = L r ∧ Bytes W (fun _ => True) (.slice (A r) (L r) (C r)) (((Z r).take (L r)).map (BitVec.ofInt 8 ·)) := fun r hr => by
      obtain ⟨_, h1, h2, h3, h4, h5, h6⟩ := hrow r (by omega)
      exact bytes_of_cells (A r) (L r) (C r) (Z r) h1 h2 h3 h4 h5 fun a' ha => (h6 a' ha).2
    have hlen : ((List.range len).map fun r => ((Z r).take (L r)).map (BitVec.ofInt 8 ·)).length = len := by simp
    refine ⟨some a, (List.range len).map fun r => ((Z r).take (L r)).map (BitVec.ofInt 8 ·), cap, by rw [hlen]; exact hcs, some a, cap, (List.range len).map fun r => .slice (A r) (L r) (C r), by rw [hlen]; exact hcs, by rw [hlen]; exact hl, hm, fun h => (by cases h), ⟨by simp, fun j u x h1 h2 => ?_⟩, fun h0 => ?_⟩
    · have hj : j < len := by have := (List.getElem?_eq_some_iff.1 h1).1; simpa using this
      rw [List.getElem?_map, List.getElem?_range hj] at h1 h2
      simp only [Option.map_some, Option.some.injEq] at h1 h2
      subst h1 h2
      exact Bytes.mono (hb j hj).2 fun g hg _ => .inl hg
    · rw [hlen] at h0
      obtain ⟨b, off, spot⟩ := a
      have hspot : spot = none := by simpa [Addr.add] using World.cell?_spot (hrow 0 (by omega)).1
      subst hspot
      refine ⟨b, off, rfl, fun j u hj => ?_⟩
      have hj1 : j < len := by have := (List.getElem?_eq_some_iff.1 hj).1; simpa using this
      rw [List.getElem?_map, List.getElem?_range hj1] at hj
      simp only [Option.map_some, Option.some.injEq] at hj
      subst hj
      have := (hrow j (by omega)).1
      rw [add_plain] at this
      exact this
end Go.Proofs.Ytfokedbipicmoaa
