/-
  Parts of a slice of predicates.
-/
import Derived.Test.YtbbkjdckogcbgaaPk15
namespace Go.Proofs.Ytbbkjdckogcbgaa
open Go Go.RowKit Sh Leaf

theorem elem_prds : Try.prog.underlying 39 = some (.slice (Try.prog.elem 39)) := by kernel_rfl
theorem run_sizeOf_six {P : Program} {e : TypeId} (hc : (P.info? e).map (·.size) = some 6) (W : World) : (sizeOf e).run P W = .ok 6 W := by
  cases hq : P.info? e with
  | none => simp [hq] at hc
  | some i => simp [hq] at hc; simp [sizeOf, typeInfo, hq, hc]
theorem size_prd (W : World) : (sizeOf (Try.prog.elem 39)).run Try.prog W = .ok 6 W := run_sizeOf_six (by kernel_rfl) W
/-- l[k:] -/
theorem run_pcut_from (A : Option Addr) (len c k : Nat) (hk : k ≤ len) (W : World) :
    (Instr.sliceAt 39 (.slice A len c) (some (.int .i64 (k : Int))) none none).run Try.prog W = .ok (.slice (if c = k then A else A.map (·.add (k * 6))) (len - k) (c - k)) W := by
  rw [run_sliceAt_slice W _ _ _ _ _ elem_prds, run_slice_l W 39 A len c elem_prds .i64 (k : Int) (by omega) (by omega), size_prd]
  simp [sliced, Result.andThen]
/-- l[:k] -/
theorem run_pcut_to (A : Option Addr) (len c k : Nat) (hk : k ≤ c) (W : World) :
    (Instr.sliceAt 39 (.slice A len c) none (some (.int .i64 (k : Int))) none).run Try.prog W = .ok (.slice A k c) W := by
  rw [run_sliceAt_slice W _ _ _ _ _ elem_prds, run_slice_h W 39 A len c elem_prds .i64 (k : Int) (by omega) (by omega), size_prd]
  have e : Option.map (fun x : Addr => x.add 0) A = A := by
    cases A with
    | none => rfl
    | some a => simp [Addr.add]
  simp [sliced, Result.andThen, e]
theorem pcs_take : ∀ (l : List Prd) (k : Nat), pcs (l.take k) = (pcs l).take (k * 6)
  | [], k => by simp [pcs]
  | p :: t, 0 => by simp [pcs]
  | p :: t, k + 1 => by
    rw [List.take_succ_cons, pcs_cons, pcs_cons, pcs_take t k, List.take_append, pcl_length, show (k + 1) * 6 - 6 = k * 6 by omega, List.take_of_length_le (l := pcl p) (by rw [pcl_length]; omega)]
theorem pcs_drop : ∀ (l : List Prd) (k : Nat), pcs (l.drop k) = (pcs l).drop (k * 6)
  | [], k => by simp [pcs]
  | p :: t, 0 => by simp [pcs]
  | p :: t, k + 1 => by
    rw [List.drop_succ_cons, pcs_cons, pcs_drop t k, List.drop_append, pcl_length, show (k + 1) * 6 - 6 = k * 6 by omega, List.drop_of_length_le (l := pcl p) (by rw [pcl_length]; omega)]
    rfl
section
variable {w w' : World} {Q : Nat → Prop} {A : Option Addr} {c : Nat} {l : List Prd}
/-- What l[:k] reads as. -/
theorem Prds.cut (h : Prds w Q A c l) (k : Nat) (hk : k ≤ l.length) : (l.take k).length = k ∧ Prds w Q A c (l.take k) := by
  obtain ⟨h1, h2, h3, h4, h5⟩ := h
  have e : (l.take k).length = k := by rw [List.length_take]; omega
  refine ⟨e, by omega, h2, h3, fun p hp => h4 p (List.mem_of_mem_take hp), fun hl => ?_⟩
  obtain ⟨g, o, hA, hq, hg, hc⟩ := h5 (by omega)
  refine ⟨g, o, hA, hq, hg, fun j v hj => hc j v ?_⟩
  rw [pcs_take, List.getElem?_take] at hj
  split at hj
  · exact hj
  · cases hj
/-- What l[k:] reads as. -/
theorem Prds.from (h : Prds w Q A c l) (k : Nat) (hk : k ≤ l.length) : (l.drop k).length = l.length - k ∧ Prds w Q (if c = k then A else A.map (·.add (k * 6))) (c - k) (l.drop k) := by
  obtain ⟨h1, h2, h3, h4, h5⟩ := h
  have e : (l.drop k).length = l.length - k := List.length_drop
  refine ⟨e, by omega, by omega, fun hA => ?_, fun p hp => h4 p (List.mem_of_mem_drop hp), fun hl => ?_⟩
  · by_cases hck : c = k
    · omega
    · rw [if_neg hck] at hA
      have : A = none := by cases A with
        | none => rfl
        | some a => simp at hA
      have := h3 this
      omega
  · obtain ⟨g, o, hA, hq, hg, hc⟩ := h5 (by omega)
    subst hA
    refine ⟨g, o + k * 6, ?_, hq, hg, fun j v hj => ?_⟩
    · rw [if_neg (by omega)]
      simp [Addr.add_mid]
    · rw [pcs_drop, List.getElem?_drop] at hj
      have := hc (k * 6 + j) v hj
      rw [← Nat.add_assoc] at this
      exact this
/-- Cells below B stay. -/
theorem Prds.low {B : Nat} (h : Prds w (fun g => g < B) A c l) (hb : Below B w w') : Prds w' (fun g => g < B) A c l := h.keep hb.size fun g _ hq => hb.block g hq
end
end Go.Proofs.Ytbbkjdckogcbgaa
