/-
  KArg0
  KArg
  KTag
-/
import Derived.Test.YtodmfippjcfbbaaDoorRows
import Derived.ProofKit
import Derived.LaidMore
import Derived.OpenShut
import Derived.Stop.Joined
import Derived.Test.YtodmfippjcfbbaaDoorPk3
namespace Go.Proofs.YtodmfippjcfbbaaDoor
open Go.ChangeShapes Go.WideShapes Go.ChangeAt
open Go Go.RowKit Sh Leaf

theorem byte_of_int (z : Int) (h : (Lit.int .u8 z).wf = true) : Value.int .u8 z = byt (BitVec.ofInt 8 z) := by
  have hz : 0 ≤ z ∧ z ≤ 255 := by simpa [Lit.wf, IntKind.min, IntKind.max, IntKind.signed, IntKind.bits] using h
  have : bv (BitVec.ofInt 8 z) = z := by
    unfold bv
    simp
    omega
  rw [byt, this]
end Go.Proofs.YtodmfippjcfbbaaDoor
namespace Go.Proofs.YtodmfippjcfbbaaDoor
open Go.ChangeShapes Go.WideShapes Go.ChangeAt
open Go Go.RowKit Sh Leaf

end Go.Proofs.YtodmfippjcfbbaaDoor
namespace Go.Proofs.YtodmfippjcfbbaaDoor
open Go.ChangeShapes Go.WideShapes Go.ChangeAt
open Go Go.RowKit Sh Leaf

theorem mapM_each {α β : Type} (f : α → Option β) : ∀ (L : List α) (ys : List β), L.mapM f = some ys → ∀ a, a ∈ L → ∃ y, f a = some y
  | [], _, _ => fun a h => by cases h
  | i :: L, xs, h => by
    rw [List.mapM_cons] at h
    simp only [bind, Option.bind_eq_some_iff, pure, Option.some.injEq] at h
    obtain ⟨y, hy, ys, hys, rfl⟩ := h
    intro a ha
    rcases List.mem_cons.1 ha with rfl | ha
    · exact ⟨y, hy⟩
    · exact mapM_each f L ys hys a ha
def unb : Value → B8
  | .int _ z => BitVec.ofInt 8 z
  | _ => 0
set_option maxRecDepth 20000 in
theorem tag_of_arg {H : Type} {enc : TypeId × Value → H} {W : World} {base : Nat} {v : Value} {d : DataW H} {p : List MemPlace} (hv : Value.okWide Tryd.prog W .any base 28 v)
    (h : DataW.Trod enc Tryd.prog W 0 (fun _ => true) true 28 v d p) : ∃ K : List B8, K.length = 32 ∧ v = .agg (K.map byt).toArray := by
  have hc : Tryd.prog.cellsOf 28 = 32 := by kernel_rfl
  have h1 : Tryd.prog.cellsOf 5 = 1 := by kernel_rfl
  simp only [Value.okWide, Tryd.underlying28] at hv
  obtain ⟨xs, rfl, hn, _⟩ := hv
  rw [hc] at hn
  obtain ⟨fuel, hf⟩ := h
  cases fuel with
  | zero => simp [DataW.trod] at hf
  | succ m =>
    rw [DataW.trod_step] at hf
    unfold DataW.trodStep at hf
    simp only [Tryd.underlying28, Value.cells] at hf
    rw [if_pos (by rw [hc]; simpa using hn)] at hf
    simp only [Option.map_eq_some_iff] at hf
    obtain ⟨ys, hy, -⟩ := hf
    have each : ∀ x, x ∈ xs.toList → byt (unb x) = x := by
      intro x hx
      obtain ⟨i, hi, rfl⟩ := List.getElem_of_mem hx
      have hi' : i < 32 := by simpa [hn] using hi
      obtain ⟨y, hyi⟩ := mapM_each _ _ _ hy i (List.mem_range.2 hi')
      rw [h1, Nat.mul_one] at hyi
      have ht : (xs.toList.drop i).take 1 = [xs.toList[i]] := by
        rw [List.drop_eq_getElem_cons hi]
        rfl
      rw [ht] at hyi
      obtain ⟨z, hz, -, hw⟩ := DataW.trod_int Tryd.underlying5 hyi
      have hz' : xs.toList[i] = .int .u8 z := by simpa using hz
      rw [hz']
      exact (byte_of_int z hw).symm
    refine ⟨xs.toList.map unb, by simp [hn], ?_⟩
    have he : xs.toList.map (byt ∘ unb) = xs.toList := (List.map_congr_left (g := id) fun x hx => each x hx).trans (List.map_id _)
    rw [List.map_map, he]
end Go.Proofs.YtodmfippjcfbbaaDoor
