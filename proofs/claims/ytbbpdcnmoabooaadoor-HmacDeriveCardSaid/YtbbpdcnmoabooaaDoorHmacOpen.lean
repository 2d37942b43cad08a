/-
  What a parameter of [32]byte, and one of []int, is.
-/
import Derived.Test.YtbbpdcnmoabooaaDoorShaRow
import Derived.Test.YtbbpdcnmoabooaaDoorHmacDerLaw
namespace Go.Proofs.YtbbpdcnmoabooaaDoor
open Go Go.ChangeShapes Go.WideShapes Go.ChangeAt Go.RowKit Sh Leaf

theorem mapM_each {α β : Type} (f : α → Option β) : ∀ (L : List α) (ys : List β), L.mapM f = some ys → ∀ a, a ∈ L → ∃ y, f a = some y
  | [], _, _ => fun a h => by cases h
  | i :: L, xs, h => by
    rw [List.mapM_cons] at h
    simp only [bind, Option.bind_eq_some_iff, pure, Option.some.injEq] at h
    obtain ⟨y, hy, ys, hys, rfl⟩ := h
    intro a ha
    rcases List.mem_cons.1 ha with rfl | ha
    · exact ⟨y, hy⟩
    · exact mapM_each f L ys hys a ha
def unb : Value → B8
  | .int _ z => BitVec.ofInt 8 z
  | _ => 0

theorem tag_of_arg {H : Type} {enc : TypeId × Value → H} {W : World} {base : Nat} {v : Value} {d : DataW H} {p : List MemPlace} (hv : Value.okWide Tryd.prog W .any base 26 v)
    (h : DataW.Trod enc Tryd.prog W 0 (fun _ => true) true 26 v d p) : ∃ K : List B8, K.length = 32 ∧ v = .agg (K.map byt).toArray := by
  have hc : Tryd.prog.cellsOf 26 = 32 := by kernel_rfl
  have h1 : Tryd.prog.cellsOf 5 = 1 := by kernel_rfl
  simp only [Value.okWide, Tryd.underlying26] at hv
  obtain ⟨xs, rfl, hn, _⟩ := hv
  rw [hc] at hn
  obtain ⟨fuel, hf⟩ := h
  cases fuel with
  | zero => simp [DataW.trod] at hf
  | succ m =>
    rw [DataW.trod_step] at hf
    unfold DataW.trodStep at hf
    simp only [Tryd.underlying26, Value.cells] at hf
    rw [if_pos (by rw [hc]; simpa using hn)] at hf
    simp only [Option.map_eq_some_iff] at hf
    obtain ⟨ys, hy, -⟩ := hf
    have each : ∀ x, x ∈ xs.toList → byt (unb x) = x := by
      intro x hx
      obtain ⟨i, hi, rfl⟩ := List.getElem_of_mem hx
      have hi' : i < 32 := by simpa [hn] using hi
      obtain ⟨y, hyi⟩ := mapM_each _ _ _ hy i (List.mem_range.2 hi')
      rw [h1, Nat.mul_one] at hyi
      have ht : (xs.toList.drop i).take 1 = [xs.toList[i]] := by
        rw [List.drop_eq_getElem_cons hi]
        rfl
      rw [ht] at hyi
      obtain ⟨z, hz, -, hw⟩ := DataW.trod_int Tryd.underlying5 hyi
      have hz' : xs.toList[i] = .int .u8 z := by simpa using hz
      rw [hz']
      exact (byte_of_int z hw).symm
    refine ⟨xs.toList.map unb, by simp [hn], ?_⟩
    have he : xs.toList.map (byt ∘ unb) = xs.toList := (List.map_congr_left (g := id) fun x hx => each x hx).trans (List.map_id _)
    rw [List.map_map, he]

theorem ints_of_arg {H : Type} {enc : TypeId × Value → H} {W : World} {v : Value} {d : DataW H} {p : List MemPlace} (hv : ∃ a n c, v = .slice a n c)
    (h : DataW.Trod enc Tryd.prog W 0 (fun _ => true) true 41 v d p) : ∃ A l c, v = .slice A l.length c ∧ Ints W (fun _ => True) A c l := by
  obtain ⟨fuel, hf⟩ := h
  obtain ⟨a0, n0, c0, rfl⟩ := hv
  rcases open_ints Tryd.underlying41 Tryd.underlying3 (by kernel_rfl) hf with ⟨hcs, -⟩ | ⟨a, len, cap, zs, hcs, -, hl, hm, hz, -, hcell, hw⟩
  · simp only [Value.cells, List.cons.injEq, and_true] at hcs
    exact ⟨none, [], 0, hcs, by simp, by simp, fun _ => rfl, fun z h => (by cases h), fun h => (by cases h)⟩
  · simp only [Value.cells, List.cons.injEq, and_true] at hcs
    simp only [if_true] at hz
    have hlen : (zs.take len).length = len := by simp; omega
    refine ⟨some a, zs.take len, cap, by rw [hlen]; exact hcs, by omega, hm, fun h => (by cases h), fun z hzm => ?_, fun h0 => ?_⟩
    · have := hw z (List.mem_of_mem_take hzm)
      simpa [Lit.wf, IntKind.min, IntKind.max, IntKind.signed, IntKind.bits] using this
    obtain ⟨b, off, spot⟩ := a
    have hspot : spot = none := by simpa [Addr.add] using World.cell?_spot (hcell 0 (by omega))
    subst hspot
    refine ⟨b, off, rfl, trivial, World.block_lt_of_cell? W _ (hcell 0 (by omega)), fun j x hj => ?_⟩
    have hj1 : j < len := by have := (List.getElem?_eq_some_iff.1 hj).1; omega
    have hc := hcell j (by omega)
    have hg : zs[j]? = some (zs.getD j 0) := by rw [List.getD_eq_getElem?_getD, List.getElem?_eq_getElem (by omega)]; rfl
    rw [List.getElem?_take_of_lt hj1, hg] at hj
    injection hj with hj0
    rw [hj0, add_plain] at hc
    exact hc
end Go.Proofs.YtbbpdcnmoabooaaDoor
