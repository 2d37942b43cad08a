/-
  append(own, make([]byte, k)...): zero bytes behind an own row of bytes.
-/
import Derived.Test.YtbbpdcnmoabooaaDoorHmacEqLaw
import Derived.Lib.AppendZeros
import Derived.Lib.AppendZerosOnto
namespace Go.Proofs.YtbbpdcnmoabooaaDoor
open Go Go.RowKit Sh Leaf

theorem run_append_zeros {w : World} (ty : TypeId) (base : Nat) (v : Value) (xs : List B8) (hown : w.ownsRow base 5 1 v xs.length (xs.map byt)) (k : Nat) (hk : k ≤ 1000) (hx : xs.length ≤ 1000) (hbase : base ≤ w.heap.size) :
    ∃ v' w', (Builtin.append_ #[22, 3] ty #[v, .int .i64 (k : Int)]).run Tryd.prog w = .ok v' w' ∧ w'.ownsRow base 5 1 v' (xs ++ List.replicate k (0 : B8)).length ((xs ++ List.replicate k (0 : B8)).map byt) ∧ Below base w w' := by
  obtain ⟨i0, hi, hz0, hz1, hz2⟩ := info_parts byteInfo
  have hlen : (xs ++ List.replicate k (0 : B8)).length = xs.length + k := by simp
  have hzr : (List.replicate k (0 : B8)).map byt = List.replicate k (.int .u8 0) := by rw [List.map_replicate, byt, bv_zero]
  have hown' := hown
  rcases hown.2 with ⟨rfl, hn⟩ | ⟨g, cap, cur, rfl, hg, hh, hc, hm, hs, ht⟩
  · have hx0 : xs = [] := List.eq_nil_of_length_eq_zero (by omega)
    subst hx0
    by_cases h0 : k = 0
    · subst h0
      refine ⟨.slice none 0 0, w, ?_, by simpa using hown', Below.refl _ _⟩
      simp [Builtin.append_, run_underlying Tryd.underlying22, run_underlying Tryd.underlying3, sizeOf, typeInfo, hi, asInt, asIntOf, IntKind.wrap_i64]
    · have hrun := Lib.run_append_nil_zeros (P := Tryd.prog) w 22 3 ty 5 i0 (.int .u8 0) .i64 .i64 Tryd.underlying22 Tryd.underlying3 hi hz0 k (by omega) (by omega) (by omega) (by rw [hz2]; omega)
      have hge := grownCap_ge w k 0 5
      have hle := grownCap_le_maxLen w k 0 5 (by unfold maxLen; omega)
      generalize grownCap w k 0 5 = C at *
      rw [zeroCells_byt, zeroCells_byt] at hrun
      simp only [List.nil_append, List.length_replicate]
      refine ⟨_, _, hrun, ⟨by simp, .inr ⟨_, C, _, rfl, hbase, heap_alloc_new _ _, hge, hle, ?_, ?_⟩⟩, ((Below.refl _ _).drew).alloc hbase _⟩
      · simp; omega
      · simp
  · by_cases hroom : xs.length + k ≤ cap
    · have hst := run_storeCells_at (P := Tryd.prog) g xs.length 5 (List.replicate k (.int .u8 0)) 0 cur w hh (by simp; omega) (by intro v hv; rw [List.eq_of_mem_replicate hv]; rfl)
      simp only [Nat.add_zero, List.length_replicate] at hst
      have ha : (⟨g, 0, none⟩ : Addr).add xs.length = ⟨g, xs.length, none⟩ := by rw [Addr.add_mid, Nat.zero_add]
      have hzc : (Builtin.zeroCells (Value.int .u8 0).cells k).toList = List.replicate k (.int .u8 0) := by rw [zeroCells_byt, hzr]
      have hw : IntKind.i64.wrap (k : Int) = k := by rw [IntKind.wrap_i64]; omega
      have hneg : ¬ ((k : Int) < 0) := by omega
      have h48 : ¬ ((281474976710656 : Int) < (k : Int) * (i0.bytes : Int)) := by rw [hz2]; omega
      obtain ⟨R, hR⟩ : ∃ R, R = (cur.toList.take xs.length ++ List.replicate k (Value.int .u8 0) ++ cur.toList.drop (xs.length + k)).toArray := ⟨_, rfl⟩
      rw [← hR] at hst
      refine ⟨.slice (some ⟨g, 0, none⟩) (xs.length + k) cap, w.setRow g R, ?_, ⟨by simp, .inr ⟨g, cap, R, by rw [hlen], hg, setRow_heap w g cur _ _ _ hh, by omega, hm, ?_, ?_⟩⟩, ⟨rfl, rfl, rfl, by simp, fun j hj => setRow_other w g j _ (by omega)⟩⟩
      · by_cases h0 : k = 0
        · subst h0
          have e : R = cur := by rw [hR]; simp
          rw [e, setRow_self w g cur _ _ hh]
          simp [Builtin.append_, run_underlying Tryd.underlying22, run_underlying Tryd.underlying3, sizeOf, typeInfo, hi, asInt, asIntOf, IntKind.wrap_i64, hc, storeCells, Result.andThen]
        · have hns : ¬ (k * i0.size = 0) := Nat.mul_ne_zero h0 (by omega)
          simp [Builtin.append_, run_underlying Tryd.underlying22, run_underlying Tryd.underlying3, sizeOf, typeInfo, zeroValue, hi, hz0, hz1, asInt, asIntOf, hw, hneg, h48, hroom, h0, ha, hzc, hst, Result.andThen]
      · rw [hR]; simp; omega
      · have h1 : cur.toList.take xs.length = xs.map byt := by simpa using ht
        rw [hR, hlen, List.map_append, hzr, ← h1]
        have e1 : (cur.toList.take xs.length).length = xs.length := by rw [h1]; simp
        have e2 : (cur.toList.take xs.length ++ List.replicate k (Value.int .u8 0)).length = (xs.length + k) * 1 := by rw [List.length_append, e1, List.length_replicate, Nat.mul_one]
        rw [← e2]
        exact List.take_left
    · have h0 : 0 < k := by omega
      have hold : (Builtin.firstCells i0.size xs.length (.slice (some ⟨g, 0, none⟩) xs.length cap)).run Tryd.prog w.drew = .ok (xs.map byt).toArray w.drew := by
        refine run_firstCells_some _ _ _ _ _ _ _ (by simp [hz1]) (fun j y hy => ?_)
        rw [Addr.add_mid]
        have hc1 : w.cell? ⟨g, 0 + j, none⟩ = some y := by
          rw [cell_of_row w g (0 + j) cur _ _ hh, Nat.zero_add]
          rw [← ht, List.getElem?_take] at hy
          split at hy
          · simpa using hy
          · cases hy
        exact hc1
      have hrun := Lib.run_append_grow_zeros (P := Tryd.prog) w 22 3 ty 5 i0 (.int .u8 0) .i64 .i64 Tryd.underlying22 Tryd.underlying3 hi hz0 (some ⟨g, 0, none⟩) xs.length cap _ hold k h0 (by omega) (by omega) (by omega) (by rw [hz2]; omega) (by
        have h1 := growslice_fits (need := xs.length + k) (old := cap) (bytes := i0.bytes) (by omega) (by rw [hz2]; omega)
        exact h1)
      have hge := grownCap_ge w (xs.length + k) cap 5
      have hle := grownCap_le_maxLen w (xs.length + k) cap 5 (by unfold maxLen; omega)
      generalize grownCap w (xs.length + k) cap 5 = C at *
      rw [zeroCells_byt, zeroCells_byt] at hrun
      refine ⟨_, _, hrun, ⟨by simp, .inr ⟨_, C, _, by rw [hlen], hbase, heap_alloc_new _ _, by omega, hle, ?_, ?_⟩⟩, ((Below.refl _ _).drew).alloc hbase _⟩
      · simp; omega
      · have e2 : ((xs.map byt) ++ (List.replicate k (0 : B8)).map byt).length = (xs ++ List.replicate k 0).length * 1 := by simp
        rw [← e2, List.map_append]
        simp only [Array.toList_append]
        exact List.take_left
end Go.Proofs.YtbbpdcnmoabooaaDoor
