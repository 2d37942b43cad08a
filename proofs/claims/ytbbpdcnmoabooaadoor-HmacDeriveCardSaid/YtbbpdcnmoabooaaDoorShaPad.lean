/-
  The padding by its contract.
-/
import Derived.Test.YtbbpdcnmoabooaaDoorShaClone
import Derived.Lib.AppendZerosOnto
namespace Go.Proofs.YtbbpdcnmoabooaaDoor
open Go Go.RowKit Sh Leaf

theorem bv_zero : bv 0 = 0 := by unfold bv; rfl
theorem bv_128 : bv 128 = 128 := by unfold bv; rfl
theorem zeroCells_byt (k : Nat) : Builtin.zeroCells (Value.int .u8 0).cells k = ((List.replicate k (0 : B8)).map byt).toArray := by
  unfold Builtin.zeroCells
  apply Array.ext_getElem?
  intro i
  simp only [Value.cells, List.map_replicate, byt, bv_zero]
  by_cases h : i < k
  · simp [h, Nat.mod_one]
  · simp [h]
theorem run_pad_zeros (w : World) (ty : TypeId) (k : Nat) (hk : k ≤ 64) :
    ∃ v' w', (Builtin.append_ #[22, 3] ty #[.slice (some ⟨w.heap.size, 0, none⟩) 1 1, .int .i64 (k : Int)]).run Tryd.prog (w.alloc (.cells #[.int .u8 128] 5)) = .ok v' w' ∧
      w'.ownsRow w.heap.size 5 1 v' (128 :: List.replicate k (0 : B8)).length ((128 :: List.replicate k (0 : B8)).map byt) ∧ Below w.heap.size w w' := by
  obtain ⟨i0, hi, hz0, hz1, hz2⟩ := info_parts byteInfo
  have hc : Whole (w.alloc (.cells #[.int .u8 128] 5)) w.heap.size 5 #[.int .u8 128] := Whole.here _ _ _
  by_cases h0 : k = 0
  · subst h0
    refine ⟨.slice (some ⟨w.heap.size, 0, none⟩) 1 1, _, ?_, ⟨by simp, .inr ⟨w.heap.size, 1, _, rfl, Nat.le_refl _, hc, by simp, by simp [maxLen], rfl, by simp [byt]; exact bv_128.symm⟩⟩, (Below.refl _ _).alloc (Nat.le_refl _) _⟩
    simp [Builtin.append_, run_underlying Tryd.underlying22, run_underlying Tryd.underlying3, sizeOf, typeInfo, hi, asInt, asIntOf, IntKind.wrap_i64, storeCells, Result.andThen]
  · have hold : (Builtin.firstCells i0.size 1 (.slice (some ⟨w.heap.size, 0, none⟩) 1 1)).run Tryd.prog (w.alloc (.cells #[.int .u8 128] 5)).drew = .ok [Value.int .u8 128].toArray (w.alloc (.cells #[.int .u8 128] 5)).drew := by
      refine run_firstCells_some _ _ _ _ _ _ _ (by simp [hz1]) (fun j v hv => ?_)
      rw [Addr.add_mid]
      match j, hv with
      | 0, hv => simp at hv; subst hv; exact hc.cell 0
      | j + 1, hv => simp at hv
    have hrun := Lib.run_append_grow_zeros (P := Tryd.prog) (w.alloc (.cells #[.int .u8 128] 5)) 22 3 ty 5 i0 (.int .u8 0) .i64 .i64 Tryd.underlying22 Tryd.underlying3 hi hz0 (some ⟨w.heap.size, 0, none⟩) 1 1 _ hold k (by omega) (by omega) (by omega) (by omega) (by rw [hz2]; omega) (by
      have := nextslicecap_le (need := 1 + k) (old := 1) (by omega)
      rw [hz2]; omega)
    have hge := grownCap_ge (w.alloc (.cells #[.int .u8 128] 5)) (1 + k) 1 5
    have hle := grownCap_le_maxLen (w.alloc (.cells #[.int .u8 128] 5)) (1 + k) 1 5 (by unfold maxLen; omega)
    generalize grownCap (w.alloc (.cells #[.int .u8 128] 5)) (1 + k) 1 5 = C at *
    rw [zeroCells_byt, zeroCells_byt] at hrun
    have hl : (128 :: List.replicate k (0 : B8)).length = 1 + k := by simp; omega
    rw [hl]
    refine ⟨_, _, hrun, ⟨by simp; omega, .inr ⟨_, C, _, rfl, by simp, heap_alloc_new _ _, hge, hle, ?_, ?_⟩⟩, ?_⟩
    · simp; omega
    · simp [byt]
      rw [Nat.add_comm 1 k, List.take_succ_cons, List.take_replicate, Nat.min_eq_left (by omega), show bv 128#8 = 128 from bv_128]
    · exact ((Below.refl _ _).alloc (Nat.le_refl _) _).drew.alloc (by simp) _

set_option maxHeartbeats 1000000 in
theorem padding (n : Nat) (hn : n ≤ 1000000000) (w : World) :
    Calls Tryd.prog 38 #[.int .i64 (n : Int)] w fun e w' => ∃ v', e = .returned v' ∧ Bytes w' (fun g => w.heap.size ≤ g) v' (pad n) ∧ Below w.heap.size w w' := by
  have hk : (((119 - n % 64) % 64 : Nat) : Int) = (119 - (n : Int) % 64) % 64 := by omega
  have hr := fun ty => run_pad_zeros w ty ((119 - n % 64) % 64) (by omega)
  rw [hk] at hr
  clear hk
  have HR := Lib.hid hr
  clear hr
  go_enter Tryd.func38, Tryd.ntmps38
  go_wp2_with (at_builtin; obtain ⟨v1, w1, hr1, ho1, hb1⟩ := HR.out 22; refine Lib.wpList_append_run _ rfl _ _ _ _ rfl _ _ rfl rfl _ _ hr1 ?_)
  have hc := appendNumber v1 (128 :: List.replicate ((119 - n % 64) % 64) (0 : B8)) (n * 8) 8 w.heap.size w1 ho1 hb1.size (by simp; omega) (by omega)
  rw [show ((n * 8 : Nat) : Int) = (n : Int) * 8 by omega] at hc
  have HC := Lib.hid hc
  clear hc hr1
  refine HC.out.mono ?_
  rintro e w2 ⟨v2, rfl, ho2, hb2, _⟩
  clear HC HR
  go_wp2
  go_ret
  refine ⟨v2, rfl, Bytes.of_own ?_, hb1.trans hb2⟩
  simpa [pad] using ho2
end Go.Proofs.YtbbpdcnmoabooaaDoor
