/-
  append of bytes, of zeros: as a run, as an operation, as a step of a drawn region.
-/
import Derived.Test.YtefjdpanjioflaaKBytes
import Derived.Lib.AppendZeros
import Derived.Lib.AppendZerosOnto
namespace Go.Proofs.Ytefjdpanjioflaa
open Go Go.RowKit Sh Leaf

theorem run_append_bytes {w : World} (ty : TypeId) (base : Nat) (v : Value) (xs : List B8) (hown : w.ownsRow base 5 1 v xs.length (xs.map byt))
    (Q : Nat → Prop) (v2 : Value) (ys : List B8) (hr : Bytes w Q v2 ys) (h47 : xs.length + ys.length ≤ 140737488355328) (hbase : base ≤ w.heap.size) :
    ∃ v' w', (Builtin.append_ #[22, 22] ty #[v, v2]).run Try.prog w = .ok v' w' ∧ w'.ownsRow base 5 1 v' (xs ++ ys).length ((xs ++ ys).map byt) ∧ Below base w w' := by
  have hbel : ∀ w', w.grownBy w' v.ownBlock → Below base w w' := fun w' hg => (Below.refl _ _).grown hg hbase fun k hk => by
    rcases hown.2 with ⟨rfl, _⟩ | ⟨g, cap, cur, rfl, hge, _⟩
    · simp [Value.ownBlock] at hk
    · simp [Value.ownBlock] at hk; omega
  obtain ⟨i0, hi, hz0, hz1, hz2⟩ := info_parts byteInfo
  obtain ⟨A, c, hv, hc1, hc2, hc3, hc4⟩ := hr
  have hlen : (xs ++ ys).length = xs.length + ys.length := by simp
  have hmap : (xs ++ ys).map byt = xs.map byt ++ ys.map byt := by simp
  rw [hlen, hmap, hv]
  cases A with
  | none =>
    have h0 := hc3 rfl
    subst h0
    have hy : ys = [] := List.eq_nil_of_length_eq_zero (by omega)
    subst hy
    exact ⟨v, w, run_append_owned_none w base 22 ty 5 i0 1 Try.underlying22 hi v xs.length (xs.map byt) hown, by simpa using hown, Below.refl _ _⟩
  | some ad =>
    obtain ⟨v', w', hrun, h1, h2⟩ := run_append_own w base 22 ty 5 i0 (.int .u8 0) 1 1 Try.underlying22 hi hz0 hz1 hz2 rfl (by decide) v xs.length (xs.map byt) hown ad ys.length c (ys.map byt) (by simp)
      (by
        intro j b hb
        have hj : j < ys.length := by
          have := (List.getElem?_eq_some_iff.1 hb).1
          simpa using this
        obtain ⟨g, o, hA, _, hcell⟩ := hc4 (by omega)
        obtain rfl := Option.some.inj hA
        rw [Addr.add_mid]
        rw [List.getElem?_map, List.getElem?_eq_getElem hj] at hb
        obtain rfl := Option.some.inj hb
        exact hcell j _ (List.getElem?_eq_getElem hj)) (byt_one ys) (by unfold maxLen; omega) (by omega) hbase
    exact ⟨v', w', hrun, h1, hbel w' h2.1⟩

theorem step_append_bytes {w : World} {ops : Array Oper} {o : Oper} {a : Act} {K : Act → World → Prop} {R : Exit → Act → World → Prop} {E : Prop} (hw : Region.wanted o (yielded ops a.tmps) = true) (s x : Operand)
    (ho : o.op = .call { callee := .builtin .append, args := #[s, x], argTypes := #[22, 22] })
    (base : Nat) (v : Value) (xs : List B8) (hs : a.eval s = v) (hown : w.ownsRow base 5 1 v xs.length (xs.map byt))
    (Q : Nat → Prop) (v2 : Value) (ys : List B8) (hx : a.eval x = v2) (hr : Bytes w Q v2 ys) (h47 : xs.length + ys.length ≤ 140737488355328) (hbase : base ≤ w.heap.size)
    (h : ∀ v' w', w'.ownsRow base 5 1 v' (xs ++ ys).length ((xs ++ ys).map byt) → Below base w w' → K (a.put o.dst v') w') :
    if Region.wanted o (yielded ops a.tmps) = true then Oper.wp Try.prog o a w K R else E := by
  rw [if_pos hw]
  obtain ⟨v', w', hrun, h1, h2⟩ := run_append_bytes o.type base v xs hown Q v2 ys hr h47 hbase
  unfold Oper.wp
  simp [execOp, ho, resolve, invoke, builtin, hs, hx, hrun, Result.andThen]
  exact h v' w' h1 h2
/-- append(own, src...) under a guard that holds. -/
theorem wpList_append_wanted {w : World} {ops : Array Oper} {rest : List Oper} {o : Oper} {a : Act} {R : Exit → Act → World → Prop} (hw : Region.wanted o (yielded ops a.tmps) = true) (s x : Operand)
    (ho : o.op = .call { callee := .builtin .append, args := #[s, x], argTypes := #[22, 22] })
    (base : Nat) (v : Value) (xs : List B8) (hs : a.eval s = v) (hown : w.ownsRow base 5 1 v xs.length (xs.map byt))
    (Q : Nat → Prop) (v2 : Value) (ys : List B8) (hx : a.eval x = v2) (hr : Bytes w Q v2 ys) (h47 : xs.length + ys.length ≤ 140737488355328) (hbase : base ≤ w.heap.size)
    (h : ∀ v' w', w'.ownsRow base 5 1 v' (xs ++ ys).length ((xs ++ ys).map byt) → Below base w w' → wpList Try.prog ops R rest (a.put o.dst v') w') : wpList Try.prog ops R (o :: rest) a w := by
  obtain ⟨v', w', hrun, h1, h2⟩ := run_append_bytes o.type base v xs hown Q v2 ys hr h47 hbase
  show if Region.wanted o (yielded ops a.tmps) then _ else _
  rw [if_pos hw]
  left
  unfold Oper.wp
  simp [execOp, ho, resolve, invoke, builtin, hs, hx, hrun, Result.andThen]
  exact h v' w' h1 h2
theorem zeroCells_byt (k : Nat) : Builtin.zeroCells (Value.int .u8 0).cells k = ((List.replicate k (0 : B8)).map byt).toArray := by
  unfold Builtin.zeroCells
  apply Array.ext_getElem?
  intro i
  simp only [Value.cells, List.map_replicate, byt, bv_zero]
  by_cases h : i < k
  · simp [h, Nat.mod_one]
  · simp [h]
theorem run_append_zeros {w : World} (ty : TypeId) (base : Nat) (v : Value) (xs : List B8) (hown : w.ownsRow base 5 1 v xs.length (xs.map byt)) (k : Nat) (hk : k ≤ 1000) (hx : xs.length ≤ 1000) (hbase : base ≤ w.heap.size) :
    ∃ v' w', (Builtin.append_ #[22, 3] ty #[v, .int .i64 (k : Int)]).run Try.prog w = .ok v' w' ∧ w'.ownsRow base 5 1 v' (xs ++ List.replicate k (0 : B8)).length ((xs ++ List.replicate k (0 : B8)).map byt) ∧ Below base w w' := by
  obtain ⟨i0, hi, hz0, hz1, hz2⟩ := info_parts byteInfo
  have hlen : (xs ++ List.replicate k (0 : B8)).length = xs.length + k := by simp
  have hzr : (List.replicate k (0 : B8)).map byt = List.replicate k (.int .u8 0) := by rw [List.map_replicate, byt, bv_zero]
  have hown' := hown
  rcases hown.2 with ⟨rfl, hn⟩ | ⟨g, cap, cur, rfl, hg, hh, hc, hm, hs, ht⟩
  · have hx0 : xs = [] := List.eq_nil_of_length_eq_zero (by omega)
    subst hx0
    by_cases h0 : k = 0
    · subst h0
      refine ⟨.slice none 0 0, w, ?_, by simpa using hown', Below.refl _ _⟩
      simp [Builtin.append_, run_underlying Try.underlying22, run_underlying Try.underlying3, sizeOf, typeInfo, hi, asInt, asIntOf, IntKind.wrap_i64]
    · have hrun := Lib.run_append_nil_zeros (P := Try.prog) w 22 3 ty 5 i0 (.int .u8 0) .i64 .i64 Try.underlying22 Try.underlying3 hi hz0 k (by omega) (by omega) (by omega) (by rw [hz2]; omega)
      have hge := grownCap_ge w k 0 5
      have hle := grownCap_le_maxLen w k 0 5 (by unfold maxLen; omega)
      generalize grownCap w k 0 5 = C at *
      rw [zeroCells_byt, zeroCells_byt] at hrun
      simp only [List.nil_append, List.length_replicate]
      refine ⟨_, _, hrun, ⟨by simp, .inr ⟨_, C, _, rfl, hbase, heap_alloc_new _ _, hge, hle, ?_, ?_⟩⟩, ((Below.refl _ _).drew).alloc hbase _⟩
      · simp; omega
      · simp
  · by_cases hroom : xs.length + k ≤ cap
    · have hst := run_storeCells_at (P := Try.prog) g xs.length 5 (List.replicate k (.int .u8 0)) 0 cur w hh (by simp; omega) (by intro v hv; rw [List.eq_of_mem_replicate hv]; rfl)
      simp only [Nat.add_zero, List.length_replicate] at hst
      have ha : (⟨g, 0, none⟩ : Addr).add xs.length = ⟨g, xs.length, none⟩ := by rw [Addr.add_mid, Nat.zero_add]
      have hzc : (Builtin.zeroCells (Value.int .u8 0).cells k).toList = List.replicate k (.int .u8 0) := by rw [zeroCells_byt, hzr]
      have hw : IntKind.i64.wrap (k : Int) = k := by rw [IntKind.wrap_i64]; omega
      have hneg : ¬ ((k : Int) < 0) := by omega
      have h48 : ¬ ((281474976710656 : Int) < (k : Int) * (i0.bytes : Int)) := by rw [hz2]; omega
      obtain ⟨R, hR⟩ : ∃ R, R = (cur.toList.take xs.length ++ List.replicate k (Value.int .u8 0) ++ cur.toList.drop (xs.length + k)).toArray := ⟨_, rfl⟩
      rw [← hR] at hst
      refine ⟨.slice (some ⟨g, 0, none⟩) (xs.length + k) cap, w.setRow g R, ?_, ⟨by simp, .inr ⟨g, cap, R, by rw [hlen], hg, setRow_heap w g cur _ _ _ hh, by omega, hm, ?_, ?_⟩⟩, ⟨rfl, rfl, rfl, by simp, fun j hj => setRow_other w g j _ (by omega)⟩⟩
      · by_cases h0 : k = 0
        · subst h0
          have e : R = cur := by rw [hR]; simp
          rw [e, setRow_self w g cur _ _ hh]
          simp [Builtin.append_, run_underlying Try.underlying22, run_underlying Try.underlying3, sizeOf, typeInfo, hi, asInt, asIntOf, IntKind.wrap_i64, hc, storeCells, Result.andThen]
        · have hns : ¬ (k * i0.size = 0) := Nat.mul_ne_zero h0 (by omega)
          simp [Builtin.append_, run_underlying Try.underlying22, run_underlying Try.underlying3, sizeOf, typeInfo, zeroValue, hi, hz0, hz1, asInt, asIntOf, hw, hneg, h48, hroom, h0, ha, hzc, hst, Result.andThen]
      · rw [hR]; simp; omega
      · have h1 : cur.toList.take xs.length = xs.map byt := by simpa using ht
        rw [hR, hlen, List.map_append, hzr, ← h1]
        have e1 : (cur.toList.take xs.length).length = xs.length := by rw [h1]; simp
        have e2 : (cur.toList.take xs.length ++ List.replicate k (Value.int .u8 0)).length = (xs.length + k) * 1 := by rw [List.length_append, e1, List.length_replicate, Nat.mul_one]
        rw [← e2]
        exact List.take_left
    · have h0 : 0 < k := by omega
      have hold : (Builtin.firstCells i0.size xs.length (.slice (some ⟨g, 0, none⟩) xs.length cap)).run Try.prog w.drew = .ok (xs.map byt).toArray w.drew := by
        refine run_firstCells_some _ _ _ _ _ _ _ (by simp [hz1]) (fun j y hy => ?_)
        rw [Addr.add_mid]
        have hc1 : w.cell? ⟨g, 0 + j, none⟩ = some y := by
          rw [cell_of_row w g (0 + j) cur _ _ hh, Nat.zero_add]
          rw [← ht, List.getElem?_take] at hy
          split at hy
          · simpa using hy
          · cases hy
        exact hc1
      have hrun := Lib.run_append_grow_zeros (P := Try.prog) w 22 3 ty 5 i0 (.int .u8 0) .i64 .i64 Try.underlying22 Try.underlying3 hi hz0 (some ⟨g, 0, none⟩) xs.length cap _ hold k h0 (by omega) (by omega) (by omega) (by rw [hz2]; omega) (by
        have h1 := growslice_fits (need := xs.length + k) (old := cap) (bytes := i0.bytes) (by omega) (by rw [hz2]; omega)
        exact h1)
      have hge := grownCap_ge w (xs.length + k) cap 5
      have hle := grownCap_le_maxLen w (xs.length + k) cap 5 (by unfold maxLen; omega)
      generalize grownCap w (xs.length + k) cap 5 = C at *
      rw [zeroCells_byt, zeroCells_byt] at hrun
      refine ⟨_, _, hrun, ⟨by simp, .inr ⟨_, C, _, by rw [hlen], hbase, heap_alloc_new _ _, by omega, hle, ?_, ?_⟩⟩, ((Below.refl _ _).drew).alloc hbase _⟩
      · simp; omega
      · have e2 : ((xs.map byt) ++ (List.replicate k (0 : B8)).map byt).length = (xs ++ List.replicate k 0).length * 1 := by simp
        rw [← e2, List.map_append]
        simp only [Array.toList_append]
        exact List.take_left
end Go.Proofs.Ytefjdpanjioflaa
