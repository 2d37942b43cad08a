/-
  append to a literal of bytes, as a step of a drawn region: whatever lay lies as it lay.
-/
import Derived.Test.YtfokedbipicmoaaKApp
import Derived.Test.YtfokedbipicmoaaKRows2
namespace Go.Proofs.Ytfokedbipicmoaa
open Go Go.RowKit Sh Leaf

theorem run_append_lit {w : World} (ty : TypeId) (g : Nat) (xs : List B8) (hblk : w.heap[g]? = some (.cells (xs.map byt).toArray 5 (0, 0))) (hx : xs.length ≤ 1000) (Q : Nat → Prop) (v2 : Value) (ys : List B8) (hr : Bytes w Q v2 ys) (hy : ys.length ≤ 1000000) :
    ∃ v' w', (Builtin.append_ #[22, 22] ty #[.slice (some ⟨g, 0, none⟩) xs.length xs.length, v2]).run Try.prog w = .ok v' w' ∧ Bytes w' (fun _ => True) v' (xs ++ ys) ∧ Below w.heap.size w w' := by
  obtain ⟨i0, hi, hz0, hz1, hz2⟩ := info_parts byteInfo
  have hW : Whole w g 5 (xs.map byt).toArray := hblk
  have hself := (hW.bytes (by omega)).mono (Q' := fun _ => True) fun _ _ _ => trivial
  obtain ⟨A, c, rfl, hc1, hc2, hc3, hc4⟩ := hr
  cases A with
  | none =>
    have h0 := hc3 rfl
    subst h0
    have hy0 : ys = [] := List.eq_nil_of_length_eq_zero (by omega)
    subst hy0
    have hown := own_whole (base := g) hW (Nat.le_refl _) (by omega)
    exact ⟨_, w, run_append_owned_none w g 22 ty 5 i0 1 Try.underlying22 hi _ xs.length (xs.map byt) hown, by simpa using hself, Below.refl _ _⟩
  | some ad =>
    have hnews : ∀ (j : Nat) (u : Value), (ys.map byt)[j]? = some u → w.cell? (ad.add j) = some u := fun j u hj => by
      rw [List.getElem?_map] at hj
      cases hq : ys[j]? with
      | none => rw [hq] at hj; cases hj
      | some y =>
        rw [hq] at hj; injection hj with hj; subst hj
        have hlt := (List.getElem?_eq_some_iff.1 hq).1
        obtain ⟨g2, o2, hA, _, hcell⟩ := hc4 (by omega)
        obtain rfl := Option.some.inj hA
        rw [Addr.add_mid]
        exact hcell j y hq
    by_cases h0 : ys.length = 0
    · have hy0 : ys = [] := List.eq_nil_of_length_eq_zero h0
      subst hy0
      have hrun := run_append_room (P := Try.prog) w 22 ty 5 i0 Try.underlying22 hi g xs.length xs.length (xs.map byt).toArray hblk ad 0 c [] (by simp) (fun j u h => by simp at h) (fun u h => by simp at h) (by omega) (by rw [hz1]; simp)
      have e : ((xs.map byt).toArray.toList.take (xs.length * i0.size) ++ ([] : List Value) ++ (xs.map byt).toArray.toList.drop (xs.length * i0.size + ([] : List Value).length)).toArray = (xs.map byt).toArray := by
        rw [hz1]; simp
      rw [e, setRow_self w g _ _ _ hblk] at hrun
      exact ⟨_, w, hrun, by simpa using hself, Below.refl _ _⟩
    · have hrun := run_append_grow (P := Try.prog) w 22 ty 5 i0 (.int .u8 0) Try.underlying22 hi hz0 ⟨g, 0, none⟩ xs.length xs.length (xs.map byt) (by rw [hz1]; simp) (fun j u hj => by rw [Addr.add_mid, hW.cell, Nat.zero_add]; simpa using hj) ad ys.length c (ys.map byt) (by rw [hz1]; simp) hnews
        (by omega) (by omega) (by
          have h1 := growslice_fits (need := xs.length + ys.length) (old := xs.length) (bytes := i0.bytes) (by omega) (by rw [hz2]; omega)
          exact h1)
      have hge := grownCap_ge w (xs.length + ys.length) xs.length 5
      have hle := grownCap_le_maxLen w (xs.length + ys.length) xs.length 5 (by unfold maxLen; omega)
      generalize grownCap w (xs.length + ys.length) xs.length 5 = C at *
      have hlen : (xs ++ ys).length = xs.length + ys.length := by simp
      have ho : (w.drew.alloc (.cells ((xs.map byt).toArray ++ (ys.map byt).toArray ++ Builtin.zeroCells (Value.int .u8 0).cells (C - (xs.length + ys.length))) 5)).ownsRow w.heap.size 5 1 (.slice (some ⟨w.heap.size, 0, none⟩) (xs.length + ys.length) C) (xs ++ ys).length ((xs ++ ys).map byt) := by
        refine ⟨by simp, .inr ⟨w.heap.size, C, _, by rw [hlen], Nat.le_refl _, heap_alloc_new _ _, by omega, hle, ?_, ?_⟩⟩
        · rw [zeroCells_byt]; simp; omega
        · have e2 : ((xs.map byt) ++ (ys.map byt)).length = (xs ++ ys).length * 1 := by simp
          rw [← e2, List.map_append]
          simp only [Array.toList_append]
          exact List.take_left
      exact ⟨_, _, hrun, (Bytes.of_own ho).mono fun _ _ _ => trivial, ((Below.refl _ _).drew).alloc (by simp) _⟩
theorem run_append_lit_zeros {w : World} (ty : TypeId) (g : Nat) (xs : List B8) (hblk : w.heap[g]? = some (.cells (xs.map byt).toArray 5 (0, 0))) (hx : xs.length ≤ 1000) (k : Nat) (h0 : 0 < k) (hk : k ≤ 100000) :
    ∃ v' w', (Builtin.append_ #[22, 3] ty #[.slice (some ⟨g, 0, none⟩) xs.length xs.length, .int .i64 (k : Int)]).run Try.prog w = .ok v' w' ∧ Bytes w' (fun _ => True) v' (xs ++ List.replicate k (0 : B8)) ∧ Below w.heap.size w w' := by
  obtain ⟨i0, hi, hz0, hz1, hz2⟩ := info_parts byteInfo
  have hW : Whole w g 5 (xs.map byt).toArray := hblk
  have hlen : (xs ++ List.replicate k (0 : B8)).length = xs.length + k := by simp
  have hold : (Builtin.firstCells i0.size xs.length (.slice (some ⟨g, 0, none⟩) xs.length xs.length)).run Try.prog w.drew = .ok (xs.map byt).toArray w.drew :=
    run_firstCells_some _ _ _ _ _ _ _ (by simp [hz1]) (fun j y hy => by
      rw [Addr.add_mid, Nat.zero_add]
      exact (hW.cell j).trans (by simpa using hy))
  have hrun := Lib.run_append_grow_zeros (P := Try.prog) w 22 3 ty 5 i0 (.int .u8 0) .i64 .i64 Try.underlying22 Try.underlying3 hi hz0 (some ⟨g, 0, none⟩) xs.length xs.length _ hold k h0 (by omega) (by omega) (by omega) (by rw [hz2]; omega) (by
    have h1 := growslice_fits (need := xs.length + k) (old := xs.length) (bytes := i0.bytes) (by omega) (by rw [hz2]; omega)
    exact h1)
  have hge := grownCap_ge w (xs.length + k) xs.length 5
  have hle := grownCap_le_maxLen w (xs.length + k) xs.length 5 (by unfold maxLen; omega)
  generalize grownCap w (xs.length + k) xs.length 5 = C at *
  rw [zeroCells_byt, zeroCells_byt] at hrun
  refine ⟨_, _, hrun, (Bytes.of_own (base := w.heap.size) ⟨by simp, .inr ⟨_, C, _, by rw [hlen], Nat.le_refl _, heap_alloc_new _ _, by omega, hle, ?_, ?_⟩⟩).mono fun _ _ _ => trivial, ((Below.refl _ _).drew).alloc (by simp) _⟩
  · simp; omega
  · have e2 : ((xs.map byt) ++ (List.replicate k (0 : B8)).map byt).length = (xs ++ List.replicate k 0).length * 1 := by simp
    rw [← e2, List.map_append]
    simp only [Array.toList_append]
    exact List.take_left
theorem step_append_lit {w : World} {ops : Array Oper} {o : Oper} {a : Act} {K : Act → World → Prop} {R : Exit → Act → World → Prop} {E : Prop} (hw : Region.wanted o (yielded ops a.tmps) = true) (s x : Operand)
    (ho : o.op = .call { callee := .builtin .append, args := #[s, x], argTypes := #[22, 22] })
    (g : Nat) (xs : List B8) (hs : a.eval s = .slice (some ⟨g, 0, none⟩) xs.length xs.length) (cs : Array Value) (hblk0 : w.heap[g]? = some (.cells cs 5 (0, 0))) (hcs : cs = (xs.map byt).toArray) (hx0 : xs.length ≤ 1000) (Q : Nat → Prop) (v2 : Value) (ys : List B8) (hx : a.eval x = v2) (hr : Bytes w Q v2 ys) (hy : ys.length ≤ 1000000)
    (h : ∀ v' w', Bytes w' (fun _ => True) v' (xs ++ ys) → Below w.heap.size w w' → K (a.put o.dst v') w') :
    if Region.wanted o (yielded ops a.tmps) = true then Oper.wp Try.prog o a w K R else E := by
  have hblk : w.heap[g]? = some (.cells (xs.map byt).toArray 5 (0, 0)) := hcs ▸ hblk0
  rw [if_pos hw]
  obtain ⟨v', w', hrun, h1, h2⟩ := run_append_lit o.type g xs hblk hx0 Q v2 ys hr hy
  unfold Oper.wp
  simp [execOp, ho, resolve, invoke, builtin, hs, hx, hrun, Result.andThen]
  exact h v' w' h1 h2
theorem step_append_lit_zeros {w : World} {ops : Array Oper} {o : Oper} {a : Act} {K : Act → World → Prop} {R : Exit → Act → World → Prop} {E : Prop} (hw : Region.wanted o (yielded ops a.tmps) = true) (s x : Operand)
    (ho : o.op = .call { callee := .builtin .append, args := #[s, x], argTypes := #[22, 3] })
    (g : Nat) (xs : List B8) (hs : a.eval s = .slice (some ⟨g, 0, none⟩) xs.length xs.length) (cs : Array Value) (hblk0 : w.heap[g]? = some (.cells cs 5 (0, 0))) (hcs : cs = (xs.map byt).toArray) (hx0 : xs.length ≤ 1000) (k : Nat) (hx : a.eval x = .int .i64 (k : Int)) (h0 : 0 < k) (hk : k ≤ 100000)
    (h : ∀ v' w', Bytes w' (fun _ => True) v' (xs ++ List.replicate k (0 : B8)) → Below w.heap.size w w' → K (a.put o.dst v') w') :
    if Region.wanted o (yielded ops a.tmps) = true then Oper.wp Try.prog o a w K R else E := by
  have hblk : w.heap[g]? = some (.cells (xs.map byt).toArray 5 (0, 0)) := hcs ▸ hblk0
  rw [if_pos hw]
  obtain ⟨v', w', hrun, h1, h2⟩ := run_append_lit_zeros o.type g xs hblk hx0 k h0 hk
  unfold Oper.wp
  simp [execOp, ho, resolve, invoke, builtin, hs, hx, hrun, Result.andThen]
  exact h v' w' h1 h2
/-- Whatever lay lies as it lay. -/
def Up (w W : World) : Prop := Below w.heap.size w W
theorem Up.refl (w : World) : Up w w := Below.refl _ _
theorem Up.alloc {w W : World} (h : Up w W) (o : Obj) : Up w (W.alloc o) := Below.alloc h h.size o
theorem Up.drew {w W : World} (h : Up w W) : Up w W.drew := Below.drew h
theorem Up.trans {w W X : World} (h : Up w W) (k : Below W.heap.size W X) : Up w X := Below.trans h (k.mono h.size)
theorem Bytes.up {w W : World} {v : Value} {l : List B8} (h : Bytes w (fun _ => True) v l) (k : Up w W) : Bytes W (fun _ => True) v l := h.below k (Nat.le_refl _)
theorem blk_up {W X : World} {g : Nat} {o : Obj} (k : Below W.heap.size W X) (h : W.heap[g]? = some o) : X.heap[g]? = some o := (k.block g (Array.getElem?_eq_some_iff.1 h).1).trans h
theorem cells_new (W : World) (us : List Value) (t : TypeId) (g : Nat) (hg : g = W.heap.size) : ∀ (j : Nat) (u : Value), us[j]? = some u → (W.alloc (.cells us.toArray t)).cell? ⟨g, j, none⟩ = some u := fun j u hj => by
  subst hg
  rw [(Whole.here W t us.toArray).cell]; simpa using hj
end Go.Proofs.Ytfokedbipicmoaa
