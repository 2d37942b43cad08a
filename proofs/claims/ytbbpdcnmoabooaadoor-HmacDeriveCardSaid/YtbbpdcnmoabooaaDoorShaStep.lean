/-
  'append' of bytes as a run, and as a step of a region that draws its order.
-/
import Derived.Test.YtbbpdcnmoabooaaDoorShaLaw
import Derived.Deep.RegionHeld3
namespace Go.Proofs.YtbbpdcnmoabooaaDoor
open Go Go.RowKit Sh Leaf

theorem run_append_bytes {w : World} (ty : TypeId) (base : Nat) (v : Value) (xs : List B8) (hown : w.ownsRow base 5 1 v xs.length (xs.map byt))
    (Q : Nat → Prop) (v2 : Value) (ys : List B8) (hr : Bytes w Q v2 ys) (h47 : xs.length + ys.length ≤ 140737488355328) (hbase : base ≤ w.heap.size) :
    ∃ v' w', (Builtin.append_ #[22, 22] ty #[v, v2]).run Tryd.prog w = .ok v' w' ∧ w'.ownsRow base 5 1 v' (xs ++ ys).length ((xs ++ ys).map byt) ∧ Below base w w' := by
  have hbel : ∀ w', w.grownBy w' v.ownBlock → Below base w w' := fun w' hg => (Below.refl _ _).grown hg hbase fun k hk => by
    rcases hown.2 with ⟨rfl, _⟩ | ⟨g, cap, cur, rfl, hge, _⟩
    · simp [Value.ownBlock] at hk
    · simp [Value.ownBlock] at hk; omega
  obtain ⟨i0, hi, hz0, hz1, hz2⟩ := info_parts byteInfo
  obtain ⟨A, c, hv, hc1, hc2, hc3, hc4⟩ := hr
  have hlen : (xs ++ ys).length = xs.length + ys.length := by simp
  have hmap : (xs ++ ys).map byt = xs.map byt ++ ys.map byt := by simp
  rw [hlen, hmap, hv]
  cases A with
  | none =>
    have h0 := hc3 rfl
    subst h0
    have hy : ys = [] := List.eq_nil_of_length_eq_zero (by omega)
    subst hy
    exact ⟨v, w, run_append_owned_none w base 22 ty 5 i0 1 Tryd.underlying22 hi v xs.length (xs.map byt) hown, by simpa using hown, Below.refl _ _⟩
  | some ad =>
    obtain ⟨v', w', hrun, h1, h2⟩ := run_append_own w base 22 ty 5 i0 (.int .u8 0) 1 1 Tryd.underlying22 hi hz0 hz1 hz2 rfl (by decide) v xs.length (xs.map byt) hown ad ys.length c (ys.map byt) (by simp)
      (by
        intro j b hb
        have hj : j < ys.length := by
          have := (List.getElem?_eq_some_iff.1 hb).1
          simpa using this
        obtain ⟨g, o, hA, _, hcell⟩ := hc4 (by omega)
        obtain rfl := Option.some.inj hA
        rw [Addr.add_mid]
        rw [List.getElem?_map, List.getElem?_eq_getElem hj] at hb
        obtain rfl := Option.some.inj hb
        exact hcell j _ (List.getElem?_eq_getElem hj)) (byt_one ys) (by unfold maxLen; omega) (by omega) hbase
    exact ⟨v', w', hrun, h1, hbel w' h2.1⟩

theorem step_append_bytes {w : World} {ops : Array Oper} {o : Oper} {a : Act} {K : Act → World → Prop} {R : Exit → Act → World → Prop} {E : Prop} (hw : Region.wanted o (yielded ops a.tmps) = true) (s x : Operand)
    (ho : o.op = .call { callee := .builtin .append, args := #[s, x], argTypes := #[22, 22] })
    (base : Nat) (v : Value) (xs : List B8) (hs : a.eval s = v) (hown : w.ownsRow base 5 1 v xs.length (xs.map byt))
    (Q : Nat → Prop) (v2 : Value) (ys : List B8) (hx : a.eval x = v2) (hr : Bytes w Q v2 ys) (h47 : xs.length + ys.length ≤ 140737488355328) (hbase : base ≤ w.heap.size)
    (h : ∀ v' w', w'.ownsRow base 5 1 v' (xs ++ ys).length ((xs ++ ys).map byt) → Below base w w' → K (a.put o.dst v') w') :
    if Region.wanted o (yielded ops a.tmps) = true then Oper.wp Tryd.prog o a w K R else E := by
  rw [if_pos hw]
  obtain ⟨v', w', hrun, h1, h2⟩ := run_append_bytes o.type base v xs hown Q v2 ys hr h47 hbase
  unfold Oper.wp
  simp [execOp, ho, resolve, invoke, builtin, hs, hx, hrun, Result.andThen]
  exact h v' w' h1 h2
end Go.Proofs.YtbbpdcnmoabooaaDoor
