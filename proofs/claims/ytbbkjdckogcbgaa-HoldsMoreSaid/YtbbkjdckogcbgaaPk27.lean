/-
  Regions that lay and append predicates in any order.
-/
import Derived.Test.YtbbkjdckogcbgaaPk22
import Derived.Test.YtbbkjdckogcbgaaPk23
namespace Go.Proofs.Ytbbkjdckogcbgaa
open Go Go.RowKit Sh Leaf

/-- Whatever lay in w lies in W as it lay. -/
def Ups (w W : World) : Prop := Below w.heap.size w W
theorem Ups.refl (w : World) : Ups w w := Below.refl _ _
theorem Ups.alloc {w W : World} (h : Ups w W) (o : Obj) : Ups w (W.alloc o) := Below.alloc h h.size o
theorem Ups.drew {w W : World} (h : Ups w W) : Ups w W.drew := Below.drew h
theorem Ups.trans {w W X : World} (h : Ups w W) (k : Below w.heap.size W X) : Ups w X := Below.trans h k
theorem Ups.low {w W : World} (h : Ups w W) : Below w.heap.size w W := h
theorem Ups.size {w W : World} (h : Ups w W) : w.heap.size ≤ W.heap.size := Below.size h
theorem pblk_new (W : World) (o : Obj) (g : Nat) (hg : g = W.heap.size) : (W.alloc o).heap[g]? = some o := by subst hg; exact heap_alloc_new W o
theorem pblk_alloc {W : World} {g : Nat} {o' : Obj} (h : W.heap[g]? = some o') (o : Obj) : (W.alloc o).heap[g]? = some o' := (Below.heap_alloc W o g (Array.getElem?_eq_some_iff.1 h).1).trans h
theorem pblk_drew {W : World} {g : Nat} {o' : Obj} (h : W.heap[g]? = some o') : W.drew.heap[g]? = some o' := h
theorem pblk_grown {W w1 : World} {v : Value} {g : Nat} {o : Obj} (hg : W.grownBy w1 v.ownBlock) (h : W.heap[g]? = some o) (hn : v.ownBlock ≠ some g) : w1.heap[g]? = some o :=
  (hg.block g (Array.getElem?_eq_some_iff.1 h).1 (fun e => hn e.symm)).trans h
theorem ownp_empty {W : World} {base g : Nat} (h : W.heap[g]? = some (.cells #[] 35 (0, 0))) (hb : base ≤ g) : OwnP W base (.slice (some ⟨g, 0, none⟩) 0 0) [] :=
  ⟨rfl, .inr ⟨g, 0, #[], rfl, hb, h, Nat.le_refl _, by unfold maxLen; omega, rfl, rfl⟩⟩
/-- append(own, source...), whatever the source is. -/
theorem run_append_prds {w : World} (ty : TypeId) (base : Nat) (v : Value) (l : List Prd) (hown : OwnP w base v l) {Q : Nat → Prop} {A : Option Addr} {c : Nat} {ys : List Prd} (hr : Prds w Q A c ys) (h47 : l.length + ys.length ≤ 1000000000) (hbase : base ≤ w.heap.size) :
    ∃ v' w', (Builtin.append_ #[39, 39] ty #[v, .slice A ys.length c]).run Try.prog w = .ok v' w' ∧ OwnP w' base v' (l ++ ys) ∧ Below base w w' ∧ w.grownBy w' v.ownBlock := by
  obtain ⟨i0, hi, hz0, hz1, hz2⟩ := info_parts prdInfo
  obtain ⟨h1, h2, h3, h4, h5⟩ := hr
  cases A with
  | none =>
    have h0 := h3 rfl
    subst h0
    have hy : ys = [] := List.eq_nil_of_length_eq_zero (by omega)
    subst hy
    have hrun := run_append_owned_none (P := Try.prog) (w := w) base 39 ty 35 i0 6 Try.underlying39 hi v l.length (pcs l) hown
    exact ⟨v, w, hrun, by simpa using hown, Below.refl _ _, ⟨rfl, rfl, rfl, Nat.le_refl _, fun _ _ _ => rfl⟩⟩
  | some ad =>
    have hcells : ∀ j u, (pcs ys)[j]? = some u → w.cell? (ad.add j) = some u := fun j u hj => by
      have hlt := (List.getElem?_eq_some_iff.1 hj).1
      rw [pcs_length] at hlt
      obtain ⟨g, o', e, _, _, hcell⟩ := h5 (by omega)
      injection e with e
      subst e
      rw [Addr.add_mid]
      exact hcell j u hj
    obtain ⟨v', w', hrun, k1, k2⟩ := run_append_own w base 39 ty 35 i0 _ 6 56 Try.underlying39 hi hz0 hz1 hz2 rfl (by decide) v l.length (pcs l) hown ad ys.length c (pcs ys) (pcs_length ys) hcells (pcs_one ys) (by unfold maxLen; omega) (by omega) hbase
    refine ⟨v', w', hrun, ?_, (Below.refl _ _).grown k2.1 hbase (fun k hk => (hown.lt k hk).1), k2.1⟩
    show w'.ownsRow base _ 6 v' (l ++ ys).length (pcs (l ++ ys))
    rw [List.length_append, pcs_append]
    exact k1
theorem step_append_prds {w : World} {ops : Array Oper} {o : Oper} {a : Act} {K : Act → World → Prop} {R : Exit → Act → World → Prop} {E : Prop} (hw : Region.wanted o (yielded ops a.tmps) = true) (s x : Operand)
    (ho : o.op = .call { callee := .builtin .append, args := #[s, x], argTypes := #[39, 39] })
    (base : Nat) (v : Value) (l : List Prd) (hs : a.eval s = v) (hown : OwnP w base v l) (Q : Nat → Prop) (A : Option Addr) (n c : Nat) (ys : List Prd) (hn : ys.length = n) (hx : a.eval x = .slice A n c) (hv : Prds w Q A c ys) (h47 : l.length + ys.length ≤ 1000000000) (hbase : base ≤ w.heap.size)
    (h : ∀ v' w', OwnP w' base v' (l ++ ys) → Below base w w' → w.grownBy w' v.ownBlock → K (a.put o.dst v') w') :
    if Region.wanted o (yielded ops a.tmps) = true then Oper.wp Try.prog o a w K R else E := by
  subst hn
  rw [if_pos hw]
  obtain ⟨v', w', hrun, h1, h2, h3⟩ := run_append_prds o.type base v l hown hv h47 hbase
  unfold Oper.wp
  simp [execOp, ho, resolve, invoke, builtin, hs, hx, hrun, Result.andThen]
  exact h v' w' h1 h2 h3
/-- A predicate laid in a block of its own, as a source. -/
theorem prds_one {W : World} {g : Nat} {k m lo hi : Int} {nm : List B8} {nu : Int} {p : Prd} (h : W.heap[g]? = some (.cells (prow k m lo hi nm nu) 35 (0, 0))) (e : prow k m lo hi nm nu = prow p.kind p.mask p.lo p.hi p.name p.num) (hp : pbd p) : Prds W (fun _ => True) (some ⟨g, 0, none⟩) 1 [p] := by
  rw [e] at h
  exact ⟨by simp, by unfold maxLen; omega, fun h => (by cases h), fun q hq => by rw [List.mem_singleton.1 hq]; exact hp, fun _ => ⟨g, 0, rfl, trivial, (Array.getElem?_eq_some_iff.1 h).1, range_one h⟩⟩
end Go.Proofs.Ytbbkjdckogcbgaa
