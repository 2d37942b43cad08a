/-
  Regions that lay and append slices of slices in any order: blocks that lie as they lay, append of a slice of slices.
-/
import Derived.Test.YtfokedbipicmoaaKRows
namespace Go.Proofs.Ytfokedbipicmoaa
open Go Go.RowKit Sh Leaf

/-- What lay in w lies in W, and blocks of bytes are kept. -/
structure Ctx (w W : World) : Prop where
  low : Below w.heap.size w W
  kb : Kb w W
theorem Ctx.refl (w : World) : Ctx w w := ⟨Below.refl _ _, Kb.refl _⟩
theorem Ctx.alloc {w W : World} (h : Ctx w W) (o : Obj) : Ctx w (W.alloc o) := ⟨h.low.alloc h.low.size o, h.kb.trans (Kb.alloc _ _)⟩
theorem Ctx.drew {w W : World} (h : Ctx w W) : Ctx w W.drew := ⟨h.low.drew, h.kb⟩
theorem Ctx.trans {w W X : World} (h : Ctx w W) (h1 : Below w.heap.size W X) (h2 : Kb W X) : Ctx w X := ⟨h.low.trans h1, h.kb.trans h2⟩
theorem blk_new (W : World) (o : Obj) (g : Nat) (hg : g = W.heap.size) : (W.alloc o).heap[g]? = some o := by subst hg; exact heap_alloc_new W o
theorem blk_alloc {W : World} {g : Nat} {o' : Obj} (h : W.heap[g]? = some o') (o : Obj) : (W.alloc o).heap[g]? = some o' := (Below.heap_alloc W o g (Array.getElem?_eq_some_iff.1 h).1).trans h
theorem blk_drew {W : World} {g : Nat} {o' : Obj} (h : W.heap[g]? = some o') : W.drew.heap[g]? = some o' := h
theorem blk_grown {W w1 : World} {v : Value} {g : Nat} {o : Obj} (hg : W.grownBy w1 v.ownBlock) (h : W.heap[g]? = some o) (hn : v.ownBlock ≠ some g) : w1.heap[g]? = some o :=
  (hg.block g (Array.getElem?_eq_some_iff.1 h).1 (fun e => hn e.symm)).trans h
theorem cell_of_blk {W : World} {g : Nat} {u : Value} {t : TypeId} (h : W.heap[g]? = some (.cells #[u] t (0, 0))) : W.cell? ⟨g, 0, none⟩ = some u := by rw [cell_of_row W g 0 _ t (0, 0) h]; rfl
theorem own_empty {W : World} {base g : Nat} (h : W.heap[g]? = some (.cells #[] 22 (0, 0))) (hb : base ≤ g) : W.ownsRow base 22 1 (.slice (some ⟨g, 0, none⟩) 0 0) 0 [] :=
  ⟨rfl, .inr ⟨g, 0, #[], rfl, hb, h, Nat.le_refl _, by unfold maxLen; omega, rfl, rfl⟩⟩
theorem own_not_bytes {W : World} {base : Nat} {v : Value} {n : Nat} {us : List Value} (h : W.ownsRow base 22 1 v n us) : ∀ g, v.ownBlock = some g → ∀ cs fr, W.heap[g]? ≠ some (.cells cs 5 fr) := by
  intro g hg cs fr
  rcases h.2 with ⟨rfl, _⟩ | ⟨g', cap, cur, rfl, hge, hh, _⟩
  · simp [Value.ownBlock] at hg
  · simp [Value.ownBlock] at hg
    subst hg
    rw [hh]
    intro e
    injection e with e
    injection e with _ e _
    exact absurd e (by decide)

/-- The slice value v has the values us. -/
def Vals (W : World) (v : Value) (us : List Value) : Prop :=
  ∃ A c, v = .slice A us.length c ∧ us.length ≤ c ∧ (A = none → c = 0) ∧ (∀ u ∈ us, u.oneCell' = true) ∧ (0 < us.length → ∃ g o, A = some ⟨g, o, none⟩ ∧ ∀ (j : Nat) (u : Value), us[j]? = some u → W.cell? ⟨g, o + j, none⟩ = some u)
theorem Vals.ctx {w W : World} {v : Value} {us : List Value} (h : Vals w v us) (hc : Ctx w W) : Vals W v us := by
  obtain ⟨A, c, h1, h2, h3, h4, h5⟩ := h
  refine ⟨A, c, h1, h2, h3, h4, fun h0 => ?_⟩
  obtain ⟨g, o, e, hcell⟩ := h5 h0
  exact ⟨g, o, e, fun j u hj => by rw [hc.low.cell (p := ⟨g, o + j, none⟩) (block_lt_of_cell (hcell j u hj))]; exact hcell j u hj⟩
theorem Lists.vals {w : World} {v : Value} {ll : List (List B8)} (h : Lists w v ll) : ∃ us, Vals w v us ∧ Each w w.heap.size us ll := by
  obtain ⟨A, c, us, h1, h2, h3, h4, h5, h6⟩ := h
  refine ⟨us, ⟨A, c, by rw [h5.1]; exact h1, by rw [h5.1]; exact h2, h4, h5.one, fun h0 => h6 (by rw [← h5.1]; exact h0)⟩, h5⟩
/-- append(own, src...) -/
theorem step_append_vals {w : World} {ops : Array Oper} {o : Oper} {a : Act} {K : Act → World → Prop} {R : Exit → Act → World → Prop} {E : Prop} (hw : Region.wanted o (yielded ops a.tmps) = true) (s x : Operand)
    (ho : o.op = .call { callee := .builtin .append, args := #[s, x], argTypes := #[32, 32] })
    (base : Nat) (v : Value) (us : List Value) (hs : a.eval s = v) (hown : w.ownsRow base 22 1 v us.length us) (vs : Value) (ys : List Value)
    (hx : a.eval x = vs) (hv : Vals w vs ys) (h47 : us.length + ys.length ≤ 900000000) (hbase : base ≤ w.heap.size)
    (h : ∀ v' w', w'.ownsRow base 22 1 v' (us ++ ys).length (us ++ ys) → Below base w w' → Kb w w' → w.grownBy w' v.ownBlock → K (a.put o.dst v') w') :
    if Region.wanted o (yielded ops a.tmps) = true then Oper.wp Try.prog o a w K R else E := by
  rw [if_pos hw]
  obtain ⟨A, c, rfl, h2, h3, h4, h5⟩ := hv
  unfold Oper.wp
  cases A with
  | none =>
    have h0 := h3 rfl
    subst h0
    have hy : ys = [] := List.eq_nil_of_length_eq_zero (by omega)
    subst hy
    obtain ⟨i0, hi, hz0, hz1, hz2⟩ := info_parts sliceInfo
    have hrun := run_append_owned_none (P := Try.prog) (w := w) base 32 o.type 22 i0 1 Try.underlying32 hi v us.length us hown
    simp [execOp, ho, resolve, invoke, builtin, hs, hx, hrun, Result.andThen]
    exact h v w (by simpa using hown) (Below.refl _ _) (Kb.refl _) ⟨rfl, rfl, rfl, Nat.le_refl _, fun _ _ _ => rfl⟩
  | some ad =>
    have hcells : ∀ j u, ys[j]? = some u → w.cell? (ad.add j) = some u := fun j u hj => by
      have hlt := (List.getElem?_eq_some_iff.1 hj).1
      obtain ⟨g, o', e, hcell⟩ := h5 (by omega)
      injection e with e
      subst e
      rw [Addr.add_mid]
      exact hcell j u hj
    obtain ⟨v', w', hrun, h1, h2, h3, h4⟩ := run_append_vals o.type base v us hown ad ys.length c ys rfl hcells h4 (by omega) hbase
    simp [execOp, ho, resolve, invoke, builtin, hs, hx, hrun, Result.andThen]
    exact h v' w' h1 h2 h3 h4
/-- append(own, u), the value u found in its block. -/
theorem step_append_found {w : World} {ops : Array Oper} {o : Oper} {a : Act} {K : Act → World → Prop} {R : Exit → Act → World → Prop} {E : Prop} (hw : Region.wanted o (yielded ops a.tmps) = true) (s x : Operand)
    (ho : o.op = .call { callee := .builtin .append, args := #[s, x], argTypes := #[32, 32] })
    (base : Nat) (v : Value) (us : List Value) (hs : a.eval s = v) (hown : w.ownsRow base 22 1 v us.length us)
    (g c : Nat) (hx : a.eval x = .slice (some ⟨g, 0, none⟩) 1 c) (u : Value) (t : TypeId) (hg : w.heap[g]? = some (.cells #[u] t (0, 0))) (hu : u.oneCell' = true) (h47 : us.length ≤ 900000000) (hbase : base ≤ w.heap.size)
    (h : ∀ v' w', w'.ownsRow base 22 1 v' (us ++ [u]).length (us ++ [u]) → Below base w w' → Kb w w' → w.grownBy w' v.ownBlock → K (a.put o.dst v') w') :
    if Region.wanted o (yielded ops a.tmps) = true then Oper.wp Try.prog o a w K R else E :=
  step_append_elem hw s x ho base v us hs hown u hu g c hx (cell_of_blk hg) h47 hbase h
end Go.Proofs.Ytfokedbipicmoaa
