/-
  The bytes of a string in any world; append to a marked row as a step of a drawn region.
-/
import Derived.Test.YtbbpdcnmoabooaaDoorHmacDer
namespace Go.Proofs.YtbbpdcnmoabooaaDoor
open Go Go.RowKit Sh Leaf

theorem OwnM.mono {w : World} {base base' : Nat} {v : Value} {xs : List B8} (h : OwnM w base v xs) (hb : base' ≤ base) : OwnM w base' v xs := by
  obtain ⟨g, cap, hv, hg, r⟩ := h
  exact ⟨g, cap, hv, by omega, r⟩
abbrev strRow (s : ByteArray) (W : World) : Array Value := bytesRow s (grownCap W s.size 0 5)
theorem conv_str (s : ByteArray) (W : World) : (convert 9 22 (.string s)).run Tryd.prog W = .ok (.slice (some ⟨W.heap.size, 0, none⟩) s.size (grownCap W s.size 0 5)) (W.drew.alloc (.cells (strRow s W) 5 ((strRow s W).size, (strRow s W).size + 1))) :=
  run_bytes_of_string (P := Tryd.prog) W 9 22 5 s Tryd.underlying9 Tryd.underlying22 Tryd.underlying5
theorem own_str (s : ByteArray) (hs : s.size ≤ 1000000) (W : World) (base : Nat) (hb : base ≤ W.heap.size) :
    OwnM (W.drew.alloc (.cells (strRow s W) 5 ((strRow s W).size, (strRow s W).size + 1))) base (.slice (some ⟨W.heap.size, 0, none⟩) s.size (grownCap W s.size 0 5)) (sbytes s) := by
  obtain ⟨v', w', h, ho, _⟩ := run_str_bytes s hs W
  rw [conv_str] at h
  injection h with h1 h2
  subst h1
  subst h2
  exact ho.mono hb

theorem step_append_mark {w : World} {ops : Array Oper} {o : Oper} {a : Act} {K : Act → World → Prop} {R : Exit → Act → World → Prop} {E : Prop} (hw : Region.wanted o (yielded ops a.tmps) = true) (s x : Operand)
    (ho : o.op = .call { callee := .builtin .append, args := #[s, x], argTypes := #[22, 22] })
    (base : Nat) (v : Value) (xs : List B8) (hs : a.eval s = v) (hown : OwnM w base v xs)
    (Q : Nat → Prop) (v2 : Value) (ys : List B8) (hx : a.eval x = v2) (hr : Bytes w Q v2 ys) (h0 : 0 < ys.length) (h47 : xs.length + ys.length ≤ 1000000) (hbase : base ≤ w.heap.size)
    (h : ∀ v' w', OwnM w' base v' (xs ++ ys) → Below base w w' → K (a.put o.dst v') w') :
    if Region.wanted o (yielded ops a.tmps) = true then Oper.wp Tryd.prog o a w K R else E := by
  rw [if_pos hw]
  obtain ⟨v', w', hrun, h1, h2⟩ := run_append_mark o.type base v xs hown Q v2 ys hr h0 h47 hbase
  unfold Oper.wp
  simp [execOp, ho, resolve, invoke, builtin, hs, hx, hrun, Result.andThen]
  exact h v' w' h1 h2
end Go.Proofs.YtbbpdcnmoabooaaDoor
