/-
  The call of Meet.
-/
import Derived.Test.YtedjbjplnjnnlaaDoorPk23
namespace Go.Proofs.YtedjbjplnjnnlaaDoor
open Go Go.RowKit Sh Leaf

section
variable {p W : World} {x y : Value} {a b : Aut} {Q1 Q2 : Nat → Prop}
theorem law_meet (hb : Below p.heap.size p W) (hx : Av W Q1 x a) (hy : Av W Q2 y b) :
    Calls Tryd.prog 25 #[x, y] W fun e w' => (∃ z m, e = .returned z ∧ Av w' (fun _ => True) z m ∧ IsSet (both a b) m) ∧ Below p.heap.size p w' ∧ Below W.heap.size W w' :=
  (ameet hx hy).mono fun _ _ h => by
    obtain ⟨⟨z, m, he, hz, hm⟩, h2⟩ := h
    exact ⟨⟨z, m, he, hz.all, hm⟩, hb.trans (h2.mono hb.size), h2⟩
end
end Go.Proofs.YtedjbjplnjnnlaaDoor
