/-
  The calls of Of and of SameAuthority, from a world p on that they leave as it was.
-/
import Derived.Test.YtedjbjplnjnnlaaDoorPk9
import Derived.Test.YtedjbjplnjnnlaaDoorPk31
import Derived.Test.YtedjbjplnjnnlaaDoorPk33
import Derived.Test.YtedjbjplnjnnlaaDoorPk30
namespace Go.Proofs.YtedjbjplnjnnlaaDoor
open Go Go.RowKit Sh Leaf

section
variable {p W : World} {x y : Value} {a b : Aut} {Q1 Q2 : Nat → Prop}
theorem law_same (hb : Below p.heap.size p W) (hx : Av W Q1 x a) (hy : Av W Q2 y b) {B : Bool} (e : decide (a = b) = B) :
    Calls Tryd.prog 14 #[x, y] W fun e w' => e = .returned (.bool B) ∧ Below p.heap.size p w' ∧ Below W.heap.size W w' :=
  (rsame_aut hx hy).mono fun _ _ h => ⟨by rw [h.1, e], hb.trans (h.2.mono hb.size), h.2⟩
end
/-- The calls of Of. -/
def OfC (A : Option Addr) (n c : Nat) (l : List Prd) (W : World) : Prop := Calls Tryd.prog 24 #[.slice A n c] W fun e w' => (∃ x m er, e = .returned (.tuple #[x, .int .i64 er]) ∧ Av w' (fun b => W.heap.size ≤ b) x m ∧ OfR l m er) ∧ Below W.heap.size W w'
def OfD (A : Option Addr) (n c : Nat) (l : List Prd) (W : World) : Prop := Calls Tryd.prog 23 #[.slice A n c] W fun e w' => (∃ x m er, e = .returned (.tuple #[x, .int .i64 er]) ∧ Av w' (fun b => W.heap.size ≤ b) x m ∧ OfR l m er) ∧ Below W.heap.size W w'
theorem law_ofs {p : World} {A : Option Addr} {n c : Nat} {l : List Prd} (hP : Prds p (fun g => g < p.heap.size) A c l) (hn : n = l.length) : ∀ W, Below p.heap.size p W → OfC A n c l W ∧ OfD A n c l W := fun W hb => by
  subst hn
  have h := hP.keep hb.size fun g _ hq => hb.block g hq
  exact ⟨aof l A c _ W h, rof l A c _ W h⟩
theorem ofr_unique {l : List Prd} {m n : Aut} {d e : Int} (h : OfR l m d) (k : OfR l n e) : m = n ∧ d = e := by
  rcases h with ⟨h1, rfl, rfl⟩ | ⟨h1, h2, rfl, rfl⟩ | ⟨h1, h2, h3, rfl⟩ <;> rcases k with ⟨k1, rfl, rfl⟩ | ⟨k1, k2, rfl, rfl⟩ | ⟨k1, k2, k3, rfl⟩
  · exact ⟨rfl, rfl⟩
  · omega
  · omega
  · omega
  · exact ⟨rfl, rfl⟩
  · exact absurd k2 h2
  · omega
  · exact absurd h2 k2
  · exact ⟨h3.unique k3, rfl⟩
end Go.Proofs.YtedjbjplnjnnlaaDoor
