/-
  Rows and authorities where the deck has turned.
-/
import Derived.Test.YtgbcncfhmnhljaaDoorPk21
import Derived.Test.YtgbcncfhmnhljaaDoorPk10
namespace Go.Proofs.YtgbcncfhmnhljaaDoor
open Go Go.RowKit Sh Leaf

theorem World.cell_of_block {w w' : World} {b i : Nat} (h : w'.heap[b]? = w.heap[b]?) : w'.cell? ⟨b, i, none⟩ = w.cell? ⟨b, i, none⟩ := by
  unfold World.cell?
  rw [h]
theorem seq_oth {α : Type} {f : α → List Value} {ok : α → Prop} {w w' : World} {Q : Nat → Prop} {A : Option Addr} {c : Nat} {l : List α} {g : Nat} (h : Seq f ok w Q A c l) (ho : Oth g w w') (hs : w.heap.size ≤ w'.heap.size) (hQ : ∀ b, b < w.heap.size → Q b → b ≠ g) : Seq f ok w' Q A c l := by
  obtain ⟨h1, h2, h3, h4, h5⟩ := h
  refine ⟨h1, h2, h3, h4, fun hl => ?_⟩
  obtain ⟨b, o, hA, hq, hg, hc⟩ := h5 hl
  exact ⟨b, o, hA, hq, by omega, fun j v hj => ho.cell (hQ b hg hq) (hc j v hj)⟩
theorem Av.oth {w w' : World} {Q : Nat → Prop} {x : Value} {a : Aut} {g : Nat} (h : Av w Q x a) (ho : Oth g w w') (hs : w.heap.size ≤ w'.heap.size) (hQ : ∀ b, b < w.heap.size → Q b → b ≠ g) : Av w' Q x a := by
  obtain ⟨A, c, e, hS, hb⟩ := h
  exact ⟨A, c, e, seq_oth hS ho hs hQ, hb⟩
/-- The numbers of the deck at g lie in a block of which Q holds. -/
def DeckIn (Q : Nat → Prop) (g : Nat) (w : World) : Prop := ∃ (A : Option Addr) (n c : Nat), w.cell? ⟨g, 0, none⟩ = some (.slice A n c) ∧ (0 < n → ∃ b o, A = some ⟨b, o, none⟩ ∧ Q b)
theorem DeckIn.oth {Q : Nat → Prop} {g : Nat} {w w' : World} (h : DeckIn Q g w) (ho : Oth g w w') : DeckIn Q g w' := by
  obtain ⟨A, n, c, h1, h2⟩ := h
  exact ⟨A, n, c, ho.zero _ h1, h2⟩
theorem DeckIn.below {Q : Nat → Prop} {g B : Nat} {w w' : World} (h : DeckIn Q g w) (hb : Below B w w') (hg : g < B) : DeckIn Q g w' := by
  obtain ⟨A, n, c, h1, h2⟩ := h
  exact ⟨A, n, c, (hb.cell (p := ⟨g, 0, none⟩) hg).trans h1, h2⟩
/-- A block that is neither the deck's own nor that of its numbers may be written anew. -/
theorem Deck.setRow {Q : Nat → Prop} {g b : Nat} {w : World} (h : Deck g w) (hi : DeckIn Q g w) (hb : b ≠ g) (hQ : ∀ k, Q k → k ≠ b) (cs : Array Value) : Deck g (w.setRow b cs) := by
  obtain ⟨A, c, k, l, hI, hD, hk⟩ := h
  obtain ⟨A', n, c', h1, h2⟩ := hi
  have e := hD.cell 0
  rw [h1] at e
  simp at e
  obtain ⟨rfl, rfl, rfl⟩ := e
  refine ⟨A', c', k, l, ?_, hD.setRow_far (Ne.symm hb) cs, hk⟩
  obtain ⟨i1, i2, i3, i4, i5⟩ := hI
  refine ⟨i1, i2, i3, i4, fun hl => ?_⟩
  obtain ⟨x, o, hA, hx, hs, hc⟩ := i5 hl
  obtain ⟨y, o', hA', hq⟩ := h2 hl
  rw [hA] at hA'
  cases hA'
  refine ⟨x, o, hA, hx, by simpa using hs, fun j z hj => ?_⟩
  rw [← hc j z hj]
  exact World.cell_of_block (setRow_other w b x cs (hQ x hq))
theorem DeckIn.setRow {Q : Nat → Prop} {g b : Nat} {w : World} (hi : DeckIn Q g w) (hb : b ≠ g) (cs : Array Value) : DeckIn Q g (w.setRow b cs) := by
  obtain ⟨A, n, c, h1, h2⟩ := hi
  exact ⟨A, n, c, (World.cell_of_block (setRow_other w b g cs (Ne.symm hb))).trans h1, h2⟩
theorem dnew_in (A : Option Addr) (n c : Nat) (l : List Int) (w : World) (hn : n = l.length) (hI : Ints w (fun b => b < w.heap.size) A c l) (Q : Nat → Prop) (hQ : 0 < n → ∃ b o, A = some ⟨b, o, none⟩ ∧ Q b) :
    Calls Tryd.prog 15 #[.slice A n c] w fun e w' => e = .returned (.pointer (some ⟨w.heap.size, 0, none⟩)) ∧ Deck w.heap.size w' ∧ DeckIn Q w.heap.size w' ∧ Below w.heap.size w w' := by
  subst hn
  refine (deckNew A l.length c w).mono ?_
  rintro e w' ⟨rfl, h1, h2⟩
  exact ⟨rfl, ⟨A, c, 0, l, hI.below h2, h1, Nat.zero_le _⟩, ⟨A, l.length, c, (h1.cell 0).trans rfl, hQ⟩, h2⟩
end Go.Proofs.YtgbcncfhmnhljaaDoor
