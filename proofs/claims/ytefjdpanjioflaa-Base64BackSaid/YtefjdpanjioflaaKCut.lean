/-
  b[:min(len(b), m)]: the three ways of the test, and what is left.
-/
import Derived.Test.YtefjdpanjioflaaKBytes
namespace Go.Proofs.Ytefjdpanjioflaa
open Go Go.RowKit Sh Leaf

/-- The length N that is left, by the test's way; the list p that is left. -/
theorem cut_cases {A : Option Addr} {l : List B8} {c : Nat} {Q : Nat → Prop} {w : World} (hb : Bytes w Q (.slice A l.length c) l) (m : Nat) :
    ∃ N : Nat, ((m < l.length ∧ N = m) ∨ (l.length < m ∧ N = l.length) ∨ (l.length ≤ m ∧ m ≤ l.length ∧ N = l.length)) ∧ N ≤ c ∧ N ≤ m ∧ ∃ p : List B8, Bytes w Q (.slice A N c) p ∧ p.length = N := by
  have hp := hb.cut m
  obtain ⟨A0, c0, e0, h1, h2, h3, h4⟩ := id hb
  cases e0
  rcases Nat.lt_trichotomy l.length m with h | h | h
  · exact ⟨_, .inr (.inl ⟨h, rfl⟩), h1, by omega, l, hb, rfl⟩
  · exact ⟨_, .inr (.inr ⟨by omega, by omega, rfl⟩), h1, by omega, l, hb, rfl⟩
  · have e : (l.take m).length = m := by simp; omega
    rw [e] at hp
    exact ⟨_, .inl ⟨h, rfl⟩, by omega, by omega, _, hp, e⟩
end Go.Proofs.Ytefjdpanjioflaa
