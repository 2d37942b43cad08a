/-
  Numbers in a row; Within.
-/
import Derived.Test.YtefjdpanjioflaaKApp
import Derived.BigQuiet
import Derived.Deep.QuietTactic
namespace Go.Proofs.Ytefjdpanjioflaa
open Go Go.RowKit Sh Leaf

/-- A list of numbers in a row. -/
def Ints (w : World) (Q : Nat → Prop) (A : Option Addr) (c : Nat) (l : List Int) : Prop :=
  l.length ≤ c ∧ c ≤ maxLen ∧ (A = none → c = 0) ∧ (∀ z, z ∈ l → -9223372036854775808 ≤ z ∧ z ≤ 9223372036854775807) ∧ (0 < l.length → ∃ g o, A = some ⟨g, o, none⟩ ∧ Q g ∧ g < w.heap.size ∧ ∀ (j : Nat) (x : Int), l[j]? = some x → w.cell? ⟨g, o + j, none⟩ = some (.int .i64 x))
theorem Ints.below {w w' : World} {b : Nat} {A : Option Addr} {c : Nat} {l : List Int} (h : Ints w (fun g => g < b) A c l) (hb : Below b w w') : Ints w' (fun g => g < b) A c l := by
  obtain ⟨h1, h2, h3, h4, h5⟩ := h
  refine ⟨h1, h2, h3, h4, fun hl => ?_⟩
  obtain ⟨g, o, e, hg, hs, hc⟩ := h5 hl
  exact ⟨g, o, e, hg, by have := hb.size; omega, fun j x hj => (hb.cell (p := ⟨g, o + j, none⟩) hg).trans (hc j x hj)⟩
theorem Ints.within {w : World} {b : Nat} {Q : Nat → Prop} {A : Option Addr} {c : Nat} {l : List Int} (h : Ints w Q A c l) (hb : w.heap.size ≤ b) : Ints w (fun g => g < b) A c l := by
  obtain ⟨h1, h2, h3, h4, h5⟩ := h
  refine ⟨h1, h2, h3, h4, fun hl => ?_⟩
  obtain ⟨g, o, e, _, hs, hc⟩ := h5 hl
  exact ⟨g, o, e, by omega, hs, hc⟩
theorem Ints.mono {w : World} {b b' : Nat} {A : Option Addr} {c : Nat} {l : List Int} (h : Ints w (fun g => g < b) A c l) (hb : b ≤ b') : Ints w (fun g => g < b') A c l := by
  obtain ⟨h1, h2, h3, h4, h5⟩ := h
  refine ⟨h1, h2, h3, h4, fun hl => ?_⟩
  obtain ⟨g, o, e, hg, hs, hc⟩ := h5 hl
  exact ⟨g, o, e, by omega, hs, hc⟩
theorem within_ (x n : Int) (h0 : 0 < n) (h1 : n ≤ 1152921504606846976) (_ : -9223372036854775808 ≤ x ∧ x ≤ 9223372036854775807) (w : World) :
    Calls Try.prog 10 #[.int .i64 x, .int .i64 n] w fun e w' => (∃ i : Nat, (i : Int) < n ∧ e = .returned (.int .i64 i)) ∧ w' = w := by
  have hlo : -n < x.tmod n := by
    have := Int.tmod_lt_of_pos (-x) h0
    rw [Int.neg_tmod] at this
    omega
  have hhi : x.tmod n < n := Int.tmod_lt_of_pos x h0
  obtain ⟨r, hr⟩ : ∃ r, r = x.tmod n := ⟨_, rfl⟩
  rw [← hr] at hlo hhi
  have h2 : (r + n).tmod n = (r + n) % n := Int.tmod_eq_emod_of_nonneg (by omega)
  have h3 := Int.emod_nonneg (r + n) (by omega : n ≠ 0)
  have h4 := Int.emod_lt_of_pos (r + n) h0
  go_enter Try.func10, Try.ntmps10
  go_wp2
  rw [hr] at h3 h4
  go_ret
  exact ⟨⟨((x.tmod n + n) % n).toNat, by omega, by rw [Int.toNat_of_nonneg h3]; rfl⟩, rfl⟩
end Go.Proofs.Ytefjdpanjioflaa
