/-
  The deck: Upto.
-/
import Derived.Test.YtdlbichdjgbedaaKDeck
namespace Go.Proofs.Ytdlbichdjgbedaa
open Go Go.RowKit Sh Leaf

/-- A number from 0 to most was drawn from the deck at g. -/
def DeckInt (most : Int) (g : Nat) (A : Option Addr) (c : Nat) (l : List Int) (w : World) (e : Ending) (w' : World) : Prop :=
  ∃ (z : Int) (k' : Nat), e = .returned (.int .i64 z) ∧ 0 ≤ z ∧ z ≤ most ∧ k' ≤ l.length ∧ Whole w' g 45 #[.slice A l.length c, .int .i64 k'] ∧ Below g w w' ∧ ∀ b t cs, b ≠ g → Whole w b t cs → Whole w' b t cs
theorem DeckInt.mk {most : Int} {g : Nat} {A : Option Addr} {c : Nat} {l : List Int} {w : World} {e : Ending} {w' : World} (z : Int) (k' : Nat) (he : e = .returned (.int .i64 z)) (h0 : 0 ≤ z) (h1 : z ≤ most) (hk : k' ≤ l.length)
    (hD : Whole w' g 45 #[.slice A l.length c, .int .i64 k']) (hb : Below g w w') (hf : ∀ b t cs, b ≠ g → Whole w b t cs → Whole w' b t cs) : DeckInt most g A c l w e w' := ⟨z, k', he, h0, h1, hk, hD, hb, hf⟩

set_option maxRecDepth 100000 in
set_option maxHeartbeats 1000000 in
theorem upto (most : Int) (h0 : 3 ≤ most) (h1 : most ≤ 1000000000000000) (g : Nat) (k : Nat) (A : Option Addr) (c : Nat) (l : List Int) (w : World) (hI : Ints w (fun b => b < g) A c l) (hD : Whole w g 45 #[.slice A l.length c, .int .i64 k]) (hk : k ≤ l.length) :
    Calls Try.prog 11 #[.pointer (some ⟨g, 0, none⟩), .int .i64 most] w fun e w' => DeckInt most g A c l w e w' := by
  go_enter Try.func11, Try.ntmps11
  go_wp2_with fail
  refine (next g k 4 (by omega) (by omega) A c l _ hI hD hk).mono ?_
  rintro e w2 ⟨i, k', hi, rfl, hk', hD2, hb2, hf2⟩
  have hI2 := hI.below hb2
  have HF2 := Lib.hid hf2
  clear hf2 hD hk hI
  rcases (by omega : i = 0 ∨ i = 1 ∨ i = 2 ∨ i = 3) with rfl | rfl | rfl | rfl
  all_goals
    go_wp2_with fail
    refine (next g k' _ (by omega) (by omega) A c l _ hI2 hD2 hk').mono ?_
    rintro e w3 ⟨j, k2, hj, rfl, hk2, hD3, hb3, hf3⟩
    have HF3 := Lib.hid hf3
    clear hf3
    go_wp2
    all_goals
      go_ret
      exact DeckInt.mk _ k2 rfl (by omega) (by omega) hk2 hD3 (hb2.trans hb3) fun b t cs h1 h2 => HF3.out b t cs h1 (HF2.out b t cs h1 h2)
end Go.Proofs.Ytdlbichdjgbedaa
