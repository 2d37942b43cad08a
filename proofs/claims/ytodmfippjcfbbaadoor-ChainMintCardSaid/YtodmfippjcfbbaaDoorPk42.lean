/-
  KDName
  KDk
-/
import Derived.Test.YtodmfippjcfbbaaDoorPk11
import Derived.Test.YtodmfippjcfbbaaDoorPk0
import Derived.Test.YtodmfippjcfbbaaDoorPk5
namespace Go.Proofs.YtodmfippjcfbbaaDoor
open Go Go.RowKit Sh Leaf

abbrev nameRow : Array Value := #[.string { data := #[97] }, .string { data := #[98] }, .string { data := #[97, 110, 110] }, .string { data := #[98, 111, 98] }, .string { data := #[99, 105, 100] }, .string { data := #[122, 111, 101] }, .string { data := #[97, 97] }, .string { data := #[97, 98, 99, 100, 101, 102, 103, 104, 105, 106, 107, 108, 109, 110, 111, 112] }]
end Go.Proofs.YtodmfippjcfbbaaDoor
namespace Go.Proofs.YtodmfippjcfbbaaDoor
open Go Go.RowKit Sh Leaf

theorem dupto (most : Int) (h0 : 3 ≤ most) (h1 : most ≤ 1000000000000000) (g : Nat) (w : World) (h : Deck g w) :
    Calls Tryd.prog 18 #[.pointer (some ⟨g, 0, none⟩), .int .i64 most] w fun e w' => TurnZ (fun z => 0 ≤ z ∧ z ≤ most) g w e w' := by
  obtain ⟨A, c, k, l, hI, hD, hk⟩ := h
  refine (upto most h0 h1 g k A c l w hI hD hk).mono ?_
  rintro e w' ⟨z, k', rfl, hz, hz2, hk', hD', hb, hf⟩
  exact ⟨z, ⟨hz, hz2⟩, rfl, ⟨A, c, k', l, hI.below hb, hD', hk'⟩, hb, hf⟩
end Go.Proofs.YtodmfippjcfbbaaDoor
