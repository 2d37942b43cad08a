/-
  KDName
-/
import Derived.Test.YteekdhcffiaaaaaPk3
import Derived.Test.YteekdhcffiaaaaaPk0
import Derived.Test.YteekdhcffiaaaaaPk5
namespace Go.Proofs.Yteekdhcffiaaaaa
open Go Go.RowKit Sh Leaf

abbrev nameRow : Array Value := #[.string { data := #[97] }, .string { data := #[98] }, .string { data := #[97, 110, 110] }, .string { data := #[98, 111, 98] }, .string { data := #[99, 105, 100] }, .string { data := #[122, 111, 101] }, .string { data := #[97, 97] }, .string { data := #[97, 98, 99, 100, 101, 102, 103, 104, 105, 106, 107, 108, 109, 110, 111, 112] }]
theorem nameRow_at (i : Nat) (hi : i < 8) : ∃ l : List B8, nameRow[i]? = some (.string (sof l)) ∧ nmok l := by
  rcases (by omega : i = 0 ∨ i = 1 ∨ i = 2 ∨ i = 3 ∨ i = 4 ∨ i = 5 ∨ i = 6 ∨ i = 7) with rfl | rfl | rfl | rfl | rfl | rfl | rfl | rfl
  · exact ⟨[97], by unfold sof; rfl, by decide⟩
  · exact ⟨[98], by unfold sof; rfl, by decide⟩
  · exact ⟨[97, 110, 110], by unfold sof; rfl, by decide⟩
  · exact ⟨[98, 111, 98], by unfold sof; rfl, by decide⟩
  · exact ⟨[99, 105, 100], by unfold sof; rfl, by decide⟩
  · exact ⟨[122, 111, 101], by unfold sof; rfl, by decide⟩
  · exact ⟨[97, 97], by unfold sof; rfl, by decide⟩
  · exact ⟨[97, 98, 99, 100, 101, 102, 103, 104, 105, 106, 107, 108, 109, 110, 111, 112], by unfold sof; rfl, by decide⟩
theorem dname (g : Nat) (k : Nat) (A : Option Addr) (c : Nat) (l : List Int) (w : World) (hI : Ints w (fun b => b < g) A c l) (hD : Whole w g 43 #[.slice A l.length c, .int .i64 k]) (hk : k ≤ l.length) :
    Calls Try.prog 9 #[.pointer (some ⟨g, 0, none⟩)] w fun e w' => ∃ (s : List B8) (k' : Nat), nmok s ∧ e = .returned (.string (sof s)) ∧ k' ≤ l.length ∧ Whole w' g 43 #[.slice A l.length c, .int .i64 k'] ∧ Below g w w' ∧ Oth g w w' := by
  have hgl := hD.lt
  go_enter Try.func9, Try.ntmps9
  go_wp2_with fail
  have hb0 : Below g w (w.alloc (.cells nameRow 9)) := (Below.refl _ _).alloc (by omega) _
  have hr0 : Whole (w.alloc (.cells nameRow 9)) w.heap.size 9 nameRow := Whole.here _ _ _
  have hI0 := hI.below hb0
  have hD0 := hD.alloc (.cells nameRow 9)
  refine (next g k 8 (by omega) (by omega) A c l _ hI0 hD0 hk).mono ?_
  rintro e w2 ⟨i, k', hi, rfl, hk', hD2, hb2, hf2⟩
  have hr2 : Whole w2 w.heap.size 9 nameRow := hf2 _ _ _ (by omega) hr0
  obtain ⟨s, hs, hsz⟩ := nameRow_at i (by omega)
  have hcell := (hr2.cell i).trans hs
  have hi0 : (0 : Int) ≤ (i : Int) := by omega
  have HF := Lib.hid hf2
  clear hs hr2 hr0 hf2
  go_wp2
  go_ret
  exact ⟨s, k', hsz, rfl, hk', hD2, hb0.trans hb2, (Oth.alloc g w _).trans HF.out⟩
end Go.Proofs.Yteekdhcffiaaaaa
