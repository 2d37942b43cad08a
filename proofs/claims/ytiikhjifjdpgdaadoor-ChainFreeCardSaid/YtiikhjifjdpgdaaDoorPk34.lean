/-
  KDName
  KDk
-/
import Derived.Test.YtiikhjifjdpgdaaDoorPk11
import Derived.Test.YtiikhjifjdpgdaaDoorPk0
import Derived.Test.YtiikhjifjdpgdaaDoorPk5
namespace Go.Proofs.YtiikhjifjdpgdaaDoor
open Go Go.RowKit Sh Leaf

abbrev nameRow : Array Value := #[.string { data := #[97] }, .string { data := #[98] }, .string { data := #[97, 110, 110] }, .string { data := #[98, 111, 98] }, .string { data := #[99, 105, 100] }, .string { data := #[122, 111, 101] }, .string { data := #[97, 97] }, .string { data := #[97, 98, 99, 100, 101, 102, 103, 104, 105, 106, 107, 108, 109, 110, 111, 112] }]
theorem nameRow_at (i : Nat) (hi : i < 8) : ∃ l : List B8, nameRow[i]? = some (.string (sof l)) ∧ nmok l := by
  rcases (by omega : i = 0 ∨ i = 1 ∨ i = 2 ∨ i = 3 ∨ i = 4 ∨ i = 5 ∨ i = 6 ∨ i = 7) with rfl | rfl | rfl | rfl | rfl | rfl | rfl | rfl
  · exact ⟨[97], by unfold sof; rfl, by decide⟩
  · exact ⟨[98], by unfold sof; rfl, by decide⟩
  · exact ⟨[97, 110, 110], by unfold sof; rfl, by decide⟩
  · exact ⟨[98, 111, 98], by unfold sof; rfl, by decide⟩
  · exact ⟨[99, 105, 100], by unfold sof; rfl, by decide⟩
  · exact ⟨[122, 111, 101], by unfold sof; rfl, by decide⟩
  · exact ⟨[97, 97], by unfold sof; rfl, by decide⟩
  · exact ⟨[97, 98, 99, 100, 101, 102, 103, 104, 105, 106, 107, 108, 109, 110, 111, 112], by unfold sof; rfl, by decide⟩
theorem dname (g : Nat) (k : Nat) (A : Option Addr) (c : Nat) (l : List Int) (w : World) (hI : Ints w (fun b => b < g) A c l) (hD : Whole w g 86 #[.slice A l.length c, .int .i64 k]) (hk : k ≤ l.length) :
    Calls Tryd.prog 107 #[.pointer (some ⟨g, 0, none⟩)] w fun e w' => ∃ (s : List B8) (k' : Nat), nmok s ∧ e = .returned (.string (sof s)) ∧ k' ≤ l.length ∧ Whole w' g 86 #[.slice A l.length c, .int .i64 k'] ∧ Below g w w' ∧ Oth g w w' := by
  have hgl := hD.lt
  go_enter Tryd.func107, Tryd.ntmps107
  go_wp2_with fail
  have hb0 : Below g w (w.alloc (.cells nameRow 9)) := (Below.refl _ _).alloc (by omega) _
  have hr0 : Whole (w.alloc (.cells nameRow 9)) w.heap.size 9 nameRow := Whole.here _ _ _
  have hI0 := hI.below hb0
  have hD0 := hD.alloc (.cells nameRow 9)
  refine (next g k 8 (by omega) (by omega) A c l _ hI0 hD0 hk).mono ?_
  rintro e w2 ⟨i, k', hi, rfl, hk', hD2, hb2, hf2⟩
  have hr2 : Whole w2 w.heap.size 9 nameRow := hf2 _ _ _ (by omega) hr0
  obtain ⟨s, hs, hsz⟩ := nameRow_at i (by omega)
  have hcell := (hr2.cell i).trans hs
  have hi0 : (0 : Int) ≤ (i : Int) := by omega
  have HF := Lib.hid hf2
  clear hs hr2 hr0 hf2
  go_wp2
  go_ret
  exact ⟨s, k', hsz, rfl, hk', hD2, hb0.trans hb2, (Oth.alloc g w _).trans HF.out⟩
end Go.Proofs.YtiikhjifjdpgdaaDoor
namespace Go.Proofs.YtiikhjifjdpgdaaDoor
open Go Go.RowKit Sh Leaf

theorem dupto (most : Int) (h0 : 3 ≤ most) (h1 : most ≤ 1000000000000000) (g : Nat) (w : World) (h : Deck g w) :
    Calls Tryd.prog 108 #[.pointer (some ⟨g, 0, none⟩), .int .i64 most] w fun e w' => TurnZ (fun z => 0 ≤ z ∧ z ≤ most) g w e w' := by
  obtain ⟨A, c, k, l, hI, hD, hk⟩ := h
  refine (upto most h0 h1 g k A c l w hI hD hk).mono ?_
  rintro e w' ⟨z, k', rfl, hz, hz2, hk', hD', hb, hf⟩
  exact ⟨z, ⟨hz, hz2⟩, rfl, ⟨A, c, k', l, hI.below hb, hD', hk'⟩, hb, hf⟩
theorem dnam (g : Nat) (w : World) (h : Deck g w) :
    Calls Tryd.prog 107 #[.pointer (some ⟨g, 0, none⟩)] w fun e w' => ∃ s : List B8, nmok s ∧ e = .returned (.string (sof s)) ∧ Turn g w w' := by
  obtain ⟨A, c, k, l, hI, hD, hk⟩ := h
  refine (dname g k A c l w hI hD hk).mono ?_
  rintro e w' ⟨s, k', hs, rfl, hk', hD', hb, hf⟩
  exact ⟨s, hs, rfl, ⟨A, c, k', l, hI.below hb, hD', hk'⟩, hb, hf⟩
theorem drange (lo hi : Int) (h0 : lo ≤ hi) (h1 : -1000000000000 ≤ lo) (h2 : hi ≤ 1000000000000) (g : Nat) (w : World) (h : Deck g w) :
    Calls Tryd.prog 50 #[.pointer (some ⟨g, 0, none⟩), .int .i64 lo, .int .i64 hi] w fun e w' => TurnZ (fun z => lo ≤ z ∧ z ≤ hi) g w e w' := by
  have hw1 : IntKind.i64.wrap (hi - lo) = hi - lo := by rw [IntKind.wrap_i64]; omega
  have hw2 : IntKind.i64.wrap (hi - lo + 1) = hi - lo + 1 := by rw [IntKind.wrap_i64]; omega
  have hn := fun W hW => dnext (hi - lo + 1) (by omega) (by omega) g W hW
  have hw3 : Hid (∀ i : Nat, (i : Int) < hi - lo + 1 → IntKind.i64.wrap (lo + i) = lo + i) := Lib.hid fun i hi => by rw [IntKind.wrap_i64]; omega
  clear h1 h2
  go_enter Tryd.func50, Tryd.ntmps50
  go_wp2_with fail
  refine (hn _ h).mono ?_
  rintro e w' ⟨i, hi, rfl, ht⟩
  have hw := hw3.out i hi
  have HT := Lib.hid ht
  clear ht
  go_wp2
  go_ret
  exact TurnZ.mk (lo + i) ⟨by omega, by omega⟩ rfl HT.out
set_option maxRecDepth 100000 in
set_option maxHeartbeats 1000000 in
theorem dminute (g : Nat) (w : World) (h : Deck g w) :
    Calls Tryd.prog 106 #[.pointer (some ⟨g, 0, none⟩)] w fun e w' => TurnZ (fun z => 0 ≤ z ∧ z ≤ 67108864) g w e w' := by
  go_enter Tryd.func106, Tryd.ntmps106
  go_wp2_with fail
  refine (dnext 4 (by omega) (by omega) g w h).mono ?_
  rintro e w1 ⟨i, hi, rfl, ht1⟩
  have hd1 := ht1.1
  have HT := Lib.hid ht1
  clear ht1 h
  rcases (by omega : i = 0 ∨ i = 1 ∨ i = 2 ∨ i = 3) with rfl | rfl | rfl | rfl
  · go_wp2_with fail
    refine (dnext 4320 (by omega) (by omega) g w1 hd1).mono ?_
    rintro e w2 ⟨j, hj, rfl, ht2⟩
    have HT2 := Lib.hid (HT.out.trans ht2)
    clear ht2
    go_wp2
    go_ret
    exact TurnZ.mk j ⟨by omega, by omega⟩ rfl HT2.out
  · go_wp2_with fail
    refine (dnext 60 (by omega) (by omega) g w1 hd1).mono ?_
    rintro e w2 ⟨j, hj, rfl, ht2⟩
    have hd2 := ht2.1
    have HT2 := Lib.hid (HT.out.trans ht2)
    have hw1 : IntKind.i64.wrap ((j : Int) * 1440) = (j : Int) * 1440 := by rw [IntKind.wrap_i64]; omega
    clear ht2 HT
    go_wp2_with fail
    refine (dnext 3 (by omega) (by omega) g w2 hd2).mono ?_
    rintro e w3 ⟨j2, hj2, rfl, ht3⟩
    have HT3 := Lib.hid (HT2.out.trans ht3)
    have hw2 : IntKind.i64.wrap ((j : Int) * 1440 + j2) = (j : Int) * 1440 + j2 := by rw [IntKind.wrap_i64]; omega
    have hlt : (j : Int) * 1440 + j2 < 67108864 := by omega
    clear ht3 HT2
    go_wp2
    go_ret
    exact TurnZ.mk _ ⟨by omega, by omega⟩ rfl HT3.out
  · go_wp2_with fail
    refine (dnext 4320 (by omega) (by omega) g w1 hd1).mono ?_
    rintro e w2 ⟨j, hj, rfl, ht2⟩
    have HT2 := Lib.hid (HT.out.trans ht2)
    have hw1 : IntKind.i64.wrap (67108864 - (j : Int)) = 67108864 - (j : Int) := by rw [IntKind.wrap_i64]; omega
    clear ht2
    go_wp2
    go_ret
    exact TurnZ.mk _ ⟨by omega, by omega⟩ rfl HT2.out
  · go_wp2_with fail
    refine (dnext 67108865 (by omega) (by omega) g w1 hd1).mono ?_
    rintro e w2 ⟨j, hj, rfl, ht2⟩
    have HT2 := Lib.hid (HT.out.trans ht2)
    clear ht2
    go_wp2
    go_ret
    exact TurnZ.mk j ⟨by omega, by omega⟩ rfl HT2.out
end Go.Proofs.YtiikhjifjdpgdaaDoor
