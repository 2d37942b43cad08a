/-
  KDk
-/
import Derived.Deep.CutBlock
import Derived.Deep.DeepCutAuto
import Derived.Test.YteekdhcffiaaaaaPk3
import Derived.Test.YteekdhcffiaaaaaPk16
namespace Go.Proofs.Yteekdhcffiaaaaa
open Go Go.RowKit Sh Leaf

theorem dnam (g : Nat) (w : World) (h : Deck g w) :
    Calls Try.prog 9 #[.pointer (some ⟨g, 0, none⟩)] w fun e w' => ∃ s : List B8, nmok s ∧ e = .returned (.string (sof s)) ∧ Turn g w w' := by
  obtain ⟨A, c, k, l, hI, hD, hk⟩ := h
  refine (dname g k A c l w hI hD hk).mono ?_
  rintro e w' ⟨s, k', hs, rfl, hk', hD', hb, hf⟩
  exact ⟨s, hs, rfl, ⟨A, c, k', l, hI.below hb, hD', hk'⟩, hb, hf⟩
set_option maxRecDepth 100000 in
set_option maxHeartbeats 1000000 in
theorem dminute (g : Nat) (w : World) (h : Deck g w) :
    Calls Try.prog 8 #[.pointer (some ⟨g, 0, none⟩)] w fun e w' => TurnZ (fun z => 0 ≤ z ∧ z ≤ 67108864) g w e w' := by
  go_enter Try.func8, Try.ntmps8
  go_wp2_with fail
  refine (dnext 4 (by omega) (by omega) g w h).mono ?_
  rintro e w1 ⟨i, hi, rfl, ht1⟩
  have hd1 := ht1.1
  have HT := Lib.hid ht1
  clear ht1 h
  rcases (by omega : i = 0 ∨ i = 1 ∨ i = 2 ∨ i = 3) with rfl | rfl | rfl | rfl
  · go_wp2_with fail
    refine (dnext 4320 (by omega) (by omega) g w1 hd1).mono ?_
    rintro e w2 ⟨j, hj, rfl, ht2⟩
    have HT2 := Lib.hid (HT.out.trans ht2)
    clear ht2
    go_wp2
    go_ret
    exact TurnZ.mk j ⟨by omega, by omega⟩ rfl HT2.out
  · go_wp2_with fail
    refine (dnext 60 (by omega) (by omega) g w1 hd1).mono ?_
    rintro e w2 ⟨j, hj, rfl, ht2⟩
    have hd2 := ht2.1
    have HT2 := Lib.hid (HT.out.trans ht2)
    have hw1 : IntKind.i64.wrap ((j : Int) * 1440) = (j : Int) * 1440 := by rw [IntKind.wrap_i64]; omega
    clear ht2 HT
    go_wp2_with fail
    refine (dnext 3 (by omega) (by omega) g w2 hd2).mono ?_
    rintro e w3 ⟨j2, hj2, rfl, ht3⟩
    have HT3 := Lib.hid (HT2.out.trans ht3)
    have hw2 : IntKind.i64.wrap ((j : Int) * 1440 + j2) = (j : Int) * 1440 + j2 := by rw [IntKind.wrap_i64]; omega
    have hlt : (j : Int) * 1440 + j2 < 67108864 := by omega
    clear ht3 HT2
    go_wp2
    go_ret
    exact TurnZ.mk _ ⟨by omega, by omega⟩ rfl HT3.out
  · go_wp2_with fail
    refine (dnext 4320 (by omega) (by omega) g w1 hd1).mono ?_
    rintro e w2 ⟨j, hj, rfl, ht2⟩
    have HT2 := Lib.hid (HT.out.trans ht2)
    have hw1 : IntKind.i64.wrap (67108864 - (j : Int)) = 67108864 - (j : Int) := by rw [IntKind.wrap_i64]; omega
    clear ht2
    go_wp2
    go_ret
    exact TurnZ.mk _ ⟨by omega, by omega⟩ rfl HT2.out
  · go_wp2_with fail
    refine (dnext 67108865 (by omega) (by omega) g w1 hd1).mono ?_
    rintro e w2 ⟨j, hj, rfl, ht2⟩
    have HT2 := Lib.hid (HT.out.trans ht2)
    clear ht2
    go_wp2
    go_ret
    exact TurnZ.mk j ⟨by omega, by omega⟩ rfl HT2.out


end Go.Proofs.Yteekdhcffiaaaaa
