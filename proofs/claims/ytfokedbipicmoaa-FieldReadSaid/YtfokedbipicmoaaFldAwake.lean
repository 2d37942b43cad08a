/-
  The sanity check of layer 4.
-/
import Derived.Test.YtfokedbipicmoaaFldJoin
import Derived.Test.YtfokedbipicmoaaFldSame
namespace Go.Proofs.Ytfokedbipicmoaa
open Go Go.RowKit Sh Leaf

theorem byt_lit (n : Nat) (h : n < 256) : byt (BitVec.ofNat 8 n) = .int .u8 (n : Int) := by rw [byt, bv_lit n h]
theorem Lists.of_cells {w : World} (g c : Nat) (us : List Value) (ll : List (List B8)) (hl : ll.length ≤ c) (hc : c ≤ 1000000) (he : us.length = ll.length) (hcell : ∀ j u, us[j]? = some u → w.cell? ⟨g, j, none⟩ = some u)
    (hb : ∀ (j : Nat) (u : Value) (x : List B8), us[j]? = some u → ll[j]? = some x → Bytes w (fun _ => True) u x) : Lists w (.slice (some ⟨g, 0, none⟩) ll.length c) ll :=
  ⟨_, c, us, rfl, hl, by unfold maxLen; omega, fun h => (by cases h), ⟨he, fun j u x h1 h2 => Bytes.mono (hb j u x h1 h2) fun g hg _ => .inl hg⟩, fun _ => ⟨g, 0, rfl, fun j u hj => by rw [Nat.zero_add]; exact hcell j u hj⟩⟩
theorem row_ab : (#[Value.int .u8 97, Value.int .u8 98] : Array Value) = (([97, 98] : List B8).map byt).toArray := by
  simp [show (97 : B8) = BitVec.ofNat 8 97 by rfl, show (98 : B8) = BitVec.ofNat 8 98 by rfl, byt_lit]
theorem row_none : (#[] : Array Value) = (([] : List B8).map byt).toArray := rfl
theorem row_2ab0 : (#[Value.int .u8 2, Value.int .u8 97, Value.int .u8 98, Value.int .u8 0] : Array Value) = (([2, 97, 98, 0] : List B8).map byt).toArray := by
  simp [show (2 : B8) = BitVec.ofNat 8 2 by rfl, show (97 : B8) = BitVec.ofNat 8 97 by rfl, show (98 : B8) = BitVec.ofNat 8 98 by rfl, show (0 : B8) = BitVec.ofNat 8 0 by rfl, byt_lit]
theorem jn_example : jn [[97, 98], []] = ([2, 97, 98, 0], 0) := by
  rw [jn_ok (by intro x hx; simp at hx; rcases hx with rfl | rfl <;> simp)]
  simp [cat, fld, enc_lt]

set_option maxHeartbeats 1000000 in
theorem fawake (w : World) : Calls Try.prog 11 #[] w fun e w' => e = .returned (.bool true) ∧ Below w.heap.size w w' := by
  have HJ := Lib.hid jn_example
  go_enter Try.func11, Try.ntmps11
  go_wp2_with fail
  have b1 := lit_bytes w (0, 0) [97, 98] _ row_ab (by simp)
  have b2 := lit_bytes (w.alloc (.cells #[Value.int .u8 97, Value.int .u8 98] 5)) (0, 0) [] _ row_none (by simp)
  have hb1 : Below w.heap.size w (((w.alloc (.cells #[Value.int .u8 97, Value.int .u8 98] 5)).alloc (.cells #[] 5)).alloc (.cells #[.slice (some ⟨w.heap.size, 0, none⟩) 2 2, .slice (some ⟨w.heap.size + 1, 0, none⟩) 0 0] 22)) :=
    (((Below.refl _ w).alloc (Nat.le_refl _) _).alloc (by simp) _).alloc (by simp; omega) _
  have hL : Lists (((w.alloc (.cells #[Value.int .u8 97, Value.int .u8 98] 5)).alloc (.cells #[] 5)).alloc (.cells #[.slice (some ⟨w.heap.size, 0, none⟩) 2 2, .slice (some ⟨w.heap.size + 1, 0, none⟩) 0 0] 22)) (.slice (some ⟨w.heap.size + 1 + 1, 0, none⟩) ([[97, 98], []] : List (List B8)).length 2) [[97, 98], []] := by
    have hW := Whole.here ((w.alloc (.cells #[Value.int .u8 97, Value.int .u8 98] 5)).alloc (.cells #[] 5)) 22 #[.slice (some ⟨w.heap.size, 0, none⟩) 2 2, .slice (some ⟨w.heap.size + 1, 0, none⟩) 0 0]
    rw [World.size_alloc, World.size_alloc] at hW
    refine Lists.of_cells _ 2 [.slice (some ⟨w.heap.size, 0, none⟩) 2 2, .slice (some ⟨w.heap.size + 1, 0, none⟩) 0 0] _ (by simp) (by simp) rfl (fun j u hj => ?_) (fun j u x h1 h2 => ?_)
    · rw [hW.cell]; simpa using hj
    · match j, h1, h2 with
      | 0, h1, h2 => simp at h1 h2; subst h1 h2; exact ((b1.alloc _).alloc _)
      | 1, h1, h2 => simp at h1 h2; subst h1 h2; exact (by simpa using b2.alloc _)
      | j + 2, h1, h2 => simp at h1
  refine (fjoin _ _ _ hL (by simp)).mono ?_
  rintro e w1 ⟨v1, rfl, hj, hb2⟩
  rw [HJ.out] at hj ⊢
  obtain ⟨A1, c1, rfl, -⟩ := id hj
  have hq := hb1.trans (hb2.mono hb1.size)
  clear hL hb1 hb2 b1 b2
  go_wp2_with fail
  refine (same_ _ _ [2, 97, 98, 0] [2, 97, 98, 0] _ _ _ (hj.alloc _) (lit_bytes w1 (0, 0) [2, 97, 98, 0] _ row_2ab0 (by simp)) (by simp) (by simp)).mono ?_
  rintro e w3 ⟨rfl, hb3⟩
  rw [show decide (([2, 97, 98, 0] : List B8) = [2, 97, 98, 0]) = true by simp]
  have hs := hq.size
  have hq3 := hq.trans ((((Below.refl w1.heap.size w1).alloc (Nat.le_refl _) (.cells #[Value.int .u8 2, Value.int .u8 97, Value.int .u8 98, Value.int .u8 0] 5)).trans (hb3.mono (by simp))).mono hs)
  go_wp2
  go_ret
  exact ⟨rfl, hq3⟩
end Go.Proofs.Ytfokedbipicmoaa
