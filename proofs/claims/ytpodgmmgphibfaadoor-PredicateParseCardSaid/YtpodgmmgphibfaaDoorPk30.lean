/-
  The reference's Number.
  The reference's Field.
-/
import Derived.Test.YtpodgmmgphibfaaDoorPk0
import Derived.Test.YtpodgmmgphibfaaDoorPk1
namespace Go.Proofs.YtpodgmmgphibfaaDoor
open Go Go.RowKit Sh Leaf

set_option maxRecDepth 100000 in
theorem number (n : Nat) (w : World) (hn : n ≤ 281474976710656) :
    Calls Tryd.prog 53 #[.int .i64 (n : Int)] w fun e w' => ∃ v', e = .returned v' ∧ Own w' w.heap.size v' (enc n) ∧ Below w.heap.size w w' := by
  have h7 := enc_len7 hn
  go_enter Tryd.func53, Tryd.ntmps53
  go_wp2_with fail
  go_loopw [3, 0] (fun vb vn wr => ∃ (m : Nat) (xs : List B8), vn = .int .i64 m ∧ Own wr w.heap.size vb xs ∧ xs ++ enc m = enc n ∧ m ≤ n ∧ xs.length ≤ 7 ∧ Below w.heap.size w wr) (fun _ vn _ => (intOf vn).toNat)
  case atStart => exact ⟨n, [], rfl, own_nil _ _, rfl, Nat.le_refl _, by simp, Below.refl _ _⟩
  case round =>
    obtain ⟨m, xs, rfl, hown', hx, hm, hxl, hb'⟩ := hrel
    have hbs := hb'.size
    have hlen := congrArg List.length hx
    simp only [List.length_append] at hlen
    have hp := enc_pos m
    by_cases hlt : m < 128
    · rw [enc_lt hlt] at hx
      have HX := Lib.hid hx
      have hz : (m : Int) = bv (BitVec.ofNat 8 m) := by rw [bv_ofNat]; omega
      have HZ := Lib.hid hz
      clear hx hz
      have hm256 : (m : Int) < 128 := by omega
      go_wp2_with (at_builtin; go_must (refine wpList_append_bytes rfl _ _ rfl w.heap.size _ xs rfl (hown'.alloc _) _ (.slice (some ⟨wr.heap.size, 0, none⟩) 1 1) _ rfl (bytes_one wr _ _ HZ.out) (by simp only [List.length_singleton]; omega) (by simp; omega) ?_; intro v' w' h1 h2))
      go_ret
      refine ⟨v', rfl, ?_, (hb'.alloc (by omega) _).trans h2⟩
      rw [← HX.out]; exact h1
    · rw [enc_ge hlt] at hx
      have HX := Lib.hid hx
      have hz : (m : Int) % 128 + 128 = bv (BitVec.ofNat 8 (m % 128 + 128)) := by rw [bv_ofNat]; omega
      have HZ := Lib.hid hz
      clear hx hz
      go_wp2_with (at_builtin; go_must (refine wpList_append_bytes rfl _ _ rfl w.heap.size _ xs rfl (hown'.alloc _) _ (.slice (some ⟨wr.heap.size, 0, none⟩) 1 1) _ rfl (bytes_one wr _ _ HZ.out) (by simp only [List.length_singleton]; omega) (by simp; omega) ?_; intro v' w' h1 h2))
      go_roundw
      case rel =>
        refine ⟨m / 128, xs ++ [BitVec.ofNat 8 (m % 128 + 128)], by go_num, h1, ?_, by omega, by simp; omega, (hb'.alloc (by omega) _).trans h2⟩
        rw [List.append_assoc]; exact HX.out
      case measure => simp [intOf]; omega

end Go.Proofs.YtpodgmmgphibfaaDoor
namespace Go.Proofs.YtpodgmmgphibfaaDoor
open Go Go.RowKit Sh Leaf

theorem rfield (v : Value) (x : List B8) (Q : Nat → Prop) (w : World) (hr : Bytes w Q v x) (hl : x.length ≤ 1000000) :
    Calls Tryd.prog 55 #[v] w fun e w' => ∃ v', e = .returned v' ∧ Own w' w.heap.size v' (fld x) ∧ Below w.heap.size w w' := by
  obtain ⟨A, c, rfl, -⟩ := id hr
  have he7 := enc_len7 (n := x.length) (by omega)
  go_enter Tryd.func55, Tryd.ntmps55
  go_wp2_with fail
  refine (number x.length _ (by omega)).mono ?_
  rintro e w1 ⟨v1, rfl, hown, hb1⟩
  have hx' := hr.below hb1 (Nat.le_refl _)
  have hs := hb1.size
  clear hr
  go_wp2_with (at_builtin; refine wpList_append_bytes rfl _ _ rfl w.heap.size v1 (enc x.length) rfl hown Q _ x rfl hx' (by omega) hs ?_; intro v3 w3 ho3 hb3)
  go_ret
  exact ⟨v3, rfl, ho3, hb1.trans hb3⟩
end Go.Proofs.YtpodgmmgphibfaaDoor
