/-
  varint.Append out of the range; the reference's Number and Append.
-/
import Derived.Test.YtdlbichdjgbedaaVarApp
namespace Go.Proofs.Ytdlbichdjgbedaa
open Go Go.RowKit Sh Leaf

set_option maxRecDepth 100000 in
theorem append_err (v : Value) (n : Int) (w : World) (hn : n < 0 ∨ 281474976710656 < n) :
    Calls Try.prog 8 #[v, .int .i64 n] w fun e w' => e = .returned (.tuple #[.slice none 0 0, .int .i64 1]) ∧ w' = w := by
  rcases hn with hn | hn
  · go_enter Try.func8, Try.ntmps8
    go_wp2
    go_ret2
    exact ⟨rfl, rfl⟩
  · have h0 : ¬ n < 0 := by omega
    go_enter Try.func8, Try.ntmps8
    go_wp2
    go_ret2
    exact ⟨rfl, rfl⟩

set_option maxRecDepth 100000 in
theorem number (n : Nat) (w : World) (hn : n ≤ 281474976710656) :
    Calls Try.prog 14 #[.int .i64 (n : Int)] w fun e w' => ∃ v', e = .returned v' ∧ Own w' w.heap.size v' (enc n) ∧ Below w.heap.size w w' := by
  have h7 := enc_len7 hn
  go_enter Try.func14, Try.ntmps14
  go_wp2_with fail
  go_loopw [3, 0] (fun vb vn wr => ∃ (m : Nat) (xs : List B8), vn = .int .i64 m ∧ Own wr w.heap.size vb xs ∧ xs ++ enc m = enc n ∧ m ≤ n ∧ xs.length ≤ 7 ∧ Below w.heap.size w wr) (fun _ vn _ => (intOf vn).toNat)
  case atStart => exact ⟨n, [], rfl, own_nil _ _, rfl, Nat.le_refl _, by simp, Below.refl _ _⟩
  case round =>
    obtain ⟨m, xs, rfl, hown', hx, hm, hxl, hb'⟩ := hrel
    have hbs := hb'.size
    have hlen := congrArg List.length hx
    simp only [List.length_append] at hlen
    have hp := enc_pos m
    by_cases hlt : m < 128
    · rw [enc_lt hlt] at hx
      have HX := Lib.hid hx
      have hz : (m : Int) = bv (BitVec.ofNat 8 m) := by rw [bv_ofNat]; omega
      have HZ := Lib.hid hz
      clear hx hz
      have hm256 : (m : Int) < 128 := by omega
      go_wp2_with (at_builtin; go_must (refine wpList_append_bytes rfl _ _ rfl w.heap.size _ xs rfl (hown'.alloc _) _ (.slice (some ⟨wr.heap.size, 0, none⟩) 1 1) _ rfl (bytes_one wr _ _ HZ.out) (by simp only [List.length_singleton]; omega) (by simp; omega) ?_; intro v' w' h1 h2))
      go_ret
      refine ⟨v', rfl, ?_, (hb'.alloc (by omega) _).trans h2⟩
      rw [← HX.out]; exact h1
    · rw [enc_ge hlt] at hx
      have HX := Lib.hid hx
      have hz : (m : Int) % 128 + 128 = bv (BitVec.ofNat 8 (m % 128 + 128)) := by rw [bv_ofNat]; omega
      have HZ := Lib.hid hz
      clear hx hz
      go_wp2_with (at_builtin; go_must (refine wpList_append_bytes rfl _ _ rfl w.heap.size _ xs rfl (hown'.alloc _) _ (.slice (some ⟨wr.heap.size, 0, none⟩) 1 1) _ rfl (bytes_one wr _ _ HZ.out) (by simp only [List.length_singleton]; omega) (by simp; omega) ?_; intro v' w' h1 h2))
      go_roundw
      case rel =>
        refine ⟨m / 128, xs ++ [BitVec.ofNat 8 (m % 128 + 128)], by go_num, h1, ?_, by omega, by simp; omega, (hb'.alloc (by omega) _).trans h2⟩
        rw [List.append_assoc]; exact HX.out
      case measure => simp [intOf]; omega

set_option maxRecDepth 100000 in
theorem ref_append_err (v : Value) (n : Int) (w : World) (hn : n < 0 ∨ 281474976710656 < n) :
    Calls Try.prog 9 #[v, .int .i64 n] w fun e w' => e = .returned (.tuple #[.slice none 0 0, .int .i64 1]) ∧ w' = w := by
  rcases hn with hn | hn
  · go_enter Try.func9, Try.ntmps9
    go_wp2
    go_ret2
    exact ⟨rfl, rfl⟩
  · have h0 : ¬ n < 0 := by omega
    go_enter Try.func9, Try.ntmps9
    go_wp2
    go_ret2
    exact ⟨rfl, rfl⟩

set_option maxRecDepth 100000 in
theorem ref_append_ok (v : Value) (l : List B8) (Q : Nat → Prop) (n : Nat) (w : World) (hr : Bytes w Q v l) (hl : l.length ≤ 1000000) (hn : n ≤ 281474976710656) :
    Calls Try.prog 9 #[v, .int .i64 (n : Int)] w fun e w' => ∃ v', e = .returned (.tuple #[v', .int .i64 0]) ∧ Own w' w.heap.size v' (l ++ enc n) ∧ Below w.heap.size w w' := by
  have h7 := enc_len7 hn
  go_enter Try.func9, Try.ntmps9
  go_wp2_with (at_builtin; go_must (refine wpList_append_bytes rfl _ _ rfl w.heap.size (.slice (some ⟨w.heap.size, 0, none⟩) 0 0) [] rfl (own_lit w w.heap.size [] (Nat.le_refl _) (by simp)) Q _ l rfl (hr.alloc _) (by simp; omega) (by simp) ?_; intro v1 w1 hown hb1))
  refine (number n _ hn).mono ?_
  rintro e w2 ⟨v2, rfl, hown2, hb2⟩
  have hs1 := hb1.size
  simp at hs1
  have hs2 := hb2.size
  have hown1 := own_below hown hb2 (Nat.le_refl _)
  clear hown
  rw [List.nil_append] at hown1
  go_wp2_with (at_builtin; go_must (refine wpList_append_bytes rfl _ _ rfl w.heap.size _ l rfl hown1 _ v2 (enc n) rfl (Bytes.of_own hown2) (by omega) (by omega) ?_; intro v3 w3 hown3 hb3))
  go_ret2
  exact ⟨v3, rfl, hown3, ((((Below.refl _ _).alloc (Nat.le_refl _) _).trans hb1).trans (hb2.mono (by omega))).trans hb3⟩
end Go.Proofs.Ytdlbichdjgbedaa
