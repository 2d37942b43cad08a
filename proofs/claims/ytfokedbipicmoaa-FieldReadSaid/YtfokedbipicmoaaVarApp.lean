/-
  bytes.Clone, varint.Append by their contracts.
-/
import Derived.Test.YtfokedbipicmoaaVarSpec
import Derived.Test.YtfokedbipicmoaaKApp
namespace Go.Proofs.Ytfokedbipicmoaa
open Go Go.RowKit Sh Leaf

/-- The slice v has the bytes l at the head of a block of the call's own (from 'base' on), or is nil. -/
abbrev Own (w : World) (base : Nat) (v : Value) (l : List B8) : Prop := w.ownsRow base 5 1 v l.length (l.map byt)
theorem own_nil (w : World) (base : Nat) : Own w base (.slice none 0 0) [] := ⟨by simp, .inl ⟨rfl, by simp⟩⟩

theorem clone_own (v : Value) (l : List B8) (Q : Nat → Prop) (w : World) (hr : Bytes w Q v l) (hl : l.length ≤ 1000000000) :
    Calls Try.prog 26 #[v] w fun e w' => ∃ v', e = .returned v' ∧ Own w' w.heap.size v' l ∧ Below w.heap.size w w' := by
  have hr' := hr
  obtain ⟨A, c, rfl, hc1, hc2, hc3, hc4⟩ := hr'
  have he := fun (W : World) => Lib.run_eql_slice_nil (P := Try.prog) W 22 5 A l.length c 0 0 Try.underlying22
  clear hc4
  cases A with
  | none =>
    have h0 := hc3 rfl
    have hy : l = [] := List.eq_nil_of_length_eq_zero (by omega)
    subst hy
    subst h0
    simp only [List.length_nil] at he ⊢
    clear hc3 hr
    go_enter Try.func26, Try.ntmps26
    go_wp2
    go_ret
    exact ⟨_, rfl, own_nil _ _, Below.refl _ _⟩
  | some ad =>
    clear hc3
    go_enter Try.func26, Try.ntmps26
    go_wp2_with (at_builtin; refine wpList_append_bytes rfl _ _ rfl w.heap.size (.slice (some ⟨w.heap.size, 0, none⟩) 0 0) [] rfl (own_lit w w.heap.size [] (Nat.le_refl _) (by simp)) Q _ l rfl (hr.alloc _) (by simp; omega) (by simp) ?_; intro v' w' h1 h2)
    go_ret
    exact ⟨v', rfl, by simpa using h1, ((Below.refl _ _).alloc (Nat.le_refl _) _).trans h2⟩

theorem bits_group (m : Nat) : bits .or .u8 ((m : Int) % 256) 128 = bv (BitVec.ofNat 8 (m % 128 + 128)) := by
  have h1 : ((m : Int) % 256) = bv (BitVec.ofNat 8 m) := by rw [bv_ofNat]; omega
  have h2 : (128 : Int) = bv 128 := by unfold bv; rfl
  rw [h1, h2, bits_or_bv]
  congr 1
  apply BitVec.eq_of_toNat_eq
  rw [BitVec.toNat_or, BitVec.toNat_ofNat, BitVec.toNat_ofNat]
  have h3 : m % 2 ^ 8 = 128 * (m % 256 / 128) + m % 128 := by omega
  have h4 : (128 : B8).toNat = 128 := rfl
  have h5 : m % 256 / 128 = 0 ∨ m % 256 / 128 = 1 := by omega
  have h6 := Nat.two_pow_add_eq_or_of_lt (show m % 128 < 2 ^ 7 by omega) 1
  simp only [Nat.mul_one, Nat.reducePow] at h6 ⊢
  rw [h4, Nat.or_comm]
  rcases h5 with h5 | h5
  · rw [show m % 256 = m % 128 by omega, ← h6]; omega
  · rw [show m % 256 = 128 + m % 128 by omega, h6, ← Nat.or_assoc, Nat.or_self, ← h6]; omega

set_option maxHeartbeats 1000000 in
set_option maxRecDepth 100000 in
theorem append_ok (v : Value) (l : List B8) (Q : Nat → Prop) (n : Nat) (w : World) (hr : Bytes w Q v l) (hl : l.length ≤ 1000000) (hn : n ≤ 281474976710656) :
    Calls Try.prog 29 #[v, .int .i64 (n : Int)] w fun e w' => ∃ v', e = .returned (.tuple #[v', .int .i64 0]) ∧ Own w' w.heap.size v' (l ++ enc n) ∧ Below w.heap.size w w' := by
  have h7 := enc_len7 hn
  go_enter Try.func29, Try.ntmps29
  go_wp2_with fail
  refine (clone_own v l Q _ hr (by omega)).mono ?_
  rintro e w1 ⟨v1, rfl, hown, hb⟩
  go_wp2_with fail
  go_loopw [6, 1] (fun vb vn wr => ∃ (m : Nat) (xs : List B8), vn = .int .i64 m ∧ Own wr w.heap.size vb xs ∧ xs ++ enc m = l ++ enc n ∧ m ≤ n ∧ xs.length ≤ 1000007 ∧ Below w.heap.size w wr) (fun _ vn _ => (intOf vn).toNat)
  case atStart => exact ⟨n, l, rfl, hown, rfl, Nat.le_refl _, by omega, hb⟩
  case round =>
    obtain ⟨m, xs, rfl, hown', hx, hm, hxl, hb'⟩ := hrel
    clear hown hb
    have hbs := hb'.size
    have hlen := congrArg List.length hx
    simp only [List.length_append] at hlen
    have hp := enc_pos m
    by_cases hlt : m < 128
    · rw [enc_lt hlt] at hx
      have HX := Lib.hid hx
      have hz : (m : Int) = bv (BitVec.ofNat 8 m) := by rw [bv_ofNat]; omega
      have HZ := Lib.hid hz
      clear hx hz
      have hm256 : (m : Int) < 128 := by omega
      go_wp2_with (at_builtin; go_must (refine wpList_append_bytes rfl _ _ rfl w.heap.size _ xs rfl (hown'.alloc _) _ (.slice (some ⟨wr.heap.size, 0, none⟩) 1 1) _ rfl (bytes_one wr _ _ HZ.out) (by simp only [List.length_singleton]; omega) (by simp; omega) ?_; intro v' w' h1 h2))
      go_ret2
      refine ⟨v', rfl, ?_, (hb'.alloc (by omega) _).trans h2⟩
      rw [← HX.out]; exact h1
    · rw [enc_ge hlt] at hx
      have HX := Lib.hid hx
      have HZ := Lib.hid (bits_group m)
      clear hx
      go_wp2_with (at_builtin; go_must (refine wpList_append_bytes rfl _ _ rfl w.heap.size _ xs rfl (hown'.alloc _) _ (.slice (some ⟨wr.heap.size, 0, none⟩) 1 1) _ rfl (bytes_one wr _ _ HZ.out) (by simp only [List.length_singleton]; omega) (by simp; omega) ?_; intro v' w' h1 h2))
      go_roundw
      case rel =>
        refine ⟨m / 128, xs ++ [BitVec.ofNat 8 (m % 128 + 128)], by go_num, h1, ?_, by omega, by simp; omega, (hb'.alloc (by omega) _).trans h2⟩
        rw [List.append_assoc]; exact HX.out
      case measure => simp [intOf]; omega
end Go.Proofs.Ytfokedbipicmoaa
