/-
  bytes.Clone, appendNumber, padding by their contracts.
-/
import Derived.Test.YtbbpdcnmoabooaaDoorShaBytes
namespace Go.Proofs.YtbbpdcnmoabooaaDoor
open Go Go.RowKit Sh Leaf

theorem clone (v : Value) (l : List B8) (Q : Nat → Prop) (w : World) (hr : Bytes w Q v l) (hl : l.length ≤ 1000000000) :
    Calls Tryd.prog 37 #[v] w fun e w' => ∃ v', e = .returned v' ∧ Bytes w' (fun g => w.heap.size ≤ g) v' l ∧ Below w.heap.size w w' := by
  have hr' := hr
  obtain ⟨A, c, rfl, hc1, hc2, hc3, hc4⟩ := hr'
  have he := fun (W : World) => Lib.run_eql_slice_nil (P := Tryd.prog) W 22 5 A l.length c 0 0 Tryd.underlying22
  clear hc4
  cases A with
  | none =>
    have h0 := hc3 rfl
    have hy : l = [] := List.eq_nil_of_length_eq_zero (by omega)
    subst hy
    subst h0
    simp only [List.length_nil] at he ⊢
    clear hc3 hr
    go_enter Tryd.func37, Tryd.ntmps37
    go_wp2
    go_ret
    exact ⟨_, rfl, Bytes.nil _ _, Below.refl _ _⟩
  | some ad =>
    clear hc3
    go_enter Tryd.func37, Tryd.ntmps37
    go_wp2_with (at_builtin; refine wpList_append_bytes rfl _ _ rfl w.heap.size (.slice (some ⟨w.heap.size, 0, none⟩) 0 0) [] rfl (own_lit w w.heap.size [] (Nat.le_refl _) (by simp)) Q _ l rfl (hr.alloc _) (by simp; omega) (by simp) ?_; intro v' w' h1 h2)
    go_ret
    exact ⟨v', rfl, Bytes.of_own (by simpa using h1), ((Below.refl _ _).alloc (Nat.le_refl _) _).trans h2⟩

set_option maxHeartbeats 1000000 in
theorem appendNumber (v : Value) (xs : List B8) (n size base : Nat) (w : World) (hown : w.ownsRow base 5 1 v xs.length (xs.map byt)) (hbase : base ≤ w.heap.size) (hx : xs.length ≤ 1000000000) (hs : size ≤ 8) :
    Calls Tryd.prog 39 #[v, .int .u64 (n : Int), .int .i64 (size : Int)] w fun e w' => ∃ v', e = .returned v' ∧ w'.ownsRow base 5 1 v' (xs ++ beBytes n size).length ((xs ++ beBytes n size).map byt) ∧ Below base w w' ∧ w.heap.size ≤ w'.heap.size := by
  go_enter Tryd.func39, Tryd.ntmps39
  go_wp2
  go_loopw [0, 9] (fun b i wr => ∃ k : Nat, k ≤ size ∧ i = .int .i64 k ∧ wr.ownsRow base 5 1 b (xs ++ (beBytes n size).take k).length ((xs ++ (beBytes n size).take k).map byt) ∧ Below base w wr) (fun _ i _ => size - (intOf i).toNat)
  case atStart => exact ⟨0, by omega, rfl, by simpa using hown, Below.refl _ _⟩
  case round =>
    obtain ⟨k, hk, rfl, hown', hb⟩ := hrel
    by_cases hlt : k < size
    · have hl : (xs ++ (beBytes n size).take k).length ≤ 1000000008 := by simp [List.length_take, beBytes_length]; omega
      have hbs := hb.size
      have hz := be_byte n (size - 1 - k)
      have HZ := Lib.hid hz
      clear hz
      go_wp2_with (at_builtin; go_must (refine wpList_append_bytes rfl _ _ rfl base _ (xs ++ (beBytes n size).take k) rfl (hown'.alloc _) _ (.slice (some ⟨wr.heap.size, 0, none⟩) 1 1) _ rfl (bytes_one wr _ _ HZ.out) (by simp only [List.length_singleton]; omega) (by simp; omega) ?_; intro v' w' h1 h2))
      go_roundw
      case rel =>
        refine ⟨k + 1, by omega, by go_num, ?_, (hb.alloc (by omega) _).trans h2⟩
        rw [beBytes_take_succ n size k hlt, ← List.append_assoc]; exact h1
      case measure => simp [intOf]; omega
    · have ek : (beBytes n size).take k = beBytes n size := List.take_of_length_le (by rw [beBytes_length]; omega)
      rw [ek] at hown'
      clear ek
      go_wp2
      go_ret
      exact ⟨_, rfl, hown', hb, hb.size⟩
end Go.Proofs.YtbbpdcnmoabooaaDoor
