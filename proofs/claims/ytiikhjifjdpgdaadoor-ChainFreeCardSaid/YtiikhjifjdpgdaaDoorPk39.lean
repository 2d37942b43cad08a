/-
  PrdEnc
-/
import Derived.Deep.DeepMust
import Derived.Test.YtiikhjifjdpgdaaDoorPk37
import Derived.Test.YtiikhjifjdpgdaaDoorPk5
import Derived.Test.YtiikhjifjdpgdaaDoorPk6
import Derived.Test.YtiikhjifjdpgdaaDoorPk3
import Derived.Test.YtiikhjifjdpgdaaDoorPk4
namespace Go.Proofs.YtiikhjifjdpgdaaDoor
open Go Go.RowKit Sh Leaf

set_option maxRecDepth 100000 in
set_option maxHeartbeats 1000000 in
theorem amask (v : Value) (l : List B8) (m : Nat) (base : Nat) (w : World) (ho : Own w base v l) (hl : l.length ≤ 1000) (hbase : base ≤ w.heap.size) :
    Calls Tryd.prog 131 #[v, .int .u64 (m : Int)] w fun e w' => ∃ v', e = .returned v' ∧ Own w' base v' (l ++ be8 m) ∧ Below base w w' := by
  go_enter Tryd.func131, Tryd.ntmps131
  go_wp2
  go_loopw [0, 6] (fun a b wr => ∃ (k : Nat) , k ≤ 8 ∧ b = .int .i64 (k : Int) ∧ Own wr base a (l ++ (be8 m).take k) ∧ Below base w wr) (fun _ b _ => (8 - intOf b).toNat)
  case atStart => exact ⟨0, by omega, rfl, by simpa using ho, Below.refl _ _⟩
  case round =>
    obtain ⟨k, hk, rfl, hown, hb⟩ := hrel
    by_cases h8 : k = 8
    · subst h8
      go_wp2
      go_ret
      exact ⟨_, rfl, by rw [show (be8 m).take 8 = be8 m from rfl] at hown; exact hown, hb⟩
    · have hlt : k < 8 := by omega
      have hll : (l ++ (be8 m).take k).length ≤ 1008 := by rw [List.length_append, List.length_take, be8_length]; omega
      have hk1 : (k : Int) < 8 := by omega
      have hw1 : IntKind.i64.wrap (7 - (k : Int)) = 7 - k := by rw [IntKind.wrap_i64]; omega
      have hw2 : IntKind.i64.wrap ((7 - (k : Int)) * 8) = (7 - k) * 8 := by rw [IntKind.wrap_i64]; omega
      have hw3 : IntKind.i64.wrap ((k : Int) + 1) = (k : Int) + 1 := by rw [IntKind.wrap_i64]; omega
      have hbs := hb.size
      have hz : (m : Int) / 2 ^ ((7 - k) * 8) % 256 = bv (BitVec.ofNat 8 (m / 2 ^ (56 - 8 * k))) := by rw [bv_ofNat, show (7 - k) * 8 = 56 - 8 * k by omega]; simp
      have HZ := Lib.hid hz
      have HT := Lib.hid (be8_take_succ m hlt)
      have HB := Lib.hid hb
      clear hz hb ho hl
      generalize hL : l ++ (be8 m).take k = L at hown hll
      have HL := Lib.hid hL
      clear hL
      go_wp2_with (at_builtin; go_must (refine wpList_append_bytes rfl _ _ rfl base _ L rfl (hown.alloc _) _ (.slice (some ⟨wr.heap.size, 0, none⟩) 1 1) _ rfl (bytes_one wr _ _ HZ.out) (by simp only [List.length_singleton]; omega) (by simp; omega) ?_; intro v' w' h1 h2))
      go_roundw
      case rel =>
        refine ⟨k + 1, by omega, by go_num, ?_, (HB.out.alloc (by omega) _).trans h2⟩
        rw [HT.out, ← List.append_assoc, HL.out]; exact h1
      case measure => simp [intOf]; omega
end Go.Proofs.YtiikhjifjdpgdaaDoor
