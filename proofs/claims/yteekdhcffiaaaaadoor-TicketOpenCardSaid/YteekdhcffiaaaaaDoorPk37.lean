/-
  BxEig
-/
import Derived.Test.YteekdhcffiaaaaaDoorPk25
import Derived.Test.YteekdhcffiaaaaaDoorPk21
namespace Go.Proofs.YteekdhcffiaaaaaDoor
open Go Go.RowKit Sh Leaf

theorem make_08 (W : World) : (Instr.makeSlice 39 (.int .i64 0) (.int .i64 8)).run Tryd.prog W = .ok (.slice (some ⟨W.heap.size, 0, none⟩) 0 8) (W.alloc (.cells (brow 8 fun _ => 0) 5)) := by
  obtain ⟨i0, hi, hz0, hz1, hz2⟩ := info_parts byteInfo
  have h := run_make (P := Tryd.prog) (w := W) 39 5 i0 (.int .u8 0) Tryd.underlying39 hi hz0 .i64 .i64 (0 : Int) (8 : Int) (by omega) (by omega) (by rw [hz2]; omega) (by omega)
  rw [h, hz1, brow_zero]
  have e : madeCells (Value.int .u8 0).cells (8 * 1) = Array.replicate 8 (.int .u8 0) := by
    apply Array.ext_getElem?
    intro i
    by_cases hi : i < 8
    · simp [madeCells, Value.cells, hi, Nat.mod_one]
    · simp [madeCells, Value.cells, hi]
  rw [← e]
  simp
theorem made_08 (W : World) : OwnM (W.alloc (.cells (brow 8 fun _ => 0) 5)) W.heap.size (.slice (some ⟨W.heap.size, 0, none⟩) 0 8) [] := by
  refine ⟨W.heap.size, 8, rfl, Nat.le_refl _, by simp, by simp, by unfold maxLen; omega, fun j x hj => by simp at hj, fun j h1 h2 => ?_⟩
  have hh : Whole (W.alloc (.cells (brow 8 fun _ => 0) 5)) W.heap.size 5 (brow 8 fun _ => 0) := Whole.here _ _ _
  refine ⟨?_, hh.frozen j⟩
  rw [hh.cell, brow_zeros, List.getElem?_toArray, List.getElem?_map, List.getElem?_replicate, if_pos h2]
  rfl
set_option maxRecDepth 20000 in
set_option maxHeartbeats 1000000 in
theorem eight_ (n : Nat) (hn : n ≤ 281474976710656) (w : World) : Calls Tryd.prog 66 #[.int .i64 (n : Int)] w fun e w' => (∃ v, e = .returned v ∧ Bytes w' (fun g => w.heap.size ≤ g) v (be8 n)) ∧ Below w.heap.size w w' := by
  have hmk := make_08 w
  have hm := made_08 w
  have hb0 : Below w.heap.size w (w.alloc (.cells (brow 8 fun _ => 0) 5)) := (Below.refl _ _).alloc (Nat.le_refl _) _
  have HN := Lib.hid hn
  clear hn
  go_enter Tryd.func66, Tryd.ntmps66
  go_wp2_with fail
  generalize w.alloc (.cells (brow 8 fun _ => 0) 5) = p at hm hb0 ⊢
  clear hmk
  go_loopw [3, 4] (fun vm i wr => ∃ j : Nat, j ≤ 8 ∧ i = .int .i64 (56 - 8 * (j : Int)) ∧ OwnM wr w.heap.size vm ((be8 n).take j) ∧ Below w.heap.size w wr) (fun _ i _ => (intOf i + 8).toNat)
  case atStart => exact ⟨0, by omega, rfl, by simpa using hm, hb0⟩
  case round =>
    clear hm hb0
    obtain ⟨j, hj, rfl, hown, hbr⟩ := hrel
    by_cases hlt : j < 8
    · have hl : ((be8 n).take j).length ≤ 8 := by rw [List.length_take, be8_length]; omega
      have hbs := hbr.size
      have i0 : (0 : Int) ≤ 56 - 8 * (j : Int) := by omega
      have i1 : (56 - 8 * (j : Int)).toNat = 56 - 8 * j := by omega
      have HT := Lib.hid (be8_take_succ n hlt)
      have HZ : Hid ((n : Int) / 2 ^ (56 - 8 * j) % 256 = bv (BitVec.ofNat 8 (n / 2 ^ (56 - 8 * j)))) := Lib.hid (by rw [bv_ofNat]; simp)
      go_wp2_with (at_builtin; refine wpList_append_mark rfl _ _ rfl w.heap.size _ ((be8 n).take j) rfl (hown.alloc _) _ (.slice (some ⟨wr.heap.size, 0, none⟩) 1 1) _ rfl (bytes_one wr _ _ HZ.out) (by simp) (by simp only [List.length_singleton]; omega) (by simp; omega) ?_; intro v' w' h1 h2)
      go_roundw
      case rel =>
        refine ⟨j + 1, by omega, by go_num, ?_, (hbr.alloc (by omega) _).trans h2⟩
        rw [HT.out]; exact h1
      case measure => simp [intOf]; omega
    · obtain rfl : j = 8 := by omega
      have ek : (be8 n).take 8 = be8 n := List.take_of_length_le (by rw [be8_length]; omega)
      rw [ek] at hown
      have hby := hown.bytes
      have HBY := Lib.hid hby
      have HBR := Lib.hid hbr
      clear hown hby hbr ek
      go_wp2_with fail
      go_ret
      exact ⟨⟨_, rfl, HBY.out⟩, HBR.out⟩
end Go.Proofs.YteekdhcffiaaaaaDoor
