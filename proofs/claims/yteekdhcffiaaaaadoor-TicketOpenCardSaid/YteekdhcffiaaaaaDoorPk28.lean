/-
  VarRead
-/
import Derived.BigQuiet
import Derived.Deep.QuietTactic
import Derived.Deep.LoopGhost
import Derived.Test.YteekdhcffiaaaaaDoorPk0
import Derived.Test.YteekdhcffiaaaaaDoorPk3
namespace Go.Proofs.YteekdhcffiaaaaaDoor
open Go Go.RowKit Sh Leaf

theorem or_shift (a b k : Nat) (ha : a < 128 ^ k) (hb : b < 128) (hk : k ≤ 6) : bits .or .i64 (a : Int) (wrap64 ((b : Int) * 2 ^ (7 * k))) = ((a + 128 ^ k * b : Nat) : Int) := by
  have e : (2 : Nat) ^ (7 * k) = 128 ^ k := by rw [Nat.pow_mul]
  have hk6 : 128 ^ k ≤ 128 ^ 6 := Nat.pow_le_pow_right (by omega) hk
  have hp : 128 ^ k * b ≤ 128 ^ 6 * 127 := Nat.mul_le_mul hk6 (by omega)
  have e1 : ((b : Int) * 2 ^ (7 * k)) = ((128 ^ k * b : Nat) : Int) := by rw [← e, Nat.mul_comm]; simp; rw [Int.mul_comm]
  have hsum : a + 128 ^ k * b < 2 ^ 63 := by omega
  have hor : a ||| 128 ^ k * b = a + 128 ^ k * b := by
    rw [← e] at ha ⊢
    rw [Nat.or_comm, ← Nat.two_pow_add_eq_or_of_lt ha b, Nat.add_comm]
  rw [e1]
  generalize 128 ^ k * b = y at *
  have hy : wrap64 (y : Int) = (y : Int) := by unfold wrap64; omega
  rw [hy]
  show IntKind.i64.wrap ((BitVec.ofInt 64 (a : Int) ||| BitVec.ofInt 64 (y : Int)).toNat : Int) = _
  rw [BitVec.ofInt_natCast, BitVec.ofInt_natCast, BitVec.toNat_or, BitVec.toNat_ofNat, BitVec.toNat_ofNat, Nat.mod_eq_of_lt (by omega), Nat.mod_eq_of_lt (by omega), hor, IntKind.wrap_i64]
  omega

set_option maxRecDepth 100000 in
set_option maxHeartbeats 1000000 in
theorem read_ (v : Value) (l : List B8) (Q : Nat → Prop) (w : World) (hr : Bytes w Q v l) :
    Calls Tryd.prog 81 #[v] w fun e w' => e = .returned (.tuple #[.int .i64 ((rd l).1 : Int), .int .i64 ((rd l).2.1 : Int), .int .i64 ((rd l).2.2 : Int)]) ∧ Below w.heap.size w w' := by
  obtain ⟨A, c, rfl, hc1, hc2, hc3, hc4⟩ := id hr
  go_enter Tryd.func81, Tryd.ntmps81
  go_wp2_with fail
  go_step3
  go_wp2_with fail
  go_step3
  go_wp2_with fail
  clear hc4
  go_loopw [5, 6] (fun vn vk wr => ∃ k : Nat, k ≤ 7 ∧ k ≤ l.length ∧ vk = .int .i64 k ∧ vn = .int .i64 (val (l.take k) : Int) ∧ (∀ j (h : j < l.length), j < k → 128 ≤ l[j].toNat) ∧ Below w.heap.size w wr) (fun _ vk _ => 7 - (intOf vk).toNat)
  case atStart => exact ⟨0, by omega, by omega, rfl, rfl, fun _ _ h => by omega, Below.refl _ _⟩
  case round =>
    obtain ⟨k, hk7, hkl, rfl, rfl, hall, hb⟩ := hrel
    by_cases h7 : k = 7
    · have hl := lead_of 7 l k hk7 hkl hall (fun h => by omega)
      have HR := Lib.hid (rd_form7 hl h7)
      clear hl hall
      subst h7
      go_wp2
      try rw [Exit.noGoto_ret]
      go_ret3
      exact ⟨by rw [HR.out]; rfl, hb⟩
    by_cases hlen : k = l.length
    · have hl := lead_of 7 l k hk7 hkl hall (fun h h' => by omega)
      have HR := Lib.hid (rd_short hl h7 hlen)
      clear hl hall
      have h7' : ¬ (k : Int) = 7 := by omega
      have hle' : (k : Int) = (l.length : Int) := by omega
      clear h7 hlen
      go_wp2
      try rw [Exit.noGoto_ret]
      go_ret3
      exact ⟨by rw [HR.out]; rfl, hb⟩
    have hlt : k < l.length := by omega
    have HB := hr.below hb (Nat.le_refl _)
    obtain ⟨A1, c1, e1, -, -, -, h4⟩ := id HB
    cases e1
    obtain ⟨g, o, rfl, _, hcell⟩ := h4 (by omega)
    have hc := hcell k l[k] (List.getElem?_eq_getElem hlt)
    clear hcell h4
    have h7' : ¬ (k : Int) = 7 := by omega
    have hle' : ¬ (k : Int) = (l.length : Int) := by omega
    have hvl := val_take_lt l k
    have hvt := val_take hlt
    by_cases hb8 : l[k].toNat < 128
    · have hl := lead_of 7 l k hk7 hkl hall (fun _ _ => hb8)
      have hor := or_shift (val (l.take k)) l[k].toNat k hvl hb8 (by omega)
      have hbv : bv l[k] = (l[k].toNat : Int) := by unfold bv; rfl
      rw [Nat.mod_eq_of_lt hb8] at hvt
      have hb8' : bv l[k] < 128 := by omega
      have hbn := bv_nonneg l[k]
      have HV := Lib.hid hvl
      rw [← hvt, ← hbv] at hor
      have HO := Lib.hid hor
      have hkn : (0 : Int) ≤ (k : Int) := by omega
      by_cases hx0 : 0 < k ∧ l[k].toNat = 0
      · have HR := Lib.hid (rd_form0 hl h7 hlt hx0.1 hx0.2)
        have h0 : bv l[k] = 0 := by omega
        have hk0 : (0 : Int) < (k : Int) := by omega
        clear hl hall hvl hvt hor hbv h7 hlen hx0 HV
        go_wp2
        try rw [Exit.noGoto_ret]
        go_ret3
        exact ⟨by rw [HR.out]; rfl, hb⟩
      have hxx : (bv l[k] = 0 ∧ ¬ (0 : Int) < (k : Int)) ∨ ¬ bv l[k] = 0 := by omega
      by_cases hv : 281474976710656 < val (l.take (k + 1))
      · have HR := Lib.hid (rd_range hl h7 hlt hx0 hv)
        have hv' : (281474976710656 : Int) < (val (l.take (k + 1)) : Int) := by omega
        clear hl hall hvl hvt hor hbv h7 hlen hx0 HV hv
        rcases hxx with ⟨hz, hk0⟩ | hz
        · have hO := HO.out
          rw [hz, show wrap64 ((0 : Int) * 2 ^ (7 * k)) = 0 by simp [wrap64]] at hO
          go_wp2
          try rw [Exit.noGoto_ret]
          go_ret3
          exact ⟨by rw [HR.out]; rfl, hb⟩
        · have hO := HO.out
          go_wp2
          try rw [Exit.noGoto_ret]
          go_ret3
          exact ⟨by rw [HR.out]; rfl, hb⟩
      · have HR := Lib.hid (rd_ok hl h7 hlt hx0 hv)
        have hv' : ¬ (281474976710656 : Int) < (val (l.take (k + 1)) : Int) := by omega
        clear hl hall hvl hvt hor hbv h7 hlen hx0 HV hv
        rcases hxx with ⟨hz, hk0⟩ | hz
        · have hO := HO.out
          rw [hz, show wrap64 ((0 : Int) * 2 ^ (7 * k)) = 0 by simp [wrap64]] at hO
          go_wp2
          try rw [Exit.noGoto_ret]
          go_ret3
          exact ⟨by rw [HR.out]; rfl, hb⟩
        · have hO := HO.out
          go_wp2
          try rw [Exit.noGoto_ret]
          go_ret3
          exact ⟨by rw [HR.out]; rfl, hb⟩
    · have hbg : ¬ bv l[k] < 128 := by unfold bv; omega
      have hbl := bv_le l[k]
      have hbn := bv_nonneg l[k]
      have hm : bv l[k] - 128 = ((l[k].toNat % 128 : Nat) : Int) := by have := l[k].isLt; unfold bv; omega
      have hor := or_shift (val (l.take k)) (l[k].toNat % 128) k hvl (by omega) (by omega)
      rw [← hm, ← hvt] at hor
      have HO := Lib.hid hor
      clear hvl hvt hor hm h7 hlen
      go_wp2
      go_roundw
      case rel =>
        refine ⟨k + 1, by omega, by omega, by go_num, by rw [HO.out], fun j hj hjk => ?_, hb⟩
        by_cases e : j = k
        · subst e; omega
        · exact hall j hj (by omega)
      case measure => simp [intOf]; omega
end Go.Proofs.YteekdhcffiaaaaaDoor
