/-
  varint.Read by its contract.
  Read of package field.
-/
import Derived.BigQuiet
import Derived.Deep.QuietTactic
import Derived.Deep.LoopGhost
import Derived.Test.YtknhnkmooaopmaaPk0
import Derived.Test.YtknhnkmooaopmaaPk1
namespace Go.Proofs.Ytknhnkmooaopmaa
open Go Go.RowKit Sh Leaf

theorem or_shift (a b k : Nat) (ha : a < 128 ^ k) (hb : b < 128) (hk : k ≤ 6) : bits .or .i64 (a : Int) (wrap64 ((b : Int) * 2 ^ (7 * k))) = ((a + 128 ^ k * b : Nat) : Int) := by
  have e : (2 : Nat) ^ (7 * k) = 128 ^ k := by rw [Nat.pow_mul]
  have hk6 : 128 ^ k ≤ 128 ^ 6 := Nat.pow_le_pow_right (by omega) hk
  have hp : 128 ^ k * b ≤ 128 ^ 6 * 127 := Nat.mul_le_mul hk6 (by omega)
  have e1 : ((b : Int) * 2 ^ (7 * k)) = ((128 ^ k * b : Nat) : Int) := by rw [← e, Nat.mul_comm]; simp; rw [Int.mul_comm]
  have hsum : a + 128 ^ k * b < 2 ^ 63 := by omega
  have hor : a ||| 128 ^ k * b = a + 128 ^ k * b := by
    rw [← e] at ha ⊢
    rw [Nat.or_comm, ← Nat.two_pow_add_eq_or_of_lt ha b, Nat.add_comm]
  rw [e1]
  generalize 128 ^ k * b = y at *
  have hy : wrap64 (y : Int) = (y : Int) := by unfold wrap64; omega
  rw [hy]
  show IntKind.i64.wrap ((BitVec.ofInt 64 (a : Int) ||| BitVec.ofInt 64 (y : Int)).toNat : Int) = _
  rw [BitVec.ofInt_natCast, BitVec.ofInt_natCast, BitVec.toNat_or, BitVec.toNat_ofNat, BitVec.toNat_ofNat, Nat.mod_eq_of_lt (by omega), Nat.mod_eq_of_lt (by omega), hor, IntKind.wrap_i64]
  omega

set_option maxRecDepth 100000 in
set_option maxHeartbeats 1000000 in
theorem read_ (v : Value) (l : List B8) (Q : Nat → Prop) (w : World) (hr : Bytes w Q v l) :
    Calls Try.prog 64 #[v] w fun e w' => e = .returned (.tuple #[.int .i64 ((rd l).1 : Int), .int .i64 ((rd l).2.1 : Int), .int .i64 ((rd l).2.2 : Int)]) ∧ Below w.heap.size w w' := by
  obtain ⟨A, c, rfl, hc1, hc2, hc3, hc4⟩ := id hr
  go_enter Try.func64, Try.ntmps64
  go_wp2_with fail
  go_step3
  go_wp2_with fail
  go_step3
  go_wp2_with fail
  clear hc4
  go_loopw [5, 6] (fun vn vk wr => ∃ k : Nat, k ≤ 7 ∧ k ≤ l.length ∧ vk = .int .i64 k ∧ vn = .int .i64 (val (l.take k) : Int) ∧ (∀ j (h : j < l.length), j < k → 128 ≤ l[j].toNat) ∧ Below w.heap.size w wr) (fun _ vk _ => 7 - (intOf vk).toNat)
  case atStart => exact ⟨0, by omega, by omega, rfl, rfl, fun _ _ h => by omega, Below.refl _ _⟩
  case round =>
    obtain ⟨k, hk7, hkl, rfl, rfl, hall, hb⟩ := hrel
    by_cases h7 : k = 7
    · have hl := lead_of 7 l k hk7 hkl hall (fun h => by omega)
      have HR := Lib.hid (rd_form7 hl h7)
      clear hl hall
      subst h7
      go_wp2
      try rw [Exit.noGoto_ret]
      go_ret3
      exact ⟨by rw [HR.out]; rfl, hb⟩
    by_cases hlen : k = l.length
    · have hl := lead_of 7 l k hk7 hkl hall (fun h h' => by omega)
      have HR := Lib.hid (rd_short hl h7 hlen)
      clear hl hall
      have h7' : ¬ (k : Int) = 7 := by omega
      have hle' : (k : Int) = (l.length : Int) := by omega
      clear h7 hlen
      go_wp2
      try rw [Exit.noGoto_ret]
      go_ret3
      exact ⟨by rw [HR.out]; rfl, hb⟩
    have hlt : k < l.length := by omega
    have HB := hr.below hb (Nat.le_refl _)
    obtain ⟨A1, c1, e1, -, -, -, h4⟩ := id HB
    cases e1
    obtain ⟨g, o, rfl, _, hcell⟩ := h4 (by omega)
    have hc := hcell k l[k] (List.getElem?_eq_getElem hlt)
    clear hcell h4
    have h7' : ¬ (k : Int) = 7 := by omega
    have hle' : ¬ (k : Int) = (l.length : Int) := by omega
    have hvl := val_take_lt l k
    have hvt := val_take hlt
    by_cases hb8 : l[k].toNat < 128
    · have hl := lead_of 7 l k hk7 hkl hall (fun _ _ => hb8)
      have hor := or_shift (val (l.take k)) l[k].toNat k hvl hb8 (by omega)
      have hbv : bv l[k] = (l[k].toNat : Int) := by unfold bv; rfl
      rw [Nat.mod_eq_of_lt hb8] at hvt
      have hb8' : bv l[k] < 128 := by omega
      have hbn := bv_nonneg l[k]
      have HV := Lib.hid hvl
      rw [← hvt, ← hbv] at hor
      have HO := Lib.hid hor
      have hkn : (0 : Int) ≤ (k : Int) := by omega
      by_cases hx0 : 0 < k ∧ l[k].toNat = 0
      · have HR := Lib.hid (rd_form0 hl h7 hlt hx0.1 hx0.2)
        have h0 : bv l[k] = 0 := by omega
        have hk0 : (0 : Int) < (k : Int) := by omega
        clear hl hall hvl hvt hor hbv h7 hlen hx0 HV
        go_wp2
        try rw [Exit.noGoto_ret]
        go_ret3
        exact ⟨by rw [HR.out]; rfl, hb⟩
      have hxx : (bv l[k] = 0 ∧ ¬ (0 : Int) < (k : Int)) ∨ ¬ bv l[k] = 0 := by omega
      by_cases hv : 281474976710656 < val (l.take (k + 1))
      · have HR := Lib.hid (rd_range hl h7 hlt hx0 hv)
        have hv' : (281474976710656 : Int) < (val (l.take (k + 1)) : Int) := by omega
        clear hl hall hvl hvt hor hbv h7 hlen hx0 HV hv
        rcases hxx with ⟨hz, hk0⟩ | hz
        · have hO := HO.out
          rw [hz, show wrap64 ((0 : Int) * 2 ^ (7 * k)) = 0 by simp [wrap64]] at hO
          go_wp2
          try rw [Exit.noGoto_ret]
          go_ret3
          exact ⟨by rw [HR.out]; rfl, hb⟩
        · have hO := HO.out
          go_wp2
          try rw [Exit.noGoto_ret]
          go_ret3
          exact ⟨by rw [HR.out]; rfl, hb⟩
      · have HR := Lib.hid (rd_ok hl h7 hlt hx0 hv)
        have hv' : ¬ (281474976710656 : Int) < (val (l.take (k + 1)) : Int) := by omega
        clear hl hall hvl hvt hor hbv h7 hlen hx0 HV hv
        rcases hxx with ⟨hz, hk0⟩ | hz
        · have hO := HO.out
          rw [hz, show wrap64 ((0 : Int) * 2 ^ (7 * k)) = 0 by simp [wrap64]] at hO
          go_wp2
          try rw [Exit.noGoto_ret]
          go_ret3
          exact ⟨by rw [HR.out]; rfl, hb⟩
        · have hO := HO.out
          go_wp2
          try rw [Exit.noGoto_ret]
          go_ret3
          exact ⟨by rw [HR.out]; rfl, hb⟩
    · have hbg : ¬ bv l[k] < 128 := by unfold bv; omega
      have hbl := bv_le l[k]
      have hbn := bv_nonneg l[k]
      have hm : bv l[k] - 128 = ((l[k].toNat % 128 : Nat) : Int) := by have := l[k].isLt; unfold bv; omega
      have hor := or_shift (val (l.take k)) (l[k].toNat % 128) k hvl (by omega) (by omega)
      rw [← hm, ← hvt] at hor
      have HO := Lib.hid hor
      clear hvl hvt hor hm h7 hlen
      go_wp2
      go_roundw
      case rel =>
        refine ⟨k + 1, by omega, by omega, by go_num, by rw [HO.out], fun j hj hjk => ?_, hb⟩
        by_cases e : j = k
        · subst e; omega
        · exact hall j hj (by omega)
      case measure => simp [intOf]; omega
end Go.Proofs.Ytknhnkmooaopmaa
namespace Go.Proofs.Ytknhnkmooaopmaa
open Go Go.RowKit Sh Leaf

set_option maxRecDepth 100000 in
set_option maxHeartbeats 1000000 in
theorem fread (v : Value) (b : List B8) (Q : Nat → Prop) (w : World) (hr : Bytes w Q v b) :
    Calls Try.prog 68 #[v] w fun e w' => ∃ v', e = .returned (.tuple #[v', .int .i64 ((rdf b).2.1 : Int), .int .i64 ((rdf b).2.2 : Int)]) ∧ Own w' w.heap.size v' (rdf b).1 ∧ Below w.heap.size w w' := by
  obtain ⟨A, c, rfl, hc1, hc0, -⟩ := id hr
  have hc2 : c ≤ 9223372036854775807 := by unfold maxLen at hc0; omega
  clear hc0
  obtain ⟨n, k, e0, hrd⟩ : ∃ n k e, rd b = (n, k, e) := ⟨_, _, _, rfl⟩
  have HR := Lib.hid hrd
  have HE := Lib.hid (fun he => rdf_e hrd he)
  have HQ : Hid (e0 = 0 → k ≤ b.length ∧ n ≤ 281474976710656 ∧ enc n = b.take k) := Lib.hid (by rintro rfl; exact rd_unique hrd)
  have HL : Hid (e0 = 0 → 1024 < n → rdf b = ([], 0, 2)) := Lib.hid (by rintro rfl; exact rdf_limit hrd)
  have HS : Hid (e0 = 0 → ¬ 1024 < n → b.length - k < n → rdf b = ([], 0, 3)) := Lib.hid (by rintro rfl; exact rdf_short hrd)
  have HO : Hid (e0 = 0 → ¬ 1024 < n → ¬ b.length - k < n → rdf b = ((b.drop k).take n, k + n, 0)) := Lib.hid (by rintro rfl; exact rdf_ok hrd)
  have HB := Lib.hid hr
  clear hrd hr
  go_enter Try.func68, Try.ntmps68
  go_wp2_with fail
  refine (read_ _ b Q _ HB.out).mono ?_
  rintro e w1 ⟨rfl, hb1⟩
  rw [HR.out]
  by_cases he : e0 = 0
  · subst he
    obtain ⟨hk, hn48, -⟩ := HQ.out rfl
    clear HQ HE
    by_cases hn : 1024 < n
    · have HF := Lib.hid (HL.out rfl hn)
      have hn' : (1024 : Int) < (n : Int) := by omega
      clear hn hn48
      go_wp2
      go_ret3
      exact ⟨_, by rw [HF.out]; rfl, by rw [HF.out]; exact own_nil _ _, hb1⟩
    have hn' : ¬ (1024 : Int) < (n : Int) := by omega
    by_cases hl : b.length - k < n
    · have HF := Lib.hid (HS.out rfl hn hl)
      have hl' : (b.length : Int) - (k : Int) < (n : Int) := by omega
      clear hl hn hn48
      go_wp2
      go_ret3
      exact ⟨_, by rw [HF.out]; rfl, by rw [HF.out]; exact own_nil _ _, hb1⟩
    have HF := Lib.hid (HO.out rfl hn hl)
    have hl' : ¬ (b.length : Int) - (k : Int) < (n : Int) := by omega
    obtain ⟨A', c', hcut, hbt⟩ := cut_field A b c k n Q w1 (HB.out.below hb1 (Nat.le_refl _)) (by omega)
    have HC := Lib.hid hcut
    have hlen : ((b.drop k).take n).length ≤ 1000000000 := by simp; omega
    have hkn : k + n ≤ b.length := by omega
    have hn16 : n ≤ 1024 := by omega
    clear hl hn hcut hn48 HB
    go_wp2_with ((with_reducible refine wpList_slice_run rfl 25 _ _ _ _ rfl (.slice A' n c') ?_ ?_); (exact HC.out _))
    refine (clone_own _ _ Q _ hbt hlen).mono ?_
    rintro e w2 ⟨v2, rfl, ho2, hb2⟩
    go_wp2
    go_ret3
    have hs := hb1.size
    refine ⟨v2, by rw [HF.out]; simp, ?_, hb1.trans (hb2.mono hs)⟩
    rw [HF.out]
    exact own_le ho2 hs
  · have HF := Lib.hid (HE.out he)
    have he' : ¬ (e0 : Int) = 0 := by omega
    clear HE HQ HL HS HO he
    go_wp2
    go_ret3
    exact ⟨_, by rw [HF.out]; rfl, by rw [HF.out]; exact own_nil _ _, hb1⟩
end Go.Proofs.Ytknhnkmooaopmaa
