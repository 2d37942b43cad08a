/-
  PrdValid
-/
import Derived.Deep.QuietTactic
import Derived.BigQuiet
import Derived.Lib.ItoaNum
import Derived.Test.YtiikhjifjdpgdaaDoorPk5
import Derived.Test.YtiikhjifjdpgdaaDoorShelf
namespace Go.Proofs.YtiikhjifjdpgdaaDoor
open Go Go.RowKit Sh Leaf

theorem pcells {w : World} {g : Nat} {t : TypeId} {a b c d e f : Value} (h : Whole w g t #[a, b, c, d, e, f]) :
    w.cell? ⟨g, 0, none⟩ = some a ∧ w.cell? ⟨g, 1, none⟩ = some b ∧ w.cell? ⟨g, 2, none⟩ = some c ∧ w.cell? ⟨g, 3, none⟩ = some d ∧ w.cell? ⟨g, 4, none⟩ = some e ∧ w.cell? ⟨g, 5, none⟩ = some f :=
  ⟨h.cell 0, h.cell 1, h.cell 2, h.cell 3, h.cell 4, h.cell 5⟩
theorem bitLen_iff (m : Nat) (hm : m < 18446744073709551616) (k : Nat) : Lib.bitLen m ≤ k ↔ m < 2 ^ k := by
  constructor
  · intro h
    by_cases h0 : m = 0
    · subst h0; exact Nat.two_pow_pos k
    · have := (Lib.bitLenAux_bounds 64 m (by omega) h0).2.2
      exact Nat.lt_of_lt_of_le this (Nat.pow_le_pow_right (by omega) h)
  · intro h
    by_cases h0 : m = 0
    · subst h0; exact Nat.zero_le _
    · have := (Lib.bitLenAux_bounds 64 m (by omega) h0).2.1
      have h2 : 2 ^ (Lib.bitLenAux 64 m - 1) < 2 ^ k := Nat.lt_of_le_of_lt this h
      have := (Nat.pow_lt_pow_iff_right (by omega : 1 < 2)).1 h2
      show Lib.bitLenAux 64 m ≤ k
      omega
theorem len64 (m : Nat) (hm : m < 18446744073709551616) (w : World) : Calls Tryd.prog 141 #[.int .u64 (m : Int)] w fun e w' => e = .returned (.int .i64 (Lib.bitLen m : Int)) ∧ w' = w := by
  have h := Tryd.bits_Len64 (m : Int) w (by omega) (by omega)
  rw [Int.toNat_natCast] at h
  exact h
@[irreducible] def inr (n most : Int) : Bool := decide (0 ≤ n ∧ n ≤ most)
theorem inr_true {n most : Int} (h : 0 ≤ n ∧ n ≤ most) : inr n most = true := by unfold inr; exact decide_eq_true h
theorem inr_false {n most : Int} (h : ¬ (0 ≤ n ∧ n ≤ most)) : inr n most = false := by unfold inr; exact decide_eq_false h
theorem up_to (most n : Int) (w : World) : Calls Tryd.prog 142 #[.int .i64 most, .int .i64 n] w fun e w' => e = .returned (.bool (inr n most)) ∧ w = w' := by
  by_cases h0 : 0 ≤ n
  · by_cases h1 : n ≤ most
    · have HD := Lib.hid (inr_true ⟨h0, h1⟩)
      go_enter Tryd.func142, Tryd.ntmps142
      go_wp2
      go_ret
      exact ⟨by rw [HD.out]; rfl, rfl⟩
    · have HD := Lib.hid (inr_false (fun h => h1 h.2))
      go_enter Tryd.func142, Tryd.ntmps142
      go_wp2
      go_ret
      exact ⟨by rw [HD.out]; rfl, rfl⟩
  · have HD := Lib.hid (inr_false (n := n) (most := most) (fun h => h0 h.1))
    go_enter Tryd.func142, Tryd.ntmps142
    go_wp2
    go_ret
    exact ⟨by rw [HD.out]; simp, rfl⟩
theorem pv_below {w w1 : World} {o o1 o2 : Obj} (h : Below (w.alloc o).heap.size (w.alloc o) w1) (n : Nat) : Below w.heap.size w (((w1.alloc o1).alloc o2).drewN n) := by
  have h1 := ((Below.refl w.heap.size w).alloc (Nat.le_refl _) o).trans (h.mono (by simp))
  have hs := h1.size
  exact below_drewN ((h1.alloc hs _).alloc (by simp; omega) _) n
set_option linter.unusedVariables false in
set_option maxHeartbeats 1000000 in
theorem pvalid1 (m : Nat) (lo hi nu : Int) (nm : List B8) (hm : m < 18446744073709551616) (hn : nm.length ≤ 9223372036854775807) (w : World) :
    Calls Tryd.prog 129 #[pv ⟨1, m, lo, hi, nm, nu⟩] w fun e w' => e = .returned (.bool (decide (pok ⟨1, m, lo, hi, nm, nu⟩))) ∧ Below w.heap.size w w' := by
  unfold pv
  simp only
  have hlen := fun W => len64 m hm W
  have hbl := bitLen_iff m hm 64
  have HQ := Lib.hid (fun W => run_eql_prd0 1 (m : Int) lo hi nu 1 (m : Int) 0 0 0 nm W)
  have hbn : ((Lib.bitLen m : Nat) : Int) ≤ 64 ↔ m < 18446744073709551616 := by
    rw [show ((64 : Int)) = ((64 : Nat) : Int) from rfl, Int.ofNat_le]; exact hbl
  clear hbl
  generalize Lib.bitLen m = L at hlen hbn
  by_cases h0 : m = 0
  · have HD : Hid (decide (pok ⟨1, m, lo, hi, nm, nu⟩) = false) := Lib.hid (decide_eq_false (by unfold pok; simp [h0]))
    clear hbn hlen
    have h0b : ((m : Int) != 0) = false := by simp [h0]
    go_enter Tryd.func129, Tryd.ntmps129
    go_wp2_with fail
    refine (describe _ _).mono ?_
    rintro e w1 ⟨rfl, hb1⟩
    rw [dsv_1]
    have hW := (Whole.here w 57 _).below hb1 (by simp)
    obtain ⟨c0, c1, c2, c3, c4, c5⟩ := pcells hW
    have hg := hW.lt
    have HB := Lib.hid hb1
    clear hW hb1
    go_wp2_with fail
    go_quiet (fail)
    go_wp2
    go_ret
    exact ⟨by rw [HD.out]; rfl, pv_below HB.out nq⟩
  have h0b : ((m : Int) != 0) = true := by simp; exact h0
  by_cases h1 : m < 18446744073709551616
  · have hle := hbn.2 h1
    have hq := HQ.out
    obtain ⟨B, hB⟩ : ∃ B, B = decide ((1 : Int) = 1 ∧ (m : Int) = m ∧ lo = 0 ∧ hi = 0 ∧ nm = [] ∧ nu = 0) := ⟨_, rfl⟩
    rw [← hB] at hq
    have HD : Hid (decide (pok ⟨1, m, lo, hi, nm, nu⟩) = B) := Lib.hid (by rw [hB, Bool.eq_iff_iff, decide_eq_true_iff, decide_eq_true_iff]; unfold pok; simp [h0])
    clear hB HQ hbn h0 h1
    go_enter Tryd.func129, Tryd.ntmps129
    go_wp2_with fail
    refine (describe _ _).mono ?_
    rintro e w1 ⟨rfl, hb1⟩
    rw [dsv_1]
    have hW := (Whole.here w 57 _).below hb1 (by simp)
    obtain ⟨c0, c1, c2, c3, c4, c5⟩ := pcells hW
    have hg := hW.lt
    have HB := Lib.hid hb1
    clear hW hb1
    go_wp2_with fail
    go_quiet ((go_at_call 141; exact Calls.quiet_of_same (hlen _)))
    go_wp2
    go_ret
    exact ⟨by rw [HD.out]; rfl, pv_below HB.out nq⟩
  · exact absurd hm h1
set_option linter.unusedVariables false in
set_option maxHeartbeats 1000000 in
theorem pvalid2 (m : Nat) (lo hi nu : Int) (nm : List B8) (hm : m < 18446744073709551616) (hn : nm.length ≤ 9223372036854775807) (w : World) :
    Calls Tryd.prog 129 #[pv ⟨2, m, lo, hi, nm, nu⟩] w fun e w' => e = .returned (.bool (decide (pok ⟨2, m, lo, hi, nm, nu⟩))) ∧ Below w.heap.size w w' := by
  unfold pv
  simp only
  have hlen := fun W => len64 m hm W
  have hbl := bitLen_iff m hm 32
  have HQ := Lib.hid (fun W => run_eql_prd0 2 (m : Int) lo hi nu 2 (m : Int) 0 0 0 nm W)
  have hbn : ((Lib.bitLen m : Nat) : Int) ≤ 32 ↔ m < 4294967296 := by
    rw [show ((32 : Int)) = ((32 : Nat) : Int) from rfl, Int.ofNat_le]; exact hbl
  clear hbl
  generalize Lib.bitLen m = L at hlen hbn
  by_cases h0 : m = 0
  · have HD : Hid (decide (pok ⟨2, m, lo, hi, nm, nu⟩) = false) := Lib.hid (decide_eq_false (by unfold pok; simp [h0]))
    clear hbn hlen
    have h0b : ((m : Int) != 0) = false := by simp [h0]
    go_enter Tryd.func129, Tryd.ntmps129
    go_wp2_with fail
    refine (describe _ _).mono ?_
    rintro e w1 ⟨rfl, hb1⟩
    rw [dsv_2]
    have hW := (Whole.here w 57 _).below hb1 (by simp)
    obtain ⟨c0, c1, c2, c3, c4, c5⟩ := pcells hW
    have hg := hW.lt
    have HB := Lib.hid hb1
    clear hW hb1
    go_wp2_with fail
    go_quiet (fail)
    go_wp2
    go_ret
    exact ⟨by rw [HD.out]; rfl, pv_below HB.out nq⟩
  have h0b : ((m : Int) != 0) = true := by simp; exact h0
  by_cases h1 : m < 4294967296
  · have hle := hbn.2 h1
    have hq := HQ.out
    obtain ⟨B, hB⟩ : ∃ B, B = decide ((2 : Int) = 2 ∧ (m : Int) = m ∧ lo = 0 ∧ hi = 0 ∧ nm = [] ∧ nu = 0) := ⟨_, rfl⟩
    rw [← hB] at hq
    have HD : Hid (decide (pok ⟨2, m, lo, hi, nm, nu⟩) = B) := Lib.hid (by rw [hB, Bool.eq_iff_iff, decide_eq_true_iff, decide_eq_true_iff]; unfold pok; simp [h0]; omega)
    clear hB HQ hbn h0 h1
    go_enter Tryd.func129, Tryd.ntmps129
    go_wp2_with fail
    refine (describe _ _).mono ?_
    rintro e w1 ⟨rfl, hb1⟩
    rw [dsv_2]
    have hW := (Whole.here w 57 _).below hb1 (by simp)
    obtain ⟨c0, c1, c2, c3, c4, c5⟩ := pcells hW
    have hg := hW.lt
    have HB := Lib.hid hb1
    clear hW hb1
    go_wp2_with fail
    go_quiet ((go_at_call 141; exact Calls.quiet_of_same (hlen _)))
    go_wp2
    go_ret
    exact ⟨by rw [HD.out]; rfl, pv_below HB.out nq⟩
  · have hgt : (32 : Int) < (L : Int) := by omega
    have HD : Hid (decide (pok ⟨2, m, lo, hi, nm, nu⟩) = false) := Lib.hid (decide_eq_false (by unfold pok; simp; omega))
    clear HQ hbn h0 h1
    go_enter Tryd.func129, Tryd.ntmps129
    go_wp2_with fail
    refine (describe _ _).mono ?_
    rintro e w1 ⟨rfl, hb1⟩
    rw [dsv_2]
    have hW := (Whole.here w 57 _).below hb1 (by simp)
    obtain ⟨c0, c1, c2, c3, c4, c5⟩ := pcells hW
    have hg := hW.lt
    have HB := Lib.hid hb1
    clear hW hb1
    go_wp2_with fail
    go_quiet ((go_at_call 141; exact Calls.quiet_of_same (hlen _)))
    go_wp2
    go_ret
    exact ⟨by rw [HD.out]; rfl, pv_below HB.out nq⟩
set_option linter.unusedVariables false in
set_option maxHeartbeats 1000000 in
theorem pvalid3 (m : Nat) (lo hi nu : Int) (nm : List B8) (hm : m < 18446744073709551616) (hn : nm.length ≤ 9223372036854775807) (w : World) :
    Calls Tryd.prog 129 #[pv ⟨3, m, lo, hi, nm, nu⟩] w fun e w' => e = .returned (.bool (decide (pok ⟨3, m, lo, hi, nm, nu⟩))) ∧ Below w.heap.size w w' := by
  unfold pv
  simp only
  have hlen := fun W => len64 m hm W
  have hbl := bitLen_iff m hm 7
  have HQ := Lib.hid (fun W => run_eql_prd0 3 (m : Int) lo hi nu 3 (m : Int) 0 0 0 nm W)
  have hbn : ((Lib.bitLen m : Nat) : Int) ≤ 7 ↔ m < 128 := by
    rw [show ((7 : Int)) = ((7 : Nat) : Int) from rfl, Int.ofNat_le]; exact hbl
  clear hbl
  generalize Lib.bitLen m = L at hlen hbn
  by_cases h0 : m = 0
  · have HD : Hid (decide (pok ⟨3, m, lo, hi, nm, nu⟩) = false) := Lib.hid (decide_eq_false (by unfold pok; simp [h0]))
    clear hbn hlen
    have h0b : ((m : Int) != 0) = false := by simp [h0]
    go_enter Tryd.func129, Tryd.ntmps129
    go_wp2_with fail
    refine (describe _ _).mono ?_
    rintro e w1 ⟨rfl, hb1⟩
    rw [dsv_3]
    have hW := (Whole.here w 57 _).below hb1 (by simp)
    obtain ⟨c0, c1, c2, c3, c4, c5⟩ := pcells hW
    have hg := hW.lt
    have HB := Lib.hid hb1
    clear hW hb1
    go_wp2_with fail
    go_quiet (fail)
    go_wp2
    go_ret
    exact ⟨by rw [HD.out]; rfl, pv_below HB.out nq⟩
  have h0b : ((m : Int) != 0) = true := by simp; exact h0
  by_cases h1 : m < 128
  · have hle := hbn.2 h1
    have hq := HQ.out
    obtain ⟨B, hB⟩ : ∃ B, B = decide ((3 : Int) = 3 ∧ (m : Int) = m ∧ lo = 0 ∧ hi = 0 ∧ nm = [] ∧ nu = 0) := ⟨_, rfl⟩
    rw [← hB] at hq
    have HD : Hid (decide (pok ⟨3, m, lo, hi, nm, nu⟩) = B) := Lib.hid (by rw [hB, Bool.eq_iff_iff, decide_eq_true_iff, decide_eq_true_iff]; unfold pok; simp [h0]; omega)
    clear hB HQ hbn h0 h1
    go_enter Tryd.func129, Tryd.ntmps129
    go_wp2_with fail
    refine (describe _ _).mono ?_
    rintro e w1 ⟨rfl, hb1⟩
    rw [dsv_3]
    have hW := (Whole.here w 57 _).below hb1 (by simp)
    obtain ⟨c0, c1, c2, c3, c4, c5⟩ := pcells hW
    have hg := hW.lt
    have HB := Lib.hid hb1
    clear hW hb1
    go_wp2_with fail
    go_quiet ((go_at_call 141; exact Calls.quiet_of_same (hlen _)))
    go_wp2
    go_ret
    exact ⟨by rw [HD.out]; rfl, pv_below HB.out nq⟩
  · have hgt : (7 : Int) < (L : Int) := by omega
    have HD : Hid (decide (pok ⟨3, m, lo, hi, nm, nu⟩) = false) := Lib.hid (decide_eq_false (by unfold pok; simp; omega))
    clear HQ hbn h0 h1
    go_enter Tryd.func129, Tryd.ntmps129
    go_wp2_with fail
    refine (describe _ _).mono ?_
    rintro e w1 ⟨rfl, hb1⟩
    rw [dsv_3]
    have hW := (Whole.here w 57 _).below hb1 (by simp)
    obtain ⟨c0, c1, c2, c3, c4, c5⟩ := pcells hW
    have hg := hW.lt
    have HB := Lib.hid hb1
    clear hW hb1
    go_wp2_with fail
    go_quiet ((go_at_call 141; exact Calls.quiet_of_same (hlen _)))
    go_wp2
    go_ret
    exact ⟨by rw [HD.out]; rfl, pv_below HB.out nq⟩
set_option linter.unusedVariables false in
set_option maxHeartbeats 1000000 in
theorem pvalid4 (m : Nat) (lo hi nu : Int) (nm : List B8) (hm : m < 18446744073709551616) (hn : nm.length ≤ 9223372036854775807) (w : World) :
    Calls Tryd.prog 129 #[pv ⟨4, m, lo, hi, nm, nu⟩] w fun e w' => e = .returned (.bool (decide (pok ⟨4, m, lo, hi, nm, nu⟩))) ∧ Below w.heap.size w w' := by
  unfold pv
  simp only
  have HQ := Lib.hid (fun W => run_eql_prd0 4 (m : Int) lo hi nu 4 0 lo hi 0 nm W)
  by_cases h0 : 0 ≤ lo ∧ lo ≤ 67108864
  case neg =>
    have HD : Hid (decide (pok ⟨4, m, lo, hi, nm, nu⟩) = false) := Lib.hid (decide_eq_false (by unfold pok; simp; intros; omega))
    have i0 := inr_false h0
    clear HQ h0
    go_enter Tryd.func129, Tryd.ntmps129
    go_wp2_with fail
    refine (describe _ _).mono ?_
    rintro e w1 ⟨rfl, hb1⟩
    rw [dsv_4]
    have hW := (Whole.here w 57 _).below hb1 (by simp)
    obtain ⟨c0, c1, c2, c3, c4, c5⟩ := pcells hW
    have hg := hW.lt
    have HB := Lib.hid hb1
    clear hW hb1
    go_wp2_with fail
    go_region
    go_wp2_with (first | (go_at_call 142; refine (up_to _ _ _).mono ?_; rintro e w' ⟨rfl, rfl⟩))
    go_ret
    exact ⟨by rw [HD.out]; rfl, pv_below HB.out _⟩
  by_cases h1 : 0 ≤ hi ∧ hi ≤ 67108864
  case neg =>
    have HD : Hid (decide (pok ⟨4, m, lo, hi, nm, nu⟩) = false) := Lib.hid (decide_eq_false (by unfold pok; simp; intros; omega))
    have i0 := inr_true h0
    have i1 := inr_false h1
    clear HQ h0 h1
    go_enter Tryd.func129, Tryd.ntmps129
    go_wp2_with fail
    refine (describe _ _).mono ?_
    rintro e w1 ⟨rfl, hb1⟩
    rw [dsv_4]
    have hW := (Whole.here w 57 _).below hb1 (by simp)
    obtain ⟨c0, c1, c2, c3, c4, c5⟩ := pcells hW
    have hg := hW.lt
    have HB := Lib.hid hb1
    clear hW hb1
    go_wp2_with fail
    go_region
    go_wp2_with (first | (go_at_call 142; refine (up_to _ _ _).mono ?_; rintro e w' ⟨rfl, rfl⟩))
    go_ret
    exact ⟨by rw [HD.out]; rfl, pv_below HB.out _⟩
  by_cases h2 : lo ≤ hi
  case neg =>
    have HD : Hid (decide (pok ⟨4, m, lo, hi, nm, nu⟩) = false) := Lib.hid (decide_eq_false (by unfold pok; simp; intros; omega))
    have i0 := inr_true h0
    have i1 := inr_true h1
    have i2 : hi < lo := by omega
    clear HQ h0 h1 h2
    go_enter Tryd.func129, Tryd.ntmps129
    go_wp2_with fail
    refine (describe _ _).mono ?_
    rintro e w1 ⟨rfl, hb1⟩
    rw [dsv_4]
    have hW := (Whole.here w 57 _).below hb1 (by simp)
    obtain ⟨c0, c1, c2, c3, c4, c5⟩ := pcells hW
    have hg := hW.lt
    have HB := Lib.hid hb1
    clear hW hb1
    go_wp2_with fail
    go_region
    go_wp2_with (first | (go_at_call 142; refine (up_to _ _ _).mono ?_; rintro e w' ⟨rfl, rfl⟩))
    go_ret
    exact ⟨by rw [HD.out]; rfl, pv_below HB.out _⟩
  have hq := HQ.out
  obtain ⟨B, hB⟩ : ∃ B, B = decide ((4 : Int) = 4 ∧ (m : Int) = 0 ∧ lo = lo ∧ hi = hi ∧ nm = [] ∧ nu = 0) := ⟨_, rfl⟩
  rw [← hB] at hq
  have HD : Hid (decide (pok ⟨4, m, lo, hi, nm, nu⟩) = B) := Lib.hid (by rw [hB, Bool.eq_iff_iff, decide_eq_true_iff, decide_eq_true_iff]; unfold pok; have a1 := h0.1; have a2 := h1.2; have a3 := h1.1; simp [a1, a2, h2])
  have i0 := inr_true h0
  have i1 := inr_true h1
  clear hB HQ h0 h1
  go_enter Tryd.func129, Tryd.ntmps129
  go_wp2_with fail
  refine (describe _ _).mono ?_
  rintro e w1 ⟨rfl, hb1⟩
  rw [dsv_4]
  have hW := (Whole.here w 57 _).below hb1 (by simp)
  obtain ⟨c0, c1, c2, c3, c4, c5⟩ := pcells hW
  have hg := hW.lt
  have HB := Lib.hid hb1
  clear hW hb1
  go_wp2_with fail
  go_region
  go_wp2_with (first | (go_at_call 142; refine (up_to _ _ _).mono ?_; rintro e w' ⟨rfl, rfl⟩))
  go_ret
  exact ⟨by rw [HD.out]; rfl, pv_below HB.out _⟩
set_option linter.unusedVariables false in
set_option maxHeartbeats 1000000 in
theorem pvalid5 (m : Nat) (lo hi nu : Int) (nm : List B8) (hm : m < 18446744073709551616) (hn : nm.length ≤ 9223372036854775807) (w : World) :
    Calls Tryd.prog 129 #[pv ⟨5, m, lo, hi, nm, nu⟩] w fun e w' => e = .returned (.bool (decide (pok ⟨5, m, lo, hi, nm, nu⟩))) ∧ Below w.heap.size w w' := by
  unfold pv
  simp only
  have HQ := Lib.hid (fun W => run_eql_prd0 5 (m : Int) lo hi nu 5 0 lo hi 0 nm W)
  by_cases h0 : 0 ≤ lo ∧ lo ≤ 1439
  case neg =>
    have HD : Hid (decide (pok ⟨5, m, lo, hi, nm, nu⟩) = false) := Lib.hid (decide_eq_false (by unfold pok; simp; intros; omega))
    have i0 := inr_false h0
    clear HQ h0
    go_enter Tryd.func129, Tryd.ntmps129
    go_wp2_with fail
    refine (describe _ _).mono ?_
    rintro e w1 ⟨rfl, hb1⟩
    rw [dsv_5]
    have hW := (Whole.here w 57 _).below hb1 (by simp)
    obtain ⟨c0, c1, c2, c3, c4, c5⟩ := pcells hW
    have hg := hW.lt
    have HB := Lib.hid hb1
    clear hW hb1
    go_wp2_with fail
    go_region
    go_wp2_with (first | (go_at_call 142; refine (up_to _ _ _).mono ?_; rintro e w' ⟨rfl, rfl⟩))
    go_ret
    exact ⟨by rw [HD.out]; rfl, pv_below HB.out _⟩
  by_cases h1 : 0 ≤ hi ∧ hi ≤ 1439
  case neg =>
    have HD : Hid (decide (pok ⟨5, m, lo, hi, nm, nu⟩) = false) := Lib.hid (decide_eq_false (by unfold pok; simp; intros; omega))
    have i0 := inr_true h0
    have i1 := inr_false h1
    clear HQ h0 h1
    go_enter Tryd.func129, Tryd.ntmps129
    go_wp2_with fail
    refine (describe _ _).mono ?_
    rintro e w1 ⟨rfl, hb1⟩
    rw [dsv_5]
    have hW := (Whole.here w 57 _).below hb1 (by simp)
    obtain ⟨c0, c1, c2, c3, c4, c5⟩ := pcells hW
    have hg := hW.lt
    have HB := Lib.hid hb1
    clear hW hb1
    go_wp2_with fail
    go_region
    go_wp2_with (first | (go_at_call 142; refine (up_to _ _ _).mono ?_; rintro e w' ⟨rfl, rfl⟩))
    go_ret
    exact ⟨by rw [HD.out]; rfl, pv_below HB.out _⟩
  have hq := HQ.out
  obtain ⟨B, hB⟩ : ∃ B, B = decide ((5 : Int) = 5 ∧ (m : Int) = 0 ∧ lo = lo ∧ hi = hi ∧ nm = [] ∧ nu = 0) := ⟨_, rfl⟩
  rw [← hB] at hq
  have HD : Hid (decide (pok ⟨5, m, lo, hi, nm, nu⟩) = B) := Lib.hid (by rw [hB, Bool.eq_iff_iff, decide_eq_true_iff, decide_eq_true_iff]; unfold pok; have a1 := h0.1; have a2 := h1.2; have a3 := h1.1; have a4 : lo < 1440 := (by omega); have a5 : hi < 1440 := (by omega); simp [a1, a3, a4, a5])
  have i0 := inr_true h0
  have i1 := inr_true h1
  clear hB HQ h0 h1
  go_enter Tryd.func129, Tryd.ntmps129
  go_wp2_with fail
  refine (describe _ _).mono ?_
  rintro e w1 ⟨rfl, hb1⟩
  rw [dsv_5]
  have hW := (Whole.here w 57 _).below hb1 (by simp)
  obtain ⟨c0, c1, c2, c3, c4, c5⟩ := pcells hW
  have hg := hW.lt
  have HB := Lib.hid hb1
  clear hW hb1
  go_wp2_with fail
  go_region
  go_wp2_with (first | (go_at_call 142; refine (up_to _ _ _).mono ?_; rintro e w' ⟨rfl, rfl⟩))
  go_ret
  exact ⟨by rw [HD.out]; rfl, pv_below HB.out _⟩
set_option linter.unusedVariables false in
set_option maxHeartbeats 1000000 in
theorem pvalid6 (m : Nat) (lo hi nu : Int) (nm : List B8) (hm : m < 18446744073709551616) (hn : nm.length ≤ 9223372036854775807) (w : World) :
    Calls Tryd.prog 129 #[pv ⟨6, m, lo, hi, nm, nu⟩] w fun e w' => e = .returned (.bool (decide (pok ⟨6, m, lo, hi, nm, nu⟩))) ∧ Below w.heap.size w w' := by
  unfold pv
  simp only
  have HQ := Lib.hid (fun W => run_eql_prd 6 (m : Int) lo hi nu 6 0 0 0 0 nm nm W)
  have hn1 := fun W => is_name nm W hn
  by_cases h0 : nmok nm
  case neg =>
    have HD : Hid (decide (pok ⟨6, m, lo, hi, nm, nu⟩) = false) := Lib.hid (decide_eq_false (by unfold pok; simp [h0]))
    rw [decide_eq_false h0] at hn1
    clear HQ h0
    go_enter Tryd.func129, Tryd.ntmps129
    go_wp2_with fail
    refine (describe _ _).mono ?_
    rintro e w1 ⟨rfl, hb1⟩
    rw [dsv_6]
    have hW := (Whole.here w 57 _).below hb1 (by simp)
    obtain ⟨c0, c1, c2, c3, c4, c5⟩ := pcells hW
    have hg := hW.lt
    have HB := Lib.hid hb1
    clear hW hb1
    go_wp2_with (first | (go_at_call 143; refine (hn1 _).mono ?_; rintro e w' ⟨rfl, rfl⟩))
    go_ret
    exact ⟨by rw [HD.out]; rfl, pv_below HB.out 0⟩
  rw [decide_eq_true h0] at hn1
  have hq := HQ.out
  obtain ⟨B, hB⟩ : ∃ B, B = decide ((6 : Int) = 6 ∧ (m : Int) = 0 ∧ lo = 0 ∧ hi = 0 ∧ nm = nm ∧ nu = 0) := ⟨_, rfl⟩
  rw [← hB] at hq
  have HD : Hid (decide (pok ⟨6, m, lo, hi, nm, nu⟩) = B) := Lib.hid (by rw [hB, Bool.eq_iff_iff, decide_eq_true_iff, decide_eq_true_iff]; unfold pok; simp [h0])
  clear hB HQ h0
  go_enter Tryd.func129, Tryd.ntmps129
  go_wp2_with fail
  refine (describe _ _).mono ?_
  rintro e w1 ⟨rfl, hb1⟩
  rw [dsv_6]
  have hW := (Whole.here w 57 _).below hb1 (by simp)
  obtain ⟨c0, c1, c2, c3, c4, c5⟩ := pcells hW
  have hg := hW.lt
  have HB := Lib.hid hb1
  clear hW hb1
  go_wp2_with (first | (go_at_call 143; refine (hn1 _).mono ?_; rintro e w' ⟨rfl, rfl⟩))
  go_ret
  exact ⟨by rw [HD.out]; rfl, pv_below HB.out 0⟩
set_option linter.unusedVariables false in
set_option maxHeartbeats 1000000 in
theorem pvalid7 (m : Nat) (lo hi nu : Int) (nm : List B8) (hm : m < 18446744073709551616) (hn : nm.length ≤ 9223372036854775807) (w : World) :
    Calls Tryd.prog 129 #[pv ⟨7, m, lo, hi, nm, nu⟩] w fun e w' => e = .returned (.bool (decide (pok ⟨7, m, lo, hi, nm, nu⟩))) ∧ Below w.heap.size w w' := by
  unfold pv
  simp only
  have HQ := Lib.hid (fun W => run_eql_prd0 7 (m : Int) lo hi nu 7 0 0 0 nu nm W)
  by_cases h0 : 0 ≤ nu ∧ nu ≤ 1000000
  case neg =>
    have HD : Hid (decide (pok ⟨7, m, lo, hi, nm, nu⟩) = false) := Lib.hid (decide_eq_false (by unfold pok; simp; intros; omega))
    have i0 := inr_false h0
    clear HQ h0
    go_enter Tryd.func129, Tryd.ntmps129
    go_wp2_with fail
    refine (describe _ _).mono ?_
    rintro e w1 ⟨rfl, hb1⟩
    rw [dsv_7]
    have hW := (Whole.here w 57 _).below hb1 (by simp)
    obtain ⟨c0, c1, c2, c3, c4, c5⟩ := pcells hW
    have hg := hW.lt
    have HB := Lib.hid hb1
    clear hW hb1
    go_wp2_with (first | (go_at_call 142; refine (up_to _ _ _).mono ?_; rintro e w' ⟨rfl, rfl⟩))
    go_ret
    exact ⟨by rw [HD.out]; rfl, pv_below HB.out 0⟩
  have hq := HQ.out
  obtain ⟨B, hB⟩ : ∃ B, B = decide ((7 : Int) = 7 ∧ (m : Int) = 0 ∧ lo = 0 ∧ hi = 0 ∧ nm = [] ∧ nu = nu) := ⟨_, rfl⟩
  rw [← hB] at hq
  have HD : Hid (decide (pok ⟨7, m, lo, hi, nm, nu⟩) = B) := Lib.hid (by rw [hB, Bool.eq_iff_iff, decide_eq_true_iff, decide_eq_true_iff]; unfold pok; simp; omega)
  have i0 := inr_true h0
  clear hB HQ h0
  go_enter Tryd.func129, Tryd.ntmps129
  go_wp2_with fail
  refine (describe _ _).mono ?_
  rintro e w1 ⟨rfl, hb1⟩
  rw [dsv_7]
  have hW := (Whole.here w 57 _).below hb1 (by simp)
  obtain ⟨c0, c1, c2, c3, c4, c5⟩ := pcells hW
  have hg := hW.lt
  have HB := Lib.hid hb1
  clear hW hb1
  go_wp2_with (first | (go_at_call 142; refine (up_to _ _ _).mono ?_; rintro e w' ⟨rfl, rfl⟩))
  go_ret
  exact ⟨by rw [HD.out]; rfl, pv_below HB.out 0⟩
theorem pok_no {k : Int} {m : Nat} {lo hi nu : Int} {nm : List B8} (h : k < 1 ∨ 7 < k) : decide (pok ⟨k, m, lo, hi, nm, nu⟩) = false := decide_eq_false fun hp => by have := pok_kind hp; simp only at this; omega
theorem pvalid0 (k : Int) (hk : k < 1 ∨ 7 < k) (m : Nat) (lo hi nu : Int) (nm : List B8) (w : World) :
    Calls Tryd.prog 129 #[pv ⟨k, m, lo, hi, nm, nu⟩] w fun e w' => e = .returned (.bool (decide (pok ⟨k, m, lo, hi, nm, nu⟩))) ∧ Below w.heap.size w w' := by
  unfold pv
  simp only
  have HD := Lib.hid (pok_no (m := m) (lo := lo) (hi := hi) (nu := nu) (nm := nm) hk)
  have hd := dsv_no (k := k) (by omega) (by omega) (by omega) (by omega) (by omega) (by omega) (by omega)
  clear hk
  go_enter Tryd.func129, Tryd.ntmps129
  go_wp2_with fail
  refine (describe _ _).mono ?_
  rintro e w1 ⟨rfl, hb1⟩
  rw [hd]
  have hW := (Whole.here w 57 _).below hb1 (by simp)
  obtain ⟨c0, c1, c2, c3, c4, c5⟩ := pcells hW
  have hg := hW.lt
  have HB := Lib.hid hb1
  clear hW hb1
  go_wp2_with (first | (go_at_call 142; refine (up_to _ _ _).mono ?_; rintro e w' ⟨rfl, rfl⟩))
  go_ret
  exact ⟨by rw [HD.out]; rfl, pv_below HB.out 0⟩
theorem pvalid (p : Prd) (hm : p.mask < 18446744073709551616) (hn : p.name.length ≤ 9223372036854775807) (w : World) :
    Calls Tryd.prog 129 #[pv p] w fun e w' => e = .returned (.bool (decide (pok p))) ∧ Below w.heap.size w w' := by
  obtain ⟨k, m, lo, hi, nm, nu⟩ := p
  simp only at hm hn
  by_cases h : k < 1 ∨ 7 < k
  · exact pvalid0 k h m lo hi nu nm w
  · rcases kind_cases (k := k) (by omega) with rfl | rfl | rfl | rfl | rfl | rfl | rfl
    · exact pvalid1 m lo hi nu nm hm hn w
    · exact pvalid2 m lo hi nu nm hm hn w
    · exact pvalid3 m lo hi nu nm hm hn w
    · exact pvalid4 m lo hi nu nm hm hn w
    · exact pvalid5 m lo hi nu nm hm hn w
    · exact pvalid6 m lo hi nu nm hm hn w
    · exact pvalid7 m lo hi nu nm hm hn w
end Go.Proofs.YtiikhjifjdpgdaaDoor
